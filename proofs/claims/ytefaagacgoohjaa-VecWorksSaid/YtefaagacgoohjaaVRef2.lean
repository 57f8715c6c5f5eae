/- The reference's Dot and Near. -/
import Derived.Test.YtefaagacgoohjaaVRLeaf
import Derived.Test.YtefaagacgoohjaaVBox
namespace Go.Proofs.Ytefaagacgoohjaa
open Go.RowKit

theorem rmulI_c (a b : Int) (w : World) (h1 : I64 a) (h2 : I64 b) : Calls Try.prog 37 #[.int .i64 a, .int .i64 b] w fun e w' => e = .returned (.int .i64 (mulF a b)) ∧ Below w.heap.size w w' := rmul_c a b w h1.1 h1.2 h2.1 h2.2
theorem raddI_c (a b : Int) (w : World) (h1 : I64 a) (h2 : I64 b) : Calls Try.prog 32 #[.int .i64 a, .int .i64 b] w fun e w' => e = .returned (.int .i64 (addF a b)) ∧ Below w.heap.size w w' := grow (radd_c a b w h1.1 h1.2 h2.1 h2.2)

set_option maxRecDepth 100000 in
set_option maxHeartbeats 1000000 in
theorem rvdot_c (x y u v : Int) (w : World) (hx : I64 x) (hy : I64 y) (hu : I64 u) (hv : I64 v) :
    Calls Try.prog 18 #[vecV x y, vecV u v] w fun e w' => e = .returned (.int .i64 (dotF x y u v)) ∧ Below w.heap.size w w' := by
  have m1 := I64.mulF x u
  have m2 := I64.mulF y v
  unfold dotF
  go_enter Try.func18, Try.ntmps18
  go_upto_region 1 with (fail)
  have HB := Lib.hid (Boxes.start w x y u v)
  obtain ⟨w0, hw0⟩ : ∃ w0, w0 = (w.alloc (.cells #[.int .i64 x, .int .i64 y] 23)).alloc (.cells #[.int .i64 u, .int .i64 v] 23) := ⟨_, rfl⟩
  rw [← hw0] at HB ⊢
  obtain ⟨g, hg⟩ : ∃ g, g = w.heap.size := ⟨_, rfl⟩
  rw [← hg] at HB ⊢
  clear hw0 hg
  go_region_held3 (fun w' => Boxes w w' g (g + 1) x y u v) (first | exact HB.out.drew | exact Boxes.keep (by assumption) (by assumption))
    (first
      | (go_at_call 37; refine (rmulI_c _ _ _ (by assumption) (by assumption)).mono ?_; rintro e w' ⟨rfl, hb⟩)
      | (go_at_call 32; refine (raddI_c _ _ _ (by assumption) (by assumption)).mono ?_; rintro e w' ⟨rfl, hb⟩))
  rename_i hH
  have HH := Lib.hid hH.below
  clear hH hb
  go_wp2_with fail
  go_ret
  exact ⟨rfl, HH.out⟩

theorem rvnear_neg (x y u v r : Int) (w : World) (h : r < 0) :
    Calls Try.prog 22 #[vecV x y, vecV u v, .int .i64 r] w fun e w' => e = .returned (.bool false) ∧ Below w.heap.size w w' := by
  have HB := Lib.hid (bel2 w)
  go_enter Try.func22, Try.ntmps22
  go_wp2_with fail
  go_ret
  exact ⟨rfl, HB.out _ _⟩

theorem rvnear_c (x y u v r : Int) (w : World) (hx : I64 x) (hy : I64 y) (hu : I64 u) (hv : I64 v) (hr : I64 r) (h : 0 ≤ r) :
    Calls Try.prog 22 #[vecV x y, vecV u v, .int .i64 r] w fun e w' => e = .returned (.bool (nearF x u r && nearF y v r)) ∧ Below w.heap.size w w' := by
  have HB := Lib.hid (bel2 w)
  have H1 := Lib.hid (fun w => rnear1_c x u r w hx hu hr h)
  have H2 := Lib.hid (fun w => rnear1_c y v r w hy hv hr h)
  have hd : decide (r < 0) = false := decide_eq_false (by omega)
  clear hx hy hu hv hr h
  generalize nearF x u r = p at *
  generalize nearF y v r = q at *
  go_enter Try.func22, Try.ntmps22
  go_wp2_with fail
  refine (H1.out _).mono ?_
  rintro e w1 ⟨rfl, rfl⟩
  go_wp2_with fail
  refine (H2.out _).mono ?_
  rintro e w1 ⟨rfl, rfl⟩
  cases p
  all_goals
    go_wp2_with fail
    go_ret
    exact ⟨by simp, HB.out _ _⟩
end Go.Proofs.Ytefaagacgoohjaa

/- The reference's Dot and Near. -/
import Derived.Test.YtnffflcfncffpaaVRLeaf
namespace Go.Proofs.Ytnffflcfncffpaa
open Go.RowKit

theorem rvnear_neg (x y u v r : Int) (w : World) (h : r < 0) :
    Calls Try.prog 31 #[vecV x y, vecV u v, .int .i64 r] w fun e w' => e = .returned (.bool false) ∧ Below w.heap.size w w' := by
  have HB := Lib.hid (bel2 w)
  go_enter Try.func31, Try.ntmps31
  go_wp2_with fail
  go_ret
  exact ⟨rfl, HB.out _ _⟩

theorem rvnear_c (x y u v r : Int) (w : World) (hx : I64 x) (hy : I64 y) (hu : I64 u) (hv : I64 v) (hr : I64 r) (h : 0 ≤ r) :
    Calls Try.prog 31 #[vecV x y, vecV u v, .int .i64 r] w fun e w' => e = .returned (.bool (nearF x u r && nearF y v r)) ∧ Below w.heap.size w w' := by
  have HB := Lib.hid (bel2 w)
  have H1 := Lib.hid (fun w => rnear1_c x u r w hx hu hr h)
  have H2 := Lib.hid (fun w => rnear1_c y v r w hy hv hr h)
  have hd : decide (r < 0) = false := decide_eq_false (by omega)
  clear hx hy hu hv hr h
  generalize nearF x u r = p at *
  generalize nearF y v r = q at *
  go_enter Try.func31, Try.ntmps31
  go_wp2_with fail
  refine (H1.out _).mono ?_
  rintro e w1 ⟨rfl, rfl⟩
  go_wp2_with fail
  refine (H2.out _).mono ?_
  rintro e w1 ⟨rfl, rfl⟩
  cases p
  all_goals
    go_wp2_with fail
    go_ret
    exact ⟨by simp, HB.out _ _⟩
end Go.Proofs.Ytnffflcfncffpaa

/- The walk of VecWorks: what is reckoned with pairs is what the document says. -/
import Derived.Test.YtefaagacgoohjaaVRLong
import Derived.Test.YtefaagacgoohjaaVRef
import Derived.Test.YtefaagacgoohjaaVRef2
import Derived.Test.YtefaagacgoohjaaNearWalk
namespace Go.Proofs.Ytefaagacgoohjaa
open Go.RowKit

theorem rvnearB_c (x y u v r : Int) (w : World) (hx : I64 x) (hy : I64 y) (hu : I64 u) (hv : I64 v) (hr : I64 r) :
    Calls Try.prog 22 #[vecV x y, vecV u v, .int .i64 r] w fun e w' => e = .returned (.bool (nearB x y u v r)) ∧ Below w.heap.size w w' := by
  unfold nearB
  split
  · exact rvnear_neg x y u v r w ‹_›
  · exact rvnear_c x y u v r w hx hy hu hv hr (by omega)

/-- Both clamp alike. -/
theorem clamp_both (x y r : Int) (hr : I64 r) : ∃ c d e : Int,
    (∀ w : World, Calls Try.prog 9 #[vecV x y, .int .i64 r] w fun e' w' => e' = .returned (.tuple #[vecV c d, .int .i64 e]) ∧ Below w.heap.size w w') ∧
    (∀ w : World, Calls Try.prog 10 #[vecV x y, .int .i64 r] w fun e' w' => e' = .returned (.tuple #[vecV c d, .int .i64 e]) ∧ Below w.heap.size w w') := by
  by_cases h : r < 0
  · exact ⟨0, 0, 1, fun w => vclamp_neg x y r w h, fun w => rvclamp_neg x y r w h⟩
  · exact ⟨clampF x r, clampF y r, 0, fun w => vclamp_c x y r w hr (by omega), fun w => rvclamp_c x y r w hr (by omega)⟩

/-- Four pairs lie in four boxes. -/
abbrev Boxes4 (w w1 : World) (g h i j : Nat) (x y u v p q : Int) : Prop :=
  w1.cell? ⟨g, 0, none⟩ = some (.int .i64 x) ∧ w1.cell? ⟨g, 1, none⟩ = some (.int .i64 y) ∧ w1.cell? ⟨h, 0, none⟩ = some (.int .i64 u) ∧ w1.cell? ⟨h, 1, none⟩ = some (.int .i64 v) ∧ w1.cell? ⟨i, 0, none⟩ = some (.int .i64 p) ∧ w1.cell? ⟨i, 1, none⟩ = some (.int .i64 q) ∧ w1.cell? ⟨j, 0, none⟩ = some (.int .i64 p) ∧ w1.cell? ⟨j, 1, none⟩ = some (.int .i64 q) ∧ Blk w1 i 23 #[.int .i64 p, .int .i64 q] ∧ Blk w1 j 23 #[.int .i64 p, .int .i64 q] ∧ Boxes w w1 g h x y u v
theorem Boxes4.make {w w1 : World} {g h i j : Nat} {x y u v p q : Int} (a : Boxes w w1 g h x y u v) (b : Blk w1 i 23 #[.int .i64 p, .int .i64 q]) (c : Blk w1 j 23 #[.int .i64 p, .int .i64 q]) : Boxes4 w w1 g h i j x y u v p q :=
  ⟨a.1, a.2.1, a.2.2.1, a.2.2.2.1, b.cell 0, b.cell 1, c.cell 0, c.cell 1, b, c, a⟩
theorem Boxes4.boxes {w w1 : World} {g h i j : Nat} {x y u v p q : Int} (a : Boxes4 w w1 g h i j x y u v p q) : Boxes w w1 g h x y u v := a.2.2.2.2.2.2.2.2.2.2
theorem Boxes4.keep {w w1 w2 : World} {g h i j : Nat} {x y u v p q : Int} (a : Boxes4 w w1 g h i j x y u v p q) (hb : Below w1.heap.size w1 w2) : Boxes4 w w2 g h i j x y u v p q :=
  .make (Boxes.keep a.boxes hb) (a.2.2.2.2.2.2.2.2.1.below hb a.2.2.2.2.2.2.2.2.1.lt) (a.2.2.2.2.2.2.2.2.2.1.below hb a.2.2.2.2.2.2.2.2.2.1.lt)
theorem Boxes4.drew {w w1 : World} {g h i j : Nat} {x y u v p q : Int} (a : Boxes4 w w1 g h i j x y u v p q) : Boxes4 w w1.drew g h i j x y u v p q :=
  ⟨a.1, a.2.1, a.2.2.1, a.2.2.2.1, a.2.2.2.2.1, a.2.2.2.2.2.1, a.2.2.2.2.2.2.1, a.2.2.2.2.2.2.2.1, a.2.2.2.2.2.2.2.2.1, a.2.2.2.2.2.2.2.2.2.1, Boxes.drew a.boxes⟩

set_option maxHeartbeats 4000000 in
set_option maxRecDepth 100000 in
theorem works_walk (x y u v k : Int) (w : World) (hx : I64 x) (hy : I64 y) (hu : I64 u) (hv : I64 v) (hk : I64 k) :
    Calls Try.prog 3 #[vecV x y, vecV u v, .int .i64 k] w fun e w' => e = .returned (.bool true) ∧ Below w.heap.size w w' := by
  obtain ⟨p, q, er, C1, C2⟩ := clamp_both x y k hk
  have HC1 := Lib.hid C1
  have HC2 := Lib.hid C2
  obtain ⟨n, hn⟩ := long_exists (sqs x y)
  clear C1 C2
  go_enter Try.func3, Try.ntmps3
  go_wp2_with fail
  refine (awake_c _).mono ?_
  rintro e w1 ⟨rfl, hb⟩
  have HB := Lib.hid ((Boxes.start w x y u v).keep hb)
  clear hb
  obtain ⟨g, hg⟩ : ∃ g, g = w.heap.size := ⟨_, rfl⟩
  rw [← hg] at HB ⊢
  clear hg
  obtain ⟨c0, c1, c2, c3, -, -, -⟩ := HB.out
  go_wp2_with fail
  refine (HC1.out _).mono ?_
  rintro e w2 ⟨rfl, hb⟩
  have HB2 := Lib.hid (HB.out.keep hb)
  clear hb c0 c1 c2 c3 HB
  go_upto_region 3 with (fail)
  have hk2 := Blk.new w2 23 #[.int .i64 p, .int .i64 q]
  have hb2 := HB2.out.keep ((Below.refl w2.heap.size w2).alloc (Nat.le_refl _) (.cells #[.int .i64 p, .int .i64 q] 23))
  generalize w2.alloc (.cells #[.int .i64 p, .int .i64 q] 23) = w3 at *
  generalize w2.heap.size = i at *
  have HB3 := Lib.hid hb2
  have HK3 := Lib.hid hk2
  obtain ⟨c0, c1, c2, c3, -, -, -⟩ := hb2
  clear hk2 HB2
  go_wp2_with fail
  refine (HC2.out _).mono ?_
  rintro e w4 ⟨rfl, hb⟩
  have HB4 := Lib.hid (HB3.out.keep hb)
  have HK4 := Lib.hid (HK3.out.below hb HK3.out.lt)
  clear hb c0 c1 c2 c3 HB3 HK3
  go_upto_region 4 with (fail)
  have hk4 := Blk.new w4 23 #[.int .i64 p, .int .i64 q]
  have hj4 := HK4.out.alloc (.cells #[.int .i64 p, .int .i64 q] 23)
  have hb4 := HB4.out.keep ((Below.refl w4.heap.size w4).alloc (Nat.le_refl _) (.cells #[.int .i64 p, .int .i64 q] 23))
  generalize w4.alloc (.cells #[.int .i64 p, .int .i64 q] 23) = w5 at *
  generalize w4.heap.size = j at *
  have HB5 := Lib.hid (Boxes4.make hb4 hj4 hk4)
  clear hk4 hj4 hb4 HB4 HK4 HC1 HC2
  go_cut [12] (fun s12 wx => s12 = .bool true ∧ Boxes4 w wx g (g + 1) i j x y u v p q)
  case first =>
    go_region_held3 (fun w' => Boxes4 w w' g (g + 1) i j x y u v p q) (first | exact HB5.out.drew | exact Boxes4.keep (by assumption) (by assumption))
      (first
        | (go_at_call 11; refine (vadd_c _ _ _ _ _ (by assumption) (by assumption) (by assumption) (by assumption)).mono ?_; rintro e w' ⟨rfl, hb⟩)
        | (go_at_call 12; refine (rvadd_c _ _ _ _ _ (by assumption) (by assumption) (by assumption) (by assumption)).mono ?_; rintro e w' ⟨rfl, hb⟩)
        | (go_at_call 13; refine (vsub_c _ _ _ _ _ (by assumption) (by assumption) (by assumption) (by assumption)).mono ?_; rintro e w' ⟨rfl, hb⟩)
        | (go_at_call 14; refine (rvsub_c _ _ _ _ _ (by assumption) (by assumption) (by assumption) (by assumption)).mono ?_; rintro e w' ⟨rfl, hb⟩)
        | (go_at_call 15; refine (vscale_c _ _ _ _ (by assumption) (by assumption) (by assumption)).mono ?_; rintro e w' ⟨rfl, hb⟩)
        | (go_at_call 16; refine (rvscale_c _ _ _ _ (by assumption) (by assumption) (by assumption)).mono ?_; rintro e w' ⟨rfl, hb⟩)
        | (go_at_call 17; refine (vdot_c _ _ _ _ _ (by assumption) (by assumption) (by assumption) (by assumption)).mono ?_; rintro e w' ⟨rfl, hb⟩)
        | (go_at_call 18; refine (rvdot_c _ _ _ _ _ (by assumption) (by assumption) (by assumption) (by assumption)).mono ?_; rintro e w' ⟨rfl, hb⟩))
    rename_i hH
    have HH := Lib.hid hH
    clear hH hb
    go_wp2_with fail
    go_meet
    exact ⟨rfl, HH.out⟩
  case rest =>
    obtain ⟨rfl, hbx⟩ := hcut
    have HB6 := Lib.hid hbx
    clear hbx HB5
    go_upto_region 5 with (fail)
    go_cut [13] (fun s13 wx => s13 = .bool true ∧ Below w.heap.size w wx)
    case first =>
      go_region_held3 (fun w' => Boxes4 w w' g (g + 1) i j x y u v p q) (first | exact HB6.out.drew | exact Boxes4.keep (by assumption) (by assumption))
        (first
          | (go_at_call 19; refine (vlong_c _ _ _ _ (by assumption) (by assumption) hn).mono ?_; rintro e w' ⟨rfl, hb⟩)
          | (go_at_call 20; refine (rvlong_c _ _ _ _ (by assumption) (by assumption) hn).mono ?_; rintro e w' ⟨rfl, hb⟩)
          | (go_at_call 21; refine (vnearB_c _ _ _ _ _ _ (by assumption) (by assumption) (by assumption) (by assumption) (by assumption)).mono ?_; rintro e w' ⟨rfl, hb⟩)
          | (go_at_call 22; refine (rvnearB_c _ _ _ _ _ _ (by assumption) (by assumption) (by assumption) (by assumption) (by assumption)).mono ?_; rintro e w' ⟨rfl, hb⟩)
          | (go_at_call 23; refine (vmean_c _ _ _ _ _ (by assumption) (by assumption) (by assumption) (by assumption)).mono ?_; rintro e w' ⟨rfl, hb⟩)
          | (go_at_call 24; refine (rvmean_c _ _ _ _ _ (by assumption) (by assumption) (by assumption) (by assumption)).mono ?_; rintro e w' ⟨rfl, hb⟩))
      rename_i hH
      have HH := Lib.hid hH.boxes.below
      clear hH hb
      go_wp2_with fail
      go_meet
      exact ⟨rfl, HH.out⟩
    case rest =>
      obtain ⟨rfl, hb7⟩ := hcut
      have HB7 := Lib.hid hb7
      clear hb7
      go_wp2_with fail
      go_ret
      exact ⟨rfl, HB7.out⟩
end Go.Proofs.Ytefaagacgoohjaa

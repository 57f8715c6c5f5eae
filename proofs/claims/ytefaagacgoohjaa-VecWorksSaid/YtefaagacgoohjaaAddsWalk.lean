/- The walk of VecAdds: a sum is no longer than both together. -/
import Derived.Test.YtefaagacgoohjaaDotsWalk
import Derived.Test.YtefaagacgoohjaaVTri
import Derived.Test.YtefaagacgoohjaaLongWalk
namespace Go.Proofs.Ytefaagacgoohjaa
open Go.RowKit

/-- Parts from -2^60 to 2^60. -/
def Small (x y : Int) : Prop := -1152921504606846976 ≤ x ∧ x ≤ 1152921504606846976 ∧ -1152921504606846976 ≤ y ∧ y ≤ 1152921504606846976

set_option maxHeartbeats 1000000 in
theorem small_c (x y : Int) : ∃ b : Bool, (b = true → Small x y) ∧ ∀ w : World,
    Calls Try.prog 27 #[vecV x y] w fun e w' => e = .returned (.bool b) ∧ Below w.heap.size w w' := by
  by_cases h1 : -1152921504606846976 ≤ x
  · have d1 : decide (-1152921504606846976 ≤ x) = true := decide_eq_true h1
    by_cases h2 : x ≤ 1152921504606846976
    · have d2 : decide (x ≤ 1152921504606846976) = true := decide_eq_true h2
      by_cases h3 : -1152921504606846976 ≤ y
      · have d3 : decide (-1152921504606846976 ≤ y) = true := decide_eq_true h3
        obtain ⟨b, d4⟩ : ∃ b, decide (y ≤ 1152921504606846976) = b := ⟨_, rfl⟩
        refine ⟨b, ?_, fun w => ?_⟩
        · rintro rfl
          exact ⟨h1, h2, h3, of_decide_eq_true d4⟩
        · clear h1 h2 h3
          go_enter Try.func27, Try.ntmps27
          go_wp2_with fail
          go_ret
          exact ⟨rfl, (Below.refl _ _).alloc (Nat.le_refl _) _⟩
      · have d3 : decide (-1152921504606846976 ≤ y) = false := decide_eq_false h3
        refine ⟨false, by simp, fun w => ?_⟩
        clear h1 h2 h3
        go_enter Try.func27, Try.ntmps27
        go_wp2_with fail
        go_ret
        exact ⟨rfl, (Below.refl _ _).alloc (Nat.le_refl _) _⟩
    · have d2 : decide (x ≤ 1152921504606846976) = false := decide_eq_false h2
      refine ⟨false, by simp, fun w => ?_⟩
      clear h1 h2
      go_enter Try.func27, Try.ntmps27
      go_wp2_with fail
      go_ret
      exact ⟨rfl, (Below.refl _ _).alloc (Nat.le_refl _) _⟩
  · have d1 : decide (-1152921504606846976 ≤ x) = false := decide_eq_false h1
    refine ⟨false, by simp, fun w => ?_⟩
    clear h1
    go_enter Try.func27, Try.ntmps27
    go_wp2_with fail
    go_ret
    exact ⟨rfl, (Below.refl _ _).alloc (Nat.le_refl _) _⟩

/-- Three pairs lie in three boxes. -/
abbrev Boxes3 (w w1 : World) (g h j : Nat) (x y u v p q : Int) : Prop :=
  w1.cell? ⟨g, 0, none⟩ = some (.int .i64 x) ∧ w1.cell? ⟨g, 1, none⟩ = some (.int .i64 y) ∧ w1.cell? ⟨h, 0, none⟩ = some (.int .i64 u) ∧ w1.cell? ⟨h, 1, none⟩ = some (.int .i64 v) ∧ w1.cell? ⟨j, 0, none⟩ = some (.int .i64 p) ∧ w1.cell? ⟨j, 1, none⟩ = some (.int .i64 q) ∧ Blk w1 j 23 #[.int .i64 p, .int .i64 q] ∧ Boxes w w1 g h x y u v
theorem Boxes3.make {w w1 : World} {g h j : Nat} {x y u v p q : Int} (a : Boxes w w1 g h x y u v) (b : Blk w1 j 23 #[.int .i64 p, .int .i64 q]) : Boxes3 w w1 g h j x y u v p q :=
  ⟨a.1, a.2.1, a.2.2.1, a.2.2.2.1, b.cell 0, b.cell 1, b, a⟩
theorem Boxes3.keep {w w1 w2 : World} {g h j : Nat} {x y u v p q : Int} (a : Boxes3 w w1 g h j x y u v p q) (hb : Below w1.heap.size w1 w2) : Boxes3 w w2 g h j x y u v p q :=
  .make (Boxes.keep a.2.2.2.2.2.2.2 hb) (a.2.2.2.2.2.2.1.below hb a.2.2.2.2.2.2.1.lt)
theorem Boxes3.drew {w w1 : World} {g h j : Nat} {x y u v p q : Int} (a : Boxes3 w w1 g h j x y u v p q) : Boxes3 w w1.drew g h j x y u v p q :=
  ⟨a.1, a.2.1, a.2.2.1, a.2.2.2.1, a.2.2.2.2.1, a.2.2.2.2.2.1, a.2.2.2.2.2.2.1, Boxes.drew a.2.2.2.2.2.2.2⟩
theorem Boxes3.below {w w1 : World} {g h j : Nat} {x y u v p q : Int} (a : Boxes3 w w1 g h j x y u v p q) : Below w.heap.size w w1 := a.2.2.2.2.2.2.2.2.2.2.2.2.2

theorem adds_facts {x y u v : Int} (h : Small x y) (k : Small u v) : addF x u = x + u ∧ addF y v = y + v ∧ addF u x = x + u ∧ addF v y = y + v ∧ subF (x + u) u = x ∧ subF (y + v) v = y ∧ subF x u = x - u ∧ subF y v = y - v ∧ subF u x = -(x - u) ∧ subF v y = -(y - v) ∧ I64 (x + u) ∧ I64 (y + v) ∧ I64 (x - u) ∧ I64 (y - v) ∧ I64 (-(x - u)) ∧ I64 (-(y - v)) := by
  unfold Small at *
  refine ⟨?_, ?_, ?_, ?_, ?_, ?_, ?_, ?_, ?_, ?_, ?_, ?_, ?_, ?_, ?_, ?_⟩
  all_goals first
    | (unfold addF; rw [sat_id (by omega) (by omega)] <;> omega)
    | (unfold subF; rw [sat_id (by omega) (by omega)] <;> omega)
    | (unfold I64; omega)

theorem longF_turn (x y : Int) : longF (-x) (-y) = longF x y := by unfold longF; rw [sqs_turn]
theorem longs {x y u v : Int} (h : Small x y) (k : Small u v) : longF (x + u) (y + v) ≤ longF x y + longF u v + 1 ∧ longF x y + longF u v + 1 < 9223372036854775808 := by
  unfold Small at *
  refine ⟨tri (longF_is _ _).1 (long_small (longF_is _ _) (by omega) (by omega)) (long_small (longF_is _ _) (by omega) (by omega)), ?_⟩
  have h1 := long_le (longF_is x y).1
  have h2 := long_le (longF_is u v).1
  omega

theorem wraps {N A B : Nat} (l1 : N ≤ A + B + 1) (l2 : A + B + 1 < 9223372036854775808) :
    wrap64 ((A : Int) + B) = (A : Int) + B ∧ wrap64 ((A : Int) + B + 1) = (A : Int) + B + 1 ∧ IntKind.i64.wrap ((A : Int) + B) = (A : Int) + B ∧ IntKind.i64.wrap ((A : Int) + B + 1) = (A : Int) + B + 1 ∧ decide ((N : Int) ≤ (A : Int) + B + 1) = true :=
  ⟨IntWalk.wrap64_in _ (by omega), IntWalk.wrap64_in _ (by omega), IntWalk.i64_in _ (by omega), IntWalk.i64_in _ (by omega), decide_eq_true (by omega)⟩

set_option maxHeartbeats 2000000 in
set_option maxRecDepth 100000 in
theorem adds_walk (x y u v : Int) (w : World) (hx : I64 x) (hy : I64 y) (hu : I64 u) (hv : I64 v) :
    Calls Try.prog 6 #[vecV x y, vecV u v] w fun e w' => e = .returned (.bool true) ∧ Below w.heap.size w w' := by
  obtain ⟨b1, s1, C1⟩ := small_c x y
  obtain ⟨b2, s2, C2⟩ := small_c u v
  have HC1 := Lib.hid C1
  have HC2 := Lib.hid C2
  have HS := Lib.hid (And.intro s1 s2)
  clear C1 C2 s1 s2
  go_enter Try.func6, Try.ntmps6
  go_wp2_with fail
  refine (awake_c _).mono ?_
  rintro e w1 ⟨rfl, hb⟩
  have HB := Lib.hid ((Boxes.start w x y u v).keep hb)
  clear hb
  obtain ⟨g, hg⟩ : ∃ g, g = w.heap.size := ⟨_, rfl⟩
  rw [← hg] at HB ⊢
  clear hg
  obtain ⟨c0, c1, c2, c3, -, -, -⟩ := HB.out
  go_wp2_with fail
  refine (HC1.out _).mono ?_
  rintro e w2 ⟨rfl, hb⟩
  have HB2 := Lib.hid (HB.out.keep hb)
  clear hb c0 c1 c2 c3 HB
  obtain ⟨c0, c1, c2, c3, -, -, -⟩ := HB2.out
  go_wp2_with fail
  refine (HC2.out _).mono ?_
  rintro e w3 ⟨rfl, hb⟩
  have HB3 := Lib.hid (HB2.out.keep hb)
  clear hb c0 c1 c2 c3 HB2
  obtain ⟨c0, c1, c2, c3, -, -, -⟩ := HB3.out
  by_cases hs : b1 = true ∧ b2 = true
  · obtain ⟨rfl, rfl⟩ := hs
    have h1 := HS.out.1 rfl
    have h2 := HS.out.2 rfl
    obtain ⟨f1, f2, f3, f4, f5, f6, f7, f8, f9, f10, p1, p2, p3, p4, p5, p6⟩ := adds_facts h1 h2
    obtain ⟨l1, l2⟩ := longs h1 h2
    have l3 := longF_turn (x - u) (y - v)
    clear HS h1 h2 HC1 HC2
    have g1 := longF_is (x + u) (y + v)
    have g2 := longF_is x y
    have g3 := longF_is u v
    have g4 := longF_is (x - u) (y - v)
    have g5 := longF_is (-(x - u)) (-(y - v))
    rw [l3] at g5
    clear l3
    generalize longF (x + u) (y + v) = N at *
    generalize longF x y = A at *
    generalize longF u v = B at *
    generalize longF (x - u) (y - v) = M at *
    generalize x + u = p at *
    generalize y + v = q at *
    generalize x - u = d at *
    generalize y - v = f at *
    generalize -d = d' at *
    generalize -f = f' at *
    obtain ⟨w1, w2, v1, v2, dd⟩ := wraps l1 l2
    clear l1 l2
    go_wp2_with fail
    refine (vadd_c _ _ _ _ _ hx hy hu hv).mono ?_
    rintro e w4 ⟨rfl, hb⟩
    rw [f1, f2]
    have HB4 := Lib.hid (HB3.out.keep hb)
    clear hb c0 c1 c2 c3 HB3
    go_upto_region 7 with (fail)
    have hk := Blk.new w4 23 #[.int .i64 p, .int .i64 q]
    have hb5 := HB4.out.keep ((Below.refl w4.heap.size w4).alloc (Nat.le_refl _) (.cells #[.int .i64 p, .int .i64 q] 23))
    generalize w4.alloc (.cells #[.int .i64 p, .int .i64 q] 23) = w5 at *
    generalize w4.heap.size = j at *
    have HB5 := Lib.hid (Boxes3.make hb5 hk)
    clear hb5 hk HB4
    go_region_held3 (fun w' => Boxes3 w w' g (g + 1) j x y u v p q) (first | exact HB5.out.drew | exact Boxes3.keep (by assumption) (by assumption))
      (first
        | (go_at_call 11; refine (vadd_c _ _ _ _ _ (by assumption) (by assumption) (by assumption) (by assumption)).mono ?_; rintro e w' ⟨rfl, hb⟩; simp only [f3, f4])
        | (go_at_call 13; refine (vsub_c _ _ _ _ _ (by assumption) (by assumption) (by assumption) (by assumption)).mono ?_; rintro e w' ⟨rfl, hb⟩; simp only [f5, f6, f7, f8, f9, f10])
        | (go_at_call 19; refine (vlong_c _ _ _ _ (by assumption) (by assumption) (by assumption)).mono ?_; rintro e w' ⟨rfl, hb⟩))
    rename_i hH
    have HH := Lib.hid hH.below
    clear hH hb
    go_wp2_with fail
    go_ret
    exact ⟨rfl, HH.out⟩
  · have hs' : (b1 && b2) = false := by cases b1 <;> cases b2 <;> simp_all
    cases b1
    · go_wp2_with fail
      go_ret
      exact ⟨rfl, HB3.out.2.2.2.2.2.2⟩
    · obtain rfl : b2 = false := by simpa using hs'
      clear hs hs'
      go_wp2_with fail
      go_ret
      exact ⟨rfl, HB3.out.2.2.2.2.2.2⟩
end Go.Proofs.Ytefaagacgoohjaa

/- The walk of BoxHolds. -/
import Derived.Test.YtnffflcfncffpaaBAwake
namespace Go.Proofs.Ytnffflcfncffpaa
open Go.RowKit

theorem holds_walk (x y r : Int) (w : World) (hx : I64 x) (hy : I64 y) :
    Calls Try.prog 8 #[boxV x y r] w fun e w' => e = .returned (.bool true) ∧ Below w.heap.size w w' := by
  have HA := Lib.hid (fun w => awake_c w)
  have H1 := Lib.hid (fun w => right_c x y r w hx hy)
  unfold errR at H1
  cases hr : rightB x y r with
  | false =>
    rw [hr, if_neg (by simp)] at H1
    clear hx hy hr
    go_enter Try.func8, Try.ntmps8
    go_wp2_with fail
    refine (HA.out _).mono ?_
    rintro e w1 ⟨rfl, hb⟩
    have HK := Lib.hid (last_blk hb)
    have HB := Lib.hid (vbt (bel1 w _) hb)
    clear hb
    have c0 := HK.out.cell 0
    have c1 := HK.out.cell 1
    have c2 := HK.out.cell 2
    go_wp2_with fail
    refine (H1.out _).mono ?_
    rintro e w2 ⟨rfl, hb⟩
    have HB := Lib.hid (vbt HB.out hb)
    clear hb c0 c1 c2
    go_wp2_with fail
    go_ret
    exact ⟨rfl, HB.out⟩
  | true =>
    rw [hr, if_pos rfl] at H1
    have s := rightB_spec.1 hr
    have P1 := Lib.hid (fun w => holds_c x y r x y w hx hy hx hy)
    have P2 := Lib.hid (fun w => holds_c x y r (x + r) (y - r) w hx hy (by unfold I64; omega) (by unfold I64; omega))
    have P3 := Lib.hid (fun w => holds_c x y r (x + r + 1) y w hx hy (by unfold I64; omega) hy)
    have P4 := Lib.hid (fun w => holds_c x y r x (y - r - 1) w hx hy hx (by unfold I64; omega))
    have e1 : holdB x y r x y = true := by unfold holdB nearF; rw [hr]; simp only [Bool.true_and, Bool.and_eq_true, decide_eq_true_eq]; omega
    have e2 : holdB x y r (x + r) (y - r) = true := by unfold holdB nearF; rw [hr]; simp only [Bool.true_and, Bool.and_eq_true, decide_eq_true_eq]; omega
    have e3 : holdB x y r (x + r + 1) y = false := by unfold holdB nearF; rw [hr, decide_eq_false (by omega)]; rfl
    have e4 : holdB x y r x (y - r - 1) = false := by unfold holdB nearF; rw [hr, decide_eq_false (show ¬ ((y - (y - r - 1)).natAbs : Int) ≤ r by omega)]; simp
    rw [e1] at P1
    rw [e2] at P2
    rw [e3] at P3
    rw [e4] at P4
    have q1 : wrap64 (x + r) = x + r := IntWalk.wrap64_in _ (by omega)
    have q2 : wrap64 (y - r) = y - r := IntWalk.wrap64_in _ (by omega)
    have q3 : wrap64 (x + r + 1) = x + r + 1 := IntWalk.wrap64_in _ (by omega)
    have q4 : wrap64 (y - r - 1) = y - r - 1 := IntWalk.wrap64_in _ (by omega)
    clear hx hy hr s e1 e2 e3 e4
    go_enter Try.func8, Try.ntmps8
    go_wp2_with fail
    refine (HA.out _).mono ?_
    rintro e w1 ⟨rfl, hb⟩
    have HK := Lib.hid (last_blk hb)
    have HB := Lib.hid (vbt (bel1 w _) hb)
    clear hb
    have c0 := HK.out.cell 0
    have c1 := HK.out.cell 1
    have c2 := HK.out.cell 2
    go_wp2_with fail
    refine (H1.out _).mono ?_
    rintro e w2 ⟨rfl, hb⟩
    have HK := Lib.hid (HK.out.below hb HK.out.lt)
    have HB := Lib.hid (vbt HB.out hb)
    clear hb c0 c1 c2
    have c0 := HK.out.cell 0
    have c1 := HK.out.cell 1
    have c2 := HK.out.cell 2
    go_wp2_with fail
    refine (P1.out _).mono ?_
    rintro e w3 ⟨rfl, hb⟩
    have HK := Lib.hid (HK.out.below hb HK.out.lt)
    have HB := Lib.hid (vbt HB.out hb)
    clear hb c0 c1 c2
    have c0 := HK.out.cell 0
    have c1 := HK.out.cell 1
    have c2 := HK.out.cell 2
    go_wp2_with fail
    refine (P2.out _).mono ?_
    rintro e w4 ⟨rfl, hb⟩
    have HK := Lib.hid (HK.out.below hb HK.out.lt)
    have HB := Lib.hid (vbt HB.out hb)
    clear hb c0 c1 c2
    have c0 := HK.out.cell 0
    have c1 := HK.out.cell 1
    have c2 := HK.out.cell 2
    go_wp2_with fail
    refine (P3.out _).mono ?_
    rintro e w5 ⟨rfl, hb⟩
    have HK := Lib.hid (HK.out.below hb HK.out.lt)
    have HB := Lib.hid (vbt HB.out hb)
    clear hb c0 c1 c2
    have c0 := HK.out.cell 0
    have c1 := HK.out.cell 1
    have c2 := HK.out.cell 2
    go_wp2_with fail
    refine (P4.out _).mono ?_
    rintro e w6 ⟨rfl, hb⟩
    have HB := Lib.hid (vbt HB.out hb)
    clear hb c0 c1 c2
    go_wp2_with fail
    go_ret
    exact ⟨rfl, HB.out⟩
end Go.Proofs.Ytnffflcfncffpaa

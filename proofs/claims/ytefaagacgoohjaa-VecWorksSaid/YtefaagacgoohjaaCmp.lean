/- The reference's Compare. -/
import Derived.Test.YtefaagacgoohjaaBig
import Derived.Test.YtefaagacgoohjaaMul
namespace Go.Proofs.Ytefaagacgoohjaa
open Go.RowKit

/-- What eight digits say. -/
def vl8 (a0 a1 a2 a3 a4 a5 a6 a7 : Nat) : Nat := a0 + 65536 * (a1 + 65536 * (a2 + 65536 * (a3 + 65536 * (a4 + 65536 * (a5 + 65536 * (a6 + 65536 * (a7)))))))
/-- They are digits. -/
def Dig8 (a0 a1 a2 a3 a4 a5 a6 a7 : Nat) : Prop := a0 < 65536 ∧ a1 < 65536 ∧ a2 < 65536 ∧ a3 < 65536 ∧ a4 < 65536 ∧ a5 < 65536 ∧ a6 < 65536 ∧ a7 < 65536
/-- -1, 0, 1. -/
def cmp3 (x y : Nat) : Int := if x < y then -1 else if y < x then 1 else 0
theorem cmp3_lt {x y : Nat} (h : x < y) : -1 = cmp3 x y := by unfold cmp3; rw [if_pos h]
theorem cmp3_gt {x y : Nat} (h : y < x) : 1 = cmp3 x y := by unfold cmp3; rw [if_neg (by omega), if_pos h]
theorem cmp3_eq (x : Nat) : 0 = cmp3 x x := by unfold cmp3; rw [if_neg (by omega), if_neg (by omega)]

theorem below_box2 (w : World) (o1 o2 : Obj) (k : Nat) : Below w.heap.size w (((w.alloc o1).alloc o2).drewN k) := below_draw (below2 w o1 o2) k

set_option maxRecDepth 100000 in
set_option maxHeartbeats 4000000 in
theorem compare_c (m n : Bool) (a0 a1 a2 a3 a4 a5 a6 a7 b0 b1 b2 b3 b4 b5 b6 b7 : Nat) (w : World) (ha : Dig8 a0 a1 a2 a3 a4 a5 a6 a7) (hb : Dig8 b0 b1 b2 b3 b4 b5 b6 b7) :
    Calls Try.prog 44 #[bigV m a0 a1 a2 a3 a4 a5 a6 a7, bigV n b0 b1 b2 b3 b4 b5 b6 b7] w fun e w' => e = .returned (.int .i64 (cmp3 (vl8 a0 a1 a2 a3 a4 a5 a6 a7) (vl8 b0 b1 b2 b3 b4 b5 b6 b7))) ∧ Below w.heap.size w w' := by
  have HA := Lib.hid ha
  have HB := Lib.hid hb
  clear ha hb
  go_enter Try.func44, Try.ntmps44
  go_wp2_with fail
  refine wp_loop_rounds 9 ?_
  rw [rounds_succ]
  go_wp2_with fail
  by_cases h7 : a7 < b7
  · have d1 : decide (a7 < b7) = true := decide_eq_true h7
    have hv := Lib.hid (cmp3_lt (show vl8 a0 a1 a2 a3 a4 a5 a6 a7 < vl8 b0 b1 b2 b3 b4 b5 b6 b7 by have := HA.out; have := HB.out; unfold Dig8 at *; unfold vl8; omega))
    clear h7
    go_quiet (fail)
    go_wp2_with fail
    go_ret
    exact ⟨ret_int hv.out, by repeat' (first | exact below2 _ _ _ | refine below_draw ?_ _)⟩
  by_cases k7 : b7 < a7
  · have d1 : decide (a7 < b7) = false := decide_eq_false h7
    have d2 : decide (b7 < a7) = true := decide_eq_true k7
    have hv := Lib.hid (cmp3_gt (show vl8 b0 b1 b2 b3 b4 b5 b6 b7 < vl8 a0 a1 a2 a3 a4 a5 a6 a7 by have := HA.out; have := HB.out; unfold Dig8 at *; unfold vl8; omega))
    clear h7 k7
    go_quiet (fail)
    go_wp2_with fail
    go_quiet (fail)
    go_wp2_with fail
    go_ret
    exact ⟨ret_int hv.out, by repeat' (first | exact below2 _ _ _ | refine below_draw ?_ _)⟩
  obtain rfl : a7 = b7 := by omega
  clear h7 k7
  go_quiet (fail)
  go_wp2_with fail
  go_quiet (fail)
  go_wp2_with fail
  rw [rounds_succ]
  go_wp2_with fail
  by_cases h6 : a6 < b6
  · have d1 : decide (a6 < b6) = true := decide_eq_true h6
    have hv := Lib.hid (cmp3_lt (show vl8 a0 a1 a2 a3 a4 a5 a6 a7 < vl8 b0 b1 b2 b3 b4 b5 b6 a7 by have := HA.out; have := HB.out; unfold Dig8 at *; unfold vl8; omega))
    clear h6
    go_quiet (fail)
    go_wp2_with fail
    go_ret
    exact ⟨ret_int hv.out, by repeat' (first | exact below2 _ _ _ | refine below_draw ?_ _)⟩
  by_cases k6 : b6 < a6
  · have d1 : decide (a6 < b6) = false := decide_eq_false h6
    have d2 : decide (b6 < a6) = true := decide_eq_true k6
    have hv := Lib.hid (cmp3_gt (show vl8 b0 b1 b2 b3 b4 b5 b6 a7 < vl8 a0 a1 a2 a3 a4 a5 a6 a7 by have := HA.out; have := HB.out; unfold Dig8 at *; unfold vl8; omega))
    clear h6 k6
    go_quiet (fail)
    go_wp2_with fail
    go_quiet (fail)
    go_wp2_with fail
    go_ret
    exact ⟨ret_int hv.out, by repeat' (first | exact below2 _ _ _ | refine below_draw ?_ _)⟩
  obtain rfl : a6 = b6 := by omega
  clear h6 k6
  go_quiet (fail)
  go_wp2_with fail
  go_quiet (fail)
  go_wp2_with fail
  rw [rounds_succ]
  go_wp2_with fail
  by_cases h5 : a5 < b5
  · have d1 : decide (a5 < b5) = true := decide_eq_true h5
    have hv := Lib.hid (cmp3_lt (show vl8 a0 a1 a2 a3 a4 a5 a6 a7 < vl8 b0 b1 b2 b3 b4 b5 a6 a7 by have := HA.out; have := HB.out; unfold Dig8 at *; unfold vl8; omega))
    clear h5
    go_quiet (fail)
    go_wp2_with fail
    go_ret
    exact ⟨ret_int hv.out, by repeat' (first | exact below2 _ _ _ | refine below_draw ?_ _)⟩
  by_cases k5 : b5 < a5
  · have d1 : decide (a5 < b5) = false := decide_eq_false h5
    have d2 : decide (b5 < a5) = true := decide_eq_true k5
    have hv := Lib.hid (cmp3_gt (show vl8 b0 b1 b2 b3 b4 b5 a6 a7 < vl8 a0 a1 a2 a3 a4 a5 a6 a7 by have := HA.out; have := HB.out; unfold Dig8 at *; unfold vl8; omega))
    clear h5 k5
    go_quiet (fail)
    go_wp2_with fail
    go_quiet (fail)
    go_wp2_with fail
    go_ret
    exact ⟨ret_int hv.out, by repeat' (first | exact below2 _ _ _ | refine below_draw ?_ _)⟩
  obtain rfl : a5 = b5 := by omega
  clear h5 k5
  go_quiet (fail)
  go_wp2_with fail
  go_quiet (fail)
  go_wp2_with fail
  rw [rounds_succ]
  go_wp2_with fail
  by_cases h4 : a4 < b4
  · have d1 : decide (a4 < b4) = true := decide_eq_true h4
    have hv := Lib.hid (cmp3_lt (show vl8 a0 a1 a2 a3 a4 a5 a6 a7 < vl8 b0 b1 b2 b3 b4 a5 a6 a7 by have := HA.out; have := HB.out; unfold Dig8 at *; unfold vl8; omega))
    clear h4
    go_quiet (fail)
    go_wp2_with fail
    go_ret
    exact ⟨ret_int hv.out, by repeat' (first | exact below2 _ _ _ | refine below_draw ?_ _)⟩
  by_cases k4 : b4 < a4
  · have d1 : decide (a4 < b4) = false := decide_eq_false h4
    have d2 : decide (b4 < a4) = true := decide_eq_true k4
    have hv := Lib.hid (cmp3_gt (show vl8 b0 b1 b2 b3 b4 a5 a6 a7 < vl8 a0 a1 a2 a3 a4 a5 a6 a7 by have := HA.out; have := HB.out; unfold Dig8 at *; unfold vl8; omega))
    clear h4 k4
    go_quiet (fail)
    go_wp2_with fail
    go_quiet (fail)
    go_wp2_with fail
    go_ret
    exact ⟨ret_int hv.out, by repeat' (first | exact below2 _ _ _ | refine below_draw ?_ _)⟩
  obtain rfl : a4 = b4 := by omega
  clear h4 k4
  go_quiet (fail)
  go_wp2_with fail
  go_quiet (fail)
  go_wp2_with fail
  rw [rounds_succ]
  go_wp2_with fail
  by_cases h3 : a3 < b3
  · have d1 : decide (a3 < b3) = true := decide_eq_true h3
    have hv := Lib.hid (cmp3_lt (show vl8 a0 a1 a2 a3 a4 a5 a6 a7 < vl8 b0 b1 b2 b3 a4 a5 a6 a7 by have := HA.out; have := HB.out; unfold Dig8 at *; unfold vl8; omega))
    clear h3
    go_quiet (fail)
    go_wp2_with fail
    go_ret
    exact ⟨ret_int hv.out, by repeat' (first | exact below2 _ _ _ | refine below_draw ?_ _)⟩
  by_cases k3 : b3 < a3
  · have d1 : decide (a3 < b3) = false := decide_eq_false h3
    have d2 : decide (b3 < a3) = true := decide_eq_true k3
    have hv := Lib.hid (cmp3_gt (show vl8 b0 b1 b2 b3 a4 a5 a6 a7 < vl8 a0 a1 a2 a3 a4 a5 a6 a7 by have := HA.out; have := HB.out; unfold Dig8 at *; unfold vl8; omega))
    clear h3 k3
    go_quiet (fail)
    go_wp2_with fail
    go_quiet (fail)
    go_wp2_with fail
    go_ret
    exact ⟨ret_int hv.out, by repeat' (first | exact below2 _ _ _ | refine below_draw ?_ _)⟩
  obtain rfl : a3 = b3 := by omega
  clear h3 k3
  go_quiet (fail)
  go_wp2_with fail
  go_quiet (fail)
  go_wp2_with fail
  rw [rounds_succ]
  go_wp2_with fail
  by_cases h2 : a2 < b2
  · have d1 : decide (a2 < b2) = true := decide_eq_true h2
    have hv := Lib.hid (cmp3_lt (show vl8 a0 a1 a2 a3 a4 a5 a6 a7 < vl8 b0 b1 b2 a3 a4 a5 a6 a7 by have := HA.out; have := HB.out; unfold Dig8 at *; unfold vl8; omega))
    clear h2
    go_quiet (fail)
    go_wp2_with fail
    go_ret
    exact ⟨ret_int hv.out, by repeat' (first | exact below2 _ _ _ | refine below_draw ?_ _)⟩
  by_cases k2 : b2 < a2
  · have d1 : decide (a2 < b2) = false := decide_eq_false h2
    have d2 : decide (b2 < a2) = true := decide_eq_true k2
    have hv := Lib.hid (cmp3_gt (show vl8 b0 b1 b2 a3 a4 a5 a6 a7 < vl8 a0 a1 a2 a3 a4 a5 a6 a7 by have := HA.out; have := HB.out; unfold Dig8 at *; unfold vl8; omega))
    clear h2 k2
    go_quiet (fail)
    go_wp2_with fail
    go_quiet (fail)
    go_wp2_with fail
    go_ret
    exact ⟨ret_int hv.out, by repeat' (first | exact below2 _ _ _ | refine below_draw ?_ _)⟩
  obtain rfl : a2 = b2 := by omega
  clear h2 k2
  go_quiet (fail)
  go_wp2_with fail
  go_quiet (fail)
  go_wp2_with fail
  rw [rounds_succ]
  go_wp2_with fail
  by_cases h1 : a1 < b1
  · have d1 : decide (a1 < b1) = true := decide_eq_true h1
    have hv := Lib.hid (cmp3_lt (show vl8 a0 a1 a2 a3 a4 a5 a6 a7 < vl8 b0 b1 a2 a3 a4 a5 a6 a7 by have := HA.out; have := HB.out; unfold Dig8 at *; unfold vl8; omega))
    clear h1
    go_quiet (fail)
    go_wp2_with fail
    go_ret
    exact ⟨ret_int hv.out, by repeat' (first | exact below2 _ _ _ | refine below_draw ?_ _)⟩
  by_cases k1 : b1 < a1
  · have d1 : decide (a1 < b1) = false := decide_eq_false h1
    have d2 : decide (b1 < a1) = true := decide_eq_true k1
    have hv := Lib.hid (cmp3_gt (show vl8 b0 b1 a2 a3 a4 a5 a6 a7 < vl8 a0 a1 a2 a3 a4 a5 a6 a7 by have := HA.out; have := HB.out; unfold Dig8 at *; unfold vl8; omega))
    clear h1 k1
    go_quiet (fail)
    go_wp2_with fail
    go_quiet (fail)
    go_wp2_with fail
    go_ret
    exact ⟨ret_int hv.out, by repeat' (first | exact below2 _ _ _ | refine below_draw ?_ _)⟩
  obtain rfl : a1 = b1 := by omega
  clear h1 k1
  go_quiet (fail)
  go_wp2_with fail
  go_quiet (fail)
  go_wp2_with fail
  rw [rounds_succ]
  go_wp2_with fail
  by_cases h0 : a0 < b0
  · have d1 : decide (a0 < b0) = true := decide_eq_true h0
    have hv := Lib.hid (cmp3_lt (show vl8 a0 a1 a2 a3 a4 a5 a6 a7 < vl8 b0 a1 a2 a3 a4 a5 a6 a7 by have := HA.out; have := HB.out; unfold Dig8 at *; unfold vl8; omega))
    clear h0
    go_quiet (fail)
    go_wp2_with fail
    go_ret
    exact ⟨ret_int hv.out, by repeat' (first | exact below2 _ _ _ | refine below_draw ?_ _)⟩
  by_cases k0 : b0 < a0
  · have d1 : decide (a0 < b0) = false := decide_eq_false h0
    have d2 : decide (b0 < a0) = true := decide_eq_true k0
    have hv := Lib.hid (cmp3_gt (show vl8 b0 a1 a2 a3 a4 a5 a6 a7 < vl8 a0 a1 a2 a3 a4 a5 a6 a7 by have := HA.out; have := HB.out; unfold Dig8 at *; unfold vl8; omega))
    clear h0 k0
    go_quiet (fail)
    go_wp2_with fail
    go_quiet (fail)
    go_wp2_with fail
    go_ret
    exact ⟨ret_int hv.out, by repeat' (first | exact below2 _ _ _ | refine below_draw ?_ _)⟩
  obtain rfl : a0 = b0 := by omega
  clear h0 k0
  go_quiet (fail)
  go_wp2_with fail
  go_quiet (fail)
  go_wp2_with fail
  rw [rounds_succ]
  go_wp2_with fail
  go_ret
  exact ⟨ret_int (cmp3_eq _), by repeat' (first | exact below2 _ _ _ | refine below_draw ?_ _)⟩
end Go.Proofs.Ytefaagacgoohjaa

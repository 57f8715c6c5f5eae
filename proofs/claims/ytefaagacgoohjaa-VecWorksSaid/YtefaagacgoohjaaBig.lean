/- The reference's Of, Shift and Stop: whole numbers as eight digits of base 2^16. -/
import Derived.Test.YtefaagacgoohjaaSm
import Derived.Test.YtefaagacgoohjaaMem
import Derived.LoopN
import Derived.Deep.QuietTactic
import Derived.BigQuiet
namespace Go.Proofs.Ytefaagacgoohjaa
open Go.RowKit

/-- A whole number of the reference: its sign and its digits, the lowest first. -/
abbrev bigV (m : Bool) (a0 a1 a2 a3 a4 a5 a6 a7 : Nat) : Value :=
  .agg #[.bool m, .int .i64 (a0 : Int), .int .i64 (a1 : Int), .int .i64 (a2 : Int), .int .i64 (a3 : Int), .int .i64 (a4 : Int), .int .i64 (a5 : Int), .int .i64 (a6 : Int), .int .i64 (a7 : Int)]

theorem below2 (w : World) (o1 o2 : Obj) : Below w.heap.size w ((w.alloc o1).alloc o2) := ((Below.refl _ _).alloc (Nat.le_refl _) _).alloc (by simp) _
theorem below3 (w : World) (o1 o2 o3 : Obj) : Below w.heap.size w (((w.alloc o1).alloc o2).alloc o3) := (below2 w o1 o2).alloc (by simp; omega) _

set_option maxRecDepth 100000 in
set_option maxHeartbeats 1000000 in
theorem of_c (n : Int) (w : World) (h1 : -9223372036854775808 ≤ n) (h2 : n < 9223372036854775808) :
    Calls Try.prog 58 #[.int .i64 n] w fun e w' => e = .returned (bigV (decide (n < 0)) (n.natAbs % 65536) (n.natAbs / 65536 % 65536) (n.natAbs / 65536 / 65536 % 65536) (n.natAbs / 65536 / 65536 / 65536 % 65536) 0 0 0 0) ∧ Below w.heap.size w w' := by
  obtain ⟨u, hu⟩ : ∃ u, u = n.natAbs := ⟨_, rfl⟩
  rw [← hu]
  have hul : u ≤ 9223372036854775808 := by omega
  by_cases hn : n < 0
  · have hd : decide (n < 0) = true := decide_eq_true hn
    have e1 : IntKind.u64.wrap (-IntKind.u64.wrap n) = (u : Int) := by rw [IntKind.wrap_u64, IntKind.wrap_u64]; omega
    rw [hd]
    clear hu hn
    go_enter Try.func58, Try.ntmps58
    go_wp2_with fail
    refine wp_loop_rounds 5 ?_
    rw [rounds_succ]
    go_wp2_with fail
    rw [rounds_succ]
    go_wp2_with fail
    rw [rounds_succ]
    go_wp2_with fail
    rw [rounds_succ]
    go_wp2_with fail
    rw [rounds_succ]
    go_wp2_with fail
    exact bodyPost_ret (v := bigV true (u % 65536) (u / 65536 % 65536) (u / 65536 / 65536 % 65536) (u / 65536 / 65536 / 65536 % 65536) 0 0 0 0) (by simp [results, Try.results58, go_sem]) rfl ⟨rfl, below2 _ _ _⟩
  · have hd : decide (n < 0) = false := decide_eq_false hn
    obtain rfl : n = (u : Int) := by omega
    rw [hd]
    clear hu hn
    go_enter Try.func58, Try.ntmps58
    go_wp2_with fail
    refine wp_loop_rounds 5 ?_
    rw [rounds_succ]
    go_wp2_with fail
    rw [rounds_succ]
    go_wp2_with fail
    rw [rounds_succ]
    go_wp2_with fail
    rw [rounds_succ]
    go_wp2_with fail
    rw [rounds_succ]
    go_wp2_with fail
    exact bodyPost_ret (v := bigV false (u % 65536) (u / 65536 % 65536) (u / 65536 / 65536 % 65536) (u / 65536 / 65536 / 65536 % 65536) 0 0 0 0) (by simp [results, Try.results58, go_sem]) rfl ⟨rfl, below2 _ _ _⟩

set_option maxRecDepth 100000 in
set_option maxHeartbeats 1000000 in
theorem shift_up (m : Bool) (a0 a1 a2 a3 a4 a5 a6 a7 : Nat) (w : World) :
    Calls Try.prog 56 #[bigV m a0 a1 a2 a3 a4 a5 a6 a7, .int .i64 2] w fun e w' => e = .returned (bigV m 0 0 a0 a1 a2 a3 a4 a5) ∧ Below w.heap.size w w' := by
  go_enter Try.func56, Try.ntmps56
  go_wp2_with fail
  refine wp_loop_rounds 9 ?_
  rw [rounds_succ]
  go_wp2_with fail
  rw [rounds_succ]
  go_wp2_with fail
  rw [rounds_succ]
  go_wp2_with fail
  rw [rounds_succ]
  go_wp2_with fail
  rw [rounds_succ]
  go_wp2_with fail
  rw [rounds_succ]
  go_wp2_with fail
  rw [rounds_succ]
  go_wp2_with fail
  rw [rounds_succ]
  go_wp2_with fail
  rw [rounds_succ]
  go_wp2_with fail
  exact bodyPost_ret (v := bigV m 0 0 a0 a1 a2 a3 a4 a5) (by simp [results, Try.results56, go_sem]) rfl ⟨rfl, below3 _ _ _ _⟩

set_option maxRecDepth 100000 in
set_option maxHeartbeats 1000000 in
theorem shift_down (m : Bool) (a0 a1 a2 a3 a4 a5 a6 a7 : Nat) (w : World) :
    Calls Try.prog 56 #[bigV m a0 a1 a2 a3 a4 a5 a6 a7, .int .i64 (-2)] w fun e w' => e = .returned (bigV m a2 a3 a4 a5 a6 a7 0 0) ∧ Below w.heap.size w w' := by
  go_enter Try.func56, Try.ntmps56
  go_wp2_with fail
  refine wp_loop_rounds 9 ?_
  rw [rounds_succ]
  go_wp2_with fail
  rw [rounds_succ]
  go_wp2_with fail
  rw [rounds_succ]
  go_wp2_with fail
  rw [rounds_succ]
  go_wp2_with fail
  rw [rounds_succ]
  go_wp2_with fail
  rw [rounds_succ]
  go_wp2_with fail
  rw [rounds_succ]
  go_wp2_with fail
  rw [rounds_succ]
  go_wp2_with fail
  rw [rounds_succ]
  go_wp2_with fail
  exact bodyPost_ret (v := bigV m a2 a3 a4 a5 a6 a7 0 0) (by simp [results, Try.results56, go_sem]) rfl ⟨rfl, below3 _ _ _ _⟩

end Go.Proofs.Ytefaagacgoohjaa

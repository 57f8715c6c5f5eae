/- The reference's Stop. -/
import Derived.Test.YtefaagacgoohjaaCmp
import Derived.Deep.DeepCutAuto
namespace Go.Proofs.Ytefaagacgoohjaa
open Go.RowKit

theorem below1 (w : World) (o : Obj) : Below w.heap.size w (w.alloc o) := (Below.refl _ _).alloc (Nat.le_refl _) _

set_option maxRecDepth 100000 in
set_option maxHeartbeats 4000000 in
theorem stop_c (m : Bool) (a0 a1 a2 a3 a4 a5 a6 a7 : Nat) (w : World) (ha : Dig8 a0 a1 a2 a3 a4 a5 a6 a7) :
    Calls Try.prog 55 #[bigV m a0 a1 a2 a3 a4 a5 a6 a7] w fun e w' => e = .returned (.int .i64 (sat (sg m (vl8 a0 a1 a2 a3 a4 a5 a6 a7)))) ∧ Below w.heap.size w w' := by
  obtain ⟨p0, p1, p2, p3, p4, p5, p6, p7⟩ := ha
  obtain ⟨v1, q1⟩ : ∃ v, v = a3 * 65536 + a2 := ⟨_, rfl⟩
  obtain ⟨v2, q2⟩ : ∃ v, v = v1 * 65536 + a1 := ⟨_, rfl⟩
  obtain ⟨v3, q3⟩ : ∃ v, v = v2 * 65536 + a0 := ⟨_, rfl⟩
  have e1 : (a3 : Int) * 65536 + (a2 : Int) = (v1 : Int) := by omega
  have e2 : (v1 : Int) * 65536 + (a1 : Int) = (v2 : Int) := by omega
  have e3 : (v2 : Int) * 65536 + (a0 : Int) = (v3 : Int) := by omega
  have t0 : (a0 : Int) < 65536 := by omega
  have t1 : (a1 : Int) < 65536 := by omega
  have t2 : (a2 : Int) < 65536 := by omega
  have t3 : (a3 : Int) < 65536 := by omega
  have t4 : (a4 : Int) < 65536 := by omega
  have t5 : (a5 : Int) < 65536 := by omega
  have t6 : (a6 : Int) < 65536 := by omega
  have t7 : (a7 : Int) < 65536 := by omega
  have tv1 : (v1 : Int) < 4294967296 := by omega
  have tv2 : (v2 : Int) < 281474976710656 := by omega
  by_cases hz : a4 + a5 + a6 + a7 = 0 ∧ a3 < 32768
  · have hV : vl8 a0 a1 a2 a3 a4 a5 a6 a7 = v3 := by unfold vl8; omega
    have hl : v3 < 9223372036854775808 := by omega
    rw [hV]
    obtain ⟨z1, z2⟩ := hz
    obtain rfl : a4 = 0 := by omega
    obtain rfl : a5 = 0 := by omega
    obtain rfl : a6 = 0 := by omega
    obtain rfl : a7 = 0 := by omega
    have d3 : decide ((32768 : Int) ≤ (a3 : Int)) = false := decide_eq_false (by omega)
    have HL := Lib.hid hl
    have i3 : (v3 : Int) < 9223372036854775808 := by omega
    clear z1 z2 hV p0 p1 p2 p3 p4 p5 p6 p7 q1 q2 q3 t4 t5 t6 t7 hl
    cases m
    · go_enter Try.func55, Try.ntmps55
      go_wp2_with fail
      refine wp_loop_rounds 5 ?_
      rw [rounds_succ]
      go_wp2_with fail
      rw [rounds_succ]
      go_wp2_with fail
      rw [rounds_succ]
      go_wp2_with fail
      rw [rounds_succ]
      go_wp2_with fail
      rw [rounds_succ]
      go_wp2_with fail
      go_ret
      exact ⟨ret_int (by simp only [sg]; simp; rw [sat_id (by omega) (by omega)]), below1 _ _⟩
    · go_enter Try.func55, Try.ntmps55
      go_wp2_with fail
      refine wp_loop_rounds 5 ?_
      rw [rounds_succ]
      go_wp2_with fail
      rw [rounds_succ]
      go_wp2_with fail
      rw [rounds_succ]
      go_wp2_with fail
      rw [rounds_succ]
      go_wp2_with fail
      rw [rounds_succ]
      go_wp2_with fail
      go_ret
      exact ⟨ret_int (by simp only [sg]; simp; rw [sat_id (by omega) (by omega)]), below1 _ _⟩
  · have hV : 9223372036854775808 ≤ vl8 a0 a1 a2 a3 a4 a5 a6 a7 := by unfold vl8; omega
    have HV := Lib.hid (over_sat _ m hV)
    clear hV q1 q2 q3 p0 p1 p2 p3 p4 p5 p6 p7
    go_enter Try.func55, Try.ntmps55
    go_upto_region 2 with (fail)
    go_cut [4] (fun s4 wx => s4 = .bool true ∧ w.alloc (.cells #[.bool m, .int .i64 (a0 : Int), .int .i64 (a1 : Int), .int .i64 (a2 : Int), .int .i64 (a3 : Int), .int .i64 (a4 : Int), .int .i64 (a5 : Int), .int .i64 (a6 : Int), .int .i64 (a7 : Int)] 51) = wx)
    case first =>
      by_cases hs : a4 + a5 + a6 + a7 = 0
      · have d3 : decide ((32768 : Int) ≤ (a3 : Int)) = true := decide_eq_true (by omega)
        obtain rfl : a4 = 0 := by omega
        obtain rfl : a5 = 0 := by omega
        obtain rfl : a6 = 0 := by omega
        obtain rfl : a7 = 0 := by omega
        clear hs hz
        go_wp2_with fail
        go_meet
        exact ⟨rfl, rfl⟩
      · have d3 : decide ((0 : Int) < (a4 : Int) + (a5 : Int) + (a6 : Int) + (a7 : Int)) = true := decide_eq_true (by omega)
        clear hs hz
        go_wp2_with fail
        go_meet
        exact ⟨rfl, rfl⟩
    case rest =>
      obtain ⟨rfl, rfl⟩ := hcut
      clear hz
      go_wp2_with fail
      refine wp_loop_rounds 5 ?_
      rw [rounds_succ]
      go_wp2_with fail
      rw [rounds_succ]
      go_wp2_with fail
      rw [rounds_succ]
      go_wp2_with fail
      rw [rounds_succ]
      go_wp2_with fail
      rw [rounds_succ]
      cases m
      · go_wp2_with fail
        go_ret
        exact ⟨ret_int HV.out, below1 _ _⟩
      · go_wp2_with fail
        go_ret
        exact ⟨ret_int HV.out, below1 _ _⟩
end Go.Proofs.Ytefaagacgoohjaa

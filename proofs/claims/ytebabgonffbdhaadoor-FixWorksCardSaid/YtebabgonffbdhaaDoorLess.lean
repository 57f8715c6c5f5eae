/- The reference's less. -/
import Derived.Test.YtebabgonffbdhaaDoorCmp
import Derived.Deep.DeepCutAuto
namespace Go.Proofs.YtebabgonffbdhaaDoor
open Go.RowKit

theorem alloc_draw' (w : World) (o : Obj) (n : Nat) : (w.alloc o).drewN n = (w.drewN n).alloc o := rfl
theorem size_draw' (w : World) (n : Nat) : w.heap.size = (w.drewN n).heap.size := rfl

theorem vl8_lt {a0 a1 a2 a3 a4 a5 a6 a7 : Nat} (h : Dig8 a0 a1 a2 a3 a4 a5 a6 a7) : vl8 a0 a1 a2 a3 a4 a5 a6 a7 < 340282366920938463463374607431768211456 := by
  unfold Dig8 at h
  unfold vl8
  omega
theorem less_sum {a0 a1 a2 a3 a4 a5 a6 a7 b0 b1 b2 b3 b4 b5 b6 b7 r0 r1 r2 r3 r4 r5 r6 r7 d0 d1 d2 d3 d4 d5 d6 d7 : Nat} (e0 : a0 + 65536 * d0 = b0 + 0 + r0) (e1 : a1 + 65536 * d1 = b1 + d0 + r1) (e2 : a2 + 65536 * d2 = b2 + d1 + r2) (e3 : a3 + 65536 * d3 = b3 + d2 + r3)
    (e4 : a4 + 65536 * d4 = b4 + d3 + r4) (e5 : a5 + 65536 * d5 = b5 + d4 + r5) (e6 : a6 + 65536 * d6 = b6 + d5 + r6) (e7 : a7 + 65536 * d7 = b7 + d6 + r7) :
    vl8 a0 a1 a2 a3 a4 a5 a6 a7 + 340282366920938463463374607431768211456 * d7 = vl8 b0 b1 b2 b3 b4 b5 b6 b7 + vl8 r0 r1 r2 r3 r4 r5 r6 r7 := by
  unfold vl8
  have k6 : a6 + 65536 * a7 + 4294967296 * d7 = b6 + 65536 * b7 + (r6 + 65536 * r7) + d5 := by omega
  have k5 : a5 + 65536 * (a6 + 65536 * a7) + 65536 * (4294967296 * d7) = b5 + 65536 * (b6 + 65536 * b7) + (r5 + 65536 * (r6 + 65536 * r7)) + d4 := by omega
  have k4 : a4 + 65536 * (a5 + 65536 * (a6 + 65536 * a7)) + 65536 * (65536 * (4294967296 * d7)) = b4 + 65536 * (b5 + 65536 * (b6 + 65536 * b7)) + (r4 + 65536 * (r5 + 65536 * (r6 + 65536 * r7))) + d3 := by omega
  generalize a4 + 65536 * (a5 + 65536 * (a6 + 65536 * a7)) = A4 at *
  generalize b4 + 65536 * (b5 + 65536 * (b6 + 65536 * b7)) = B4 at *
  generalize r4 + 65536 * (r5 + 65536 * (r6 + 65536 * r7)) = R4 at *
  clear k5 k6 e4 e5 e6 e7
  omega
theorem less_end {X Y Z d : Nat} (h : X + 340282366920938463463374607431768211456 * d = Y + Z) (hz : Z < 340282366920938463463374607431768211456) (hv : Y ≤ X) : Z = X - Y := by omega

theorem less_make (a b u : Nat) (ha : a < 65536) (hb : b < 65536) (hu : u ≤ 1) : ∃ r d : Nat, r < 65536 ∧ d ≤ 1 ∧ a + 65536 * d = b + u + r ∧ ((0 ≤ (a : Int) - (b : Int) - (u : Int) ∧ d = 0 ∧ (a : Int) - (b : Int) - (u : Int) = (r : Int)) ∨ ((a : Int) - (b : Int) - (u : Int) < 0 ∧ d = 1 ∧ (a : Int) - (b : Int) - (u : Int) + 65536 = (r : Int))) := by
  by_cases h : b + u ≤ a
  · exact ⟨a - b - u, 0, by omega, by omega, by omega, .inl ⟨by omega, rfl, by omega⟩⟩
  · exact ⟨a + 65536 - b - u, 1, by omega, by omega, by omega, .inr ⟨by omega, rfl, by omega⟩⟩

set_option maxRecDepth 100000 in
set_option maxHeartbeats 8000000 in
theorem less_c (m n : Bool) (a0 a1 a2 a3 a4 a5 a6 a7 b0 b1 b2 b3 b4 b5 b6 b7 : Nat) (w : World) (ha : Dig8 a0 a1 a2 a3 a4 a5 a6 a7) (hb : Dig8 b0 b1 b2 b3 b4 b5 b6 b7) (hv : vl8 b0 b1 b2 b3 b4 b5 b6 b7 ≤ vl8 a0 a1 a2 a3 a4 a5 a6 a7) :
    Calls Tryd.prog 50 #[bigV m a0 a1 a2 a3 a4 a5 a6 a7, bigV n b0 b1 b2 b3 b4 b5 b6 b7] w fun e w' => (∃ c0 c1 c2 c3 c4 c5 c6 c7 : Nat, e = .returned (bigV m c0 c1 c2 c3 c4 c5 c6 c7) ∧ Dig8 c0 c1 c2 c3 c4 c5 c6 c7 ∧ vl8 c0 c1 c2 c3 c4 c5 c6 c7 = vl8 a0 a1 a2 a3 a4 a5 a6 a7 - vl8 b0 b1 b2 b3 b4 b5 b6 b7) ∧ Below w.heap.size w w' := by
  obtain ⟨p0, p1, p2, p3, p4, p5, p6, p7⟩ := ha
  obtain ⟨q0, q1, q2, q3, q4, q5, q6, q7⟩ := hb
  have HV := Lib.hid hv
  have HB := Lib.hid (Below.refl w.heap.size w)
  have z0 : 0 ≤ 1 := by omega
  clear hv
  go_enter Tryd.func50, Tryd.ntmps50
  go_wp2_with fail
  refine wp_loop_rounds 9 ?_
  obtain ⟨r0, d0, br, bd, he, hcase⟩ := less_make a0 b0 0 p0 q0 z0
  have R0 := Lib.hid br
  have D0 := Lib.hid bd
  have E0 := Lib.hid he
  clear br bd he
  simp only [Int.natCast_zero, Int.sub_zero] at hcase
  rw [rounds_succ]
  go_wp2_with fail
  go_quiet (fail)
  simp only [alloc_draw']
  have hb' := below_draw HB.out nq
  rw [size_draw' w nq]
  generalize w.drewN nq = w0 at hb' ⊢
  clear HB
  have HB := Lib.hid hb'
  clear hb'
  go_upto_if 24 with (fail)
  go_cut [5, 7] (fun s5 s7 wx => s5 = .int .i64 (d0 : Int) ∧ s7 = .int .i64 (r0 : Int) ∧ ((w0.alloc (.cells #[.bool m, .int .i64 (a0 : Int), .int .i64 (a1 : Int), .int .i64 (a2 : Int), .int .i64 (a3 : Int), .int .i64 (a4 : Int), .int .i64 (a5 : Int), .int .i64 (a6 : Int), .int .i64 (a7 : Int)] 47)).alloc (.cells #[.bool n, .int .i64 (b0 : Int), .int .i64 (b1 : Int), .int .i64 (b2 : Int), .int .i64 (b3 : Int), .int .i64 (b4 : Int), .int .i64 (b5 : Int), .int .i64 (b6 : Int), .int .i64 (b7 : Int)] 47)).alloc (.cells #[.bool false, .int .i64 (0 : Int), .int .i64 (0 : Int), .int .i64 (0 : Int), .int .i64 (0 : Int), .int .i64 (0 : Int), .int .i64 (0 : Int), .int .i64 (0 : Int), .int .i64 (0 : Int)] 47) = wx)
  case first =>
    rcases hcase with ⟨k1, rfl, k3⟩ | ⟨k1, rfl, k3⟩
    · have k4 := k1
      rw [k3] at k4
      go_wp2_with fail
      go_meet
      exact ⟨rfl, by rw [← k3], rfl⟩
    · have hd : decide ((a0 : Int) - (b0 : Int) < 0) = true := decide_eq_true k1
      go_wp2_with fail
      go_meet
      exact ⟨rfl, by rw [← k3], rfl⟩
  obtain ⟨rfl, rfl, rfl⟩ := hcut
  clear hcase
  go_wp2_with fail
  obtain ⟨r1, d1, br, bd, he, hcase⟩ := less_make a1 b1 d0 p1 q1 D0.out
  have R1 := Lib.hid br
  have D1 := Lib.hid bd
  have E1 := Lib.hid he
  clear br bd he
  rw [rounds_succ]
  go_wp2_with fail
  go_quiet (fail)
  simp only [alloc_draw']
  have hb' := below_draw HB.out nq
  rw [size_draw' w0 nq]
  generalize w0.drewN nq = w1 at hb' ⊢
  clear HB
  have HB := Lib.hid hb'
  clear hb'
  go_upto_if 24 with (fail)
  go_cut [5, 7] (fun s5 s7 wx => s5 = .int .i64 (d1 : Int) ∧ s7 = .int .i64 (r1 : Int) ∧ ((w1.alloc (.cells #[.bool m, .int .i64 (r0 : Int), .int .i64 (a1 : Int), .int .i64 (a2 : Int), .int .i64 (a3 : Int), .int .i64 (a4 : Int), .int .i64 (a5 : Int), .int .i64 (a6 : Int), .int .i64 (a7 : Int)] 47)).alloc (.cells #[.bool n, .int .i64 (b0 : Int), .int .i64 (b1 : Int), .int .i64 (b2 : Int), .int .i64 (b3 : Int), .int .i64 (b4 : Int), .int .i64 (b5 : Int), .int .i64 (b6 : Int), .int .i64 (b7 : Int)] 47)).alloc (.cells #[.bool false, .int .i64 (0 : Int), .int .i64 (0 : Int), .int .i64 (0 : Int), .int .i64 (0 : Int), .int .i64 (0 : Int), .int .i64 (0 : Int), .int .i64 (0 : Int), .int .i64 (0 : Int)] 47) = wx)
  case first =>
    rcases hcase with ⟨k1, rfl, k3⟩ | ⟨k1, rfl, k3⟩
    · have k4 := k1
      rw [k3] at k4
      go_wp2_with fail
      go_meet
      exact ⟨rfl, by rw [← k3], rfl⟩
    · have hd : decide ((a1 : Int) - (b1 : Int) - (d0 : Int) < 0) = true := decide_eq_true k1
      go_wp2_with fail
      go_meet
      exact ⟨rfl, by rw [← k3], rfl⟩
  obtain ⟨rfl, rfl, rfl⟩ := hcut
  clear hcase
  go_wp2_with fail
  obtain ⟨r2, d2, br, bd, he, hcase⟩ := less_make a2 b2 d1 p2 q2 D1.out
  have R2 := Lib.hid br
  have D2 := Lib.hid bd
  have E2 := Lib.hid he
  clear br bd he
  rw [rounds_succ]
  go_wp2_with fail
  go_quiet (fail)
  simp only [alloc_draw']
  have hb' := below_draw HB.out nq
  rw [size_draw' w1 nq]
  generalize w1.drewN nq = w2 at hb' ⊢
  clear HB
  have HB := Lib.hid hb'
  clear hb'
  go_upto_if 24 with (fail)
  go_cut [5, 7] (fun s5 s7 wx => s5 = .int .i64 (d2 : Int) ∧ s7 = .int .i64 (r2 : Int) ∧ ((w2.alloc (.cells #[.bool m, .int .i64 (r0 : Int), .int .i64 (r1 : Int), .int .i64 (a2 : Int), .int .i64 (a3 : Int), .int .i64 (a4 : Int), .int .i64 (a5 : Int), .int .i64 (a6 : Int), .int .i64 (a7 : Int)] 47)).alloc (.cells #[.bool n, .int .i64 (b0 : Int), .int .i64 (b1 : Int), .int .i64 (b2 : Int), .int .i64 (b3 : Int), .int .i64 (b4 : Int), .int .i64 (b5 : Int), .int .i64 (b6 : Int), .int .i64 (b7 : Int)] 47)).alloc (.cells #[.bool false, .int .i64 (0 : Int), .int .i64 (0 : Int), .int .i64 (0 : Int), .int .i64 (0 : Int), .int .i64 (0 : Int), .int .i64 (0 : Int), .int .i64 (0 : Int), .int .i64 (0 : Int)] 47) = wx)
  case first =>
    rcases hcase with ⟨k1, rfl, k3⟩ | ⟨k1, rfl, k3⟩
    · have k4 := k1
      rw [k3] at k4
      go_wp2_with fail
      go_meet
      exact ⟨rfl, by rw [← k3], rfl⟩
    · have hd : decide ((a2 : Int) - (b2 : Int) - (d1 : Int) < 0) = true := decide_eq_true k1
      go_wp2_with fail
      go_meet
      exact ⟨rfl, by rw [← k3], rfl⟩
  obtain ⟨rfl, rfl, rfl⟩ := hcut
  clear hcase
  go_wp2_with fail
  obtain ⟨r3, d3, br, bd, he, hcase⟩ := less_make a3 b3 d2 p3 q3 D2.out
  have R3 := Lib.hid br
  have D3 := Lib.hid bd
  have E3 := Lib.hid he
  clear br bd he
  rw [rounds_succ]
  go_wp2_with fail
  go_quiet (fail)
  simp only [alloc_draw']
  have hb' := below_draw HB.out nq
  rw [size_draw' w2 nq]
  generalize w2.drewN nq = w3 at hb' ⊢
  clear HB
  have HB := Lib.hid hb'
  clear hb'
  go_upto_if 24 with (fail)
  go_cut [5, 7] (fun s5 s7 wx => s5 = .int .i64 (d3 : Int) ∧ s7 = .int .i64 (r3 : Int) ∧ ((w3.alloc (.cells #[.bool m, .int .i64 (r0 : Int), .int .i64 (r1 : Int), .int .i64 (r2 : Int), .int .i64 (a3 : Int), .int .i64 (a4 : Int), .int .i64 (a5 : Int), .int .i64 (a6 : Int), .int .i64 (a7 : Int)] 47)).alloc (.cells #[.bool n, .int .i64 (b0 : Int), .int .i64 (b1 : Int), .int .i64 (b2 : Int), .int .i64 (b3 : Int), .int .i64 (b4 : Int), .int .i64 (b5 : Int), .int .i64 (b6 : Int), .int .i64 (b7 : Int)] 47)).alloc (.cells #[.bool false, .int .i64 (0 : Int), .int .i64 (0 : Int), .int .i64 (0 : Int), .int .i64 (0 : Int), .int .i64 (0 : Int), .int .i64 (0 : Int), .int .i64 (0 : Int), .int .i64 (0 : Int)] 47) = wx)
  case first =>
    rcases hcase with ⟨k1, rfl, k3⟩ | ⟨k1, rfl, k3⟩
    · have k4 := k1
      rw [k3] at k4
      go_wp2_with fail
      go_meet
      exact ⟨rfl, by rw [← k3], rfl⟩
    · have hd : decide ((a3 : Int) - (b3 : Int) - (d2 : Int) < 0) = true := decide_eq_true k1
      go_wp2_with fail
      go_meet
      exact ⟨rfl, by rw [← k3], rfl⟩
  obtain ⟨rfl, rfl, rfl⟩ := hcut
  clear hcase
  go_wp2_with fail
  obtain ⟨r4, d4, br, bd, he, hcase⟩ := less_make a4 b4 d3 p4 q4 D3.out
  have R4 := Lib.hid br
  have D4 := Lib.hid bd
  have E4 := Lib.hid he
  clear br bd he
  rw [rounds_succ]
  go_wp2_with fail
  go_quiet (fail)
  simp only [alloc_draw']
  have hb' := below_draw HB.out nq
  rw [size_draw' w3 nq]
  generalize w3.drewN nq = w4 at hb' ⊢
  clear HB
  have HB := Lib.hid hb'
  clear hb'
  go_upto_if 24 with (fail)
  go_cut [5, 7] (fun s5 s7 wx => s5 = .int .i64 (d4 : Int) ∧ s7 = .int .i64 (r4 : Int) ∧ ((w4.alloc (.cells #[.bool m, .int .i64 (r0 : Int), .int .i64 (r1 : Int), .int .i64 (r2 : Int), .int .i64 (r3 : Int), .int .i64 (a4 : Int), .int .i64 (a5 : Int), .int .i64 (a6 : Int), .int .i64 (a7 : Int)] 47)).alloc (.cells #[.bool n, .int .i64 (b0 : Int), .int .i64 (b1 : Int), .int .i64 (b2 : Int), .int .i64 (b3 : Int), .int .i64 (b4 : Int), .int .i64 (b5 : Int), .int .i64 (b6 : Int), .int .i64 (b7 : Int)] 47)).alloc (.cells #[.bool false, .int .i64 (0 : Int), .int .i64 (0 : Int), .int .i64 (0 : Int), .int .i64 (0 : Int), .int .i64 (0 : Int), .int .i64 (0 : Int), .int .i64 (0 : Int), .int .i64 (0 : Int)] 47) = wx)
  case first =>
    rcases hcase with ⟨k1, rfl, k3⟩ | ⟨k1, rfl, k3⟩
    · have k4 := k1
      rw [k3] at k4
      go_wp2_with fail
      go_meet
      exact ⟨rfl, by rw [← k3], rfl⟩
    · have hd : decide ((a4 : Int) - (b4 : Int) - (d3 : Int) < 0) = true := decide_eq_true k1
      go_wp2_with fail
      go_meet
      exact ⟨rfl, by rw [← k3], rfl⟩
  obtain ⟨rfl, rfl, rfl⟩ := hcut
  clear hcase
  go_wp2_with fail
  obtain ⟨r5, d5, br, bd, he, hcase⟩ := less_make a5 b5 d4 p5 q5 D4.out
  have R5 := Lib.hid br
  have D5 := Lib.hid bd
  have E5 := Lib.hid he
  clear br bd he
  rw [rounds_succ]
  go_wp2_with fail
  go_quiet (fail)
  simp only [alloc_draw']
  have hb' := below_draw HB.out nq
  rw [size_draw' w4 nq]
  generalize w4.drewN nq = w5 at hb' ⊢
  clear HB
  have HB := Lib.hid hb'
  clear hb'
  go_upto_if 24 with (fail)
  go_cut [5, 7] (fun s5 s7 wx => s5 = .int .i64 (d5 : Int) ∧ s7 = .int .i64 (r5 : Int) ∧ ((w5.alloc (.cells #[.bool m, .int .i64 (r0 : Int), .int .i64 (r1 : Int), .int .i64 (r2 : Int), .int .i64 (r3 : Int), .int .i64 (r4 : Int), .int .i64 (a5 : Int), .int .i64 (a6 : Int), .int .i64 (a7 : Int)] 47)).alloc (.cells #[.bool n, .int .i64 (b0 : Int), .int .i64 (b1 : Int), .int .i64 (b2 : Int), .int .i64 (b3 : Int), .int .i64 (b4 : Int), .int .i64 (b5 : Int), .int .i64 (b6 : Int), .int .i64 (b7 : Int)] 47)).alloc (.cells #[.bool false, .int .i64 (0 : Int), .int .i64 (0 : Int), .int .i64 (0 : Int), .int .i64 (0 : Int), .int .i64 (0 : Int), .int .i64 (0 : Int), .int .i64 (0 : Int), .int .i64 (0 : Int)] 47) = wx)
  case first =>
    rcases hcase with ⟨k1, rfl, k3⟩ | ⟨k1, rfl, k3⟩
    · have k4 := k1
      rw [k3] at k4
      go_wp2_with fail
      go_meet
      exact ⟨rfl, by rw [← k3], rfl⟩
    · have hd : decide ((a5 : Int) - (b5 : Int) - (d4 : Int) < 0) = true := decide_eq_true k1
      go_wp2_with fail
      go_meet
      exact ⟨rfl, by rw [← k3], rfl⟩
  obtain ⟨rfl, rfl, rfl⟩ := hcut
  clear hcase
  go_wp2_with fail
  obtain ⟨r6, d6, br, bd, he, hcase⟩ := less_make a6 b6 d5 p6 q6 D5.out
  have R6 := Lib.hid br
  have D6 := Lib.hid bd
  have E6 := Lib.hid he
  clear br bd he
  rw [rounds_succ]
  go_wp2_with fail
  go_quiet (fail)
  simp only [alloc_draw']
  have hb' := below_draw HB.out nq
  rw [size_draw' w5 nq]
  generalize w5.drewN nq = w6 at hb' ⊢
  clear HB
  have HB := Lib.hid hb'
  clear hb'
  go_upto_if 24 with (fail)
  go_cut [5, 7] (fun s5 s7 wx => s5 = .int .i64 (d6 : Int) ∧ s7 = .int .i64 (r6 : Int) ∧ ((w6.alloc (.cells #[.bool m, .int .i64 (r0 : Int), .int .i64 (r1 : Int), .int .i64 (r2 : Int), .int .i64 (r3 : Int), .int .i64 (r4 : Int), .int .i64 (r5 : Int), .int .i64 (a6 : Int), .int .i64 (a7 : Int)] 47)).alloc (.cells #[.bool n, .int .i64 (b0 : Int), .int .i64 (b1 : Int), .int .i64 (b2 : Int), .int .i64 (b3 : Int), .int .i64 (b4 : Int), .int .i64 (b5 : Int), .int .i64 (b6 : Int), .int .i64 (b7 : Int)] 47)).alloc (.cells #[.bool false, .int .i64 (0 : Int), .int .i64 (0 : Int), .int .i64 (0 : Int), .int .i64 (0 : Int), .int .i64 (0 : Int), .int .i64 (0 : Int), .int .i64 (0 : Int), .int .i64 (0 : Int)] 47) = wx)
  case first =>
    rcases hcase with ⟨k1, rfl, k3⟩ | ⟨k1, rfl, k3⟩
    · have k4 := k1
      rw [k3] at k4
      go_wp2_with fail
      go_meet
      exact ⟨rfl, by rw [← k3], rfl⟩
    · have hd : decide ((a6 : Int) - (b6 : Int) - (d5 : Int) < 0) = true := decide_eq_true k1
      go_wp2_with fail
      go_meet
      exact ⟨rfl, by rw [← k3], rfl⟩
  obtain ⟨rfl, rfl, rfl⟩ := hcut
  clear hcase
  go_wp2_with fail
  obtain ⟨r7, d7, br, bd, he, hcase⟩ := less_make a7 b7 d6 p7 q7 D6.out
  have R7 := Lib.hid br
  have D7 := Lib.hid bd
  have E7 := Lib.hid he
  clear br bd he
  rw [rounds_succ]
  go_wp2_with fail
  go_quiet (fail)
  simp only [alloc_draw']
  have hb' := below_draw HB.out nq
  rw [size_draw' w6 nq]
  generalize w6.drewN nq = w7 at hb' ⊢
  clear HB
  have HB := Lib.hid hb'
  clear hb'
  go_upto_if 24 with (fail)
  go_cut [5, 7] (fun s5 s7 wx => s5 = .int .i64 (d7 : Int) ∧ s7 = .int .i64 (r7 : Int) ∧ ((w7.alloc (.cells #[.bool m, .int .i64 (r0 : Int), .int .i64 (r1 : Int), .int .i64 (r2 : Int), .int .i64 (r3 : Int), .int .i64 (r4 : Int), .int .i64 (r5 : Int), .int .i64 (r6 : Int), .int .i64 (a7 : Int)] 47)).alloc (.cells #[.bool n, .int .i64 (b0 : Int), .int .i64 (b1 : Int), .int .i64 (b2 : Int), .int .i64 (b3 : Int), .int .i64 (b4 : Int), .int .i64 (b5 : Int), .int .i64 (b6 : Int), .int .i64 (b7 : Int)] 47)).alloc (.cells #[.bool false, .int .i64 (0 : Int), .int .i64 (0 : Int), .int .i64 (0 : Int), .int .i64 (0 : Int), .int .i64 (0 : Int), .int .i64 (0 : Int), .int .i64 (0 : Int), .int .i64 (0 : Int)] 47) = wx)
  case first =>
    rcases hcase with ⟨k1, rfl, k3⟩ | ⟨k1, rfl, k3⟩
    · have k4 := k1
      rw [k3] at k4
      go_wp2_with fail
      go_meet
      exact ⟨rfl, by rw [← k3], rfl⟩
    · have hd : decide ((a7 : Int) - (b7 : Int) - (d6 : Int) < 0) = true := decide_eq_true k1
      go_wp2_with fail
      go_meet
      exact ⟨rfl, by rw [← k3], rfl⟩
  obtain ⟨rfl, rfl, rfl⟩ := hcut
  clear hcase
  go_wp2_with fail
  rw [rounds_succ]
  go_wp2_with fail
  refine bodyPost_ret (v := bigV m r0 r1 r2 r3 r4 r5 r6 r7) (by simp [results, Tryd.results50, go_sem]) rfl ⟨⟨r0, r1, r2, r3, r4, r5, r6, r7, rfl, ⟨R0.out, R1.out, R2.out, R3.out, R4.out, R5.out, R6.out, R7.out⟩, ?_⟩, HB.out.trans ((below3 _ _ _ _).mono HB.out.size)⟩
  have hd : Dig8 r0 r1 r2 r3 r4 r5 r6 r7 := ⟨R0.out, R1.out, R2.out, R3.out, R4.out, R5.out, R6.out, R7.out⟩
  exact less_end (less_sum E0.out E1.out E2.out E3.out E4.out E5.out E6.out E7.out) (vl8_lt hd) HV.out
end Go.Proofs.YtebabgonffbdhaaDoor

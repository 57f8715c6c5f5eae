/- The reference's Times: the product, digit by digit. -/
import Derived.Test.YtefaagacgoohjaaCmp
namespace Go.Proofs.Ytefaagacgoohjaa
open Go.RowKit

theorem alloc_draw (w : World) (o : Obj) (n : Nat) : (w.alloc o).drewN n = (w.drewN n).alloc o := rfl
theorem size_draw (w : World) (n : Nat) : w.heap.size = (w.drewN n).heap.size := rfl
theorem below4 (w : World) (o1 o2 o3 o4 : Obj) : Below w.heap.size w ((((w.alloc o1).alloc o2).alloc o3).alloc o4) := (below3 w o1 o2 o3).alloc (by simp; omega) _

/-- One step of the product: the sum, its digit, what goes over. -/
structure St (o a b c s r d : Nat) : Prop where
  es : s = o + a * b + c
  er : r = s % 65536
  ed : d = s / 65536
theorem St.bounds {o a b c s r d : Nat} (h : St o a b c s r d) (ho : o < 65536) (ha : a < 65536) (hb : b < 65536) (hc : c < 65536) : r < 65536 ∧ d < 65536 ∧ r + 65536 * d = o + a * b + c := by
  obtain ⟨h1, h2, h3⟩ := h
  have : a * b ≤ 65535 * 65535 := Nat.mul_le_mul (by omega) (by omega)
  omega
/-- The equations that a step's walk wants. -/
structure Eqs (a b P s r d : Nat) : Prop where
  f1 : (a : Int) * (b : Int) = (P : Int)
  f2 : IntKind.i64.wrap (P : Int) = (P : Int)
  f6 : IntKind.i64.wrap (s : Int) = (s : Int)
  f7 : (s : Int) % 65536 = (r : Int)
  f8 : (s : Int) / 65536 = (d : Int)
  bP : P ≤ 4294836225
  br : r < 65536
  bd : d < 65536
theorem St.make (o a b c : Nat) (ho : o < 65536) (ha : a < 65536) (hb : b < 65536) (hc : c < 65536) : ∃ P s r d : Nat, St o a b c s r d ∧ Eqs a b P s r d ∧ s = o + P + c := by
  have : a * b ≤ 65535 * 65535 := Nat.mul_le_mul (by omega) (by omega)
  refine ⟨a * b, o + a * b + c, (o + a * b + c) % 65536, (o + a * b + c) / 65536, ⟨rfl, rfl, rfl⟩, ⟨(Int.natCast_mul a b).symm, ?_, ?_, ?_, ?_, this, by omega, by omega⟩, rfl⟩
  all_goals (generalize a * b = p at *)
  · rw [IntKind.wrap_i64]; omega
  · rw [IntKind.wrap_i64]; omega
  · omega
  · omega

theorem dist_l (a x y : Nat) : a * (x + 65536 * y) = a * x + 65536 * (a * y) := by rw [Nat.mul_add, Nat.mul_left_comm]
theorem dist_r (x y b : Nat) : (x + 65536 * y) * b = x * b + 65536 * (y * b) := by rw [Nat.add_mul, Nat.mul_assoc]

theorem row4 {a b0 b1 b2 b3 o0 o1 o2 o3 s0 s1 s2 s3 r0 r1 r2 r3 d0 d1 d2 d3 : Nat} (h0 : St o0 a b0 0 s0 r0 d0) (h1 : St o1 a b1 d0 s1 r1 d1) (h2 : St o2 a b2 d1 s2 r2 d2) (h3 : St o3 a b3 d2 s3 r3 d3) :
    r0 + 65536 * (r1 + 65536 * (r2 + 65536 * (r3 + 65536 * d3))) = o0 + 65536 * (o1 + 65536 * (o2 + 65536 * o3)) + a * (b0 + 65536 * (b1 + 65536 * (b2 + 65536 * b3))) := by
  have e : a * (b0 + 65536 * (b1 + 65536 * (b2 + 65536 * b3))) = a * b0 + 65536 * (a * b1 + 65536 * (a * b2 + 65536 * (a * b3))) := by
    rw [dist_l a b0, dist_l a b1, dist_l a b2]
  rw [e]
  obtain ⟨s0, r0, d0⟩ := h0
  obtain ⟨s1, r1, d1⟩ := h1
  obtain ⟨s2, r2, d2⟩ := h2
  obtain ⟨s3, r3, d3⟩ := h3
  generalize a * b0 = p0 at *
  generalize a * b1 = p1 at *
  generalize a * b2 = p2 at *
  generalize a * b3 = p3 at *
  omega

theorem four_rows {a0 a1 a2 a3 b : Nat} : (a0 + 65536 * (a1 + 65536 * (a2 + 65536 * a3))) * b = a0 * b + 65536 * (a1 * b + 65536 * (a2 * b + 65536 * (a3 * b))) := by
  rw [dist_r, dist_r, dist_r]

set_option maxRecDepth 100000 in
set_option maxHeartbeats 8000000 in
theorem times_big (m n : Bool) (a0 a1 a2 a3 b0 b1 b2 b3 : Nat) (w : World) (ha : Dig8 a0 a1 a2 a3 0 0 0 0) (hb : Dig8 b0 b1 b2 b3 0 0 0 0) :
    Calls Try.prog 57 #[bigV m a0 a1 a2 a3 0 0 0 0, bigV n b0 b1 b2 b3 0 0 0 0] w fun e w' => (∃ c0 c1 c2 c3 c4 c5 c6 c7 : Nat, e = .returned (bigV (!(m == n)) c0 c1 c2 c3 c4 c5 c6 c7) ∧ Dig8 c0 c1 c2 c3 c4 c5 c6 c7 ∧ vl8 c0 c1 c2 c3 c4 c5 c6 c7 = vl8 a0 a1 a2 a3 0 0 0 0 * vl8 b0 b1 b2 b3 0 0 0 0) ∧ Below w.heap.size w w' := by
  obtain ⟨p0, p1, p2, p3, _⟩ := ha
  obtain ⟨q0, q1, q2, q3, _⟩ := hb
  have HB := Lib.hid (Below.refl w.heap.size w)
  have z0 : 0 < 65536 := by omega
  generalize hmn : (!(m == n)) = mn
  have hmn2 : (!(m == n)) = mn := hmn
  clear hmn
  go_enter Try.func57, Try.ntmps57
  go_wp2_with fail
  refine wp_loop_rounds 5 ?_
  rw [rounds_succ]
  go_wp2_with fail
  refine wp_loop_rounds 5 ?_
  rw [rounds_succ]
  go_wp2_with fail
  obtain ⟨P, s, r00, d00, hS, ⟨f1, f2, f6, f7, f8, bP, br00, bd00⟩, hs⟩ := St.make 0 a0 b0 0 z0 p0 q0 z0
  have H00 := Lib.hid hS
  obtain rfl : s = P := by omega
  clear hS hs
  go_quiet (fail)
  simp only [alloc_draw]
  have hb' := below_draw HB.out nq
  rw [size_draw w nq]
  generalize w.drewN nq = w00 at hb' ⊢
  clear HB
  have HB := Lib.hid hb'
  clear hb'
  go_wp2_with fail
  try rw [f7]
  try rw [f8]
  clear f1 f2 f6 f7 f8 bP
  rw [rounds_succ]
  go_wp2_with fail
  obtain ⟨P, s, r01, d01, hS, ⟨f1, f2, f6, f7, f8, bP, br01, bd01⟩, hs⟩ := St.make 0 a0 b1 d00 z0 p0 q1 bd00
  have H01 := Lib.hid hS
  have f3 : (P : Int) + (d00 : Int) = (s : Int) := by omega
  clear hS hs
  go_quiet (fail)
  simp only [alloc_draw]
  have hb' := below_draw HB.out nq
  rw [size_draw w00 nq]
  generalize w00.drewN nq = w01 at hb' ⊢
  clear HB
  have HB := Lib.hid hb'
  clear hb'
  go_wp2_with fail
  try rw [f7]
  try rw [f8]
  clear f1 f2 f6 f7 f8 bP f3
  rw [rounds_succ]
  go_wp2_with fail
  obtain ⟨P, s, r02, d02, hS, ⟨f1, f2, f6, f7, f8, bP, br02, bd02⟩, hs⟩ := St.make 0 a0 b2 d01 z0 p0 q2 bd01
  have H02 := Lib.hid hS
  have f3 : (P : Int) + (d01 : Int) = (s : Int) := by omega
  clear hS hs
  go_quiet (fail)
  simp only [alloc_draw]
  have hb' := below_draw HB.out nq
  rw [size_draw w01 nq]
  generalize w01.drewN nq = w02 at hb' ⊢
  clear HB
  have HB := Lib.hid hb'
  clear hb'
  go_wp2_with fail
  try rw [f7]
  try rw [f8]
  clear f1 f2 f6 f7 f8 bP f3
  rw [rounds_succ]
  go_wp2_with fail
  obtain ⟨P, s, r03, d03, hS, ⟨f1, f2, f6, f7, f8, bP, br03, bd03⟩, hs⟩ := St.make 0 a0 b3 d02 z0 p0 q3 bd02
  have H03 := Lib.hid hS
  have f3 : (P : Int) + (d02 : Int) = (s : Int) := by omega
  clear hS hs
  go_quiet (fail)
  simp only [alloc_draw]
  have hb' := below_draw HB.out nq
  rw [size_draw w02 nq]
  generalize w02.drewN nq = w03 at hb' ⊢
  clear HB
  have HB := Lib.hid hb'
  clear hb'
  go_wp2_with fail
  try rw [f7]
  try rw [f8]
  clear f1 f2 f6 f7 f8 bP f3
  rw [rounds_succ]
  go_wp2_with fail
  rw [rounds_succ]
  go_wp2_with fail
  refine wp_loop_rounds 5 ?_
  rw [rounds_succ]
  go_wp2_with fail
  obtain ⟨P, s, r10, d10, hS, ⟨f1, f2, f6, f7, f8, bP, br10, bd10⟩, hs⟩ := St.make r01 a1 b0 0 br01 p1 q0 z0
  have H10 := Lib.hid hS
  have f3 : (r01 : Int) + (P : Int) = (s : Int) := by omega
  clear hS hs
  go_quiet (fail)
  simp only [alloc_draw]
  have hb' := below_draw HB.out nq
  rw [size_draw w03 nq]
  generalize w03.drewN nq = w10 at hb' ⊢
  clear HB
  have HB := Lib.hid hb'
  clear hb'
  go_wp2_with fail
  try rw [f7]
  try rw [f8]
  clear f1 f2 f6 f7 f8 bP f3
  rw [rounds_succ]
  go_wp2_with fail
  obtain ⟨P, s, r11, d11, hS, ⟨f1, f2, f6, f7, f8, bP, br11, bd11⟩, hs⟩ := St.make r02 a1 b1 d10 br02 p1 q1 bd10
  have H11 := Lib.hid hS
  obtain ⟨t, ht⟩ : ∃ t, t = r02 + P := ⟨_, rfl⟩
  have f3 : (r02 : Int) + (P : Int) = (t : Int) := by omega
  have f4 : IntKind.i64.wrap (t : Int) = (t : Int) := by rw [IntKind.wrap_i64]; omega
  have f5 : (t : Int) + (d10 : Int) = (s : Int) := by omega
  clear ht
  clear hS hs
  go_quiet (fail)
  simp only [alloc_draw]
  have hb' := below_draw HB.out nq
  rw [size_draw w10 nq]
  generalize w10.drewN nq = w11 at hb' ⊢
  clear HB
  have HB := Lib.hid hb'
  clear hb'
  go_wp2_with fail
  try rw [f7]
  try rw [f8]
  clear f1 f2 f6 f7 f8 bP f3 f4 f5
  rw [rounds_succ]
  go_wp2_with fail
  obtain ⟨P, s, r12, d12, hS, ⟨f1, f2, f6, f7, f8, bP, br12, bd12⟩, hs⟩ := St.make r03 a1 b2 d11 br03 p1 q2 bd11
  have H12 := Lib.hid hS
  obtain ⟨t, ht⟩ : ∃ t, t = r03 + P := ⟨_, rfl⟩
  have f3 : (r03 : Int) + (P : Int) = (t : Int) := by omega
  have f4 : IntKind.i64.wrap (t : Int) = (t : Int) := by rw [IntKind.wrap_i64]; omega
  have f5 : (t : Int) + (d11 : Int) = (s : Int) := by omega
  clear ht
  clear hS hs
  go_quiet (fail)
  simp only [alloc_draw]
  have hb' := below_draw HB.out nq
  rw [size_draw w11 nq]
  generalize w11.drewN nq = w12 at hb' ⊢
  clear HB
  have HB := Lib.hid hb'
  clear hb'
  go_wp2_with fail
  try rw [f7]
  try rw [f8]
  clear f1 f2 f6 f7 f8 bP f3 f4 f5
  rw [rounds_succ]
  go_wp2_with fail
  obtain ⟨P, s, r13, d13, hS, ⟨f1, f2, f6, f7, f8, bP, br13, bd13⟩, hs⟩ := St.make d03 a1 b3 d12 bd03 p1 q3 bd12
  have H13 := Lib.hid hS
  obtain ⟨t, ht⟩ : ∃ t, t = d03 + P := ⟨_, rfl⟩
  have f3 : (d03 : Int) + (P : Int) = (t : Int) := by omega
  have f4 : IntKind.i64.wrap (t : Int) = (t : Int) := by rw [IntKind.wrap_i64]; omega
  have f5 : (t : Int) + (d12 : Int) = (s : Int) := by omega
  clear ht
  clear hS hs
  go_quiet (fail)
  simp only [alloc_draw]
  have hb' := below_draw HB.out nq
  rw [size_draw w12 nq]
  generalize w12.drewN nq = w13 at hb' ⊢
  clear HB
  have HB := Lib.hid hb'
  clear hb'
  go_wp2_with fail
  try rw [f7]
  try rw [f8]
  clear f1 f2 f6 f7 f8 bP f3 f4 f5
  rw [rounds_succ]
  go_wp2_with fail
  rw [rounds_succ]
  go_wp2_with fail
  refine wp_loop_rounds 5 ?_
  rw [rounds_succ]
  go_wp2_with fail
  obtain ⟨P, s, r20, d20, hS, ⟨f1, f2, f6, f7, f8, bP, br20, bd20⟩, hs⟩ := St.make r11 a2 b0 0 br11 p2 q0 z0
  have H20 := Lib.hid hS
  have f3 : (r11 : Int) + (P : Int) = (s : Int) := by omega
  clear hS hs
  go_quiet (fail)
  simp only [alloc_draw]
  have hb' := below_draw HB.out nq
  rw [size_draw w13 nq]
  generalize w13.drewN nq = w20 at hb' ⊢
  clear HB
  have HB := Lib.hid hb'
  clear hb'
  go_wp2_with fail
  try rw [f7]
  try rw [f8]
  clear f1 f2 f6 f7 f8 bP f3
  rw [rounds_succ]
  go_wp2_with fail
  obtain ⟨P, s, r21, d21, hS, ⟨f1, f2, f6, f7, f8, bP, br21, bd21⟩, hs⟩ := St.make r12 a2 b1 d20 br12 p2 q1 bd20
  have H21 := Lib.hid hS
  obtain ⟨t, ht⟩ : ∃ t, t = r12 + P := ⟨_, rfl⟩
  have f3 : (r12 : Int) + (P : Int) = (t : Int) := by omega
  have f4 : IntKind.i64.wrap (t : Int) = (t : Int) := by rw [IntKind.wrap_i64]; omega
  have f5 : (t : Int) + (d20 : Int) = (s : Int) := by omega
  clear ht
  clear hS hs
  go_quiet (fail)
  simp only [alloc_draw]
  have hb' := below_draw HB.out nq
  rw [size_draw w20 nq]
  generalize w20.drewN nq = w21 at hb' ⊢
  clear HB
  have HB := Lib.hid hb'
  clear hb'
  go_wp2_with fail
  try rw [f7]
  try rw [f8]
  clear f1 f2 f6 f7 f8 bP f3 f4 f5
  rw [rounds_succ]
  go_wp2_with fail
  obtain ⟨P, s, r22, d22, hS, ⟨f1, f2, f6, f7, f8, bP, br22, bd22⟩, hs⟩ := St.make r13 a2 b2 d21 br13 p2 q2 bd21
  have H22 := Lib.hid hS
  obtain ⟨t, ht⟩ : ∃ t, t = r13 + P := ⟨_, rfl⟩
  have f3 : (r13 : Int) + (P : Int) = (t : Int) := by omega
  have f4 : IntKind.i64.wrap (t : Int) = (t : Int) := by rw [IntKind.wrap_i64]; omega
  have f5 : (t : Int) + (d21 : Int) = (s : Int) := by omega
  clear ht
  clear hS hs
  go_quiet (fail)
  simp only [alloc_draw]
  have hb' := below_draw HB.out nq
  rw [size_draw w21 nq]
  generalize w21.drewN nq = w22 at hb' ⊢
  clear HB
  have HB := Lib.hid hb'
  clear hb'
  go_wp2_with fail
  try rw [f7]
  try rw [f8]
  clear f1 f2 f6 f7 f8 bP f3 f4 f5
  rw [rounds_succ]
  go_wp2_with fail
  obtain ⟨P, s, r23, d23, hS, ⟨f1, f2, f6, f7, f8, bP, br23, bd23⟩, hs⟩ := St.make d13 a2 b3 d22 bd13 p2 q3 bd22
  have H23 := Lib.hid hS
  obtain ⟨t, ht⟩ : ∃ t, t = d13 + P := ⟨_, rfl⟩
  have f3 : (d13 : Int) + (P : Int) = (t : Int) := by omega
  have f4 : IntKind.i64.wrap (t : Int) = (t : Int) := by rw [IntKind.wrap_i64]; omega
  have f5 : (t : Int) + (d22 : Int) = (s : Int) := by omega
  clear ht
  clear hS hs
  go_quiet (fail)
  simp only [alloc_draw]
  have hb' := below_draw HB.out nq
  rw [size_draw w22 nq]
  generalize w22.drewN nq = w23 at hb' ⊢
  clear HB
  have HB := Lib.hid hb'
  clear hb'
  go_wp2_with fail
  try rw [f7]
  try rw [f8]
  clear f1 f2 f6 f7 f8 bP f3 f4 f5
  rw [rounds_succ]
  go_wp2_with fail
  rw [rounds_succ]
  go_wp2_with fail
  refine wp_loop_rounds 5 ?_
  rw [rounds_succ]
  go_wp2_with fail
  obtain ⟨P, s, r30, d30, hS, ⟨f1, f2, f6, f7, f8, bP, br30, bd30⟩, hs⟩ := St.make r21 a3 b0 0 br21 p3 q0 z0
  have H30 := Lib.hid hS
  have f3 : (r21 : Int) + (P : Int) = (s : Int) := by omega
  clear hS hs
  go_quiet (fail)
  simp only [alloc_draw]
  have hb' := below_draw HB.out nq
  rw [size_draw w23 nq]
  generalize w23.drewN nq = w30 at hb' ⊢
  clear HB
  have HB := Lib.hid hb'
  clear hb'
  go_wp2_with fail
  try rw [f7]
  try rw [f8]
  clear f1 f2 f6 f7 f8 bP f3
  rw [rounds_succ]
  go_wp2_with fail
  obtain ⟨P, s, r31, d31, hS, ⟨f1, f2, f6, f7, f8, bP, br31, bd31⟩, hs⟩ := St.make r22 a3 b1 d30 br22 p3 q1 bd30
  have H31 := Lib.hid hS
  obtain ⟨t, ht⟩ : ∃ t, t = r22 + P := ⟨_, rfl⟩
  have f3 : (r22 : Int) + (P : Int) = (t : Int) := by omega
  have f4 : IntKind.i64.wrap (t : Int) = (t : Int) := by rw [IntKind.wrap_i64]; omega
  have f5 : (t : Int) + (d30 : Int) = (s : Int) := by omega
  clear ht
  clear hS hs
  go_quiet (fail)
  simp only [alloc_draw]
  have hb' := below_draw HB.out nq
  rw [size_draw w30 nq]
  generalize w30.drewN nq = w31 at hb' ⊢
  clear HB
  have HB := Lib.hid hb'
  clear hb'
  go_wp2_with fail
  try rw [f7]
  try rw [f8]
  clear f1 f2 f6 f7 f8 bP f3 f4 f5
  rw [rounds_succ]
  go_wp2_with fail
  obtain ⟨P, s, r32, d32, hS, ⟨f1, f2, f6, f7, f8, bP, br32, bd32⟩, hs⟩ := St.make r23 a3 b2 d31 br23 p3 q2 bd31
  have H32 := Lib.hid hS
  obtain ⟨t, ht⟩ : ∃ t, t = r23 + P := ⟨_, rfl⟩
  have f3 : (r23 : Int) + (P : Int) = (t : Int) := by omega
  have f4 : IntKind.i64.wrap (t : Int) = (t : Int) := by rw [IntKind.wrap_i64]; omega
  have f5 : (t : Int) + (d31 : Int) = (s : Int) := by omega
  clear ht
  clear hS hs
  go_quiet (fail)
  simp only [alloc_draw]
  have hb' := below_draw HB.out nq
  rw [size_draw w31 nq]
  generalize w31.drewN nq = w32 at hb' ⊢
  clear HB
  have HB := Lib.hid hb'
  clear hb'
  go_wp2_with fail
  try rw [f7]
  try rw [f8]
  clear f1 f2 f6 f7 f8 bP f3 f4 f5
  rw [rounds_succ]
  go_wp2_with fail
  obtain ⟨P, s, r33, d33, hS, ⟨f1, f2, f6, f7, f8, bP, br33, bd33⟩, hs⟩ := St.make d23 a3 b3 d32 bd23 p3 q3 bd32
  have H33 := Lib.hid hS
  obtain ⟨t, ht⟩ : ∃ t, t = d23 + P := ⟨_, rfl⟩
  have f3 : (d23 : Int) + (P : Int) = (t : Int) := by omega
  have f4 : IntKind.i64.wrap (t : Int) = (t : Int) := by rw [IntKind.wrap_i64]; omega
  have f5 : (t : Int) + (d32 : Int) = (s : Int) := by omega
  clear ht
  clear hS hs
  go_quiet (fail)
  simp only [alloc_draw]
  have hb' := below_draw HB.out nq
  rw [size_draw w32 nq]
  generalize w32.drewN nq = w33 at hb' ⊢
  clear HB
  have HB := Lib.hid hb'
  clear hb'
  go_wp2_with fail
  try rw [f7]
  try rw [f8]
  clear f1 f2 f6 f7 f8 bP f3 f4 f5
  rw [rounds_succ]
  go_wp2_with fail
  rw [rounds_succ]
  go_wp2_with fail
  refine bodyPost_ret (v := bigV mn r00 r10 r20 r30 r31 r32 r33 d33) (by simp [results, Try.results57, go_sem]) rfl ⟨⟨r00, r10, r20, r30, r31, r32, r33, d33, rfl, ⟨br00, br10, br20, br30, br31, br32, br33, bd33⟩, ?_⟩, HB.out.trans ((below4 _ _ _ _ _).mono HB.out.size)⟩
  have e0 := row4 H00.out H01.out H02.out H03.out
  have e1 := row4 H10.out H11.out H12.out H13.out
  have e2 := row4 H20.out H21.out H22.out H23.out
  have e3 := row4 H30.out H31.out H32.out H33.out
  have e4 := four_rows (a0 := a0) (a1 := a1) (a2 := a2) (a3 := a3) (b := b0 + 65536 * (b1 + 65536 * (b2 + 65536 * b3)))
  have ea : vl8 a0 a1 a2 a3 0 0 0 0 = a0 + 65536 * (a1 + 65536 * (a2 + 65536 * a3)) := by unfold vl8; omega
  have eb : vl8 b0 b1 b2 b3 0 0 0 0 = b0 + 65536 * (b1 + 65536 * (b2 + 65536 * b3)) := by unfold vl8; omega
  rw [ea, eb, e4]
  generalize a0 * (b0 + 65536 * (b1 + 65536 * (b2 + 65536 * b3))) = x0 at *
  generalize a1 * (b0 + 65536 * (b1 + 65536 * (b2 + 65536 * b3))) = x1 at *
  generalize a2 * (b0 + 65536 * (b1 + 65536 * (b2 + 65536 * b3))) = x2 at *
  generalize a3 * (b0 + 65536 * (b1 + 65536 * (b2 + 65536 * b3))) = x3 at *
  unfold vl8
  clear e4 ea eb
  omega
end Go.Proofs.Ytefaagacgoohjaa

/- The reference's plus and square: whole numbers without their signs. -/
import Derived.Test.YtefaagacgoohjaaVRef
namespace Go.Proofs.Ytefaagacgoohjaa
open Go.RowKit

/-- One step of the sum: what is added, its digit, what goes over. -/
structure Ps (a b c t s r d : Nat) : Prop where
  f1 : (a : Int) + (b : Int) = (t : Int)
  f2 : (t : Int) + (c : Int) = (s : Int)
  f3 : IntKind.i64.wrap (t : Int) = (t : Int)
  f4 : IntKind.i64.wrap (s : Int) = (s : Int)
  f7 : (s : Int) % 65536 = (r : Int)
  f8 : (s : Int) / 65536 = (d : Int)
  br : r < 65536
  bd : d < 65536
  eq : r + 65536 * d = a + b + c
theorem Ps.make (a b c : Nat) (ha : a < 65536) (hb : b < 65536) (hc : c < 65536) : ∃ t s r d : Nat, Ps a b c t s r d := by
  refine ⟨a + b, a + b + c, (a + b + c) % 65536, (a + b + c) / 65536, ⟨by omega, by omega, ?_, ?_, by omega, by omega, by omega, by omega, by omega⟩⟩
  · exact IntWalk.i64_in _ (by omega)
  · exact IntWalk.i64_in _ (by omega)

theorem ps0 {t s : Nat} (h : (t : Int) + ((0 : Nat) : Int) = (s : Int)) : t = s := by omega
theorem sum2 {A B R a b c r d e : Nat} (h0 : r + 65536 * d = a + b + c) (h1 : R = A + B + d) (he : e = r + 65536 * R) : e = (a + 65536 * A) + (b + 65536 * B) + c := by omega
theorem sum8 {a0 a1 a2 a3 a4 a5 a6 a7 b0 b1 b2 b3 b4 b5 b6 b7 r0 r1 r2 r3 r4 r5 r6 r7 d0 d1 d2 d3 d4 d5 d6 d7 : Nat} (h0 : r0 + 65536 * d0 = a0 + b0 + 0) (h1 : r1 + 65536 * d1 = a1 + b1 + d0) (h2 : r2 + 65536 * d2 = a2 + b2 + d1) (h3 : r3 + 65536 * d3 = a3 + b3 + d2) (h4 : r4 + 65536 * d4 = a4 + b4 + d3) (h5 : r5 + 65536 * d5 = a5 + b5 + d4) (h6 : r6 + 65536 * d6 = a6 + b6 + d5) (h7 : r7 + 65536 * d7 = a7 + b7 + d6) :
    vl8 r0 r1 r2 r3 r4 r5 r6 r7 + 340282366920938463463374607431768211456 * d7 = vl8 a0 a1 a2 a3 a4 a5 a6 a7 + vl8 b0 b1 b2 b3 b4 b5 b6 b7 := by
  have k := sum2 h0 (sum2 h1 (sum2 h2 (sum2 h3 (sum2 h4 (sum2 h5 (sum2 h6 h7 rfl) rfl) rfl) rfl) rfl) rfl) rfl
  unfold vl8
  rw [Nat.add_zero] at k
  rw [← k]
  clear k h0 h1 h2 h3 h4 h5 h6 h7
  omega

set_option maxRecDepth 100000 in
set_option maxHeartbeats 4000000 in
theorem rplus_c (m n : Bool) (a0 a1 a2 a3 a4 a5 a6 a7 b0 b1 b2 b3 b4 b5 b6 b7 : Nat) (w : World) (ha : Dig8 a0 a1 a2 a3 a4 a5 a6 a7) (hb : Dig8 b0 b1 b2 b3 b4 b5 b6 b7) (hs : vl8 a0 a1 a2 a3 a4 a5 a6 a7 + vl8 b0 b1 b2 b3 b4 b5 b6 b7 < 340282366920938463463374607431768211456) :
    Calls Try.prog 42 #[bigV m a0 a1 a2 a3 a4 a5 a6 a7, bigV n b0 b1 b2 b3 b4 b5 b6 b7] w fun e w' => (∃ c0 c1 c2 c3 c4 c5 c6 c7 : Nat, e = .returned (bigV false c0 c1 c2 c3 c4 c5 c6 c7) ∧ Dig8 c0 c1 c2 c3 c4 c5 c6 c7 ∧ vl8 c0 c1 c2 c3 c4 c5 c6 c7 = vl8 a0 a1 a2 a3 a4 a5 a6 a7 + vl8 b0 b1 b2 b3 b4 b5 b6 b7) ∧ Below w.heap.size w w' := by
  have HS := Lib.hid hs
  have HA := Lib.hid ha
  have HD := Lib.hid hb
  have HB := Lib.hid (Below.refl w.heap.size w)
  clear hs ha hb
  go_enter Try.func42, Try.ntmps42
  go_wp2_with fail
  refine wp_loop_rounds 9 ?_
  rw [rounds_succ]
  go_wp2_with fail
  obtain ⟨t, s, r0, d0, hp⟩ := Ps.make a0 b0 0 HA.out.1 HD.out.1 (by omega)
  have H0 := Lib.hid hp
  obtain ⟨f1, f2, f3, f4, f7, f8, br, bd, -⟩ := hp
  obtain rfl : t = s := ps0 f2
  clear f2
  go_quiet (fail)
  simp only [alloc_draw]
  have hb' := below_draw HB.out nq
  rw [size_draw w nq]
  generalize w.drewN nq = w0 at hb' ⊢
  clear HB
  have HB := Lib.hid hb'
  clear hb'
  go_wp2_with fail
  try rw [f7]
  try rw [f8]
  clear f1 f3 f4 f7 f8
  rw [rounds_succ]
  go_wp2_with fail
  obtain ⟨t, s, r1, d1, hp⟩ := Ps.make a1 b1 d0 HA.out.2.1 HD.out.2.1 H0.out.bd
  have H1 := Lib.hid hp
  obtain ⟨f1, f2, f3, f4, f7, f8, br, bd, -⟩ := hp
  go_quiet (fail)
  simp only [alloc_draw]
  have hb' := below_draw HB.out nq
  rw [size_draw w0 nq]
  generalize w0.drewN nq = w1 at hb' ⊢
  clear HB
  have HB := Lib.hid hb'
  clear hb'
  go_wp2_with fail
  try rw [f7]
  try rw [f8]
  clear f1 f2 f3 f4 f7 f8
  rw [rounds_succ]
  go_wp2_with fail
  obtain ⟨t, s, r2, d2, hp⟩ := Ps.make a2 b2 d1 HA.out.2.2.1 HD.out.2.2.1 H1.out.bd
  have H2 := Lib.hid hp
  obtain ⟨f1, f2, f3, f4, f7, f8, br, bd, -⟩ := hp
  go_quiet (fail)
  simp only [alloc_draw]
  have hb' := below_draw HB.out nq
  rw [size_draw w1 nq]
  generalize w1.drewN nq = w2 at hb' ⊢
  clear HB
  have HB := Lib.hid hb'
  clear hb'
  go_wp2_with fail
  try rw [f7]
  try rw [f8]
  clear f1 f2 f3 f4 f7 f8
  rw [rounds_succ]
  go_wp2_with fail
  obtain ⟨t, s, r3, d3, hp⟩ := Ps.make a3 b3 d2 HA.out.2.2.2.1 HD.out.2.2.2.1 H2.out.bd
  have H3 := Lib.hid hp
  obtain ⟨f1, f2, f3, f4, f7, f8, br, bd, -⟩ := hp
  go_quiet (fail)
  simp only [alloc_draw]
  have hb' := below_draw HB.out nq
  rw [size_draw w2 nq]
  generalize w2.drewN nq = w3 at hb' ⊢
  clear HB
  have HB := Lib.hid hb'
  clear hb'
  go_wp2_with fail
  try rw [f7]
  try rw [f8]
  clear f1 f2 f3 f4 f7 f8
  rw [rounds_succ]
  go_wp2_with fail
  obtain ⟨t, s, r4, d4, hp⟩ := Ps.make a4 b4 d3 HA.out.2.2.2.2.1 HD.out.2.2.2.2.1 H3.out.bd
  have H4 := Lib.hid hp
  obtain ⟨f1, f2, f3, f4, f7, f8, br, bd, -⟩ := hp
  go_quiet (fail)
  simp only [alloc_draw]
  have hb' := below_draw HB.out nq
  rw [size_draw w3 nq]
  generalize w3.drewN nq = w4 at hb' ⊢
  clear HB
  have HB := Lib.hid hb'
  clear hb'
  go_wp2_with fail
  try rw [f7]
  try rw [f8]
  clear f1 f2 f3 f4 f7 f8
  rw [rounds_succ]
  go_wp2_with fail
  obtain ⟨t, s, r5, d5, hp⟩ := Ps.make a5 b5 d4 HA.out.2.2.2.2.2.1 HD.out.2.2.2.2.2.1 H4.out.bd
  have H5 := Lib.hid hp
  obtain ⟨f1, f2, f3, f4, f7, f8, br, bd, -⟩ := hp
  go_quiet (fail)
  simp only [alloc_draw]
  have hb' := below_draw HB.out nq
  rw [size_draw w4 nq]
  generalize w4.drewN nq = w5 at hb' ⊢
  clear HB
  have HB := Lib.hid hb'
  clear hb'
  go_wp2_with fail
  try rw [f7]
  try rw [f8]
  clear f1 f2 f3 f4 f7 f8
  rw [rounds_succ]
  go_wp2_with fail
  obtain ⟨t, s, r6, d6, hp⟩ := Ps.make a6 b6 d5 HA.out.2.2.2.2.2.2.1 HD.out.2.2.2.2.2.2.1 H5.out.bd
  have H6 := Lib.hid hp
  obtain ⟨f1, f2, f3, f4, f7, f8, br, bd, -⟩ := hp
  go_quiet (fail)
  simp only [alloc_draw]
  have hb' := below_draw HB.out nq
  rw [size_draw w5 nq]
  generalize w5.drewN nq = w6 at hb' ⊢
  clear HB
  have HB := Lib.hid hb'
  clear hb'
  go_wp2_with fail
  try rw [f7]
  try rw [f8]
  clear f1 f2 f3 f4 f7 f8
  rw [rounds_succ]
  go_wp2_with fail
  obtain ⟨t, s, r7, d7, hp⟩ := Ps.make a7 b7 d6 HA.out.2.2.2.2.2.2.2 HD.out.2.2.2.2.2.2.2 H6.out.bd
  have H7 := Lib.hid hp
  obtain ⟨f1, f2, f3, f4, f7, f8, br, bd, -⟩ := hp
  go_quiet (fail)
  simp only [alloc_draw]
  have hb' := below_draw HB.out nq
  rw [size_draw w6 nq]
  generalize w6.drewN nq = w7 at hb' ⊢
  clear HB
  have HB := Lib.hid hb'
  clear hb'
  go_wp2_with fail
  try rw [f7]
  try rw [f8]
  clear f1 f2 f3 f4 f7 f8
  rw [rounds_succ]
  go_wp2_with fail
  have e := sum8 H0.out.eq H1.out.eq H2.out.eq H3.out.eq H4.out.eq H5.out.eq H6.out.eq H7.out.eq
  have hs := HS.out
  refine bodyPost_ret (v := bigV false r0 r1 r2 r3 r4 r5 r6 r7) (by simp [results, Try.results42, go_sem]) rfl ⟨⟨r0, r1, r2, r3, r4, r5, r6, r7, rfl, ⟨H0.out.br, H1.out.br, H2.out.br, H3.out.br, H4.out.br, H5.out.br, H6.out.br, H7.out.br⟩, ?_⟩, HB.out.trans ((below4 _ _ _ _ _).mono HB.out.size)⟩
  generalize vl8 a0 a1 a2 a3 a4 a5 a6 a7 = va at *
  generalize vl8 b0 b1 b2 b3 b4 b5 b6 b7 = vb at *
  generalize vl8 r0 r1 r2 r3 r4 r5 r6 r7 = vr at *
  clear H0 H1 H2 H3 H4 H5 H6 H7
  omega
end Go.Proofs.Ytefaagacgoohjaa

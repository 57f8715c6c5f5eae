/- The reference's double. -/
import Derived.Test.YtebabgonffbdhaaDoorCmp
import Derived.Deep.DeepCutAuto
namespace Go.Proofs.YtebabgonffbdhaaDoor
open Go.RowKit


theorem dbl_make (a c : Nat) (ha : a < 65536) (hc : c ≤ 1) : ∃ s r d : Nat, 2 * (a : Int) + (c : Int) = (s : Int) ∧ (s : Int) % 65536 = (r : Int) ∧ (s : Int) / 65536 = (d : Int) ∧ s < 131072 ∧ r < 65536 ∧ d ≤ 1 ∧ r + 65536 * d = 2 * a + c :=
  ⟨2 * a + c, (2 * a + c) % 65536, (2 * a + c) / 65536, by omega, by omega, by omega, by omega, by omega, by omega, by omega⟩

set_option maxRecDepth 100000 in
set_option maxHeartbeats 4000000 in
theorem double_c (m : Bool) (a0 a1 a2 a3 a4 a5 a6 a7 more : Nat) (w : World) (ha : Dig8 a0 a1 a2 a3 a4 a5 a6 a7) (hm : more ≤ 1) (hv : 2 * vl8 a0 a1 a2 a3 a4 a5 a6 a7 + more < 340282366920938463463374607431768211456) :
    Calls Tryd.prog 49 #[bigV m a0 a1 a2 a3 a4 a5 a6 a7, .int .i64 (more : Int)] w fun e w' => (∃ c0 c1 c2 c3 c4 c5 c6 c7 : Nat, e = .returned (bigV m c0 c1 c2 c3 c4 c5 c6 c7) ∧ Dig8 c0 c1 c2 c3 c4 c5 c6 c7 ∧ vl8 c0 c1 c2 c3 c4 c5 c6 c7 = 2 * vl8 a0 a1 a2 a3 a4 a5 a6 a7 + more) ∧ Below w.heap.size w w' := by
  obtain ⟨p0, p1, p2, p3, p4, p5, p6, p7⟩ := ha
  have HV := Lib.hid hv
  have HM := Lib.hid hm
  clear hv hm
  go_enter Tryd.func49, Tryd.ntmps49
  go_wp2_with fail
  refine wp_loop_rounds 9 ?_
  obtain ⟨s, r0, d0, f1, f7, f8, bs, br, bd, he⟩ := dbl_make a0 more p0 HM.out
  have R0 := Lib.hid br
  have D0 := Lib.hid bd
  have E0 := Lib.hid he
  clear br bd he
  rw [rounds_succ]
  go_wp2_with fail
  try rw [f7]
  try rw [f8]
  clear f1 f7 f8 bs
  obtain ⟨s, r1, d1, f1, f7, f8, bs, br, bd, he⟩ := dbl_make a1 d0 p1 D0.out
  have R1 := Lib.hid br
  have D1 := Lib.hid bd
  have E1 := Lib.hid he
  clear br bd he
  rw [rounds_succ]
  go_wp2_with fail
  try rw [f7]
  try rw [f8]
  clear f1 f7 f8 bs
  obtain ⟨s, r2, d2, f1, f7, f8, bs, br, bd, he⟩ := dbl_make a2 d1 p2 D1.out
  have R2 := Lib.hid br
  have D2 := Lib.hid bd
  have E2 := Lib.hid he
  clear br bd he
  rw [rounds_succ]
  go_wp2_with fail
  try rw [f7]
  try rw [f8]
  clear f1 f7 f8 bs
  obtain ⟨s, r3, d3, f1, f7, f8, bs, br, bd, he⟩ := dbl_make a3 d2 p3 D2.out
  have R3 := Lib.hid br
  have D3 := Lib.hid bd
  have E3 := Lib.hid he
  clear br bd he
  rw [rounds_succ]
  go_wp2_with fail
  try rw [f7]
  try rw [f8]
  clear f1 f7 f8 bs
  obtain ⟨s, r4, d4, f1, f7, f8, bs, br, bd, he⟩ := dbl_make a4 d3 p4 D3.out
  have R4 := Lib.hid br
  have D4 := Lib.hid bd
  have E4 := Lib.hid he
  clear br bd he
  rw [rounds_succ]
  go_wp2_with fail
  try rw [f7]
  try rw [f8]
  clear f1 f7 f8 bs
  obtain ⟨s, r5, d5, f1, f7, f8, bs, br, bd, he⟩ := dbl_make a5 d4 p5 D4.out
  have R5 := Lib.hid br
  have D5 := Lib.hid bd
  have E5 := Lib.hid he
  clear br bd he
  rw [rounds_succ]
  go_wp2_with fail
  try rw [f7]
  try rw [f8]
  clear f1 f7 f8 bs
  obtain ⟨s, r6, d6, f1, f7, f8, bs, br, bd, he⟩ := dbl_make a6 d5 p6 D5.out
  have R6 := Lib.hid br
  have D6 := Lib.hid bd
  have E6 := Lib.hid he
  clear br bd he
  rw [rounds_succ]
  go_wp2_with fail
  try rw [f7]
  try rw [f8]
  clear f1 f7 f8 bs
  obtain ⟨s, r7, d7, f1, f7, f8, bs, br, bd, he⟩ := dbl_make a7 d6 p7 D6.out
  have R7 := Lib.hid br
  have D7 := Lib.hid bd
  have E7 := Lib.hid he
  clear br bd he
  rw [rounds_succ]
  go_wp2_with fail
  try rw [f7]
  try rw [f8]
  clear f1 f7 f8 bs
  rw [rounds_succ]
  go_wp2_with fail
  refine bodyPost_ret (v := bigV m r0 r1 r2 r3 r4 r5 r6 r7) (by simp [results, Tryd.results49, go_sem]) rfl ⟨⟨r0, r1, r2, r3, r4, r5, r6, r7, rfl, ⟨R0.out, R1.out, R2.out, R3.out, R4.out, R5.out, R6.out, R7.out⟩, ?_⟩, below2 _ _ _⟩
  have hv := HV.out
  have e0 := E0.out; have d0_ := D0.out; have r0_ := R0.out
  have e1 := E1.out; have d1_ := D1.out; have r1_ := R1.out
  have e2 := E2.out; have d2_ := D2.out; have r2_ := R2.out
  have e3 := E3.out; have d3_ := D3.out; have r3_ := R3.out
  have e4 := E4.out; have d4_ := D4.out; have r4_ := R4.out
  have e5 := E5.out; have d5_ := D5.out; have r5_ := R5.out
  have e6 := E6.out; have d6_ := D6.out; have r6_ := R6.out
  have e7 := E7.out; have d7_ := D7.out; have r7_ := R7.out
  unfold vl8 at *
  omega

end Go.Proofs.YtebabgonffbdhaaDoor

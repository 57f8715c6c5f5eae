/- The contract of awake: the document's examples come out right. -/
import Derived.Test.YtefaagacgoohjaaVLong
namespace Go.Proofs.Ytefaagacgoohjaa
open Go.RowKit

theorem i64 {a : Int} (h : -9223372036854775808 ≤ a) (k : a < 9223372036854775808) : I64 a := ⟨h, k⟩
theorem x_l : IsLong (sqs 3 4) 5 := ⟨by decide, by decide, .inl (by decide)⟩
theorem x_c1 : clampF 5 6 = 5 := by decide
theorem x_c2 : clampF (-7) 6 = -6 := by decide
theorem x_a1 : addF 1 2 = 3 := by decide
theorem x_a2 : addF 9223372036854775807 1 = 9223372036854775807 := by decide
theorem x_d : dotF 8589934592 4294967296 12884901888 17179869184 = 42949672960 := by decide
theorem x_n : (nearF 0 3 3 && nearF 0 (-3) 3) = true := by decide
theorem x_m1 : midF 1 2 = 1 := by decide
theorem x_m2 : midF (-1) (-2) = -2 := by decide

set_option maxHeartbeats 1000000 in
set_option maxRecDepth 100000 in
theorem awake_c (w : World) : Calls Try.prog 8 #[] w fun e w' => e = .returned (.bool true) ∧ Below w.heap.size w w' := by
  have C1 := Lib.hid (fun w => vclamp_c 5 (-7) 6 w (i64 (by decide) (by decide)) (by decide))
  have C2 := Lib.hid (fun w => vclamp_neg 0 0 (-1) w (by decide))
  have C3 := Lib.hid (fun w => vadd_c 1 9223372036854775807 2 1 w (i64 (by decide) (by decide)) (i64 (by decide) (by decide)) (i64 (by decide) (by decide)) (i64 (by decide) (by decide)))
  have C4 := Lib.hid (fun w => vdot_c 8589934592 4294967296 12884901888 17179869184 w (i64 (by decide) (by decide)) (i64 (by decide) (by decide)) (i64 (by decide) (by decide)) (i64 (by decide) (by decide)))
  have C5 := Lib.hid (fun w => vlong_c 3 4 5 w (i64 (by decide) (by decide)) (i64 (by decide) (by decide)) x_l)
  have C6 := Lib.hid (fun w => vnear_c 0 0 3 (-3) 3 w (i64 (by decide) (by decide)) (i64 (by decide) (by decide)) (i64 (by decide) (by decide)) (i64 (by decide) (by decide)) (i64 (by decide) (by decide)) (by decide))
  have C7 := Lib.hid (fun w => vmean_c 1 (-1) 2 (-2) w (i64 (by decide) (by decide)) (i64 (by decide) (by decide)) (i64 (by decide) (by decide)) (i64 (by decide) (by decide)))
  rw [x_c1, x_c2] at C1
  rw [x_a1, x_a2] at C3
  rw [x_d] at C4
  rw [x_n] at C6
  rw [x_m1, x_m2] at C7
  go_enter Try.func8, Try.ntmps8
  go_wp2_with fail
  refine (C1.out _).mono ?_
  rintro e w1 ⟨rfl, hb⟩
  have HB1 := Lib.hid hb
  clear hb
  go_wp2_with fail
  refine (C2.out _).mono ?_
  rintro e w2 ⟨rfl, hb⟩
  have hk : Blk w2 w1.heap.size 23 #[.int .i64 5, .int .i64 (-6)] := (Blk.new w1 23 _).below hb (by simp)
  have HK := Lib.hid (show Blk w2 w1.heap.size 23 #[.int .i64 5, .int .i64 (-6)] from hk)
  have HB2 := Lib.hid (vbt (HB1.out.alloc HB1.out.size _) hb)
  clear hb hk HB1
  generalize w1.heap.size = g at *
  go_wp2_with fail
  refine (C3.out _).mono ?_
  rintro e w3 ⟨rfl, hb⟩
  have hk := (HK.out.alloc _).below hb (HK.out.alloc _).lt
  have HK3 := Lib.hid hk
  have HB3 := Lib.hid (vbt (HB2.out.alloc HB2.out.size _) hb)
  clear hb hk HB2 HK
  go_wp2_with fail
  refine (C4.out _).mono ?_
  rintro e w4 ⟨rfl, hb⟩
  have HK4 := Lib.hid (HK3.out.below hb HK3.out.lt)
  have HB4 := Lib.hid (vbt HB3.out hb)
  clear hb HB3 HK3
  go_wp2_with fail
  refine (C5.out _).mono ?_
  rintro e w5 ⟨rfl, hb⟩
  have hk := HK4.out.below hb HK4.out.lt
  have c0 : w5.cell? ⟨g, 0, none⟩ = some (.int .i64 5) := hk.cell 0
  have c1 : w5.cell? ⟨g, 1, none⟩ = some (.int .i64 (-6)) := hk.cell 1
  have HB5 := Lib.hid (vbt HB4.out hb)
  clear hb HB4 HK4 hk
  go_wp2_with fail
  refine (C6.out _).mono ?_
  rintro e w6 ⟨rfl, hb⟩
  have HB6 := Lib.hid (vbt HB5.out hb)
  clear hb HB5
  go_wp2_with fail
  refine (C7.out _).mono ?_
  rintro e w7 ⟨rfl, hb⟩
  have HB7 := Lib.hid (vbt HB6.out hb)
  clear hb HB6
  go_wp2_with fail
  go_ret
  exact ⟨rfl, HB7.out⟩
end Go.Proofs.Ytefaagacgoohjaa

/- The reference's Add, Sub, Mul, From and To answer as the program's. -/
import Derived.Test.YtefaagacgoohjaaTimes
import Derived.Test.YtefaagacgoohjaaStop
namespace Go.Proofs.Ytefaagacgoohjaa
open Go.RowKit

theorem radd_c (a b : Int) (w : World) (h1 : -9223372036854775808 ≤ a) (h2 : a < 9223372036854775808) (h3 : -9223372036854775808 ≤ b) (h4 : b < 9223372036854775808) :
    Calls Try.prog 32 #[.int .i64 a, .int .i64 b] w fun e w' => e = .returned (.int .i64 (addF a b)) ∧ w = w' := by
  unfold addF sat
  by_cases k1 : 9223372036854775807 < a + b
  · have d1 : 0 < b := by omega
    have d2 : 9223372036854775807 - b < a := by omega
    rw [if_neg (by omega), if_pos k1]
    clear k1
    go_enter Try.func32, Try.ntmps32
    go_wp2_with fail
    go_ret
    exact ⟨rfl, rfl⟩
  by_cases k2 : a + b < -9223372036854775808
  · have d1 : b < 0 := by omega
    have d2 : a < -9223372036854775808 - b := by omega
    rw [if_pos k2]
    clear k1 k2
    go_enter Try.func32, Try.ntmps32
    go_wp2_with fail
    go_ret
    exact ⟨rfl, rfl⟩
  rw [if_neg k2, if_neg k1]
  by_cases k3 : 0 < b
  · have d2 : a ≤ 9223372036854775807 - b := by omega
    go_enter Try.func32, Try.ntmps32
    go_wp2_with fail
    go_ret
    exact ⟨rfl, rfl⟩
  by_cases k4 : b < 0
  · have d2 : -9223372036854775808 - b ≤ a := by omega
    go_enter Try.func32, Try.ntmps32
    go_wp2_with fail
    go_ret
    exact ⟨rfl, rfl⟩
  · obtain rfl : b = 0 := by omega
    go_enter Try.func32, Try.ntmps32
    go_wp2_with fail
    go_ret
    exact ⟨by simp, rfl⟩

theorem rsub_c (a b : Int) (w : World) (h1 : -9223372036854775808 ≤ a) (h2 : a < 9223372036854775808) (h3 : -9223372036854775808 ≤ b) (h4 : b < 9223372036854775808) :
    Calls Try.prog 34 #[.int .i64 a, .int .i64 b] w fun e w' => e = .returned (.int .i64 (subF a b)) ∧ w = w' := by
  unfold subF sat
  by_cases k1 : 9223372036854775807 < a - b
  · have d1 : b < 0 := by omega
    have d2 : 9223372036854775807 + b < a := by omega
    rw [if_neg (by omega), if_pos k1]
    clear k1
    go_enter Try.func34, Try.ntmps34
    go_wp2_with fail
    go_ret
    exact ⟨rfl, rfl⟩
  by_cases k2 : a - b < -9223372036854775808
  · have d1 : 0 < b := by omega
    have d2 : a < -9223372036854775808 + b := by omega
    rw [if_pos k2]
    clear k1 k2
    go_enter Try.func34, Try.ntmps34
    go_wp2_with fail
    go_ret
    exact ⟨rfl, rfl⟩
  rw [if_neg k2, if_neg k1]
  by_cases k3 : 0 < b
  · have d2 : -9223372036854775808 + b ≤ a := by omega
    go_enter Try.func34, Try.ntmps34
    go_wp2_with fail
    go_ret
    exact ⟨rfl, rfl⟩
  by_cases k4 : b < 0
  · have d2 : a ≤ 9223372036854775807 + b := by omega
    go_enter Try.func34, Try.ntmps34
    go_wp2_with fail
    go_ret
    exact ⟨rfl, rfl⟩
  · obtain rfl : b = 0 := by omega
    go_enter Try.func34, Try.ntmps34
    go_wp2_with fail
    go_ret
    exact ⟨by simp, rfl⟩

theorem of_dig (u : Nat) : Dig8 (u % 65536) (u / 65536 % 65536) (u / 65536 / 65536 % 65536) (u / 65536 / 65536 / 65536 % 65536) 0 0 0 0 := by unfold Dig8; omega
theorem of_vl {u : Nat} (h : u ≤ 9223372036854775808) : vl8 (u % 65536) (u / 65536 % 65536) (u / 65536 / 65536 % 65536) (u / 65536 / 65536 / 65536 % 65536) 0 0 0 0 = u := by unfold vl8; omega
/-- Of, with its digits under names. -/
theorem of_any (n : Int) (w : World) (h1 : -9223372036854775808 ≤ n) (h2 : n < 9223372036854775808) :
    Calls Try.prog 58 #[.int .i64 n] w fun e w' => (∃ d0 d1 d2 d3 : Nat, e = .returned (bigV (decide (n < 0)) d0 d1 d2 d3 0 0 0 0) ∧ Dig8 d0 d1 d2 d3 0 0 0 0 ∧ vl8 d0 d1 d2 d3 0 0 0 0 = n.natAbs) ∧ Below w.heap.size w w' :=
  (of_c n w h1 h2).mono fun _ _ ⟨he, hb⟩ => ⟨⟨_, _, _, _, he, of_dig _, of_vl (by omega)⟩, hb⟩
theorem up_vl (d0 d1 d2 d3 : Nat) : vl8 0 0 d0 d1 d2 d3 0 0 = vl8 d0 d1 d2 d3 0 0 0 0 * 4294967296 := by unfold vl8; omega
theorem up_dig {d0 d1 d2 d3 : Nat} (h : Dig8 d0 d1 d2 d3 0 0 0 0) : Dig8 0 0 d0 d1 d2 d3 0 0 := by unfold Dig8 at *; omega
theorem down_vl {c0 c1 c2 c3 c4 c5 c6 c7 : Nat} (h : Dig8 c0 c1 c2 c3 c4 c5 c6 c7) : vl8 c2 c3 c4 c5 c6 c7 0 0 = vl8 c0 c1 c2 c3 c4 c5 c6 c7 / 4294967296 := by unfold Dig8 at h; unfold vl8; omega
theorem down_dig {c0 c1 c2 c3 c4 c5 c6 c7 : Nat} (h : Dig8 c0 c1 c2 c3 c4 c5 c6 c7) : Dig8 c2 c3 c4 c5 c6 c7 0 0 := by unfold Dig8 at *; omega
theorem bt {w w1 w2 : World} (h : Below w.heap.size w w1) (k : Below w1.heap.size w1 w2) : Below w.heap.size w w2 := h.trans (k.mono h.size)

theorem sat_sg_from (n : Int) : sat (sg (decide (n < 0)) (n.natAbs * 4294967296)) = fromF n := by
  unfold fromF
  congr 1
  unfold sg
  by_cases h : n < 0
  · simp [h]; omega
  · simp [h]; omega
theorem sat_sg_to {a : Int} (h1 : -9223372036854775808 ≤ a) (h2 : a < 9223372036854775808) : sat (sg (decide (a < 0)) (a.natAbs / 4294967296)) = tq a := by
  have : sg (decide (a < 0)) (a.natAbs / 4294967296) = tq a := by
    unfold sg tq
    by_cases h : a < 0
    · simp [h]; omega
    · simp [h]; omega
  rw [this]
  have : -9223372036854775808 ≤ tq a ∧ tq a < 9223372036854775808 := by unfold tq; split <;> omega
  rw [sat_id this.1 this.2]

theorem rmul_c (a b : Int) (w : World) (h1 : -9223372036854775808 ≤ a) (h2 : a < 9223372036854775808) (h3 : -9223372036854775808 ≤ b) (h4 : b < 9223372036854775808) :
    Calls Try.prog 37 #[.int .i64 a, .int .i64 b] w fun e w' => e = .returned (.int .i64 (mulF a b)) ∧ Below w.heap.size w w' := by
  go_enter Try.func37, Try.ntmps37
  go_wp2_with fail
  refine (of_any a w h1 h2).mono ?_
  rintro e w1 ⟨⟨a0, a1, a2, a3, rfl, da, va⟩, hb1⟩
  have HA := Lib.hid (And.intro da va)
  have HB1 := Lib.hid hb1
  clear da va hb1
  go_wp2_with fail
  refine (of_any b w1 h3 h4).mono ?_
  rintro e w2 ⟨⟨b0, b1, b2, b3, rfl, db, vb⟩, hb2⟩
  have HBb := Lib.hid (And.intro db vb)
  have HB2 := Lib.hid (bt HB1.out hb2)
  clear db vb hb2
  go_wp2_with fail
  refine (times_big _ _ a0 a1 a2 a3 b0 b1 b2 b3 w2 HA.out.1 HBb.out.1).mono ?_
  rintro e w3 ⟨⟨c0, c1, c2, c3, c4, c5, c6, c7, rfl, dc, vc⟩, hb3⟩
  rw [HA.out.2, HBb.out.2] at vc
  have HC := Lib.hid (And.intro dc vc)
  have HB3 := Lib.hid (bt HB2.out hb3)
  clear dc vc hb3
  go_wp2_with fail
  refine (shift_down _ c0 c1 c2 c3 c4 c5 c6 c7 w3).mono ?_
  rintro e w4 ⟨rfl, hb4⟩
  have HB4 := Lib.hid (bt HB3.out hb4)
  clear hb4
  go_wp2_with fail
  refine (stop_c _ c2 c3 c4 c5 c6 c7 0 0 w4 (down_dig HC.out.1)).mono ?_
  rintro e w5 ⟨rfl, hb5⟩
  have HB5 := Lib.hid (bt HB4.out hb5)
  rw [down_vl HC.out.1, HC.out.2]
  clear hb5
  go_wp2_with fail
  go_ret
  exact ⟨rfl, HB5.out⟩

end Go.Proofs.Ytefaagacgoohjaa

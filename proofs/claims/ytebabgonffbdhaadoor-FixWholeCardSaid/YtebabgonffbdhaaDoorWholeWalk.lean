/- The walk of FixWhole: whole numbers, there and back. -/
import Derived.Test.YtebabgonffbdhaaDoorAwake
import Derived.Deep.DeepCutAuto
namespace Go.Proofs.YtebabgonffbdhaaDoor
open Go.RowKit

theorem to_from {n : Int} (h1 : n ≤ 2147483647) (h2 : -2147483648 ≤ n) : tq (fromF n) = n := by
  unfold fromF
  rw [sat_id (by omega) (by omega)]
  unfold tq
  split <;> omega
theorem rest_of {a : Int} (h1 : -9223372036854775808 ≤ a) (h2 : a < 9223372036854775808) :
    subF a (fromF (tq a)) < 4294967296 ∧ -4294967296 < subF a (fromF (tq a)) ∧ (0 ≤ subF a (fromF (tq a)) ∨ a < 0) ∧ (subF a (fromF (tq a)) ≤ 0 ∨ 0 < a) ∧ -9223372036854775808 ≤ tq a ∧ tq a < 9223372036854775808 := by
  have ht : -2147483648 ≤ tq a ∧ tq a ≤ 2147483647 ∧ (a < 0 → a ≤ tq a * 4294967296 ∧ tq a * 4294967296 < a + 4294967296) ∧ (0 ≤ a → tq a * 4294967296 ≤ a ∧ a < tq a * 4294967296 + 4294967296) := by
    unfold tq
    split <;> omega
  generalize tq a = t at *
  have e : fromF t = t * 4294967296 := by unfold fromF; rw [sat_id (by omega) (by omega)]
  rw [e]
  unfold subF
  rw [sat_id (by omega) (by omega)]
  omega

set_option maxHeartbeats 1000000 in
set_option maxRecDepth 100000 in
theorem whole_walk (n a : Int) (w : World) (ht : Tab w) (n1 : -9223372036854775808 ≤ n) (n2 : n < 9223372036854775808) (h1 : -9223372036854775808 ≤ a) (h2 : a < 9223372036854775808) :
    Calls Tryd.prog 7 #[.int .i64 n, .int .i64 a] w fun e w' => e = .returned (.bool true) ∧ Below w.heap.size w w' := by
  have HT := Lib.hid ht
  clear ht
  go_enter Tryd.func7, Tryd.ntmps7
  go_wp2_with fail
  refine (awake_c w HT.out).mono ?_
  rintro e w1 ⟨rfl, hb⟩
  have HB := Lib.hid hb
  have CF := Lib.hid (from_c n w1 n1 n2)
  have CT := Lib.hid (to_c (fromF n) w1 (sat_range _).1 (sat_range _).2)
  have HTF := Lib.hid (to_from (n := n))
  generalize fromF n = x at *
  clear hb
  go_upto_region 3 with (go_at_call 22; refine CF.out.mono ?_; rintro e w2 ⟨rfl, rfl⟩)
  go_cut [7] (fun s7 wx => s7 = .bool true ∧ w1 = wx)
  case first =>
    by_cases c1 : 2147483647 < n
    · go_wp2_with fail
      go_meet
      exact ⟨rfl, rfl⟩
    · by_cases c2 : n < -2147483648
      · go_wp2_with fail
        go_meet
        exact ⟨rfl, rfl⟩
      · have ct := CT.out
        rw [HTF.out (by omega) (by omega)] at ct
        have CT2 := Lib.hid ct
        clear ct
        go_wp2_with (go_at_call 24; refine CT2.out.mono ?_; rintro e w2 ⟨rfl, rfl⟩)
        go_meet
        exact ⟨rfl, rfl⟩
  case rest =>
    obtain ⟨rfl, rfl⟩ := hcut
    obtain ⟨r1, r2, r3, r4, r5, r6⟩ := rest_of h1 h2
    have C1 := Lib.hid (to_c a w1 h1 h2)
    have C2 := Lib.hid (from_c (tq a) w1 r5 r6)
    have C3 := Lib.hid (sub_c a (fromF (tq a)) w1 h1 h2 (sat_range _).1 (sat_range _).2)
    generalize subF a (fromF (tq a)) = R at *
    generalize fromF (tq a) = F at *
    generalize tq a = T at *
    clear CF CT HTF r5 r6
    have hc : (0 ≤ R ∧ R ≤ 0) ∨ (0 < R ∧ 0 < a) ∨ (R < 0 ∧ a < 0) := by omega
    clear r3 r4
    rcases hc with ⟨k1, k2⟩ | ⟨k1, k2⟩ | ⟨k1, k2⟩
    all_goals
      go_wp2_with (first | (go_at_call 24; refine C1.out.mono ?_; rintro e w2 ⟨rfl, rfl⟩) | (go_at_call 22; refine C2.out.mono ?_; rintro e w2 ⟨rfl, rfl⟩) | (go_at_call 18; refine C3.out.mono ?_; rintro e w2 ⟨rfl, rfl⟩))
      go_ret
      exact ⟨rfl, HB.out⟩
end Go.Proofs.YtebabgonffbdhaaDoor

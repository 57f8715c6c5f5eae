/- The reference's leaves: clamp, near, half. -/
import Derived.Test.YtefaagacgoohjaaVFun
import Derived.Test.YtefaagacgoohjaaRefSm
namespace Go.Proofs.Ytefaagacgoohjaa
open Go.RowKit

/-- A contract that leaves the world as it was, as one that makes it grow. -/
theorem grow {f : Nat} {args : Array Value} {w : World} {v : Value} (h : Calls Try.prog f args w fun e w' => e = .returned v ∧ w = w') : Calls Try.prog f args w fun e w' => e = .returned v ∧ Below w.heap.size w w' := h.mono fun _ _ ⟨a, b⟩ => ⟨a, b ▸ Below.refl _ _⟩

theorem rclamp1_c (n most : Int) (w : World) (hm : I64 most) (h0 : 0 ≤ most) :
    Calls Try.prog 30 #[.int .i64 n, .int .i64 most] w fun e w' => e = .returned (.int .i64 (clampF n most)) ∧ w = w' := by
  unfold I64 at *
  go_enter Try.func30, Try.ntmps30
  go_wp2
  all_goals
    go_ret
    exact ⟨ret_int (by unfold clampF; split <;> (try split) <;> omega), rfl⟩

theorem rnear1_c (a b r : Int) (w : World) (ha : I64 a) (hb : I64 b) (hr : I64 r) (h0 : 0 ≤ r) :
    Calls Try.prog 48 #[.int .i64 a, .int .i64 b, .int .i64 r] w fun e w' => e = .returned (.bool (nearF a b r)) ∧ w = w' := by
  obtain ⟨lo, hlo⟩ : ∃ lo, (if b < a then b else a) = lo := ⟨_, rfl⟩
  obtain ⟨hi, hhi⟩ : ∃ hi, (if a < b then b else a) = hi := ⟨_, rfl⟩
  have e0 : ((a - b).natAbs : Int) = hi - lo := by rw [← hlo, ← hhi]; split <;> split <;> omega
  have l1 : -9223372036854775808 ≤ lo ∧ hi < 9223372036854775808 ∧ lo ≤ hi := by rw [← hlo, ← hhi]; unfold I64 at *; split <;> split <;> omega
  unfold nearF
  rw [e0]
  unfold I64 at hr
  have e1 : wrap64 (9223372036854775807 - r) = 9223372036854775807 - r := IntWalk.wrap64_in _ (by omega)
  by_cases hc : 9223372036854775807 - r < lo
  · have d1 : decide (9223372036854775807 - r < lo) = true := decide_eq_true hc
    rw [decide_eq_true (show hi - lo ≤ r by omega)]
    clear ha hb e0 l1 hr h0 hc
    go_enter Try.func48, Try.ntmps48
    go_wp2_with fail
    go_ret
    exact ⟨rfl, rfl⟩
  · have d1 : decide (9223372036854775807 - r < lo) = false := decide_eq_false hc
    have e2 : wrap64 (lo + r) = lo + r := IntWalk.wrap64_in _ (by omega)
    have e3 : decide (hi - lo ≤ r) = decide (hi ≤ lo + r) := decide_eq_decide.2 (by omega)
    rw [e3]
    clear ha hb e0 l1 hr h0 hc e3
    go_enter Try.func48, Try.ntmps48
    go_wp2_with fail
    go_ret
    exact ⟨rfl, rfl⟩

theorem toInt_mod2 (x : BitVec 64) : x.toInt % 2 = ((x.toNat % 2 : Nat) : Int) := by
  rw [BitVec.toInt_eq_toNat_cond]
  split <;> omega
theorem odd_both (a b : Int) : bits .and .i64 (bits .and .i64 a b) 1 = if a % 2 = 1 ∧ b % 2 = 1 then 1 else 0 := by
  rw [and_i64 a b, and_i64, BitVec.ofInt_toInt]
  have a3 := ofInt_nat a
  have a4 := ofInt_nat b
  generalize BitVec.ofInt 64 a = x at *
  generalize BitVec.ofInt 64 b = y at *
  have e1 : (BitVec.ofInt 64 1).toNat = 1 := by decide
  have h : (x &&& y &&& BitVec.ofInt 64 1).toNat = (x.toNat &&& y.toNat) % 2 := by
    rw [BitVec.toNat_and, e1, Nat.and_one_is_mod, BitVec.toNat_and]
  have h2 : (x.toNat &&& y.toNat) % 2 = 1 ↔ (x.toNat % 2 = 1 ∧ y.toNat % 2 = 1) := Nat.and_mod_two_eq_one
  rw [BitVec.toInt_eq_toNat_cond, h]
  generalize x.toNat &&& y.toNat = z at *
  split <;> split <;> omega

theorem half_c (a b : Int) (w : World) (ha : I64 a) (hb : I64 b) :
    Calls Try.prog 50 #[.int .i64 a, .int .i64 b] w fun e w' => e = .returned (.int .i64 (midF a b)) ∧ w = w' := by
  have h1 := odd_both a b
  have e1 : wrap64 (a / 2 + b / 2) = a / 2 + b / 2 := IntWalk.wrap64_in _ (by unfold I64 at *; omega)
  obtain ⟨c, hc⟩ : ∃ c : Int, (if a % 2 = 1 ∧ b % 2 = 1 then 1 else 0) = c := ⟨_, rfl⟩
  rw [hc] at h1
  have e2 : a / 2 + b / 2 + c = midF a b := by unfold midF; rw [← hc]; split <;> omega
  have e3 : wrap64 (a / 2 + b / 2 + c) = midF a b := by rw [e2]; exact IntWalk.wrap64_in _ (by unfold midF I64 at *; omega)
  rw [e2] at e3
  clear hc ha hb
  go_enter Try.func50, Try.ntmps50
  go_wp2_with fail
  go_ret
  exact ⟨ret_int e3, rfl⟩
end Go.Proofs.Ytefaagacgoohjaa

/- The reference's leaves: clamp, near, half. -/
import Derived.Test.YtnffflcfncffpaaVFun
namespace Go.Proofs.Ytnffflcfncffpaa
open Go.RowKit

/-- A contract that leaves the world as it was, as one that makes it grow. -/
theorem grow {f : Nat} {args : Array Value} {w : World} {v : Value} (h : Calls Try.prog f args w fun e w' => e = .returned v ∧ w = w') : Calls Try.prog f args w fun e w' => e = .returned v ∧ Below w.heap.size w w' := h.mono fun _ _ ⟨a, b⟩ => ⟨a, b ▸ Below.refl _ _⟩

theorem rnear1_c (a b r : Int) (w : World) (ha : I64 a) (hb : I64 b) (hr : I64 r) (h0 : 0 ≤ r) :
    Calls Try.prog 46 #[.int .i64 a, .int .i64 b, .int .i64 r] w fun e w' => e = .returned (.bool (nearF a b r)) ∧ w = w' := by
  obtain ⟨lo, hlo⟩ : ∃ lo, (if b < a then b else a) = lo := ⟨_, rfl⟩
  obtain ⟨hi, hhi⟩ : ∃ hi, (if a < b then b else a) = hi := ⟨_, rfl⟩
  have e0 : ((a - b).natAbs : Int) = hi - lo := by rw [← hlo, ← hhi]; split <;> split <;> omega
  have l1 : -9223372036854775808 ≤ lo ∧ hi < 9223372036854775808 ∧ lo ≤ hi := by rw [← hlo, ← hhi]; unfold I64 at *; split <;> split <;> omega
  unfold nearF
  rw [e0]
  unfold I64 at hr
  have e1 : wrap64 (9223372036854775807 - r) = 9223372036854775807 - r := IntWalk.wrap64_in _ (by omega)
  by_cases hc : 9223372036854775807 - r < lo
  · have d1 : decide (9223372036854775807 - r < lo) = true := decide_eq_true hc
    rw [decide_eq_true (show hi - lo ≤ r by omega)]
    clear ha hb e0 l1 hr h0 hc
    go_enter Try.func46, Try.ntmps46
    go_wp2_with fail
    go_ret
    exact ⟨rfl, rfl⟩
  · have d1 : decide (9223372036854775807 - r < lo) = false := decide_eq_false hc
    have e2 : wrap64 (lo + r) = lo + r := IntWalk.wrap64_in _ (by omega)
    have e3 : decide (hi - lo ≤ r) = decide (hi ≤ lo + r) := decide_eq_decide.2 (by omega)
    rw [e3]
    clear ha hb e0 l1 hr h0 hc e3
    go_enter Try.func46, Try.ntmps46
    go_wp2_with fail
    go_ret
    exact ⟨rfl, rfl⟩

theorem toInt_mod2 (x : BitVec 64) : x.toInt % 2 = ((x.toNat % 2 : Nat) : Int) := by
  rw [BitVec.toInt_eq_toNat_cond]
  split <;> omega
theorem odd_both (a b : Int) : bits .and .i64 (bits .and .i64 a b) 1 = if a % 2 = 1 ∧ b % 2 = 1 then 1 else 0 := by
  rw [and_i64 a b, and_i64, BitVec.ofInt_toInt]
  have a3 := ofInt_nat a
  have a4 := ofInt_nat b
  generalize BitVec.ofInt 64 a = x at *
  generalize BitVec.ofInt 64 b = y at *
  have e1 : (BitVec.ofInt 64 1).toNat = 1 := by decide
  have h : (x &&& y &&& BitVec.ofInt 64 1).toNat = (x.toNat &&& y.toNat) % 2 := by
    rw [BitVec.toNat_and, e1, Nat.and_one_is_mod, BitVec.toNat_and]
  have h2 : (x.toNat &&& y.toNat) % 2 = 1 ↔ (x.toNat % 2 = 1 ∧ y.toNat % 2 = 1) := Nat.and_mod_two_eq_one
  rw [BitVec.toInt_eq_toNat_cond, h]
  generalize x.toNat &&& y.toNat = z at *
  split <;> split <;> omega

end Go.Proofs.Ytnffflcfncffpaa

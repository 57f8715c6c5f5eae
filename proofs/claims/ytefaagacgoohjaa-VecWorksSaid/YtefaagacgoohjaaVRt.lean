/- Plain mathematics: the greatest number of 63 bits whose square is not above a sum. -/
import Derived.WalkKit
import Derived.Laws.BitsLemmas
import Derived.Laws.Bits64b
namespace Go.Proofs.Ytefaagacgoohjaa
open Go.RowKit

/-- n is the greatest number below 2^63 whose square is not above s. -/
def IsLong (s n : Nat) : Prop := n * n ≤ s ∧ n < 9223372036854775808 ∧ (s < (n + 1) * (n + 1) ∨ n + 1 = 9223372036854775808)
theorem IsLong.unique {t n m : Nat} (h : IsLong t n) (k : IsLong t m) : n = m := by
  obtain ⟨h1, h2, h3⟩ := h
  obtain ⟨k1, k2, k3⟩ := k
  rcases Nat.lt_trichotomy n m with hlt | rfl | hlt
  · have : (n + 1) * (n + 1) ≤ m * m := Nat.mul_le_mul hlt hlt
    omega
  · rfl
  · have : (m + 1) * (m + 1) ≤ n * n := Nat.mul_le_mul hlt hlt
    omega

/-- What holds of a root whose bits from j on are known. -/
structure Rl (t j root : Nat) : Prop where
  low : root % 2 ^ j = 0
  sq : root * root ≤ t
  above : t < (root + 2 ^ j) * (root + 2 ^ j) ∨ root + 2 ^ j = 9223372036854775808
  lt : root + 2 ^ j ≤ 9223372036854775808

theorem Rl.start (t : Nat) : Rl t 63 0 := ⟨rfl, by omega, .inr (by decide), by decide⟩
theorem Rl.end_ {t root : Nat} (h : Rl t 0 root) : IsLong t root := ⟨h.sq, by have := h.lt; simp at this; omega, h.above⟩
theorem Rl.no {t k root : Nat} (h : Rl t (k + 1) root) (hn : t < (root + 2 ^ k) * (root + 2 ^ k)) : Rl t k root := by
  refine ⟨?_, h.sq, .inl hn, ?_⟩
  · have h1 := h.low
    rw [Nat.pow_succ] at h1
    have := Nat.mod_mul_right_mod root (2 ^ k) 2
    rw [h1] at this
    simpa using this.symm
  · have := h.lt
    have : 2 ^ k ≤ 2 ^ (k + 1) := Nat.pow_le_pow_right (by omega) (by omega)
    omega
theorem Rl.yes {t k root : Nat} (h : Rl t (k + 1) root) (hn : (root + 2 ^ k) * (root + 2 ^ k) ≤ t) : Rl t k (root + 2 ^ k) := by
  have e : root + 2 ^ k + 2 ^ k = root + 2 ^ (k + 1) := by rw [Nat.pow_succ]; omega
  refine ⟨?_, hn, by rw [e]; exact h.above, by rw [e]; exact h.lt⟩
  have h1 := h.low
  rw [Nat.pow_succ] at h1
  have := Nat.mod_mul_right_mod root (2 ^ k) 2
  rw [h1] at this
  rw [Nat.add_mod_right]
  simpa using this.symm

theorem Rl.or {t k root : Nat} (h : Rl t (k + 1) root) : bits .or .i64 (root : Int) ((2 : Int) ^ k) = ((root + 2 ^ k : Nat) : Int) := by
  have e64 : (2 : Int) ^ 64 = 18446744073709551616 := by decide
  have e63 : (2 : Int) ^ 63 = 9223372036854775808 := by decide
  have iP : (2 : Int) ^ k = ((2 ^ k : Nat) : Int) := by push_cast; rfl
  have iQ : (2 : Int) ^ (k + 1) = ((2 ^ (k + 1) : Nat) : Int) := by push_cast; rfl
  have hP : 2 ^ (k + 1) = 2 * 2 ^ k := by rw [Nat.pow_succ]; omega
  have hpos := Nat.two_pow_pos k
  have hlt := h.lt
  have hlow := h.low
  have hj : ∀ x z : Int, 0 ≤ x → x % 2 ^ (k + 1) = 0 → x < 2 ^ 63 → 0 ≤ z → z < 2 ^ (k + 1) → z < 2 ^ 63 → bits .or .i64 x z = x + z :=
    bits_join .i64 63 (by decide) (fun n h0 h1 => by rw [e63] at h1; rw [IntKind.wrap_i64]; omega) (k + 1)
  rw [iQ, e63] at hj
  rw [iP]
  generalize 2 ^ (k + 1) = Q at *
  generalize 2 ^ k = P at *
  rw [hj _ _ (by omega) (by omega) (by omega) (by omega) (by omega) (by omega)]
  omega
theorem long_exists (t : Nat) : ∃ n, IsLong t n := by
  suffices h : ∀ j, j ≤ 63 → ∃ r, Rl t (63 - j) r by
    obtain ⟨r, hr⟩ := h 63 (Nat.le_refl _)
    exact ⟨r, Rl.end_ hr⟩
  intro j
  induction j with
  | zero => intro _; exact ⟨0, Rl.start t⟩
  | succ j ih =>
    intro hj
    obtain ⟨r, hr⟩ := ih (by omega)
    have e : 63 - j = (63 - (j + 1)) + 1 := by omega
    rw [e] at hr
    by_cases h : (r + 2 ^ (63 - (j + 1))) * (r + 2 ^ (63 - (j + 1))) ≤ t
    · exact ⟨_, hr.yes h⟩
    · exact ⟨_, hr.no (by omega)⟩
end Go.Proofs.Ytefaagacgoohjaa

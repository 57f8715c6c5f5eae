/- Plain mathematics: one digit of base 2^32 of a long division, and the division of two digits by a number whose highest bit is set. -/
import Derived.Lib.ItoaNum
namespace Go.Proofs.YtebabgonffbdhaaDoor

/-- A digit of the quotient: of u and the next digit v, by y1 and y0. -/
def dq (y1 y0 u v : Nat) : Nat := (u * 4294967296 + v) / (y1 * 4294967296 + y0)

structure Dv (y1 y0 u v : Nat) : Prop where
  h1 : 2147483648 ≤ y1
  h2 : y1 < 4294967296
  h3 : y0 < 4294967296
  h4 : u < y1 * 4294967296 + y0
  h5 : v < 4294967296

section
variable {y1 y0 u v : Nat}
theorem dq_lt (D : Dv y1 y0 u v) : dq y1 y0 u v < 4294967296 := by
  obtain ⟨h1, h2, h3, h4, h5⟩ := D
  unfold dq
  rw [Nat.div_lt_iff_lt_mul (by omega)]
  omega
theorem dq_guess (D : Dv y1 y0 u v) : dq y1 y0 u v ≤ u / y1 := by
  obtain ⟨h1, h2, h3, h4, h5⟩ := D
  have hq : dq y1 y0 u v * (y1 * 4294967296 + y0) ≤ u * 4294967296 + v := Nat.div_mul_le_self _ _
  rw [Nat.le_div_iff_mul_le (by omega)]
  generalize dq y1 y0 u v = q at *
  rw [Nat.mul_add, ← Nat.mul_assoc] at hq
  generalize q * y1 = p at *
  generalize q * y0 = r at *
  omega
theorem guess_le (D : Dv y1 y0 u v) : u / y1 ≤ 4294967297 := by
  obtain ⟨h1, h2, h3, h4, h5⟩ := D
  have : u / y1 < 4294967298 := by
    rw [Nat.div_lt_iff_lt_mul (by omega)]
    omega
  omega
theorem dq_test (D : Dv y1 y0 u v) {qh rh : Nat} (h : u = qh * y1 + rh) : 4294967296 * rh + v < qh * y0 ↔ dq y1 y0 u v < qh := by
  obtain ⟨h1, h2, h3, h4, h5⟩ := D
  unfold dq
  rw [Nat.div_lt_iff_lt_mul (by omega), Nat.mul_add, ← Nat.mul_assoc, h]
  generalize qh * y1 = p at *
  generalize qh * y0 = r at *
  omega
theorem dq_break (D : Dv y1 y0 u v) {qh rh : Nat} (h : u = qh * y1 + rh) (hr : 4294967296 ≤ rh) (hq : qh ≤ 4294967296) : qh ≤ dq y1 y0 u v := by
  apply Nat.le_of_not_lt
  rw [← dq_test D h]
  have h3 := D.h3
  have : qh * y0 ≤ 4294967296 * 4294967295 := Nat.mul_le_mul hq (by omega)
  omega
theorem dq_rest : (u * 4294967296 + v) % (y1 * 4294967296 + y0) = u * 4294967296 + v - dq y1 y0 u v * (y1 * 4294967296 + y0) ∧ dq y1 y0 u v * (y1 * 4294967296 + y0) ≤ u * 4294967296 + v := by
  have := Nat.div_add_mod (u * 4294967296 + v) (y1 * 4294967296 + y0)
  rw [Nat.mul_comm] at this
  unfold dq
  omega
end

/-- Two digits are the quotient of two digits. -/
theorem two_digits (K y u v1 v0 : Nat) (hy : 0 < y) : (u * (K * K) + v1 * K + v0) / y = (u * K + v1) / y * K + ((u * K + v1) % y * K + v0) / y ∧ (u * (K * K) + v1 * K + v0) % y = ((u * K + v1) % y * K + v0) % y := by
  have e := Nat.div_add_mod (u * K + v1) y
  have : u * (K * K) + v1 * K + v0 = ((u * K + v1) % y * K + v0) + y * ((u * K + v1) / y * K) := by
    have e2 : u * (K * K) + v1 * K = (y * ((u * K + v1) / y) + (u * K + v1) % y) * K := by rw [e, Nat.add_mul, Nat.mul_assoc]
    rw [e2, Nat.add_mul, Nat.mul_assoc]
    omega
  rw [this, Nat.add_mul_div_left _ _ hy, Nat.add_mul_mod_self_left]
  exact ⟨Nat.add_comm _ _, rfl⟩

/-- How far a number is from having its highest bit set. -/
theorem norm_of (y : Nat) (h0 : 0 < y) (h1 : y < 18446744073709551616) : ∃ s : Nat, s ≤ 63 ∧ 64 - (Go.Lib.bitLen y : Int) = (s : Int) ∧ 9223372036854775808 ≤ y * 2 ^ s ∧ y * 2 ^ s < 18446744073709551616 := by
  obtain ⟨ha, hb, hc⟩ := Go.Lib.bitLenAux_bounds 64 y (by omega) (by omega)
  have hl : Go.Lib.bitLen y ≤ 64 := Go.Lib.bitLen_le y 64 (by omega) (by omega)
  change 1 ≤ Go.Lib.bitLen y at ha
  change 2 ^ (Go.Lib.bitLen y - 1) ≤ y at hb
  change y < 2 ^ Go.Lib.bitLen y at hc
  generalize Go.Lib.bitLen y = b at *
  refine ⟨64 - b, by omega, by omega, ?_, ?_⟩
  · have : 2 ^ (b - 1) * 2 ^ (64 - b) ≤ y * 2 ^ (64 - b) := Nat.mul_le_mul_right _ hb
    rw [← Nat.pow_add, show b - 1 + (64 - b) = 63 by omega] at this
    omega
  · have : y * 2 ^ (64 - b) < 2 ^ b * 2 ^ (64 - b) := Nat.mul_lt_mul_of_pos_right hc (Nat.two_pow_pos _)
    rw [← Nat.pow_add, show b + (64 - b) = 64 by omega] at this
    omega

end Go.Proofs.YtebabgonffbdhaaDoor

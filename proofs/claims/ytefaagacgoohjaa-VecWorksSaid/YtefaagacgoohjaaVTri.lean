/- Plain mathematics: a sum is no longer than both together, but for what was rounded down. -/
import Derived.Test.YtefaagacgoohjaaVLong
namespace Go.Proofs.Ytefaagacgoohjaa
open Go.RowKit

/-- Bit by bit. -/
def longStep (t : Nat) : Nat → Nat → Nat
  | 0, r => r
  | k + 1, r => if (r + 2 ^ k) * (r + 2 ^ k) ≤ t then longStep t k (r + 2 ^ k) else longStep t k r
theorem longStep_is {t : Nat} : ∀ {k r : Nat}, Rl t k r → IsLong t (longStep t k r)
  | 0, _, h => h.end_
  | k + 1, r, h => by
    unfold longStep
    split
    · exact longStep_is (h.yes ‹_›)
    · exact longStep_is (h.no (by omega))
/-- How long a pair is. -/
def longF (x y : Int) : Nat := longStep (sqs x y) 63 0
theorem longF_is (x y : Int) : IsLong (sqs x y) (longF x y) := longStep_is (Rl.start _)
theorem vlongF_c (x y : Int) (w : World) (hx : I64 x) (hy : I64 y) :
    Calls Try.prog 19 #[vecV x y] w fun e w' => e = .returned (.int .i64 (longF x y : Int)) ∧ Below w.heap.size w w' := vlong_c x y _ w hx hy (longF_is x y)

theorem sqs_int (x y : Int) : ((sqs x y : Nat) : Int) = x * x + y * y := by
  unfold sqs
  push_cast
  rw [← Int.natCast_mul, ← Int.natCast_mul, Int.natAbs_mul_self, Int.natAbs_mul_self]

theorem sqs_turn (x y : Int) : sqs (-x) (-y) = sqs x y := by unfold sqs; rw [Int.natAbs_neg, Int.natAbs_neg]

theorem dot_lt {a b c d P Q : Int} (h1 : a * a + b * b < P * P) (h2 : c * c + d * d < Q * Q) (hP : 0 < P) (hQ : 0 < Q) : a * c + b * d < P * Q := by
  rcases Int.lt_or_le (a * c + b * d) (P * Q) with h | h
  · exact h
  exfalso
  have hPQ : 0 < P * Q := Int.mul_pos hP hQ
  have e1 : (a * c + b * d) * (a * c + b * d) ≥ (P * Q) * (P * Q) := Int.mul_le_mul h h (by omega) (by omega)
  have e2 : (a * a + b * b) * (c * c + d * d) = (a * c + b * d) * (a * c + b * d) + (a * d - b * c) * (a * d - b * c) := by grind
  have s0 : 0 ≤ (a * d - b * c) * (a * d - b * c) := by
    have := Int.natAbs_mul_self (a := a * d - b * c); omega
  have s1 : 0 ≤ a * a + b * b := by
    have h1 := Int.natAbs_mul_self (a := a); have h2 := Int.natAbs_mul_self (a := b); omega
  have s2 : 0 ≤ c * c + d * d := by
    have h1 := Int.natAbs_mul_self (a := c); have h2 := Int.natAbs_mul_self (a := d); omega
  have e3 : (a * a + b * b) * (c * c + d * d) ≤ (P * P) * (c * c + d * d) := Int.mul_le_mul_of_nonneg_right (by omega) s2
  have e4 : (P * P) * (c * c + d * d) < (P * P) * (Q * Q) := Int.mul_lt_mul_of_pos_left h2 (Int.mul_pos hP hP)
  have e5 : (P * P) * (Q * Q) = (P * Q) * (P * Q) := by grind
  omega

theorem tri {x y u v : Int} {n a b : Nat} (hn : n * n ≤ sqs (x + u) (y + v)) (ha : sqs x y < (a + 1) * (a + 1)) (hb : sqs u v < (b + 1) * (b + 1)) : n ≤ a + b + 1 := by
  rcases Nat.lt_or_ge (a + b + 1) n with h | h
  · exfalso
    have i1 : ((n * n : Nat) : Int) ≤ ((sqs (x + u) (y + v) : Nat) : Int) := by exact_mod_cast hn
    have i2 : ((sqs x y : Nat) : Int) < (((a + 1) * (a + 1) : Nat) : Int) := by exact_mod_cast ha
    have i3 : ((sqs u v : Nat) : Int) < (((b + 1) * (b + 1) : Nat) : Int) := by exact_mod_cast hb
    rw [sqs_int] at i1 i2 i3
    push_cast at i1 i2 i3
    have hd := dot_lt i2 i3 (by omega) (by omega)
    have k1 : (((a : Int) + 1) + ((b : Int) + 1)) * (((a : Int) + 1) + ((b : Int) + 1)) ≤ (n : Int) * (n : Int) := Int.mul_le_mul (by omega) (by omega) (by omega) (by omega)
    have k2 : (x + u) * (x + u) + (y + v) * (y + v) = (x * x + y * y) + (u * u + v * v) + 2 * (x * u + y * v) := by grind
    have k3 : (((a : Int) + 1) + ((b : Int) + 1)) * (((a : Int) + 1) + ((b : Int) + 1)) = ((a : Int) + 1) * ((a : Int) + 1) + ((b : Int) + 1) * ((b : Int) + 1) + 2 * (((a : Int) + 1) * ((b : Int) + 1)) := by grind
    omega
  · exact h

/-- Of small parts a length is not stopped. -/
theorem long_small {x y : Int} {n : Nat} (h : IsLong (sqs x y) n) (hx : x.natAbs ≤ 4611686018427387904) (hy : y.natAbs ≤ 4611686018427387904) : sqs x y < (n + 1) * (n + 1) := by
  rcases h.2.2 with k | k
  · exact k
  · rw [k]
    have h1 : x.natAbs * x.natAbs ≤ 4611686018427387904 * 4611686018427387904 := Nat.mul_le_mul hx hx
    have h2 : y.natAbs * y.natAbs ≤ 4611686018427387904 * 4611686018427387904 := Nat.mul_le_mul hy hy
    unfold sqs
    omega
end Go.Proofs.Ytefaagacgoohjaa

/- The contracts of vec's leaves: apart, middle, square, plus, less, and the closures of Clamp, Scale and Near. -/
import Derived.Test.YtnffflcfncffpaaSm
import Derived.Test.YtnffflcfncffpaaMem
import Derived.BigQuiet
import Derived.Deep.QuietTactic
import Derived.Laws.Externs
namespace Go.Proofs.Ytnffflcfncffpaa
open Go.RowKit

/-- A pair. -/
abbrev vecV (x y : Int) : Value := .agg #[.int .i64 x, .int .i64 y]
/-- A number of 128 bits. -/
abbrev wideV (n : Nat) : Value := .agg #[.int .u64 ((n / 18446744073709551616 : Nat) : Int), .int .u64 ((n % 18446744073709551616 : Nat) : Int)]

/-- The world's equation, turned about. -/
theorem turn {f : Nat} {args : Array Value} {w : World} {v : Value} (h : Calls Try.prog f args w fun e w' => e = .returned v ∧ w = w') : Calls Try.prog f args w fun e w' => e = .returned v ∧ w' = w := h.mono fun _ _ ⟨a, b⟩ => ⟨a, b.symm⟩

/-- An int. -/
def I64 (a : Int) : Prop := -9223372036854775808 ≤ a ∧ a < 9223372036854775808

theorem apart_c (m n : Int) (w : World) (hm : I64 m) (hn : I64 n) :
    Calls Try.prog 45 #[.int .i64 m, .int .i64 n] w fun e w' => e = .returned (.int .u64 ((m - n).natAbs : Int)) ∧ w = w' := by
  unfold I64 at *
  go_enter Try.func45, Try.ntmps45
  go_wp2
  all_goals
    go_ret
    exact ⟨ret_int (by simp only [IntKind.wrap_u64]; omega), rfl⟩

theorem nat_both (n : Nat) : ∀ a b : Nat, a ≤ n → a + b = 2 * (a &&& b) + (a ^^^ b) := by
  induction n with
  | zero => intro a b h; obtain rfl : a = 0 := by omega
            simp
  | succ n ih =>
    intro a b h
    by_cases ha : a = 0
    · subst ha; simp
    have h1 := ih (a / 2) (b / 2) (by omega)
    have e1 : (a &&& b) / 2 = a / 2 &&& b / 2 := Nat.and_div_two
    have e2 : (a ^^^ b) / 2 = a / 2 ^^^ b / 2 := Nat.xor_div_two
    have e3 : (a ^^^ b) % 2 = 1 ↔ ¬ (a % 2 = 1 ↔ b % 2 = 1) := Nat.xor_mod_two_eq_one
    have e4 : (a &&& b) % 2 = 1 ↔ (a % 2 = 1 ∧ b % 2 = 1) := Nat.and_mod_two_eq_one
    rw [← e1, ← e2] at h1
    omega

theorem ofInt_nat (a : Int) : ((BitVec.ofInt 64 a).toNat : Int) = a % 18446744073709551616 := by
  rw [BitVec.toNat_ofInt]
  omega
theorem mid_int (m n : Int) (hm : I64 m) (hn : I64 n) : 2 * bits .and .i64 m n + bits .xor .i64 m n = m + n ∧ I64 (bits .and .i64 m n) ∧ I64 (bits .xor .i64 m n) := by
  unfold I64 at *
  have a1 := msb_i64 m hm.1 hm.2
  have a2 := msb_i64 n hn.1 hn.2
  have a3 := ofInt_nat m
  have a4 := ofInt_nat n
  rw [and_i64, xor_i64]
  generalize BitVec.ofInt 64 m = x at *
  generalize BitVec.ofInt 64 n = y at *
  have h := nat_both x.toNat x.toNat y.toNat (Nat.le_refl _)
  rw [← BitVec.toNat_and, ← BitVec.toNat_xor] at h
  have m1 : (x &&& y).msb = (x.msb && y.msb) := BitVec.msb_and
  have m2 : (x ^^^ y).msb = (x.msb ^^ y.msb) := BitVec.msb_xor
  have t1 := BitVec.toInt_eq_msb_cond (x &&& y)
  have t2 := BitVec.toInt_eq_msb_cond (x ^^^ y)
  have u1 := (x &&& y).isLt
  have u2 := (x ^^^ y).isLt
  have v1 := BitVec.msb_eq_decide (x &&& y)
  have v2 := BitVec.msb_eq_decide (x ^^^ y)
  rw [m1] at t1 v1
  rw [m2] at t2 v2
  rw [a1, a2] at t1 t2 v1 v2
  generalize (x &&& y).toInt = p at *
  generalize (x ^^^ y).toInt = q at *
  generalize (x &&& y).toNat = pn at *
  generalize (x ^^^ y).toNat = qn at *
  by_cases k1 : m < 0 <;> by_cases k2 : n < 0 <;> simp [k1, k2] at t1 t2 v1 v2 <;> omega

/-- What Clamp makes of a part. -/
def clampF (n most : Int) : Int := if n < -most then -most else if most < n then most else n

theorem near1_c (m n r : Int) (g : Nat) (w : World) (hm : I64 m) (hn : I64 n) (hr : I64 r) (h0 : 0 ≤ r) (hg : w.cell? ⟨g, 0, none⟩ = some (.int .i64 r)) :
    Calls Try.prog 44 #[.int .i64 m, .int .i64 n, .pointer (some ⟨g, 0, none⟩)] w fun e w' => e = .returned (.bool (decide (((m - n).natAbs : Int) ≤ r))) ∧ ∃ k, w' = w.drewN k := by
  have HA := Lib.hid (fun w => apart_c m n w hm hn)
  unfold I64 at *
  go_enter Try.func44, Try.ntmps44
  go_wp2_with fail
  go_quiet ((go_at_call 45; exact Calls.quiet_of_same (turn (HA.out _))))
  go_wp2_with fail
  go_ret
  exact ⟨rfl, _, rfl⟩

end Go.Proofs.Ytnffflcfncffpaa

/- The contract of Mul. -/
import Derived.Test.YtefaagacgoohjaaSm
import Derived.Test.YtefaagacgoohjaaShelf
namespace Go.Proofs.Ytefaagacgoohjaa
open Go.RowKit

theorem or_join (p : Nat) (h : p < 79228162514264337593543950336) : bits .or .u64 (IntKind.u64.wrap ((p : Int) / 18446744073709551616 * 4294967296)) ((p : Int) % 18446744073709551616 / 4294967296) = ((p / 4294967296 : Nat) : Int) := by
  have e64 : (2 : Int) ^ 64 = 18446744073709551616 := by decide
  have e32 : (2 : Int) ^ 32 = 4294967296 := by decide
  have hw : IntKind.u64.wrap ((p : Int) / 18446744073709551616 * 4294967296) = (p : Int) / 18446744073709551616 * 4294967296 := by rw [IntKind.wrap_u64]; omega
  rw [hw, bits_join .u64 64 (by decide) (fun n h0 h1 => by rw [e64] at h1; rw [IntKind.wrap_u64]; omega) 32 _ _ (by omega) (by rw [e32]; omega) (by rw [e64]; omega) (by omega) (by rw [e32]; omega) (by rw [e64]; omega)]
  omega

theorem over_sat (n : Nat) (neg : Bool) (h : 9223372036854775808 ≤ n) : fin neg = sat (sg neg n) := by
  cases neg
  · simp only [sg, sat, fin, Bool.false_eq_true, if_false]
    rw [if_neg (by omega), if_pos (by omega)]
  · simp only [sg, sat, fin, if_true]
    by_cases h' : n = 9223372036854775808
    · subst h'; decide
    · rw [if_pos (by omega)]

theorem mul_c (a b : Int) (w : World) (h1 : -9223372036854775808 ≤ a) (h2 : a < 9223372036854775808) (h3 : -9223372036854775808 ≤ b) (h4 : b < 9223372036854775808) :
    Calls Try.prog 36 #[.int .i64 a, .int .i64 b] w fun e w' => e = .returned (.int .i64 (mulF a b)) ∧ w = w' := by
  have hx : a.natAbs < 18446744073709551616 := by omega
  have hy : b.natAbs < 18446744073709551616 := by omega
  have cm := Try.bits_Mul64 a.natAbs b.natAbs hx hy w
  unfold mulF
  generalize hp : a.natAbs * b.natAbs = p at cm
  have HC := Lib.hid cm
  have HP := Lib.hid hp
  clear cm hp
  go_enter Try.func36, Try.ntmps36
  go_wp2_with (first | (go_at_call 53; refine (size_c _ _ ‹_› ‹_›).mono ?_; rintro e w' ⟨rfl, rfl⟩) | (go_at_call 52; refine HC.out.mono ?_; rintro e w' ⟨rfl, rfl⟩) | fail)
  · refine (end_c (dif a b) w').mono ?_
    rintro e w2 ⟨rfl, rfl⟩
    go_wp2_with fail
    go_ret
    have hb := ‹(_ : Bool) = true›
    exact ⟨ret_int (over_sat _ _ (by simp at hb; omega)), rfl⟩
  · have hb := ‹(_ : Bool) = false›
    have hlt : p < 79228162514264337593543950336 := by simp at hb; omega
    rw [or_join p hlt]
    refine (signed_c (dif a b) (p / 4294967296) w' (by omega)).mono ?_
    rintro e w2 ⟨rfl, rfl⟩
    go_wp2_with fail
    go_ret
    exact ⟨rfl, rfl⟩
end Go.Proofs.Ytefaagacgoohjaa

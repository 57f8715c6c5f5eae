/- The contracts of the small functions: size, end, signed, timesOne, Add, Sub, From, To. -/
import Derived.Test.YtnffflcfncffpaaProg
import Derived.Test.YtnffflcfncffpaaFx
import Derived.WalkKit
import Derived.WalkSpells
import Derived.Lib.Hide
namespace Go.Proofs.Ytnffflcfncffpaa
open Go.RowKit

theorem ret_int {k : IntKind} {a b : Int} (h : a = b) : Ending.returned (.int k a) = .returned (.int k b) := by rw [h]

/-- The end at which results stop. -/
def fin (b : Bool) : Int := if b then -9223372036854775808 else 9223372036854775807

theorem end_c (b : Bool) (w : World) : Calls Try.prog 49 #[.bool b] w fun e w' => e = .returned (.int .i64 (fin b)) ∧ w = w' := by
  cases b
  all_goals
    go_enter Try.func49, Try.ntmps49
    go_wp2
    go_ret
    exact ⟨rfl, rfl⟩

theorem and_i64 (a b : Int) : bits .and .i64 a b = (BitVec.ofInt 64 a &&& BitVec.ofInt 64 b).toInt := by
  show IntKind.i64.wrap ((BitVec.ofInt 64 a &&& BitVec.ofInt 64 b).toNat : Nat) = _
  generalize (BitVec.ofInt 64 a &&& BitVec.ofInt 64 b) = v
  rw [IntKind.wrap_i64, BitVec.toInt_eq_toNat_cond]
  have := v.isLt
  split <;> omega
theorem xor_i64 (a b : Int) : bits .xor .i64 a b = (BitVec.ofInt 64 a ^^^ BitVec.ofInt 64 b).toInt := by
  show IntKind.i64.wrap ((BitVec.ofInt 64 a ^^^ BitVec.ofInt 64 b).toNat : Nat) = _
  generalize (BitVec.ofInt 64 a ^^^ BitVec.ofInt 64 b) = v
  rw [IntKind.wrap_i64, BitVec.toInt_eq_toNat_cond]
  have := v.isLt
  split <;> omega
theorem msb_i64 (a : Int) (h1 : -9223372036854775808 ≤ a) (h2 : a < 9223372036854775808) : (BitVec.ofInt 64 a).msb = decide (a < 0) := by
  rw [BitVec.msb_eq_toInt, BitVec.toInt_ofInt]
  congr 2
  rw [Int.bmod_def]
  split <;> omega
/-- '(a^b) & (c^d) < 0' is a question on signs. -/
theorem signs (a b c d : Int) (ha : -9223372036854775808 ≤ a ∧ a < 9223372036854775808) (hb : -9223372036854775808 ≤ b ∧ b < 9223372036854775808)
    (hc : -9223372036854775808 ≤ c ∧ c < 9223372036854775808) (hd : -9223372036854775808 ≤ d ∧ d < 9223372036854775808) :
    decide (bits .and .i64 (bits .xor .i64 a b) (bits .xor .i64 c d) < 0) = (dif a b && dif c d) := by
  rw [and_i64, xor_i64, xor_i64, BitVec.ofInt_toInt, BitVec.ofInt_toInt, ← BitVec.msb_eq_toInt, BitVec.msb_and, BitVec.msb_xor, BitVec.msb_xor, msb_i64 a ha.1 ha.2, msb_i64 b hb.1 hb.2, msb_i64 c hc.1 hc.2, msb_i64 d hd.1 hd.2]
  rfl

def addF (a b : Int) : Int := sat (a + b)
def subF (a b : Int) : Int := sat (a - b)

theorem dif_iff (a b : Int) : dif a b = true ↔ ((a < 0 ∧ ¬ b < 0) ∨ (¬ a < 0 ∧ b < 0)) := by
  unfold dif
  by_cases h1 : a < 0 <;> by_cases h2 : b < 0 <;> simp [h1, h2]

section
variable {a b : Int} (h1 : -9223372036854775808 ≤ a) (h2 : a < 9223372036854775808) (h3 : -9223372036854775808 ≤ b) (h4 : b < 9223372036854775808)
include h1 h2 h3 h4
theorem add_sign : bits .and .i64 (bits .xor .i64 a (wrap64 (a + b))) (bits .xor .i64 b (wrap64 (a + b))) < 0 ↔ (dif a (wrap64 (a + b)) = true ∧ dif b (wrap64 (a + b)) = true) := by
  have hs := signs a (wrap64 (a + b)) b (wrap64 (a + b)) ⟨h1, h2⟩ (by unfold wrap64; omega) ⟨h3, h4⟩ (by unfold wrap64; omega)
  rw [← Bool.and_eq_true, ← hs, decide_eq_true_eq]
theorem add_over (h : bits .and .i64 (bits .xor .i64 a (wrap64 (a + b))) (bits .xor .i64 b (wrap64 (a + b))) < 0) : fin (decide (a < 0)) = addF a b := by
  rw [add_sign h1 h2 h3 h4, dif_iff, dif_iff] at h
  unfold wrap64 at h
  unfold addF sat fin
  by_cases ha : a < 0
  · rw [if_pos (by simpa using ha), if_pos (by omega)]
  · rw [if_neg (by simpa using ha), if_neg (by omega), if_pos (by omega)]
theorem add_plain (h : 0 ≤ bits .and .i64 (bits .xor .i64 a (wrap64 (a + b))) (bits .xor .i64 b (wrap64 (a + b)))) : wrap64 (a + b) = addF a b := by
  have h' := mt (add_sign h1 h2 h3 h4).2 (Int.not_lt.2 h)
  rw [dif_iff, dif_iff] at h'
  unfold wrap64 at h' ⊢
  unfold addF sat
  rw [if_neg (by omega), if_neg (by omega)]
  omega
theorem sub_sign : bits .and .i64 (bits .xor .i64 a b) (bits .xor .i64 a (wrap64 (a - b))) < 0 ↔ (dif a b = true ∧ dif a (wrap64 (a - b)) = true) := by
  have hs := signs a b a (wrap64 (a - b)) ⟨h1, h2⟩ ⟨h3, h4⟩ ⟨h1, h2⟩ (by unfold wrap64; omega)
  rw [← Bool.and_eq_true, ← hs, decide_eq_true_eq]
theorem sub_over (h : bits .and .i64 (bits .xor .i64 a b) (bits .xor .i64 a (wrap64 (a - b))) < 0) : fin (decide (a < 0)) = subF a b := by
  rw [sub_sign h1 h2 h3 h4, dif_iff, dif_iff] at h
  unfold wrap64 at h
  unfold subF sat fin
  by_cases ha : a < 0
  · rw [if_pos (by simpa using ha), if_pos (by omega)]
  · rw [if_neg (by simpa using ha), if_neg (by omega), if_pos (by omega)]
theorem sub_plain (h : 0 ≤ bits .and .i64 (bits .xor .i64 a b) (bits .xor .i64 a (wrap64 (a - b)))) : wrap64 (a - b) = subF a b := by
  have h' := mt (sub_sign h1 h2 h3 h4).2 (Int.not_lt.2 h)
  rw [dif_iff, dif_iff] at h'
  unfold wrap64 at h' ⊢
  unfold subF sat
  rw [if_neg (by omega), if_neg (by omega)]
  omega
end

theorem add_c (a b : Int) (w : World) (h1 : -9223372036854775808 ≤ a) (h2 : a < 9223372036854775808) (h3 : -9223372036854775808 ≤ b) (h4 : b < 9223372036854775808) :
    Calls Try.prog 48 #[.int .i64 a, .int .i64 b] w fun e w' => e = .returned (.int .i64 (addF a b)) ∧ w = w' := by
  go_enter Try.func48, Try.ntmps48
  go_wp2_with (refine (end_c _ w).mono ?_; rintro e w' ⟨rfl, rfl⟩)
  · go_ret
    exact ⟨ret_int (add_over h1 h2 h3 h4 ‹_›), rfl⟩
  · go_ret
    exact ⟨ret_int (add_plain h1 h2 h3 h4 ‹_›), rfl⟩

end Go.Proofs.Ytnffflcfncffpaa

/- The contract of LinkNewer. -/
import Derived.Test.YtmlbhlfjaagcaaaDoorLAwake
namespace Go.Proofs.YtmlbhlfjaagcaaaDoor
open Go.RowKit

theorem i64_and16 (n : Int) : bits .and .i64 n 65535 = n % 65536 := by
  have h1 : (BitVec.ofInt 64 65535).toNat = 2 ^ 16 - 1 := by decide
  have key : (BitVec.ofInt 64 n &&& BitVec.ofInt 64 65535).toNat = (n % ((2 ^ 64 : Nat) : Int)).toNat % 2 ^ 16 := by
    rw [BitVec.toNat_and, BitVec.toNat_ofInt, h1, Nat.and_two_pow_sub_one_eq_mod]
  show IntKind.i64.wrap ((BitVec.ofInt 64 n &&& BitVec.ofInt 64 65535).toNat : Nat) = n % 65536
  rw [key, IntKind.wrap_i64]
  omega

theorem newer_xor (a b : Nat) (ha : a < 65536) (hb : b < 65536) : (aheadN a b = 0 ∨ aheadN a b = 32768 → newerN a b = false ∧ newerN b a = false) ∧ (¬ (aheadN a b = 0 ∨ aheadN a b = 32768) → (newerN a b != newerN b a) = true) := by
  have e : (aheadN a b = 0 ∧ aheadN b a = 0) ∨ (0 < aheadN a b ∧ aheadN a b + aheadN b a = 65536) := by unfold aheadN; omega
  have l1 := ahead_lt a b
  have l2 := ahead_lt b a
  unfold newerN
  generalize aheadN a b = p at *
  generalize aheadN b a = q at *
  constructor
  · intro h
    constructor
    · rw [Bool.and_eq_false_iff, decide_eq_false_iff_not, decide_eq_false_iff_not]; omega
    · rw [Bool.and_eq_false_iff, decide_eq_false_iff_not, decide_eq_false_iff_not]; omega
  · intro h
    rcases Nat.lt_or_ge p 32768 with h1 | h1
    · rw [decide_eq_true (show 0 < p by omega), decide_eq_true h1, decide_eq_false (show ¬ q < 32768 by omega), Bool.and_false]; rfl
    · rw [decide_eq_true (show 0 < p by omega), decide_eq_false (show ¬ p < 32768 by omega), decide_eq_true (show q < 32768 by omega), decide_eq_true (show 0 < q by omega)]; rfl

set_option maxHeartbeats 2000000 in
set_option maxRecDepth 100000 in
theorem newerLaw_c (a b : Int) (w : World) (ht : Tab w) : Calls Tryd.prog 6 #[.int .i64 a, .int .i64 b] w fun e w' => e = .returned (.bool true) ∧ Below w.heap.size w w' := by
  have HT := Lib.hid ht
  clear ht
  have HN := Lib.hid (fun a b => bnewer_c a b)
  obtain ⟨p, hp⟩ : ∃ p : Nat, p = (a % 65536).toNat := ⟨_, rfl⟩
  obtain ⟨q, hq⟩ : ∃ q : Nat, q = (b % 65536).toNat := ⟨_, rfl⟩
  have ha1 : bits .and .i64 a 65535 = (p : Int) := by rw [i64_and16]; omega
  have hb1 : bits .and .i64 b 65535 = (q : Int) := by rw [i64_and16]; omega
  have hpl : p < 65536 := by omega
  have hql : q < 65536 := by omega
  have hx := newer_xor p q hpl hql
  have hd1 : bits .and .i64 ((p : Int) - (q : Int)) 65535 = ((aheadN p q : Nat) : Int) := by rw [i64_and16]; unfold aheadN; omega
  have hpq : ((p : Int) % 65536).toNat = p := by omega
  have hqq : ((q : Int) % 65536).toNat = q := by omega
  have HP := Lib.hid (And.intro hp hq)
  have HPQ := Lib.hid (And.intro hpq hqq)
  clear hp hq hpq hqq
  have hsub : IntKind.i64.wrap ((p : Int) - (q : Int)) = (p : Int) - (q : Int) := IntWalk.i64_in _ (by omega)
  clear hpl hql
  generalize aheadN p q = k at *
  go_enter Tryd.func6, Tryd.ntmps6
  go_wp2_with fail
  refine (awake_c w HT.out).mono ?_
  rintro e w1 ⟨rfl, hb⟩
  have HB := Lib.hid hb
  clear hb
  go_wp2_with fail
  refine (HN.out a b w1).mono ?_
  rintro e w2 ⟨rfl, rfl⟩
  rw [← HP.out.1, ← HP.out.2]
  go_wp2_with fail
  refine (HN.out b a w1).mono ?_
  rintro e w2 ⟨rfl, rfl⟩
  rw [← HP.out.1, ← HP.out.2]
  by_cases hk : k = 0 ∨ k = 32768
  · obtain ⟨h1, h2⟩ := hx.1 hk
    rw [h1, h2]
    have H1 := Lib.hid h1
    clear hx h1 h2
    rcases hk with rfl | rfl
    all_goals
      go_wp2_with fail
      refine (HN.out p q w1).mono ?_
      rintro e w2 ⟨rfl, rfl⟩
      rw [HPQ.out.1, HPQ.out.2, H1.out]
      go_wp2_with fail
      go_ret
      exact ⟨rfl, HB.out⟩
  · have h1 := hx.2 hk
    have k1 : ((k : Int) == 0) = false := by simp; omega
    have k2 : ((k : Int) == 32768) = false := by simp; omega
    clear hx hk
    have HC := Lib.hid (fun w => HN.out p q w)
    rw [HPQ.out.1, HPQ.out.2] at HC
    cases hA : newerN p q with
    | true =>
      have hB : newerN q p = false := by rw [hA] at h1; cases hB : newerN q p with
                                           | true => rw [hB] at h1; cases h1
                                           | false => rfl
      rw [hB]
      rw [hA] at HC
      clear h1 hB hA
      go_wp2_with fail
      refine (HC.out w1).mono ?_
      rintro e w2 ⟨rfl, rfl⟩
      go_wp2_with fail
      go_ret
      exact ⟨rfl, HB.out⟩
    | false =>
      have hB : newerN q p = true := by rw [hA] at h1; cases hB : newerN q p with
                                          | false => rw [hB] at h1; cases h1
                                          | true => rfl
      rw [hB]
      rw [hA] at HC
      clear h1 hB hA
      go_wp2_with fail
      refine (HC.out w1).mono ?_
      rintro e w2 ⟨rfl, rfl⟩
      go_wp2_with fail
      go_ret
      exact ⟨rfl, HB.out⟩

end Go.Proofs.YtmlbhlfjaagcaaaDoor

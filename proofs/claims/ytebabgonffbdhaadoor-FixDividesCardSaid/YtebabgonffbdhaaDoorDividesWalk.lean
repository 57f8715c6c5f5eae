/- The walk of FixDivides: a quotient is the one. -/
import Derived.Test.YtebabgonffbdhaaDoorAwake
import Derived.Deep.DeepCutAuto
namespace Go.Proofs.YtebabgonffbdhaaDoor
open Go.RowKit

theorem mul_nat (n b : Nat) : mulF (n : Int) (b : Int) = sat ((n * b / 4294967296 : Nat) : Int) := by
  unfold mulF
  have : dif (n : Int) (b : Int) = false := by simp [dif]; omega
  rw [this, Int.natAbs_natCast, Int.natAbs_natCast]
  rfl
theorem div_nat (a b : Nat) (ha : a < 9223372036854775808) (hb : 4294967296 ≤ b) : ∃ q : Nat, divF (a : Int) (b : Int) = (q : Int) ∧ q ≤ a ∧ q * b ≤ a * 4294967296 ∧ a * 4294967296 < (q + 1) * b := by
  refine ⟨a * 4294967296 / b, ?_, ?_, Nat.div_mul_le_self _ _, ?_⟩
  · have hle : a * 4294967296 / b ≤ a := Nat.div_le_of_le_mul (by rw [Nat.mul_comm b]; exact Nat.mul_le_mul_left _ hb)
    unfold divF
    have : dif (a : Int) (b : Int) = false := by simp [dif]; omega
    rw [this, Int.natAbs_natCast, Int.natAbs_natCast]
    show sat ((a * 4294967296 / b : Nat) : Int) = _
    generalize a * 4294967296 / b = q at *
    rw [sat_id (by omega) (by omega)]
  · exact Nat.div_le_of_le_mul (by rw [Nat.mul_comm b]; exact Nat.mul_le_mul_left _ hb)
  · have := Nat.lt_div_mul_add (a := a * 4294967296) (b := b) (by omega)
    rw [Nat.add_mul, Nat.one_mul]
    omega
theorem divides {a b : Int} (h1 : 0 ≤ a) (h2 : a < 9223372036854775808) (h3 : 4294967296 ≤ b) :
    0 ≤ divF a b ∧ divF a b ≤ a ∧ mulF (divF a b) b ≤ a ∧ a ≤ mulF (divF a b + 1) b := by
  obtain ⟨m, rfl⟩ : ∃ m : Nat, a = (m : Int) := ⟨a.toNat, by omega⟩
  obtain ⟨d, rfl⟩ : ∃ d : Nat, b = (d : Int) := ⟨b.toNat, by omega⟩
  obtain ⟨q, hq, h4, h5, h6⟩ := div_nat m d (by omega) (by omega)
  rw [hq, show (q : Int) + 1 = ((q + 1 : Nat) : Int) by push_cast; rfl, mul_nat, mul_nat]
  generalize q * d = x at *
  generalize (q + 1) * d = y at *
  refine ⟨by omega, by omega, ?_, ?_⟩
  · rw [sat_id (by omega) (by omega)]; omega
  · unfold sat
    split
    · omega
    · split <;> omega

set_option maxHeartbeats 1000000 in
set_option maxRecDepth 100000 in
theorem divides_walk (a b : Int) (w : World) (ht : Tab w) (h1 : -9223372036854775808 ≤ a) (h2 : a < 9223372036854775808) (h3 : -9223372036854775808 ≤ b) (h4 : b < 9223372036854775808) :
    Calls Tryd.prog 10 #[.int .i64 a, .int .i64 b] w fun e w' => e = .returned (.bool true) ∧ Below w.heap.size w w' := by
  have HT := Lib.hid ht
  clear ht
  by_cases hb0 : b = 0
  · subst hb0
    go_enter Tryd.func10, Tryd.ntmps10
    go_wp2_with fail
    refine (awake_c w HT.out).mono ?_
    rintro e w1 ⟨rfl, hb⟩
    have HB := Lib.hid hb
    clear hb
    go_wp2_with fail
    refine (div_zero a w1).mono ?_
    rintro e w2 ⟨rfl, k, rfl⟩
    go_wp2_with fail
    go_ret
    exact ⟨rfl, below_draw HB.out k⟩
  · have H0 := Lib.hid hb0
    clear hb0
    go_enter Tryd.func10, Tryd.ntmps10
    go_wp2_with fail
    refine (awake_c w HT.out).mono ?_
    rintro e w1 ⟨rfl, hb⟩
    have HB := Lib.hid hb
    clear hb
    go_wp2_with fail
    refine (div_c a b w1 h1 h2 h3 h4 H0.out).mono ?_
    rintro e w2 ⟨rfl, k, rfl⟩
    have HB2 := Lib.hid (below_draw HB.out k)
    generalize w1.drewN k = w2 at *
    have hr := sat_range (sg (dif a b) (a.natAbs * 4294967296 / b.natAbs))
    change -9223372036854775808 ≤ divF a b ∧ divF a b < 9223372036854775808 at hr
    by_cases c1 : a < 0
    · generalize divF a b = q at *
      go_wp2_with fail
      go_ret
      exact ⟨rfl, HB2.out⟩
    by_cases c2 : b < 4294967296
    · generalize divF a b = q at *
      go_wp2_with fail
      go_ret
      exact ⟨rfl, HB2.out⟩
    obtain ⟨d1, d2, d3, d4⟩ := divides (a := a) (b := b) (by omega) h2 (by omega)
    obtain ⟨r1, r2⟩ := hr
    generalize divF a b = q at *
    by_cases c3 : q = 9223372036854775807
    · subst c3
      go_wp2_with fail
      go_ret
      exact ⟨rfl, HB2.out⟩
    · have c3' : (q == 9223372036854775807) = false := by simpa using c3
      have C1 := Lib.hid (mul_c q b w2 r1 r2 h3 h4)
      have C2 := Lib.hid (mul_c (q + 1) b w2 (by omega) (by omega) h3 h4)
      have i1 : q + 1 ≤ 9223372036854775807 := by omega
      generalize mulF q b = B at *
      generalize mulF (q + 1) b = M at *
      go_upto_region 7 with (fail)
      go_wp2_with (go_at_call 20; first | ((with_reducible refine C1.out.mono ?_); rintro e w2 ⟨rfl, rfl⟩) | ((with_reducible refine C2.out.mono ?_); rintro e w2 ⟨rfl, rfl⟩))
      go_ret
      exact ⟨rfl, HB2.out⟩
end Go.Proofs.YtebabgonffbdhaaDoor

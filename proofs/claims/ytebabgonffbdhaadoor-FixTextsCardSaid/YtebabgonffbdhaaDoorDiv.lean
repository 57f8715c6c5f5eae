/- The contract of Div. -/
import Derived.Test.YtebabgonffbdhaaDoorDiv64
import Derived.Test.YtebabgonffbdhaaDoorMul
namespace Go.Proofs.YtebabgonffbdhaaDoor
open Go.RowKit

theorem div64_any (hi lo y : Nat) (w : World) (h1 : lo < 18446744073709551616) (h2 : hi < y) (h3 : y < 18446744073709551616) :
    Calls Tryd.prog 33 #[.int .u64 (hi : Int), .int .u64 (lo : Int), .int .u64 (y : Int)] w fun e w' => e = .returned (.tuple #[.int .u64 (((hi * 18446744073709551616 + lo) / y : Nat) : Int), .int .u64 (((hi * 18446744073709551616 + lo) % y : Nat) : Int)]) ∧ ∃ n, w' = w.drewN n := by
  rcases Nat.eq_zero_or_pos hi with rfl | h0
  · rw [Nat.zero_mul, Nat.zero_add]
    exact div64_0 lo y w h1 (by omega) h3
  · exact (div64_c hi lo y w h0 h1 h2 h3).mono fun e w' ⟨he, hw⟩ => ⟨he, 0, by rw [← hw]; rfl⟩

theorem div_zero (a : Int) (w : World) : Calls Tryd.prog 12 #[.int .i64 a, .int .i64 0] w fun e w' => e = .returned (.tuple #[.int .i64 0, .int .i64 30]) ∧ ∃ n, w' = w.drewN n := by
  go_enter Tryd.func12, Tryd.ntmps12
  go_wp2_with fail
  go_ret2
  exact ⟨rfl, 0, rfl⟩

theorem div_c (a b : Int) (w : World) (h1 : -9223372036854775808 ≤ a) (h2 : a < 9223372036854775808) (h3 : -9223372036854775808 ≤ b) (h4 : b < 9223372036854775808) (hb : b ≠ 0) :
    Calls Tryd.prog 12 #[.int .i64 a, .int .i64 b] w fun e w' => e = .returned (.tuple #[.int .i64 (divF a b), .int .i64 0]) ∧ ∃ n, w' = w.drewN n := by
  have hbb : (b == 0) = false := by simpa using hb
  have ha : a.natAbs ≤ 9223372036854775808 := by omega
  have hy : b.natAbs < 18446744073709551616 := by omega
  have hy0 : 0 < b.natAbs := by omega
  obtain ⟨H, hH⟩ : ∃ H, H = a.natAbs / 4294967296 := ⟨_, rfl⟩
  obtain ⟨L, hL⟩ : ∃ L, L = a.natAbs * 4294967296 % 18446744073709551616 := ⟨_, rfl⟩
  have hHL : H * 18446744073709551616 + L = a.natAbs * 4294967296 := by omega
  have ct := times_c a w h1 h2
  rw [← hH, ← hL] at ct
  have HT := Lib.hid ct
  have HL := Lib.hid (show L < 18446744073709551616 by omega)
  unfold divF
  by_cases hge : H < b.natAbs
  · have cd := div64_any H L b.natAbs w (by omega) hge hy
    rw [hHL] at cd
    have hql : a.natAbs * 4294967296 / b.natAbs < 18446744073709551616 := by
      rw [Nat.div_lt_iff_lt_mul hy0]
      omega
    have HD := Lib.hid cd
    have HQ := Lib.hid hql
    have hgb : decide (b.natAbs ≤ H) = false := decide_eq_false (by omega)
    generalize a.natAbs * 4294967296 / b.natAbs = q at *
    clear ct cd hH hL hHL hb hge hql
    go_enter Tryd.func12, Tryd.ntmps12
    go_wp2_with (first | (go_at_call 30; refine HT.out.mono ?_; rintro e w' ⟨rfl, rfl⟩) | (go_at_call 31; refine (size_c b _ h3 h4).mono ?_; rintro e w' ⟨rfl, rfl⟩) | fail)
    refine HD.out.mono ?_
    rintro e w2 ⟨rfl, n, rfl⟩
    go_wp2_with fail
    refine (signed_c (dif a b) q _ HQ.out).mono ?_
    rintro e w2 ⟨rfl, rfl⟩
    go_wp2_with fail
    go_ret2
    exact ⟨rfl, n, rfl⟩
  · have hgb : decide (b.natAbs ≤ H) = true := decide_eq_true (by omega)
    have hql : 9223372036854775808 ≤ a.natAbs * 4294967296 / b.natAbs := by
      rw [Nat.le_div_iff_mul_le hy0]
      omega
    have HQ := Lib.hid hql
    clear ct hH hL hHL hb hge hql
    go_enter Tryd.func12, Tryd.ntmps12
    go_wp2_with (first | (go_at_call 30; refine HT.out.mono ?_; rintro e w' ⟨rfl, rfl⟩) | (go_at_call 31; refine (size_c b _ h3 h4).mono ?_; rintro e w' ⟨rfl, rfl⟩) | fail)
    refine (end_c (dif a b) _).mono ?_
    rintro e w2 ⟨rfl, rfl⟩
    go_wp2_with fail
    go_ret2
    exact ⟨by rw [← over_sat _ _ HQ.out]; rfl, 0, rfl⟩
end Go.Proofs.YtebabgonffbdhaaDoor

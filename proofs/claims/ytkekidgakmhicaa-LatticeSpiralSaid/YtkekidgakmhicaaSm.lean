/- The contracts of the small functions: Abs, Trunc, coordinate, Cell, conjugate, sign, signs. -/
import Derived.Test.YtkekidgakmhicaaProg
import Derived.Test.YtkekidgakmhicaaFlt
import Derived.WalkKit
import Derived.WalkSpells
import Derived.WalkLawsBesides
import Derived.Laws.BitsAll
import Derived.Lib.Hide
namespace Go.Proofs.Ytkekidgakmhicaa
open Go.RowKit

theorem run_bits (a : Nat) (w : World) : (callFunc 22 #[.float .f64 a]).run Try.prog w = .ok (.value (.int .u64 (a : Int))) w := by
  rw [run_callFunc_extern Try.func22 (by kernel_rfl) (by kernel_rfl) (by kernel_rfl) (e := Extern.MathFloatBits.float64bits) (by kernel_rfl)]
  rfl
theorem run_frombits (n : Nat) (w : World) : (callFunc 21 #[.int .u64 (n : Int)]).run Try.prog w = .ok (.value (.float .f64 n)) w := by
  rw [run_callFunc_extern Try.func21 (by kernel_rfl) (by kernel_rfl) (by kernel_rfl) (e := Extern.MathFloatBits.float64frombits) (by kernel_rfl)]
  rfl
theorem run_trunc {a : Nat} {x : Int} (h : Num a x) (hx : x.natAbs < 9007199254740992) : ∃ r, Num r x ∧ ∀ w : World, (callFunc 26 #[.float .f64 a]).run Try.prog w = .ok (.value (.float .f64 r)) w := by
  obtain ⟨r, hr, hrun⟩ := num_trunc h hx
  refine ⟨r, hr, fun w => ?_⟩
  rw [run_callFunc_extern Try.func26 (by kernel_rfl) (by kernel_rfl) (by kernel_rfl) (e := Extern.MathFloor.toIntegral "math.archTrunc" .zero) (by kernel_rfl), hrun]
  rfl

theorem unary_neg_float (k : FloatKind) (b : Nat) : Op.unary .neg (.float k b) = pure (.float k (Op.negFloat k b)) := rfl
attribute [local go_sem] unary_neg_float
theorem conj_c (a b : Nat) (w : World) :
    Calls Try.prog 23 #[.complex .f64 a b] w fun e w' => e = .returned (.complex .f64 a (Op.negFloat .f64 b)) ∧ w = w' := by
  go_enter Try.func23, Try.ntmps23
  go_wp2_with fail
  go_ret
  exact ⟨rfl, rfl⟩

theorem andNot_sign (a : Nat) (h : a < 18446744073709551616) : bits .andNot .u64 (a : Int) 9223372036854775808 = ((a % 9223372036854775808 : Nat) : Int) := by
  have := u64_andNot_nat a 9223372036854775808 h (by decide)
  rw [show (18446744073709551615 - 9223372036854775808 : Nat) = 2 ^ 63 - 1 by decide, Nat.and_two_pow_sub_one_eq_mod] at this
  exact this
theorem abs_c (a : Nat) (w : World) (h : a < 18446744073709551616) :
    Calls Try.prog 15 #[.float .f64 a] w fun e w' => e = .returned (.float .f64 (a % 9223372036854775808)) ∧ w = w' := by
  have h1 := run_bits a
  have h2 := run_frombits (a % 9223372036854775808)
  have h3 := andNot_sign a h
  generalize a % 9223372036854775808 = r at *
  clear h
  go_enter Try.func15, Try.ntmps15
  go_wp2_with fail
  go_ret
  exact ⟨rfl, rfl⟩
theorem trunc_c {a : Nat} {x : Int} (h : Num a x) (hx : x.natAbs < 9007199254740992) : ∃ r, Num r x ∧ ∀ w : World,
    Calls Try.prog 25 #[.float .f64 a] w fun e w' => e = .returned (.float .f64 r) ∧ w = w' := by
  obtain ⟨r, hr, h1⟩ := run_trunc h hx
  refine ⟨r, hr, fun w => ?_⟩
  clear h hx hr
  go_enter Try.func25, Try.ntmps25
  go_wp2_with fail
  go_ret
  exact ⟨rfl, rfl⟩
theorem num_maxCell : Num 4697254411347427328 1048576 := by
  have := num_of_int 1048576 (by decide)
  rwa [show floatOfInt .f64 1048576 = 4697254411347427328 by decide] at this
theorem coord_c {a : Nat} {x : Int} (w : World) (h : Num a x) (hx : x.natAbs < 9007199254740992) :
    Calls Try.prog 20 #[.float .f64 a] w fun e w' => e = .returned (.bool (decide (x.natAbs ≤ 1048576))) ∧ w = w' := by
  obtain ⟨r, hr, ht⟩ := trunc_c h hx
  have e1 : (FloatKind.f64.format.order a r == some .eq) = true := by rw [num_eq h hr]; simp
  have e2 := num_le (num_abs h) num_maxCell
  rw [show decide ((x.natAbs : Int) ≤ 1048576) = decide (x.natAbs ≤ 1048576) by congr 1; apply propext; omega] at e2
  have HA := Lib.hid (fun w => abs_c a w h.2)
  have HT := Lib.hid ht
  generalize a % 9223372036854775808 = q at *
  generalize decide (x.natAbs ≤ 1048576) = res at *
  clear h hx hr ht
  go_enter Try.func20, Try.ntmps20
  go_wp2_with (first | (go_at_call 25; refine (HT.out _).mono ?_; rintro e w' ⟨rfl, rfl⟩) | (go_at_call 15; refine (HA.out _).mono ?_; rintro e w' ⟨rfl, rfl⟩))
  go_ret
  exact ⟨rfl, rfl⟩
/-- Of a number that is no whole one. -/
theorem coord_half (w : World) : Calls Try.prog 20 #[.float .f64 4609434218613702656] w fun e w' => e = .returned (.bool false) ∧ w = w' := by
  have h1 : ∀ w : World, (callFunc 26 #[.float .f64 4609434218613702656]).run Try.prog w = .ok (.value (.float .f64 4607182418800017408)) w := by
    intro w
    rw [run_callFunc_extern Try.func26 (by kernel_rfl) (by kernel_rfl) (by kernel_rfl) (e := Extern.MathFloor.toIntegral "math.archTrunc" .zero) (by kernel_rfl)]
    rfl
  have e1 : (FloatKind.f64.format.order 4609434218613702656 4607182418800017408 == some .eq) = false := by decide
  go_enter Try.func20, Try.ntmps20
  go_wp2
  go_ret
  exact ⟨rfl, rfl⟩
theorem cell_no (a b : Nat) (w : World) (h : ∀ w : World, Calls Try.prog 20 #[.float .f64 a] w fun e w' => e = .returned (.bool false) ∧ w = w') :
    Calls Try.prog 11 #[.complex .f64 a b] w fun e w' => e = .returned (.bool false) ∧ w = w' := by
  have H := Lib.hid h
  clear h
  go_enter Try.func11, Try.ntmps11
  go_wp2_with (go_at_call 20; refine (H.out _).mono ?_; rintro e w' ⟨rfl, rfl⟩)
  go_ret
  exact ⟨rfl, rfl⟩
theorem cell_half (w : World) : Calls Try.prog 11 #[.complex .f64 4609434218613702656 0] w fun e w' => e = .returned (.bool false) ∧ w = w' := cell_no _ _ w coord_half
/-- Of whole numbers that are cells. -/
theorem cell_c {a b : Nat} {x y : Int} (w : World) (h : Cx a b x y) (hx : x.natAbs ≤ 1048576) (hy : y.natAbs ≤ 1048576) :
    Calls Try.prog 11 #[.complex .f64 a b] w fun e w' => e = .returned (.bool true) ∧ w = w' := by
  have h1 := fun w => coord_c w h.re (by omega)
  have h2 := fun w => coord_c w h.im (by omega)
  rw [decide_eq_true hx] at h1
  rw [decide_eq_true hy] at h2
  have H1 := Lib.hid h1
  have H2 := Lib.hid h2
  clear h1 h2 h hx hy
  go_enter Try.func11, Try.ntmps11
  go_wp2_with fail
  refine (H1.out _).mono ?_
  rintro e w' ⟨rfl, rfl⟩
  go_wp2_with fail
  refine (H2.out _).mono ?_
  rintro e w' ⟨rfl, rfl⟩
  go_wp2_with fail
  go_ret
  exact ⟨rfl, rfl⟩
end Go.Proofs.Ytkekidgakmhicaa

/- The contract of Far. -/
import Derived.Test.YtkekidgakmhicaaSm
namespace Go.Proofs.Ytkekidgakmhicaa
open Go.RowKit

theorem far_c {a b c d : Nat} {x y u v : Int} (w : World) (h : Cx a b x y) (k : Cx c d u v) (hx : x.natAbs ≤ 1048576) (hy : y.natAbs ≤ 1048576) (hu : u.natAbs ≤ 1048576) (hv : v.natAbs ≤ 1048576) :
    Calls Try.prog 6 #[.complex .f64 a b, .complex .f64 c d] w fun e w' => e = .returned (.tuple #[.int .i64 (max ((u - x).natAbs : Int) ((v - y).natAbs : Int)), .int .i64 0]) ∧ w = w' := by
  have H1 := Lib.hid (fun w => cell_c w h hx hy)
  have H2 := Lib.hid (fun w => cell_c w k hu hv)
  obtain ⟨p, q, e, n⟩ := cx_sub k h (by omega) (by omega)
  have e1 : ∀ w : World, (binOp .sub 23 (.complex .f64 c d) (.complex .f64 a b)).run Try.prog w = .ok (.complex .f64 p q) w := fun w => run_complex_sum w .sub (.inr rfl) 23 .f64 c d a b p q e
  have H3 := Lib.hid (fun w => abs_c p w n.re.2)
  have H4 := Lib.hid (fun w => abs_c q w n.im.2)
  obtain ⟨m, hm, em⟩ := num_max (num_abs n.re) (num_abs n.im)
  have e2 := em Try.prog
  have e3 : ∀ w : World, (convert 30 3 (.float .f64 m)).run Try.prog w = .ok (.int .i64 (max ((u - x).natAbs : Int) ((v - y).natAbs : Int))) w :=
    fun w => run_convert_float_int w 30 3 .f64 .i64 m _ (by kernel_rfl) Try.underlying3 (num_to_int hm (by omega) (by omega))
  generalize p % 9223372036854775808 = p' at *
  generalize q % 9223372036854775808 = q' at *
  generalize max ((u - x).natAbs : Int) ((v - y).natAbs : Int) = M at *
  clear em hm n e h k hx hy hu hv
  go_enter Try.func6, Try.ntmps6
  go_wp2_with fail
  refine (H1.out _).mono ?_
  rintro e w' ⟨rfl, rfl⟩
  go_wp2_with fail
  refine (H2.out _).mono ?_
  rintro e w' ⟨rfl, rfl⟩
  go_wp2_with fail
  refine (H3.out _).mono ?_
  rintro e w' ⟨rfl, rfl⟩
  go_wp2_with fail
  refine (H4.out _).mono ?_
  rintro e w' ⟨rfl, rfl⟩
  go_wp2_with fail
  go_ret2
  exact ⟨rfl, rfl⟩
end Go.Proofs.Ytkekidgakmhicaa

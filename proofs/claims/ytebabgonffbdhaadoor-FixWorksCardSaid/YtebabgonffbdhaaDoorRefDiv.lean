/- The reference's Div answers as the program's. -/
import Derived.Test.YtebabgonffbdhaaDoorOver
namespace Go.Proofs.YtebabgonffbdhaaDoor
open Go.RowKit

theorem rdiv_zero (a : Int) (w : World) : Calls Tryd.prog 14 #[.int .i64 a, .int .i64 0] w fun e w' => e = .returned (.tuple #[.int .i64 0, .int .i64 30]) ∧ Below w.heap.size w w' := by
  go_enter Tryd.func14, Tryd.ntmps14
  go_wp2_with fail
  go_ret2
  exact ⟨rfl, Below.refl _ _⟩

set_option maxRecDepth 100000 in
theorem rdiv_c (a b : Int) (w : World) (h1 : -9223372036854775808 ≤ a) (h2 : a < 9223372036854775808) (h3 : -9223372036854775808 ≤ b) (h4 : b < 9223372036854775808) (hb : b ≠ 0) :
    Calls Tryd.prog 14 #[.int .i64 a, .int .i64 b] w fun e w' => e = .returned (.tuple #[.int .i64 (divF a b), .int .i64 0]) ∧ Below w.heap.size w w' := by
  have hbb : (b == 0) = false := by simpa using hb
  have HN := Lib.hid (show 0 < b.natAbs ∧ b.natAbs < 170141183460469231731687303715884105728 by omega)
  clear hb
  go_enter Tryd.func14, Tryd.ntmps14
  go_wp2_with fail
  refine (of_any a w h1 h2).mono ?_
  rintro e w1 ⟨⟨a0, a1, a2, a3, rfl, da, va⟩, hb1⟩
  have HA := Lib.hid (And.intro da va)
  have HB1 := Lib.hid hb1
  clear da va hb1
  go_wp2_with fail
  refine (shift_up _ a0 a1 a2 a3 0 0 0 0 w1).mono ?_
  rintro e w2 ⟨rfl, hb2⟩
  have HB2 := Lib.hid (bt HB1.out hb2)
  clear hb2
  go_wp2_with fail
  refine (of_any b w2 h3 h4).mono ?_
  rintro e w3 ⟨⟨b0, b1, b2, b3, rfl, db, vb⟩, hb3⟩
  have HBb := Lib.hid (And.intro db vb)
  have HB3 := Lib.hid (bt HB2.out hb3)
  clear db vb hb3
  go_wp2_with fail
  refine (over_c _ _ ⟨0, 0, a0, a1, a2, a3, 0, 0⟩ ⟨b0, b1, b2, b3, 0, 0, 0, 0⟩ w3 (up_dig HA.out.1) HBb.out.1 ?g0 ?g1).mono ?_
  case g0 => show 0 < vl8 b0 b1 b2 b3 0 0 0 0; rw [HBb.out.2]; exact HN.out.1
  case g1 => show vl8 b0 b1 b2 b3 0 0 0 0 < _; rw [HBb.out.2]; exact HN.out.2
  rintro e w4 ⟨⟨c, rfl, okc, vc⟩, hb4⟩
  have hv : c.vl = a.natAbs * 4294967296 / b.natAbs := by
    rw [vc]
    show vl8 0 0 a0 a1 a2 a3 0 0 / vl8 b0 b1 b2 b3 0 0 0 0 = _
    rw [up_vl, HA.out.2, HBb.out.2]
  have HC := Lib.hid (And.intro okc hv)
  have HB4 := Lib.hid (bt HB3.out hb4)
  clear okc vc hv hb4
  go_wp2_with fail
  refine (stop_c _ c.x0 c.x1 c.x2 c.x3 c.x4 c.x5 c.x6 c.x7 w4 HC.out.1).mono ?_
  rintro e w5 ⟨rfl, hb5⟩
  have HB5 := Lib.hid (bt HB4.out hb5)
  have hv : vl8 c.x0 c.x1 c.x2 c.x3 c.x4 c.x5 c.x6 c.x7 = a.natAbs * 4294967296 / b.natAbs := HC.out.2
  rw [hv]
  clear hb5 hv
  go_wp2_with fail
  go_ret2
  exact ⟨rfl, HB5.out⟩
end Go.Proofs.YtebabgonffbdhaaDoor

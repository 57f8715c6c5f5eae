/- The walk of FixTexts: which texts are numbers, and which texts numbers have. -/
import Derived.Test.YtebabgonffbdhaaDoorAwake
import Derived.Test.YtebabgonffbdhaaDoorRefPrint
import Derived.Test.YtebabgonffbdhaaDoorRefParse
namespace Go.Proofs.YtebabgonffbdhaaDoor
open Go.RowKit

theorem pval_two (o : Option Nat) : ∃ x y : Int, pval o = .tuple #[.int .i64 x, .int .i64 y] := by
  cases o with
  | none => exact ⟨0, 20, rfl⟩
  | some n => exact ⟨n, 0, rfl⟩

set_option maxHeartbeats 2000000 in
set_option maxRecDepth 100000 in
theorem texts_walk (s : ByteArray) (a : Int) (w : World) (ht : Tab w) (hs : s.size ≤ maxLen) (h1 : -9223372036854775808 ≤ a) (h2 : a < 9223372036854775808) :
    Calls Tryd.prog 4 #[.string s, .int .i64 a] w fun e w' => e = .returned (.bool true) ∧ Below w.heap.size w w' := by
  have HT := Lib.hid ht
  have CP := Lib.hid (fun v => parse_c s v hs)
  have RP := Lib.hid (fun v => rparse_c s v hs)
  obtain ⟨x, y, hp⟩ := pval_two (parseF (cs s))
  rw [hp] at CP RP
  have CT := Lib.hid (fun v hv => print_c a v hv h1 h2)
  have RT := Lib.hid (fun v => rprint_c a v h1 h2)
  generalize strOf (printF a) = txt at *
  clear ht hp hs
  go_enter Tryd.func4, Tryd.ntmps4
  go_wp2_with fail
  refine (awake_c w HT.out).mono ?_
  rintro e w1 ⟨rfl, hb⟩
  have HB1 := Lib.hid hb
  clear hb
  go_wp2_with fail
  refine (CP.out w1).mono ?_
  rintro e w2 ⟨rfl, rfl⟩
  go_wp2_with fail
  refine (RP.out w1).mono ?_
  rintro e w2 ⟨rfl, hb⟩
  have HB2 := Lib.hid (bt HB1.out hb)
  clear hb
  go_wp2_with fail
  refine (CT.out w2 (HT.out.below HB2.out)).mono ?_
  rintro e w3 ⟨rfl, hb⟩
  have HB3 := Lib.hid (bt HB2.out hb)
  clear hb
  go_wp2_with fail
  refine (RT.out w3).mono ?_
  rintro e w4 ⟨rfl, hb⟩
  have HB4 := Lib.hid (bt HB3.out hb)
  clear hb
  go_wp2_with fail
  go_ret
  exact ⟨rfl, HB4.out⟩
end Go.Proofs.YtebabgonffbdhaaDoor

/- The contract of awake: the document's examples come out right. -/
import Derived.Test.YtebabgonffbdhaaDoorDiv
import Derived.Test.YtebabgonffbdhaaDoorSqrt
import Derived.Test.YtebabgonffbdhaaDoorParse
import Derived.Test.YtebabgonffbdhaaDoorPrint
namespace Go.Proofs.YtebabgonffbdhaaDoor
open Go.RowKit

theorem x_div : divF 4294967296 12884901888 = 1431655765 := by decide
theorem x_mul : mulF (-9223372036854775808) (-9223372036854775808) = 9223372036854775807 := by decide
theorem x_add : addF 9223372036854775807 1 = 9223372036854775807 := by decide
theorem x_rt : IsRt (8589934592 * 4294967296) 6074000999 := ⟨by decide, by decide⟩
theorem x_p1 : parseF (cs ⟨#[48, 46, 49]⟩) = some 429496729 := by kernel_rfl
theorem x_p2 : parseF (cs ⟨#[48, 49, 46, 53]⟩) = none := by kernel_rfl
theorem x_pr : strOf (printF 6442450944) = ⟨#[49, 46, 53]⟩ := by
  have : printF 6442450944 = [49, 46, 53] := by
    unfold printF
    rw [minus_pos (by decide), show (6442450944 : Int).natAbs / 4294967296 = 1 by decide, dd_small (by decide)]
    rfl
  rw [this]
  rfl

set_option maxHeartbeats 1000000 in
set_option maxRecDepth 100000 in
theorem awake_c (w : World) (ht : Tab w) : Calls Tryd.prog 11 #[] w fun e w' => e = .returned (.bool true) ∧ Below w.heap.size w w' := by
  have HT := Lib.hid ht
  clear ht
  go_enter Tryd.func11, Tryd.ntmps11
  go_wp2_with fail
  refine (div_c 4294967296 12884901888 w (by decide) (by decide) (by decide) (by decide) (by decide)).mono ?_
  rintro e w1 ⟨rfl, n1, rfl⟩
  rw [x_div]
  go_wp2_with fail
  refine (div_zero 1 _).mono ?_
  rintro e w1 ⟨rfl, n2, rfl⟩
  go_wp2_with fail
  refine (sqrt_c 8589934592 _ (by decide)).mono ?_
  rintro e w1 ⟨⟨n, hn, _, rfl⟩, rfl⟩
  obtain rfl : n = 6074000999 := hn.unique x_rt
  go_wp2_with fail
  refine (parse_c _ _ (by decide)).mono ?_
  rintro e w1 ⟨rfl, rfl⟩
  rw [x_p1]
  simp only [pval]
  go_wp2_with fail
  refine (parse_c _ _ (by decide)).mono ?_
  rintro e w1 ⟨rfl, rfl⟩
  rw [x_p2]
  simp only [pval]
  have hb : Below w.heap.size w (w.drewN (n1 + n2)) := below_draw (Below.refl _ _) _
  generalize w.drewN (n1 + n2) = w2 at *
  have hz := hb.size
  have HB := Lib.hid hb
  clear hb hz hn
  go_wp2_with fail
  refine (mul_c (-9223372036854775808) (-9223372036854775808) w2 (by decide) (by decide) (by decide) (by decide)).mono ?_
  rintro e w1 ⟨rfl, rfl⟩
  rw [x_mul]
  go_wp2_with fail
  refine (add_c 9223372036854775807 1 w2 (by decide) (by decide) (by decide) (by decide)).mono ?_
  rintro e w1 ⟨rfl, rfl⟩
  rw [x_add]
  go_wp2_with fail
  refine (print_c 6442450944 w2 (HT.out.below HB.out) (by decide) (by decide)).mono ?_
  rintro e w3 ⟨rfl, hb3⟩
  rw [x_pr]
  have HB3 := Lib.hid (HB.out.trans (hb3.mono HB.out.size))
  go_wp2_with fail
  go_ret
  exact ⟨rfl, HB3.out⟩
end Go.Proofs.YtebabgonffbdhaaDoor

/- The walk of WireRest: the sum of a frame is one number. -/
import Derived.Test.YtmddhlpkanjffaaDoorAwake
namespace Go.Proofs.YtmddhlpkanjffaaDoor
open Go.RowKit

set_option maxHeartbeats 1000000 in
set_option maxRecDepth 100000 in
theorem rest_walk (v : Value) (bs : List Nat) (w : World) (hv : SlB w v bs) (ht : Tab w) (hn : bs.length * 1 ≤ 140737488351232) (hby : ∀ x ∈ bs, x < 256) :
    Calls Tryd.prog 9 #[v] w fun e w' => e = .returned (.bool true) ∧ Below w.heap.size w w' := by
  have HV := Lib.hid hv
  have HT := Lib.hid ht
  have HBy := Lib.hid hby
  obtain ⟨A, c, rfl, _, _, _⟩ := hv
  clear ht hby
  go_enter Tryd.func9, Tryd.ntmps9
  go_wp2_with fail
  refine (awake_c w HT.out).mono ?_
  rintro e w1 ⟨rfl, hb1⟩
  have HB1 := Lib.hid hb1
  clear hb1
  go_wp2_with fail
  refine (frame_c _ bs w1 (HV.out.below HB1.out) (HT.out.below HB1.out) (by omega) HBy.out).mono ?_
  rintro e w2 ⟨g, n, rfl, hn2, hg, hk, hb2⟩
  have hsl := (OwnB.blk (base := 0) hk (Nat.zero_le _) hn2 (by rw [frame_length]; unfold maxLen; omega)).sl
  rw [frame_length] at hn2
  have HB2 := Lib.hid (below_trans HB1.out hb2)
  have HS := Lib.hid hsl
  have hd : ((n : Int) == (bs.length : Int) + 4) = true := by simp; omega
  clear hk hb2 hsl hg hn2
  go_wp2_with fail
  refine (sum_c _ _ w2 HS.out (HT.out.below HB2.out) (by rw [frame_length]; omega) (frame_lt HBy.out)).mono ?_
  rintro e w3 ⟨rfl, rfl⟩
  rw [crc_frame HBy.out]
  go_wp2_with fail
  go_ret
  exact ⟨rfl, HB2.out⟩

end Go.Proofs.YtmddhlpkanjffaaDoor

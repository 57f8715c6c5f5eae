/- The walk of WireReads: which numbers and texts bytes say. -/
import Derived.Test.YtmddhlpkanjffaaDoorAwake
import Derived.Test.YtmddhlpkanjffaaDoorRefReads
import Derived.Test.YtmddhlpkanjffaaDoorLent
namespace Go.Proofs.YtmddhlpkanjffaaDoor
open Go.RowKit

theorem numVal_shape (x : Except Nat (Nat × Nat)) : ∃ a b c : Int, numVal x = .tuple #[.int .i64 a, .int .i64 b, .int .i64 c] := by
  cases x with
  | error e => exact ⟨_, _, _, rfl⟩
  | ok q => exact ⟨_, _, _, rfl⟩
theorem intVal_shape (x : Except Nat (Nat × Nat)) : ∃ a b c : Int, intVal x = .tuple #[.int .i64 a, .int .i64 b, .int .i64 c] := by
  cases x with
  | error e => exact ⟨_, _, _, rfl⟩
  | ok q => exact ⟨_, _, _, rfl⟩
theorem txVal_shape (x : Except Nat (List Nat × Nat)) : ∃ (s : ByteArray) (b c : Int), txVal x = .tuple #[.string s, .int .i64 b, .int .i64 c] := by
  cases x with
  | error e => exact ⟨_, _, _, rfl⟩
  | ok q => exact ⟨_, _, _, rfl⟩

set_option maxHeartbeats 2000000 in
set_option maxRecDepth 100000 in
theorem reads_walk (v : Value) (bs : List Nat) (at_ : Int) (w : World) (hv : SlB w v bs) (ht : Tab w) (hn : bs.length * 1 ≤ 140737488351232) (hby : ∀ x ∈ bs, x < 256) (h : -9223372036854775808 ≤ at_ ∧ at_ < 9223372036854775808) :
    Calls Tryd.prog 4 #[v, .int .i64 at_] w fun e w' => e = .returned (.bool true) ∧ Below w.heap.size w w' := by
  have HV := Lib.hid hv
  have HT := Lib.hid ht
  have HBy := Lib.hid hby
  obtain ⟨A, c, rfl, hc, hA, hr⟩ := hv
  have HRd := Lib.hid hr
  have HAt := Lib.hid h
  clear ht hby hr h
  have hn2 : bs.length ≤ 140737488355328 := by omega
  obtain ⟨a1, b1, c1, e1⟩ := numVal_shape (rdAns bs at_ 9)
  obtain ⟨a2, b2, c2, e2⟩ := intVal_shape (rdAns bs at_ 10)
  obtain ⟨s3, b3, c3, e3⟩ := txVal_shape (txAns bs at_)
  have E1 := Lib.hid e1
  have E2 := Lib.hid e2
  have E3 := Lib.hid e3
  clear e1 e2 e3
  go_enter Tryd.func4, Tryd.ntmps4
  go_wp2_with fail
  refine (awake_c w HT.out).mono ?_
  rintro e w1 ⟨rfl, hb1⟩
  have HB1 := Lib.hid hb1
  clear hb1
  go_wp2_with fail
  refine (lent_c A c bs w1 ((HRd.out.below HB1.out).more HB1.out.size) hn2).mono ?_
  rintro e w2 ⟨g, rfl, hg, hk2, hb2⟩
  have HG2 := Lib.hid hk2
  have HB2 := Lib.hid (below_trans HB1.out hb2)
  have HGb : Hid (w.heap.size ≤ g) := Nat.le_trans HB1.out.size hg
  have HS2 := Lib.hid (U8s_reads (c := bs.length + 3) hk2 rfl (by omega))
  clear hk2 hb2 hg HB1
  go_wp2_with fail
  refine (readnum_c _ bs at_ w2 HS2.out (by omega) HAt.out.1 HAt.out.2 HBy.out).mono ?_
  rintro e w3 ⟨rfl, hb3⟩
  rw [E1.out]
  have HG3 := Lib.hid (HG2.out.below hb3 HG2.out.lt)
  have HB3 := Lib.hid (below_trans HB2.out hb3)
  have HS3 := Lib.hid (HS2.out.below hb3)
  clear hb3 HG2 HB2 HS2
  go_wp2_with fail
  refine (readint_c _ bs at_ w3 HS3.out (by omega) HAt.out.1 HAt.out.2 HBy.out).mono ?_
  rintro e w4 ⟨rfl, hb4⟩
  rw [E2.out]
  have HG4 := Lib.hid (HG3.out.below hb4 HG3.out.lt)
  have HB4 := Lib.hid (below_trans HB3.out hb4)
  have HS4 := Lib.hid (HS3.out.below hb4)
  clear hb4 HG3 HB3 HS3
  go_wp2_with fail
  refine (readtext_c _ bs at_ w4 HS4.out (by omega) HAt.out.1 HAt.out.2 HBy.out).mono ?_
  rintro e w5 ⟨rfl, hb5⟩
  rw [E3.out]
  have HG5 := Lib.hid (HG4.out.below hb5 HG4.out.lt)
  have HB5 := Lib.hid (below_trans HB4.out hb5)
  clear hb5 HG4 HB4 HS4
  go_wp2_with fail
  refine (kept_c g c w.heap.size A bs w5 HG5.out (HRd.out.below HB5.out) HGb.out hn2).mono ?_
  rintro e w6 ⟨rfl, hf6⟩
  have HB6 := Lib.hid (below_at HB5.out hf6 HGb.out HB5.out.size)
  have HV6 := Lib.hid (HV.out.below HB6.out)
  clear hf6 HB5 HG5
  go_wp2_with fail
  refine (rreadnum_c _ bs at_ w6 HV6.out (by omega) HAt.out.1 HAt.out.2 HBy.out).mono ?_
  rintro e w7 ⟨rfl, rfl⟩
  rw [E1.out]
  go_wp2_with fail
  refine (rreadint_c _ bs at_ w7 HV6.out (by omega) HAt.out.1 HAt.out.2 HBy.out).mono ?_
  rintro e w8 ⟨rfl, rfl⟩
  rw [E2.out]
  go_wp2_with fail
  refine (rreadtext_c _ bs at_ w8 HV6.out (by omega) HAt.out.1 HAt.out.2 HBy.out).mono ?_
  rintro e w9 ⟨rfl, rfl⟩
  rw [E3.out]
  go_wp2_with fail
  go_ret
  exact ⟨rfl, HB6.out⟩

end Go.Proofs.YtmddhlpkanjffaaDoor

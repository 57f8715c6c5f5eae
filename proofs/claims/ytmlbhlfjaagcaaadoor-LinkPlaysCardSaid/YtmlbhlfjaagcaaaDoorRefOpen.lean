/- The document's own Frame and Open: they answer as the program's do. -/
import Derived.Test.YtmlbhlfjaagcaaaDoorRefWrite
import Derived.BigRegion
namespace Go.Proofs.YtmlbhlfjaagcaaaDoor
open Go.RowKit

set_option maxHeartbeats 1000000 in
set_option maxRecDepth 100000 in
theorem rframe_c (v : Value) (bs : List Nat) (w : World) (hv : SlB w v bs) (hn : bs.length ≤ 140737488355318) (hby : ∀ x ∈ bs, x < 256) :
    Calls Tryd.prog 38 #[v] w (Made w (frame bs)) := by
  have HV := Lib.hid hv
  have hlt := crc_lt hby
  have HL : Hid ((le4 (crc bs)).length = 4) := rfl
  clear hv
  go_enter Tryd.func38, Tryd.ntmps38
  go_wp2_with fail
  refine (rsum_c v bs w HV.out (by omega) hby).mono ?_
  rintro e w1 ⟨rfl, rfl⟩
  have HLe : Hid (le4 (crc bs) = [crc bs % 256, crc bs / 256 % 256, crc bs / 65536 % 256, crc bs / 16777216 % 256]) := rfl
  have HFr : Hid (frame bs = bs ++ le4 (crc bs)) := rfl
  generalize crc bs = s at hlt HLe HL HFr
  clear hby
  go_wp2_with fail
  have hs1 : SlB (w1.alloc (.cells #[.int .u8 ((s : Int) % 256), .int .u8 ((s : Int) / 256 % 256), .int .u8 ((s : Int) / 65536 % 256), .int .u8 ((s : Int) / 16777216)] 5)) (.slice (some ⟨w1.heap.size, 0, none⟩) 4 4) (le4 s) := by
    have ea : (#[.int .u8 ((s : Int) % 256), .int .u8 ((s : Int) / 256 % 256), .int .u8 ((s : Int) / 65536 % 256), .int .u8 ((s : Int) / 16777216)] : Array Value) = (U8s (le4 s)).toArray := by
      rw [HLe.out]
      have e : (s : Int) / 16777216 = ((s / 16777216 % 256 : Nat) : Int) := by omega
      rw [e]
      rfl
    rw [ea]
    exact (own_new w1 (le4 s) (by rw [HL.out]; omega)).sl
  have hb1 : Below w1.heap.size w1 (w1.alloc (.cells #[.int .u8 ((s : Int) % 256), .int .u8 ((s : Int) / 256 % 256), .int .u8 ((s : Int) / 65536 % 256), .int .u8 ((s : Int) / 16777216)] 5)) := (Below.refl _ _).alloc (Nat.le_refl _) _
  generalize w1.alloc (.cells #[.int .u8 ((s : Int) % 256), .int .u8 ((s : Int) / 256 % 256), .int .u8 ((s : Int) / 65536 % 256), .int .u8 ((s : Int) / 16777216)] 5) = w2 at hs1 hb1
  refine (rcopied_c v _ bs (le4 s) w2 (HV.out.below hb1) hs1 (by rw [HL.out]; omega)).mono ?_
  rintro e w3 ⟨v3, rfl, ho3, hb3⟩
  have HO3 : Hid (OwnB w3 w1.heap.size v3 (frame bs)) := by show OwnB _ _ _ _; rw [HFr.out]; exact ho3.lower hb1.size
  have HB3 := Lib.hid (below_trans hb1 hb3)
  clear ho3 hb3 hs1 hb1
  go_wp2_with fail
  go_ret
  exact ⟨_, rfl, HO3.out, HB3.out⟩

/-- Open's answer: the bytes ahead of the last four, where those are their sum. -/
def OpenedR (w : World) (bs : List Nat) (e : Ending) (w' : World) : Prop :=
  Below w.heap.size w w' ∧
  ((bs = frame (bs.take (bs.length - 4)) ∧ 4 ≤ bs.length ∧ ∃ v, e = .returned (.tuple #[v, .bool true]) ∧ OwnB w' w.heap.size v (bs.take (bs.length - 4))) ∨
   (¬ (bs = frame (bs.take (bs.length - 4)) ∧ 4 ≤ bs.length) ∧ e = .returned (.tuple #[.slice none 0 0, .bool false])))

set_option maxHeartbeats 2000000 in
set_option maxRecDepth 100000 in
theorem ropen_c (v : Value) (bs : List Nat) (w : World) (hv : SlB w v bs) (hn : bs.length ≤ 140737488355318) (hby : ∀ x ∈ bs, x < 256) :
    Calls Tryd.prog 50 #[v] w (OpenedR w bs) := by
  have HV := Lib.hid hv
  have HBy := Lib.hid hby
  obtain ⟨A, c, rfl, hc, hA, _⟩ := hv
  clear hby
  rcases Nat.lt_or_ge bs.length 4 with h4 | h4
  · have hd : decide ((bs.length : Int) < 4) = true := by simp; omega
    go_enter Tryd.func50, Tryd.ntmps50
    go_wp2_with fail
    go_ret2
    exact ⟨Below.refl _ _, .inr ⟨fun h => by omega, rfl⟩⟩
  · have hd : decide ((bs.length : Int) < 4) = false := by simp; omega
    have ht0 := HV.out.take (k := bs.length - 4) (by omega)
    have HT0 := Lib.hid ht0
    have HBy0 : Hid (∀ x ∈ bs.take (bs.length - 4), x < 256) := fun x hx => HBy.out x (List.mem_of_mem_take hx)
    have HLen : Hid ((bs.take (bs.length - 4)).length ≤ 140737488355318) := by show _ ≤ _; rw [List.length_take]; omega
    clear ht0
    go_enter Tryd.func50, Tryd.ntmps50
    go_wp2_with fail
    have hcs := fun wz (hz : Below w.heap.size w wz) => (HV.out.below hz).conv
    have HCS := Lib.hid hcs
    clear hcs
    have hcv0 := HCS.out w.drew ((Below.refl _ _).drew)
    go_cut [18] (fun s18 wx => Below w.heap.size w wx ∧ s18 = .bool (decide (¬ bs = frame (bs.take (bs.length - 4)))))
    case first =>
      have hcmp : ((strOf (frame (bs.take (bs.length - 4)))).toList != (strOf bs).toList) = decide (¬ bs = frame (bs.take (bs.length - 4))) := by
        rw [ByteArray.toList_eq, ByteArray.toList_eq]
        by_cases h : bs = frame (bs.take (bs.length - 4))
        · rw [decide_eq_false (not_not_intro h), ← h]
          simp
        · rw [decide_eq_true h, bne_iff_ne]
          intro e
          exact h ((strOf_inj (frame_lt HBy0.out) HBy.out).1 (WideShapes.bytes_inj e)).symm
      have HCmp := Lib.hid hcmp
      clear hcmp
      go_region_with (go_at_call 38; refine (rframe_c _ _ w.drew (HT0.out.below ((Below.refl _ _).drew)) HLen.out HBy0.out).mono ?_; rintro e w1 ⟨v1, rfl, ho1, hb1⟩; have hb1' := below_trans (w := w) ((Below.refl _ _).drew) hb1; have hcv1 := ho1.sl.conv; have hcv2 := HCS.out w1 hb1'; have HB1 := Lib.hid hb1'; clear hb1 hb1' ho1)
      all_goals (go_wp2_with fail; go_meet; exact ⟨HB1.out, by rw [← HCmp.out]; rfl⟩)
    case rest =>
      obtain ⟨hb, rfl⟩ := hcut
      have HB := Lib.hid hb
      clear hb hcv0 HCS
      by_cases h : bs = frame (bs.take (bs.length - 4))
      · rw [decide_eq_false (not_not_intro h)]
        have HH := Lib.hid h
        have HO0 := Lib.hid (own_new wc [] (by simp))
        have hb0 : Hid (Below wc.heap.size wc (wc.alloc (.cells #[] 5))) := (Below.refl _ _).alloc (Nat.le_refl _) _
        clear h
        go_wp2_with (at_builtin; refine wpList_bytes rfl (.tmp 19) (.tmp 20) rfl wc.heap.size _ _ [] (bs.take (bs.length - 4)) rfl HO0.out rfl (HT0.out.below (below_trans HB.out hb0.out)) (by have := HLen.out; simp only [List.length_nil]; omega) hb0.out.size ?_)
        intro v2 w2 ho2 hg2
        have HB2 := Lib.hid (below_trans HB.out (grown_below hb0.out hb0.out.size HO0.out hg2))
        have HO2 := Lib.hid (ho2.lower HB.out.size)
        clear ho2 hg2
        go_wp2_with fail
        go_ret2
        exact ⟨HB2.out, .inl ⟨HH.out, h4, v2, rfl, HO2.out⟩⟩
      · rw [decide_eq_true h]
        have HH := Lib.hid h
        clear h
        go_wp2_with fail
        go_ret2
        exact ⟨HB.out, .inr ⟨fun hh => HH.out hh.1, rfl⟩⟩

end Go.Proofs.YtmlbhlfjaagcaaaDoor

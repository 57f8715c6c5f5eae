/- The contract of awake: the document's examples come out right. -/
import Derived.Test.YtmddhlpkanjffaaDoorTexts
import Derived.Lib.SlBytesConst
namespace Go.Proofs.YtmddhlpkanjffaaDoor
open Go.RowKit

theorem vn300 : vn 300 = [172, 2] := by rw [vn_big (by omega), vn_small (by omega)]
theorem vn1 : vn (zz (-1)) = [1] := by rw [show zz (-1) = 1 by decide, vn_small (by omega)]
theorem vn2 : vn 2 = [2] := vn_small (by omega)
theorem crc9 : crc [49, 50, 51, 52, 53, 54, 55, 56, 57] = 3421780262 := by kernel_rfl

theorem new_sl (w : World) (l : List Nat) : SlB (w.alloc (.cells (U8s l).toArray 5)) (.slice (some ⟨w.heap.size, 0, none⟩) l.length l.length) l :=
  U8s_reads (ys := []) (t := 5) (by rw [List.append_nil]; exact Blk.new w 5 _) rfl (Nat.le_refl _)
theorem marked_sl (w : World) (l : List Nat) (fz : Nat × Nat) : SlB (w.alloc (.cells (U8s l).toArray 5 fz)) (.slice (some ⟨w.heap.size, 0, none⟩) l.length l.length) l := by
  refine ⟨_, _, rfl, Nat.le_refl _, (fun e => nomatch e), by rw [U8s_length], fun _ => ⟨_, rfl, by simp, fun j u hu => ?_⟩⟩
  have e : (⟨w.heap.size, 0, none⟩ : Addr).add j = ⟨w.heap.size, j, none⟩ := by unfold Addr.add; split <;> simp_all
  rw [e, cell_of_row _ w.heap.size j _ 5 fz (heap_alloc_new w _), List.getElem?_toArray]
  exact hu
theorem new_bel (w : World) (o : Obj) : Below w.heap.size w (w.alloc o) := (Below.refl _ _).alloc (Nat.le_refl _) _

set_option maxHeartbeats 2000000 in
set_option maxRecDepth 100000 in
theorem awake_c (w : World) (ht : Tab w) : Calls Tryd.prog 10 #[] w fun e w' => e = .returned (.bool true) ∧ Below w.heap.size w w' := by
  have HT := Lib.hid ht
  clear ht
  go_enter Tryd.func10, Tryd.ntmps10
  go_wp2_with fail
  refine (num_c (.slice none 0 0) [] 300 w (SlB.nil w) (by simp) (by omega)).mono ?_
  rintro e w1 ⟨g1, n1, rfl, hn1, hg1, hk1, hb1⟩
  rw [List.nil_append, vn300] at hn1 hk1
  have hs1 := (OwnB.blk (base := 0) hk1 (Nat.zero_le _) hn1 (by unfold maxLen; simp)).sl
  have HS1 := Lib.hid hs1
  have HB1 := Lib.hid hb1
  clear hn1 hg1 hk1 hb1 hs1
  go_wp2_with fail
  have hs : SlB (w1.alloc (.cells #[.int .u8 172, .int .u8 2, .int .u8 9] 5)) (.slice (some ⟨w1.heap.size, 0, none⟩) 3 3) [172, 2, 9] := new_sl w1 [172, 2, 9]
  have hb := new_bel w1 (.cells #[.int .u8 172, .int .u8 2, .int .u8 9] 5)
  generalize w1.alloc (.cells #[.int .u8 172, .int .u8 2, .int .u8 9] 5) = w2 at hs hb
  have HB2 := Lib.hid (below_trans HB1.out hb)
  have HS2 := Lib.hid (HS1.out.below hb)
  refine (readnum_c _ [172, 2, 9] 0 w2 hs (by simp) (by omega) (by omega) (by decide)).mono ?_
  rintro e w3 ⟨rfl, hb3⟩
  rw [show rdAns [172, 2, 9] 0 9 = .ok (300, 2) by rfl]
  simp only [numVal]
  have HB3 := Lib.hid (below_trans HB2.out hb3)
  have HS3 := Lib.hid (HS2.out.below hb3)
  clear hs hb hb3 HB1 HS1 HB2 HS2
  go_wp2_with fail
  have hs : SlB (w3.alloc (.cells #[.int .u8 128, .int .u8 0] 5)) (.slice (some ⟨w3.heap.size, 0, none⟩) 2 2) [128, 0] := new_sl w3 [128, 0]
  have hb := new_bel w3 (.cells #[.int .u8 128, .int .u8 0] 5)
  generalize w3.alloc (.cells #[.int .u8 128, .int .u8 0] 5) = w4 at hs hb
  have HB4 := Lib.hid (below_trans HB3.out hb)
  have HS4 := Lib.hid (HS3.out.below hb)
  refine (readnum_c _ [128, 0] 0 w4 hs (by simp) (by omega) (by omega) (by decide)).mono ?_
  rintro e w5 ⟨rfl, hb5⟩
  rw [show rdAns [128, 0] 0 9 = .error 20 by rfl]
  simp only [numVal]
  have HB5 := Lib.hid (below_trans HB4.out hb5)
  have HS5 := Lib.hid (HS4.out.below hb5)
  clear hs hb hb5 HB3 HS3 HB4 HS4
  go_wp2_with fail
  have hs : SlB (w5.alloc (.cells #[.int .u8 128] 5)) (.slice (some ⟨w5.heap.size, 0, none⟩) 1 1) [128] := new_sl w5 [128]
  have hb := new_bel w5 (.cells #[.int .u8 128] 5)
  generalize w5.alloc (.cells #[.int .u8 128] 5) = w6 at hs hb
  have HB6 := Lib.hid (below_trans HB5.out hb)
  have HS6 := Lib.hid (HS5.out.below hb)
  refine (readnum_c _ [128] 0 w6 hs (by simp) (by omega) (by omega) (by decide)).mono ?_
  rintro e w7 ⟨rfl, hb7⟩
  rw [show rdAns [128] 0 9 = .error 3 by rfl]
  simp only [numVal]
  have HB7 := Lib.hid (below_trans HB6.out hb7)
  have HS7 := Lib.hid (HS6.out.below hb7)
  clear hs hb hb7 HB5 HS5 HB6 HS6
  go_wp2_with fail
  refine (int_c (.slice none 0 0) [] (-1) w7 (SlB.nil w7) (by simp) (by omega) (by omega)).mono ?_
  rintro e w8 ⟨g8, n8, rfl, hn8, hg8, hk8, hb8⟩
  rw [List.nil_append, vn1] at hn8 hk8
  have HU8 := Lib.hid (OwnB.blk (base := 0) hk8 (Nat.zero_le _) hn8 (by unfold maxLen; simp)).sl
  have HS8 := Lib.hid (HS7.out.below hb8)
  have HB8 := Lib.hid (below_trans HB7.out hb8)
  clear hn8 hg8 hk8 hb8 HB7 HS7
  go_wp2_with fail
  refine (int_c (.slice none 0 0) [] (-9223372036854775808) w8 (SlB.nil w8) (by simp) (by omega) (by omega)).mono ?_
  rintro e w9 ⟨g9, n9, rfl, hn9, hg9, hk9, hb9⟩
  rw [List.nil_append] at hn9 hk9
  have hl9 : (vn (zz (-9223372036854775808))).length ≤ 10 := vn_len10 (zz_lt (by omega) (by omega))
  have HM9 := Lib.hid (OwnB.blk (base := 0) hk9 (Nat.zero_le _) hn9 (by unfold maxLen; omega)).sl
  have HU9 := Lib.hid (HU8.out.below hb9)
  have HS9 := Lib.hid (HS8.out.below hb9)
  have HB9 := Lib.hid (below_trans HB8.out hb9)
  clear hn9 hg9 hk9 hb9 HB8 HS8 HU8
  go_wp2_with fail
  refine (readint_c _ (vn (zz (-9223372036854775808))) 0 w9 HM9.out (by omega) (by omega) (by omega) (vn_lt _)).mono ?_
  rintro e w10 ⟨rfl, hb10⟩
  have hans : rdAns (vn (zz (-9223372036854775808))) 0 10 = .ok (zz (-9223372036854775808), (vn (zz (-9223372036854775808))).length) := by
    have := rdAns_ok (bs := vn (zz (-9223372036854775808))) (k := 0) (most := 10) (by omega) (by have := rd_int (z := zz (-9223372036854775808)) (zz_lt (by omega) (by omega)) []; rw [List.append_nil] at this; exact this)
    simpa using this
  rw [hans]
  simp only [intVal, uz_zz]
  have HU10 := Lib.hid (HU9.out.below hb10)
  have HS10 := Lib.hid (HS9.out.below hb10)
  have HB10 := Lib.hid (below_trans HB9.out hb10)
  generalize (vn (zz (-9223372036854775808))).length = p10 at hl9
  clear hans hb10 HB9 HS9 HU9 HM9
  go_wp2_with fail
  refine (text_c (.slice none 0 0) [] ⟨#[97, 98]⟩ w10 (SlB.nil w10) (by simp) (by decide)).mono ?_
  rintro e w11 ⟨v11, rfl, ho11, hb11⟩
  rw [List.nil_append, show (ByteArray.size ⟨#[97, 98]⟩) = 2 from rfl, vn2, show bytesOf ⟨#[97, 98]⟩ = [97, 98] from rfl] at ho11
  have hc1 := (HS10.out.below hb11).conv
  have hc2 := (HU10.out.below hb11).conv
  have hc3 := ho11.sl.conv
  have HB11 := Lib.hid (below_trans HB10.out hb11)
  have e1 : strOf [172, 2] = ⟨#[172, 2]⟩ := rfl
  have e2 : strOf [1] = ⟨#[1]⟩ := rfl
  have e3 : strOf ([2] ++ [97, 98]) = ⟨#[2, 97, 98]⟩ := rfl
  rw [e1] at hc1
  rw [e2] at hc2
  rw [e3] at hc3
  clear ho11 hb11 HB10 HS10 HU10 e1 e2 e3
  have hcb := Lib.run_convert_bytes_const (P := Tryd.prog) w11 22 5 #[.int .u8 49, .int .u8 50, .int .u8 51, .int .u8 52, .int .u8 53, .int .u8 54, .int .u8 55, .int .u8 56, .int .u8 57] 9 9 Tryd.underlying22 Tryd.underlying5
  go_wp2_with fail
  have hs : SlB (w11.alloc (.cells #[.int .u8 49, .int .u8 50, .int .u8 51, .int .u8 52, .int .u8 53, .int .u8 54, .int .u8 55, .int .u8 56, .int .u8 57] 5 (9, 10))) (.slice (some ⟨w11.heap.size, 0, none⟩) 9 9) [49, 50, 51, 52, 53, 54, 55, 56, 57] := marked_sl w11 [49, 50, 51, 52, 53, 54, 55, 56, 57] (9, 10)
  have hb := new_bel w11 (.cells #[.int .u8 49, .int .u8 50, .int .u8 51, .int .u8 52, .int .u8 53, .int .u8 54, .int .u8 55, .int .u8 56, .int .u8 57] 5 (9, 10))
  have HB12 := Lib.hid (below_trans HB11.out hb)
  refine (sum_c _ _ _ hs (HT.out.below HB12.out) (by simp) (by decide)).mono ?_
  rintro e w13 ⟨rfl, rfl⟩
  rw [crc9]
  clear hs hb hcb hc1 hc2 hc3
  go_wp2_with fail
  go_ret
  exact ⟨rfl, HB12.out⟩

end Go.Proofs.YtmddhlpkanjffaaDoor

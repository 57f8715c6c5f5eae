/- The walk of WireBack: what was written is read, and what is read was written just so. -/
import Derived.Test.YtmddhlpkanjffaaDoorAwake
import Derived.Test.YtmddhlpkanjffaaDoorThere
import Derived.Test.YtmddhlpkanjffaaDoorApp
namespace Go.Proofs.YtmddhlpkanjffaaDoor
open Go.RowKit

set_option maxHeartbeats 4000000 in
set_option maxRecDepth 100000 in
theorem back_walk (n : Int) (s : ByteArray) (u v : Value) (xs ys : List Nat) (at_ : Int) (w : World) (ht : Tab w) (hn : -9223372036854775808 ≤ n ∧ n < 9223372036854775808) (hs : s.size ≤ 1048576) (hu : SlB w u xs) (hux : xs.length ≤ 1048576) (hub : ∀ x ∈ xs, x < 256)
    (hv : SlB w v ys) (hvy : ys.length ≤ 1048576) (hvb : ∀ x ∈ ys, x < 256) (hat : -9223372036854775808 ≤ at_ ∧ at_ < 9223372036854775808) :
    Calls Tryd.prog 5 #[.int .i64 n, .string s, u, v, .int .i64 at_] w fun e w' => e = .returned (.bool true) ∧ Below w.heap.size w w' := by
  obtain ⟨h1, h2⟩ := hn
  obtain ⟨h3, h4⟩ := hat
  have HX := Lib.hid hu
  have HY := Lib.hid hv
  have HXb := Lib.hid hub
  have HYb := Lib.hid hvb
  have HT := Lib.hid ht
  obtain ⟨A2, c2, rfl, _, _, _⟩ := hu
  obtain ⟨A3, c3, rfl, _, _, _⟩ := hv
  clear hub hvb ht
  go_enter Tryd.func5, Tryd.ntmps5
  go_wp2_with fail
  refine (awake_c w HT.out).mono ?_
  rintro e w1 ⟨rfl, hb1⟩
  have HB1 := Lib.hid hb1
  clear hb1
  go_wp2_with fail
  refine (int_c _ xs n w1 (HX.out.below HB1.out) (by omega) h1 h2).mono ?_
  rintro e w2 ⟨g2, n2, rfl, hn2, hg2, hk2, hb2⟩
  have hzl : (vn (zz n)).length ≤ 10 := vn_len10 (zz_lt h1 h2)
  have HZL := Lib.hid hzl
  have hL2 : (xs ++ vn (zz n)).length ≤ 2000000 := by rw [List.length_append]; omega
  have HL2 := Lib.hid hL2
  have HO2 := Lib.hid (OwnB.blk (base := w1.heap.size) hk2 hg2 hn2 (by unfold maxLen; omega))
  have HB2 := Lib.hid (below_trans HB1.out hb2)
  have hsize2 := Lib.hid hb2.size
  have hsize1 := Lib.hid HB1.out.size
  have HN2 := Lib.hid hn2
  clear hn2 hg2 hk2 hb2 hzl hL2 HB1
  go_wp2_with (at_builtin; refine wpList_bytes rfl (.tmp 32) (.tmp 33) rfl w1.heap.size _ _ (xs ++ vn (zz n)) ys rfl HO2.out rfl (HY.out.below HB2.out) (by have := HL2.out; omega) hsize2.out ?_)
  intro v3 w3 ho3 hg3
  have HB3 : Hid (Below w.heap.size w w3) := HB2.out.grown hg3 (HB2.out.size) (fun k hk => by
    rcases HO2.out.2 with ⟨e, _⟩ | ⟨g, cap, cur, e, hbg, _⟩
    · rw [e] at hk; simp [Value.ownBlock] at hk
    · rw [e] at hk; simp [Value.ownBlock] at hk; have := hsize1.out; omega)
  obtain ⟨A4, c4, rfl, _, _, _⟩ := ho3.sl
  have HS3 := Lib.hid ho3.sl
  obtain ⟨L3, hL3⟩ : ∃ L3, L3 = (xs ++ (vn (zz n) ++ ys)).length := ⟨_, rfl⟩
  rw [← hL3] at HS3 ⊢
  have HL3 : Hid (L3 = xs.length + (vn (zz n)).length + ys.length) := by show _ = _; rw [hL3]; simp only [List.length_append]; omega
  have HLB : Hid ((xs ++ (vn (zz n) ++ ys)).length ≤ 281474976710656) := by show _ ≤ _; have := HL2.out; simp only [List.length_append] at this ⊢; omega
  have HAns : Hid (rdAns (xs ++ (vn (zz n) ++ ys)) (xs.length : Int) 10 = .ok (zz n, xs.length + (vn (zz n)).length)) := there_int xs ys (zz_lt h1 h2)
  have HBy3 : Hid (∀ x ∈ xs ++ (vn (zz n) ++ ys), x < 256) := fun x hx => by
    rcases List.mem_append.1 hx with h | h
    · exact HXb.out x h
    · rcases List.mem_append.1 h with h | h
      · exact vn_lt _ x h
      · exact HYb.out x h
  clear ho3 hg3 hL3 HO2 HB2
  go_wp2_with fail
  refine (readint_c _ _ (xs.length : Int) w3 HS3.out HLB.out (by omega) (by omega) HBy3.out).mono ?_
  rintro e w4 ⟨rfl, hb4⟩
  rw [HAns.out]
  simp only [intVal, uz_zz]
  obtain ⟨p4, hp4⟩ : ∃ p4, p4 = xs.length + (vn (zz n)).length := ⟨_, rfl⟩
  rw [← hp4]
  obtain rfl : L3 = p4 + ys.length := by rw [HL3.out, hp4]
  have hp4b : p4 ≤ 2000000 := by have := HL2.out; rw [List.length_append] at this; omega
  have hpq : ((p4 : Int) != (p4 : Int) + (ys.length : Int) - (ys.length : Int)) = false := by simp
  have HB4 := Lib.hid (below_trans HB3.out hb4)
  clear hb4 HB3 HAns HS3 HBy3 HLB hp4 HL3
  by_cases hneg : n < 0
  · have hd0 : decide (0 ≤ n) = false := by simp; omega
    go_wp2_with fail
    refine (num_neg _ n w4 hneg).mono ?_
    rintro e w5 ⟨rfl, rfl⟩
    have HBN := HB4
    clear HB4 hpq
    go_wp2_with fail
    by_cases hlong : 65536 < s.size
    · refine (text_long _ s w5 hlong).mono ?_
      rintro e w6 ⟨rfl, rfl⟩
      have HBL := HBN
      clear HBN
      go_wp2_with fail
      refine (readint_c _ ys at_ w6 (HY.out.below HBL.out) (by omega) h3 h4 HYb.out).mono ?_
      rintro e w9 ⟨rfl, hb9⟩
      have HB9 := Lib.hid (below_trans HBL.out hb9)
      clear hb9 HBL
      cases hr : rdAns ys at_ 10 with
      | error e =>
        have he : e = 20 ∨ e = 3 ∨ e = 1 := by
          unfold rdAns at hr
          split at hr
          · injection hr with hr; omega
          · split at hr
            · cases hr
            · rename_i e' hh
              injection hr with hr
              have := rd_errs _ _ _ _ _ hh
              omega
        have hne : ((e : Int) != 0) = true := by rw [bne_iff_ne]; omega
        clear hr he
        simp only [intVal]
        go_wp2_with fail
        go_ret
        exact ⟨rfl, HB9.out⟩
      | ok q =>
        obtain ⟨z, p⟩ := q
        obtain ⟨k, rfl, hkp, hpl, hvn, hz⟩ := back_int HYb.out hr
        clear hr
        simp only [intVal]
        obtain ⟨B, d, hsub, hsl⟩ := (HY.out.below HB9.out).sub_ k (p - k) (k : Int) (p : Int) rfl (by omega) (by omega)
        have huz : zz (uz z) = z := zz_uz z
        have hrg : -9223372036854775808 ≤ uz z ∧ uz z < 9223372036854775808 := by unfold uz; split <;> omega
        have hvl : (vn z).length ≤ 10 := vn_len10 hz
        have HSL := Lib.hid hsl
        have HVN := Lib.hid hvn
        have HUZ := Lib.hid huz
        have HRG := Lib.hid hrg
        have HVL := Lib.hid hvl
        clear hsl hvn huz hrg hz hvl
        generalize uz z = m at HUZ HRG
        go_wp2_with fail
        have hcs := fun wz (hz : Below w9.heap.size w9 wz) => (HSL.out.below hz).conv
        have HCS := Lib.hid hcs
        clear hcs
        have hcv0 := HCS.out w9.drew ((Below.refl _ _).drew)
        go_region_with (go_at_call 13; refine (int_c _ [] m w9.drew (SlB.nil _) (by simp) HRG.out.1 HRG.out.2).mono ?_; rintro e w10 ⟨g10, n10, rfl, hn10, hg10, hk10, hb10⟩; have hb10' := below_trans (w := w9) ((Below.refl _ _).drew) hb10; have hcv1 := HCS.out w10 hb10'; rw [List.nil_append, HUZ.out] at hn10 hk10; have hcv2 := (OwnB.blk (base := 0) hk10 (Nat.zero_le _) hn10 (by have := HVL.out; unfold maxLen; omega)).sl.conv; rw [HVN.out] at hcv2; have HB11 := Lib.hid (below_trans HB9.out hb10'); clear hb10 hb10' hk10 hg10 hn10)
        all_goals (go_wp2_with fail; go_ret; exact ⟨rfl, HB11.out⟩)
    · refine (text_c _ xs s w5 (HX.out.below HBN.out) (by omega) (by omega)).mono ?_
      rintro e w6 ⟨v6, rfl, ho6, hb6⟩
      have hsizeN := Lib.hid HBN.out.size
      have HB6 := Lib.hid (below_trans HBN.out hb6)
      have HO6 := Lib.hid ho6
      have hl6 : (vn s.size).length ≤ 10 := vn_len10 (by omega)
      have hL6 : (xs ++ (vn s.size ++ bytesOf s)).length ≤ 3000000 := by simp only [List.length_append, bytesOf_length]; omega
      have HL6 := Lib.hid hL6
      obtain ⟨A6, c6, e6, _, _, _⟩ := ho6.sl
      obtain ⟨L6, hLe6⟩ : ∃ L6, L6 = (xs ++ (vn s.size ++ bytesOf s)).length := ⟨_, rfl⟩
      rw [← hLe6] at e6
      subst e6
      have HLe6 := Lib.hid hLe6
      have hsize6 := Lib.hid hb6.size
      clear ho6 hb6 HBN hL6 hLe6 hl6
      go_wp2_with (at_builtin; refine wpList_bytes rfl (.tmp 108) (.tmp 109) rfl w5.heap.size _ _ (xs ++ (vn s.size ++ bytesOf s)) ys rfl HO6.out rfl (HY.out.below HB6.out) (by have := HL6.out; omega) hsize6.out ?_)
      intro v7 w7 ho7 hg7
      have HB7 : Hid (Below w.heap.size w w7) := HB6.out.grown hg7 (HB6.out.size) (fun k hk => by
        rcases HO6.out.2 with ⟨e, _⟩ | ⟨g, cap, cur, e, hbg, _⟩
        · rw [e] at hk; simp [Value.ownBlock] at hk
        · rw [e] at hk; simp [Value.ownBlock] at hk; have := hsizeN.out; omega)
      have ht7 := there_text xs (bytesOf s) ys (by rw [bytesOf_length]; omega)
      rw [bytesOf_length] at ht7
      have HT7 : Hid (txAns (xs ++ (vn s.size ++ (bytesOf s ++ ys))) (xs.length : Int) = .ok (bytesOf s, L6)) := by
        show _ = _
        rw [ht7, HLe6.out]
        simp only [List.length_append, bytesOf_length, Nat.add_assoc]
      have HO7 := Lib.hid ho7.sl
      have HBy7 : Hid (∀ x ∈ xs ++ (vn s.size ++ (bytesOf s ++ ys)), x < 256) := fun x hx => by
        rcases List.mem_append.1 hx with h | h
        · exact HXb.out x h
        · rcases List.mem_append.1 h with h | h
          · exact vn_lt _ x h
          · rcases List.mem_append.1 h with h | h
            · exact bytesOf_lt _ x h
            · exact HYb.out x h
      have HL7 : Hid ((xs ++ (vn s.size ++ (bytesOf s ++ ys))).length ≤ 281474976710656) := by show _ ≤ _; have := HL6.out; simp only [List.length_append] at this ⊢; omega
      clear ho7 hg7 ht7 HO6 HB6
      go_wp2_with fail
      refine (readtext_c _ _ (xs.length : Int) w7 HO7.out HL7.out (by omega) (by omega) HBy7.out).mono ?_
      rintro e w8 ⟨rfl, hb8⟩
      rw [HT7.out]
      simp only [txVal, strOf_bytesOf]
      have HBL := Lib.hid (below_trans HB7.out hb8)
      clear hb8 HB7 HT7 HO7
      go_wp2_with fail
      refine (readint_c _ ys at_ w8 (HY.out.below HBL.out) (by omega) h3 h4 HYb.out).mono ?_
      rintro e w9 ⟨rfl, hb9⟩
      have HB9 := Lib.hid (below_trans HBL.out hb9)
      clear hb9 HBL
      cases hr : rdAns ys at_ 10 with
      | error e =>
        have he : e = 20 ∨ e = 3 ∨ e = 1 := by
          unfold rdAns at hr
          split at hr
          · injection hr with hr; omega
          · split at hr
            · cases hr
            · rename_i e' hh
              injection hr with hr
              have := rd_errs _ _ _ _ _ hh
              omega
        have hne : ((e : Int) != 0) = true := by rw [bne_iff_ne]; omega
        clear hr he
        simp only [intVal]
        go_wp2_with fail
        go_ret
        exact ⟨rfl, HB9.out⟩
      | ok q =>
        obtain ⟨z, p⟩ := q
        obtain ⟨k, rfl, hkp, hpl, hvn, hz⟩ := back_int HYb.out hr
        clear hr
        simp only [intVal]
        obtain ⟨B, d, hsub, hsl⟩ := (HY.out.below HB9.out).sub_ k (p - k) (k : Int) (p : Int) rfl (by omega) (by omega)
        have huz : zz (uz z) = z := zz_uz z
        have hrg : -9223372036854775808 ≤ uz z ∧ uz z < 9223372036854775808 := by unfold uz; split <;> omega
        have hvl : (vn z).length ≤ 10 := vn_len10 hz
        have HSL := Lib.hid hsl
        have HVN := Lib.hid hvn
        have HUZ := Lib.hid huz
        have HRG := Lib.hid hrg
        have HVL := Lib.hid hvl
        clear hsl hvn huz hrg hz hvl
        generalize uz z = m at HUZ HRG
        go_wp2_with fail
        have hcs := fun wz (hz : Below w9.heap.size w9 wz) => (HSL.out.below hz).conv
        have HCS := Lib.hid hcs
        clear hcs
        have hcv0 := HCS.out w9.drew ((Below.refl _ _).drew)
        go_region_with (go_at_call 13; refine (int_c _ [] m w9.drew (SlB.nil _) (by simp) HRG.out.1 HRG.out.2).mono ?_; rintro e w10 ⟨g10, n10, rfl, hn10, hg10, hk10, hb10⟩; have hb10' := below_trans (w := w9) ((Below.refl _ _).drew) hb10; have hcv1 := HCS.out w10 hb10'; rw [List.nil_append, HUZ.out] at hn10 hk10; have hcv2 := (OwnB.blk (base := 0) hk10 (Nat.zero_le _) hn10 (by have := HVL.out; unfold maxLen; omega)).sl.conv; rw [HVN.out] at hcv2; have HB11 := Lib.hid (below_trans HB9.out hb10'); clear hb10 hb10' hk10 hg10 hn10)
        all_goals (go_wp2_with fail; go_ret; exact ⟨rfl, HB11.out⟩)
  · obtain ⟨m, rfl⟩ : ∃ m : Nat, n = (m : Int) := ⟨n.toNat, by omega⟩
    clear hneg
    have HM : Hid (m < 9223372036854775808) := by show m < _; omega
    clear h1 h2
    go_wp2_with fail
    refine (num_c _ xs m w4 (HX.out.below HB4.out) (by omega) HM.out).mono ?_
    rintro e w5 ⟨g5, n5, rfl, hn5, hg5, hk5, hb5⟩
    have hml : (vn m).length ≤ 9 := vn_len9 HM.out
    have hL5 : (xs ++ vn m).length ≤ 2000000 := by rw [List.length_append]; omega
    have HL5 := Lib.hid hL5
    have HO5 := Lib.hid (OwnB.blk (base := w4.heap.size) hk5 hg5 hn5 (by unfold maxLen; omega))
    have HB5 := Lib.hid (below_trans HB4.out hb5)
    have hsize5 := Lib.hid hb5.size
    have hsize4 := Lib.hid HB4.out.size
    have HN5 := Lib.hid hn5
    clear hn5 hg5 hk5 hb5 hml hL5 HB4 hpq
    go_wp2_with (at_builtin; refine wpList_bytes rfl (.tmp 77) (.tmp 78) rfl w4.heap.size _ _ (xs ++ vn m) ys rfl HO5.out rfl (HY.out.below HB5.out) (by have := HL5.out; omega) hsize5.out ?_)
    intro v5 w5b ho5 hg5
    have HB5b : Hid (Below w.heap.size w w5b) := HB5.out.grown hg5 (HB5.out.size) (fun k hk => by
      rcases HO5.out.2 with ⟨e, _⟩ | ⟨g, cap, cur, e, hbg, _⟩
      · rw [e] at hk; simp [Value.ownBlock] at hk
      · rw [e] at hk; simp [Value.ownBlock] at hk; have := hsize4.out; omega)
    have HS5 := Lib.hid ho5.sl
    have HLB : Hid ((xs ++ (vn m ++ ys)).length ≤ 281474976710656) := by show _ ≤ _; have := HL5.out; simp only [List.length_append] at this ⊢; omega
    have HAns : Hid (rdAns (xs ++ (vn m ++ ys)) (xs.length : Int) 9 = .ok (m, n5)) := by
      show _ = _
      rw [there_num xs ys HM.out, HN5.out, List.length_append]
    have HBy5 : Hid (∀ x ∈ xs ++ (vn m ++ ys), x < 256) := fun x hx => by
      rcases List.mem_append.1 hx with h | h
      · exact HXb.out x h
      · rcases List.mem_append.1 h with h | h
        · exact vn_lt _ x h
        · exact HYb.out x h
    clear ho5 hg5 HO5 HB5
    go_wp2_with fail
    refine (readnum_c _ _ (xs.length : Int) w5b HS5.out HLB.out (by omega) (by omega) HBy5.out).mono ?_
    rintro e w5c ⟨rfl, hb5c⟩
    rw [HAns.out]
    simp only [numVal]
    have HBN := Lib.hid (below_trans HB5b.out hb5c)
    clear hb5c HB5b HAns HS5 HBy5 HLB
    go_wp2_with fail
    by_cases hlong : 65536 < s.size
    · refine (text_long _ s w5c hlong).mono ?_
      rintro e w6 ⟨rfl, rfl⟩
      have HBL := HBN
      clear HBN
      go_wp2_with fail
      refine (readint_c _ ys at_ w6 (HY.out.below HBL.out) (by omega) h3 h4 HYb.out).mono ?_
      rintro e w9 ⟨rfl, hb9⟩
      have HB9 := Lib.hid (below_trans HBL.out hb9)
      clear hb9 HBL
      cases hr : rdAns ys at_ 10 with
      | error e =>
        have he : e = 20 ∨ e = 3 ∨ e = 1 := by
          unfold rdAns at hr
          split at hr
          · injection hr with hr; omega
          · split at hr
            · cases hr
            · rename_i e' hh
              injection hr with hr
              have := rd_errs _ _ _ _ _ hh
              omega
        have hne : ((e : Int) != 0) = true := by rw [bne_iff_ne]; omega
        clear hr he
        simp only [intVal]
        go_wp2_with fail
        go_ret
        exact ⟨rfl, HB9.out⟩
      | ok q =>
        obtain ⟨z, p⟩ := q
        obtain ⟨k, rfl, hkp, hpl, hvn, hz⟩ := back_int HYb.out hr
        clear hr
        simp only [intVal]
        obtain ⟨B, d, hsub, hsl⟩ := (HY.out.below HB9.out).sub_ k (p - k) (k : Int) (p : Int) rfl (by omega) (by omega)
        have huz : zz (uz z) = z := zz_uz z
        have hrg : -9223372036854775808 ≤ uz z ∧ uz z < 9223372036854775808 := by unfold uz; split <;> omega
        have hvl : (vn z).length ≤ 10 := vn_len10 hz
        have HSL := Lib.hid hsl
        have HVN := Lib.hid hvn
        have HUZ := Lib.hid huz
        have HRG := Lib.hid hrg
        have HVL := Lib.hid hvl
        clear hsl hvn huz hrg hz hvl
        generalize uz z = m at HUZ HRG
        go_wp2_with fail
        have hcs := fun wz (hz : Below w9.heap.size w9 wz) => (HSL.out.below hz).conv
        have HCS := Lib.hid hcs
        clear hcs
        have hcv0 := HCS.out w9.drew ((Below.refl _ _).drew)
        go_region_with (go_at_call 13; refine (int_c _ [] m w9.drew (SlB.nil _) (by simp) HRG.out.1 HRG.out.2).mono ?_; rintro e w10 ⟨g10, n10, rfl, hn10, hg10, hk10, hb10⟩; have hb10' := below_trans (w := w9) ((Below.refl _ _).drew) hb10; have hcv1 := HCS.out w10 hb10'; rw [List.nil_append, HUZ.out] at hn10 hk10; have hcv2 := (OwnB.blk (base := 0) hk10 (Nat.zero_le _) hn10 (by have := HVL.out; unfold maxLen; omega)).sl.conv; rw [HVN.out] at hcv2; have HB11 := Lib.hid (below_trans HB9.out hb10'); clear hb10 hb10' hk10 hg10 hn10)
        all_goals (go_wp2_with fail; go_ret; exact ⟨rfl, HB11.out⟩)
    · refine (text_c _ xs s w5c (HX.out.below HBN.out) (by omega) (by omega)).mono ?_
      rintro e w6 ⟨v6, rfl, ho6, hb6⟩
      have hsizeN := Lib.hid HBN.out.size
      have HB6 := Lib.hid (below_trans HBN.out hb6)
      have HO6 := Lib.hid ho6
      have hl6 : (vn s.size).length ≤ 10 := vn_len10 (by omega)
      have hL6 : (xs ++ (vn s.size ++ bytesOf s)).length ≤ 3000000 := by simp only [List.length_append, bytesOf_length]; omega
      have HL6 := Lib.hid hL6
      obtain ⟨A6, c6, e6, _, _, _⟩ := ho6.sl
      obtain ⟨L6, hLe6⟩ : ∃ L6, L6 = (xs ++ (vn s.size ++ bytesOf s)).length := ⟨_, rfl⟩
      rw [← hLe6] at e6
      subst e6
      have HLe6 := Lib.hid hLe6
      have hsize6 := Lib.hid hb6.size
      clear ho6 hb6 HBN hL6 hLe6 hl6
      go_wp2_with (at_builtin; refine wpList_bytes rfl (.tmp 108) (.tmp 109) rfl w5c.heap.size _ _ (xs ++ (vn s.size ++ bytesOf s)) ys rfl HO6.out rfl (HY.out.below HB6.out) (by have := HL6.out; omega) hsize6.out ?_)
      intro v7 w7 ho7 hg7
      have HB7 : Hid (Below w.heap.size w w7) := HB6.out.grown hg7 (HB6.out.size) (fun k hk => by
        rcases HO6.out.2 with ⟨e, _⟩ | ⟨g, cap, cur, e, hbg, _⟩
        · rw [e] at hk; simp [Value.ownBlock] at hk
        · rw [e] at hk; simp [Value.ownBlock] at hk; have := hsizeN.out; omega)
      have ht7 := there_text xs (bytesOf s) ys (by rw [bytesOf_length]; omega)
      rw [bytesOf_length] at ht7
      have HT7 : Hid (txAns (xs ++ (vn s.size ++ (bytesOf s ++ ys))) (xs.length : Int) = .ok (bytesOf s, L6)) := by
        show _ = _
        rw [ht7, HLe6.out]
        simp only [List.length_append, bytesOf_length, Nat.add_assoc]
      have HO7 := Lib.hid ho7.sl
      have HBy7 : Hid (∀ x ∈ xs ++ (vn s.size ++ (bytesOf s ++ ys)), x < 256) := fun x hx => by
        rcases List.mem_append.1 hx with h | h
        · exact HXb.out x h
        · rcases List.mem_append.1 h with h | h
          · exact vn_lt _ x h
          · rcases List.mem_append.1 h with h | h
            · exact bytesOf_lt _ x h
            · exact HYb.out x h
      have HL7 : Hid ((xs ++ (vn s.size ++ (bytesOf s ++ ys))).length ≤ 281474976710656) := by show _ ≤ _; have := HL6.out; simp only [List.length_append] at this ⊢; omega
      clear ho7 hg7 ht7 HO6 HB6
      go_wp2_with fail
      refine (readtext_c _ _ (xs.length : Int) w7 HO7.out HL7.out (by omega) (by omega) HBy7.out).mono ?_
      rintro e w8 ⟨rfl, hb8⟩
      rw [HT7.out]
      simp only [txVal, strOf_bytesOf]
      have HBL := Lib.hid (below_trans HB7.out hb8)
      clear hb8 HB7 HT7 HO7
      go_wp2_with fail
      refine (readint_c _ ys at_ w8 (HY.out.below HBL.out) (by omega) h3 h4 HYb.out).mono ?_
      rintro e w9 ⟨rfl, hb9⟩
      have HB9 := Lib.hid (below_trans HBL.out hb9)
      clear hb9 HBL
      cases hr : rdAns ys at_ 10 with
      | error e =>
        have he : e = 20 ∨ e = 3 ∨ e = 1 := by
          unfold rdAns at hr
          split at hr
          · injection hr with hr; omega
          · split at hr
            · cases hr
            · rename_i e' hh
              injection hr with hr
              have := rd_errs _ _ _ _ _ hh
              omega
        have hne : ((e : Int) != 0) = true := by rw [bne_iff_ne]; omega
        clear hr he
        simp only [intVal]
        go_wp2_with fail
        go_ret
        exact ⟨rfl, HB9.out⟩
      | ok q =>
        obtain ⟨z, p⟩ := q
        obtain ⟨k, rfl, hkp, hpl, hvn, hz⟩ := back_int HYb.out hr
        clear hr
        simp only [intVal]
        obtain ⟨B, d, hsub, hsl⟩ := (HY.out.below HB9.out).sub_ k (p - k) (k : Int) (p : Int) rfl (by omega) (by omega)
        have huz : zz (uz z) = z := zz_uz z
        have hrg : -9223372036854775808 ≤ uz z ∧ uz z < 9223372036854775808 := by unfold uz; split <;> omega
        have hvl : (vn z).length ≤ 10 := vn_len10 hz
        have HSL := Lib.hid hsl
        have HVN := Lib.hid hvn
        have HUZ := Lib.hid huz
        have HRG := Lib.hid hrg
        have HVL := Lib.hid hvl
        clear hsl hvn huz hrg hz hvl
        generalize uz z = m at HUZ HRG
        go_wp2_with fail
        have hcs := fun wz (hz : Below w9.heap.size w9 wz) => (HSL.out.below hz).conv
        have HCS := Lib.hid hcs
        clear hcs
        have hcv0 := HCS.out w9.drew ((Below.refl _ _).drew)
        go_region_with (go_at_call 13; refine (int_c _ [] m w9.drew (SlB.nil _) (by simp) HRG.out.1 HRG.out.2).mono ?_; rintro e w10 ⟨g10, n10, rfl, hn10, hg10, hk10, hb10⟩; have hb10' := below_trans (w := w9) ((Below.refl _ _).drew) hb10; have hcv1 := HCS.out w10 hb10'; rw [List.nil_append, HUZ.out] at hn10 hk10; have hcv2 := (OwnB.blk (base := 0) hk10 (Nat.zero_le _) hn10 (by have := HVL.out; unfold maxLen; omega)).sl.conv; rw [HVN.out] at hcv2; have HB11 := Lib.hid (below_trans HB9.out hb10'); clear hb10 hb10' hk10 hg10 hn10)
        all_goals (go_wp2_with fail; go_ret; exact ⟨rfl, HB11.out⟩)

end Go.Proofs.YtmddhlpkanjffaaDoor

/- The walk of ImageBack, from the contracts of the program (premises here). -/
import Derived.Test.YtebdjahcahgafaaDoorLReads
namespace Go.Proofs.YtebdjahcahgafaaDoor
open Go.RowKit

theorem frame_take (l : List Nat) : (frame l).take ((frame l).length - 4) = l := by
  rw [frame_length, Nat.add_sub_cancel]
  unfold frame
  rw [List.take_append_of_le_length (Nat.le_refl _), List.take_length]

theorem decI_frame {x : ImgR} (h : imgK x = true) (hw : x.wide) : decI (frame (imgB x)) = some x := by
  unfold decI
  rw [if_pos ⟨by rw [frame_take], by rw [frame_length]; omega⟩, frame_take]
  exact read_img h hw

theorem decI_some {bs : List Nat} {x : ImgR} (hby : ∀ y ∈ bs, y < 256) (h : decI bs = some x) : bs = frame (imgB x) ∧ imgK x = true ∧ x.wide := by
  unfold decI at h
  split at h
  · rename_i h2
    obtain ⟨h3, h4, h5⟩ := img_read (fun y hy => hby y (List.mem_of_mem_take hy)) h
    exact ⟨by rw [← h3]; exact h2.1, h4, h5⟩
  · simp at h

theorem encI_lt (x : ImgR) : ∀ y ∈ encI x, y < 256 := by
  unfold encI
  split
  · split
    · intro y hy; simp at hy
    · exact frame_lt imgB_lt
  · intro y hy; simp at hy

theorem encI_len (x : ImgR) : (encI x).length ≤ 1048576 := by
  unfold encI
  split
  · split
    · simp
    · omega
  · simp

theorem enc_ok {x : ImgR} (hw : x.wide) (h : encE x = 0) : imgK x = true ∧ encI x = frame (imgB x) ∧ decE (encI x) = 0 ∧ decX (encI x) = x := by
  unfold encE at h
  split at h
  · rename_i h1
    split at h
    · simp at h
    · rename_i h2
      have e : encI x = frame (imgB x) := by rw [encI, if_pos h1, if_neg h2]
      refine ⟨h1, e, ?_, ?_⟩
      · rw [e, decE, if_neg h2, decI_frame h1 hw]
      · rw [e, decX, if_neg h2, decI_frame h1 hw]
  · simp at h

theorem dec_ok {bs : List Nat} (hby : ∀ y ∈ bs, y < 256) (h : decE bs = 0) : encE (decX bs) = 0 ∧ encI (decX bs) = bs ∧ (decX bs).wide := by
  unfold decE at h
  split at h
  · simp at h
  · rename_i h1
    split at h
    · simp at h
    · rename_i x hx
      obtain ⟨e, hk, hw⟩ := decI_some hby hx
      have e2 : decX bs = x := by rw [decX, if_neg h1, hx]
      rw [e2]
      have h3 : ¬ 1048576 < (frame (imgB x)).length := by rw [← e]; exact h1
      exact ⟨by rw [encE, if_pos hk, if_neg h3], by rw [encI, if_pos hk, if_neg h3, e], hw⟩

theorem str_ne' (s : ByteArray) : (s.toList != s.toList) = false := by simp

set_option maxHeartbeats 8000000 in
set_option maxRecDepth 100000 in
theorem img_back_of (hA : ∀ w, Tab w → Calls Tryd.prog 8 #[] w fun e w' => e = .returned (.bool true) ∧ Below w.heap.size w w')
    (hE : ∀ gv fv x w, Tab w → ImgShows w gv fv x → x.small → x.wide → Calls Tryd.prog 11 #[imgV gv fv] w fun e w' => ∃ u, e = .returned (.tuple #[u, .int .i64 (encE x)]) ∧ Gave w (encI x) u w')
    (hD : ∀ v bs w, Tab w → SlB w v bs → bs.length ≤ 140737488355318 → (∀ x ∈ bs, x < 256) → Calls Tryd.prog 17 #[v] w (DecR w bs))
    (gv fv : Value) (x : ImgR) (v : Value) (bs : List Nat) (w : World) (ht : Tab w) (h : ImgArg w gv fv x) (hv : SlB w v bs) (hn : bs.length * 1 ≤ 140737488351232) (hby : ∀ x ∈ bs, x < 256) :
    Calls Tryd.prog 5 #[imgV gv fv, v] w fun e w' => e = .returned (.bool true) ∧ Below w.heap.size w w' := by
  have HA := Lib.hid h
  have HT := Lib.hid ht
  have HV := Lib.hid hv
  have HBy := Lib.hid hby
  have HSm := Lib.hid h.small
  have HWd := Lib.hid h.wide
  have HHA := Lib.hid hA
  have HHE := Lib.hid hE
  have HHD := Lib.hid hD
  have HLn : Hid (bs.length ≤ 140737488355318) := by show _ ≤ _; omega
  obtain ⟨A, c, rfl, _⟩ := hv
  obtain ⟨A1, c1, rfl, _⟩ := h.globs.slice
  obtain ⟨_, _, _, _, ⟨_, _, hf0, _⟩, _⟩ := h
  obtain ⟨A2, c2, rfl, _⟩ := hf0.slice
  clear hf0 ht hA hE hD hby hn
  have HB0 := Lib.hid ((Below.refl w.heap.size w).alloc (Nat.le_refl _) (.cells #[.slice A1 x.globs.length c1, .slice A2 x.fns.length c2] 25))
  have HK0 := Lib.hid (Blk.new w 25 #[.slice A1 x.globs.length c1, .slice A2 x.fns.length c2])
  go_enter Tryd.func5, Tryd.ntmps5
  go_upto_region 1 with (fail)
  generalize w.alloc (.cells #[.slice A1 x.globs.length c1, .slice A2 x.fns.length c2] 25) = w0 at *
  obtain ⟨gx, hgx⟩ : ∃ gx, gx = w.heap.size := ⟨_, rfl⟩
  rw [← hgx] at HK0
  rw [show (some { block := w.heap.size, off := 0, spot := none } : Option Addr) = some ⟨gx, 0, none⟩ by rw [hgx]]
  clear hgx
  go_wp2_with fail
  refine (HHA.out w0 (HT.out.below HB0.out)).mono ?_
  rintro e w1 ⟨rfl, hb1⟩
  have HB1 := Lib.hid (below_trans HB0.out hb1)
  have HK1 := Lib.hid (HK0.out.below hb1 HK0.out.lt)
  clear hb1 HB0 HK0
  have x0 := HK1.out.cell 0
  have x1 := HK1.out.cell 1
  go_wp2_with fail
  refine (HHE.out _ _ x w1 (HT.out.below HB1.out) (HA.out.shows.below HB1.out) HSm.out HWd.out).mono ?_
  rintro e w2 ⟨u, rfl, Ax, Fx, hx, hb⟩
  obtain ⟨bx, hbx⟩ : ∃ bx, bx = encI x := ⟨_, rfl⟩
  rw [← hbx] at hx
  have HBX := Lib.hid hbx
  obtain ⟨Lx, hLx⟩ : ∃ k, k = Fx.length := ⟨_, rfl⟩
  obtain rfl : u = .slice Ax bx.length Lx := by rw [hLx]; exact hx.val
  have HX2 := Lib.hid hx.sl
  have HB2 := Lib.hid (below_trans HB1.out hb)
  have HK2 := Lib.hid (HK1.out.below hb HK1.out.lt)
  obtain ⟨ee, hee⟩ : ∃ ee, ee = encE x := ⟨_, rfl⟩
  have HEE := Lib.hid hee
  rw [← hee]
  clear hbx hLx hx hb x0 x1 HB1 HK1 hee
  go_upto_region 3 with (fail)
  go_upto_if 22 with (fail)
  go_cut [] (fun wx => Below w.heap.size w wx)
  case first =>
    by_cases he : ee = 0
    · have hd : ((ee : Int) == 0) = true := by rw [he]; rfl
      obtain ⟨hk, hei, hde, hdx⟩ := enc_ok HWd.out (HEE.out ▸ he)
      have HDE : Hid (decE bx = 0) := by show _ = _; rw [HBX.out]; exact hde
      have HDX : Hid (decX bx = x) := by show _ = _; rw [HBX.out]; exact hdx
      have HBl : Hid (bx.length ≤ 140737488355318) := by show _ ≤ _; rw [HBX.out]; have := encI_len x; omega
      have HBb : Hid (∀ y ∈ bx, y < 256) := by show ∀ y ∈ bx, y < 256; rw [HBX.out]; exact encI_lt x
      clear he hk hei hde hdx
      go_wp2_with fail
      refine (HHD.out _ bx w2 (HT.out.below HB2.out) HX2.out HBl.out HBb.out).mono ?_
      intro e w3 h
      obtain ⟨hb3, gv, fv, rfl, hown⟩ := dec_own h
      rw [HDX.out] at hown
      rw [HDE.out]
      obtain ⟨A3, c3, rfl⟩ := own_slk hown.globs
      obtain ⟨_, _, hfr, _⟩ := hown.fns
      obtain ⟨A4, c4, rfl⟩ := own_slk hfr
      have HO3 := Lib.hid hown.shows
      have HB3 := Lib.hid (below_trans HB2.out hb3)
      have HK3 := Lib.hid (HK2.out.below hb3 HK2.out.lt)
      clear h hfr hown hb3 hd
      go_upto_region 5 with (fail)
      have hb4 : Below w3.heap.size w3 (w3.alloc (.cells #[.slice A3 x.globs.length c3, .slice A4 x.fns.length c4] 25)) := (Below.refl _ _).alloc (Nat.le_refl _) _
      have HB4 := Lib.hid (below_trans HB3.out hb4)
      have HO4 := Lib.hid (HO3.out.below hb4)
      have HK4 := Lib.hid (HK3.out.below hb4 HK3.out.lt)
      have HY4 := Lib.hid (Blk.new w3 25 #[.slice A3 x.globs.length c3, .slice A4 x.fns.length c4])
      clear hb4 HB3 HO3 HK3
      generalize w3.alloc (.cells #[.slice A3 x.globs.length c3, .slice A4 x.fns.length c4] 25) = w4 at *
      obtain ⟨gy, hgy⟩ : ∃ gy, gy = w3.heap.size := ⟨_, rfl⟩
      rw [← hgy] at HY4
      rw [show (some { block := w3.heap.size, off := 0, spot := none } : Option Addr) = some ⟨gy, 0, none⟩ by rw [hgy]]
      clear hgy
      have x0 := HK4.out.cell 0
      have x1 := HK4.out.cell 1
      have y0 := HY4.out.cell 0
      have y1 := HY4.out.cell 1
      go_wp2_with fail
      refine (rsame_c _ _ _ _ x x w4 (HA.out.shows.below HB4.out) HO4.out HSm.out HSm.out).mono ?_
      rintro e w5 ⟨⟨r, rfl, hr⟩, hb⟩
      obtain rfl : r = true := hr.2 rfl
      have HB5 := Lib.hid (below_trans HB4.out hb)
      clear hr hb x0 x1 y0 y1
      go_wp2_with fail
      go_meet
      exact HB5.out
    · have hd : ((ee : Int) == 0) = false := by simpa using he
      clear he
      go_wp2_with fail
      go_meet
      exact HB2.out
  case rest =>
    have HBx := Lib.hid hcut
    clear hcut HX2 HB2 HK2 HEE
    go_wp2_with fail
    refine (HHD.out _ bs wc (HT.out.below HBx.out) (HV.out.below HBx.out) HLn.out HBy.out).mono ?_
    intro e w3 h
    obtain ⟨hb3, gv, fv, rfl, hown⟩ := dec_own h
    obtain ⟨X, hX⟩ : ∃ X, X = decX bs := ⟨_, rfl⟩
    obtain ⟨ed, hed⟩ : ∃ ed, ed = decE bs := ⟨_, rfl⟩
    have HXe := Lib.hid hX
    have HEd := Lib.hid hed
    rw [← hX] at hown
    rw [← hed]
    obtain ⟨A3, c3, rfl⟩ := own_slk hown.globs
    obtain ⟨_, _, hfr, _⟩ := hown.fns
    obtain ⟨A4, c4, rfl⟩ := own_slk hfr
    have HO3 := Lib.hid hown.shows
    have HB3 := Lib.hid (below_trans HBx.out hb3)
    clear h hfr hown hb3 hX hed HBx
    go_upto_region 9 with (fail)
    have hb4 : Below w3.heap.size w3 (w3.alloc (.cells #[.slice A3 X.globs.length c3, .slice A4 X.fns.length c4] 25)) := (Below.refl _ _).alloc (Nat.le_refl _) _
    have HB4 := Lib.hid (below_trans HB3.out hb4)
    have HO4 := Lib.hid (HO3.out.below hb4)
    have HY4 := Lib.hid (Blk.new w3 25 #[.slice A3 X.globs.length c3, .slice A4 X.fns.length c4])
    clear hb4 HB3 HO3
    generalize w3.alloc (.cells #[.slice A3 X.globs.length c3, .slice A4 X.fns.length c4] 25) = w4 at *
    obtain ⟨gy, hgy⟩ : ∃ gy, gy = w3.heap.size := ⟨_, rfl⟩
    rw [← hgy] at HY4
    rw [show (some { block := w3.heap.size, off := 0, spot := none } : Option Addr) = some ⟨gy, 0, none⟩ by rw [hgy]]
    clear hgy
    by_cases he : ed = 0
    · have hd : ((ed : Int) == 0) = true := by rw [he]; rfl
      obtain ⟨h1, h2, h3⟩ := dec_ok HBy.out (HEd.out ▸ he)
      rw [← HXe.out] at h1 h2 h3
      have H1 := Lib.hid h1
      have H2 := Lib.hid h2
      have H3 := Lib.hid h3
      have HSX : Hid X.small := by show X.small; rw [HXe.out]; exact (bnd_dec bs).sm
      clear he h1 h2 h3
      have y0 := HY4.out.cell 0
      have y1 := HY4.out.cell 1
      go_wp2_with fail
      refine (HHE.out _ _ X w4 (HT.out.below HB4.out) HO4.out HSX.out H3.out).mono ?_
      rintro e w5 ⟨u, rfl, Ay, Fy, hy, hb⟩
      rw [H1.out]
      rw [H2.out] at hy
      obtain ⟨Ly, hLy⟩ : ∃ k, k = Fy.length := ⟨_, rfl⟩
      obtain rfl : u = .slice Ay bs.length Ly := by rw [hLy]; exact hy.val
      have HB5 := Lib.hid (below_trans HB4.out hb)
      obtain ⟨sx, hsx⟩ : ∃ t, t = strOf bs := ⟨_, rfl⟩
      have cx : Sem.run Tryd.prog (convert 30 9 (.slice Ay bs.length Ly)) w5 = .ok (.string sx) w5 := by rw [hsx]; exact hy.sl.conv
      have cb : Sem.run Tryd.prog (convert 30 9 (.slice A bs.length c)) w5 = .ok (.string sx) w5 := by rw [hsx]; exact (HV.out.below HB5.out).conv
      clear y0 y1 hd hLy hy hb hsx HB4 HO4 HY4
      go_wp2_with fail
      go_ret
      exact ⟨rfl, HB5.out⟩
    · have hd : ((ed : Int) == 0) = false := by simpa using he
      clear he
      go_wp2_with fail
      go_ret
      exact ⟨rfl, HB4.out⟩

end Go.Proofs.YtebdjahcahgafaaDoor

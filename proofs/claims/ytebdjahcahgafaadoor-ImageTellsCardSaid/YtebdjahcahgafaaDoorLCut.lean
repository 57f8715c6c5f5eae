/- The walk of ImageCut, from the contracts of the program (premises here). -/
import Derived.Test.YtebdjahcahgafaaDoorLBack
namespace Go.Proofs.YtebdjahcahgafaaDoor
open Go.RowKit

theorem img_pre {x : ImgR} (h : imgK x = true) (hw : x.wide) (r : List Nat) : pImg (bodyI x ++ r) = some (x, r) := by
  obtain ⟨h1, h2, h3, h4⟩ := imgK_iff.1 h
  have hg := rt_list (p := pGlob) (f := globB) (most := 64) (l := x.globs) (fun g hg => rt_glob (h3 g hg) (hw.globs g hg).2.2) h1 (by omega)
  have hf := rt_list (p := pFn) (f := fnB) (most := 64) (l := x.fns) (fun f hf => rt_fn (h4 f hf) (hw.fns f hf)) h2 (by omega) r
  unfold pImg bodyI
  rw [List.append_assoc, hg]
  simp only [Option.bind_some]
  rw [hf]
  simp only [Option.bind_some]

theorem imgB_body (x : ImgR) : imgB x = 84 :: 73 :: 76 :: 84 :: bodyI x := rfl

theorem cut_none {x : ImgR} (h : imgK x = true) (hw : x.wide) {n : Nat} (hn : n < (frame (imgB x)).length) : decI ((frame (imgB x)).take n) = none := by
  cases hd : decI ((frame (imgB x)).take n) with
  | none => rfl
  | some y =>
    obtain ⟨e, hk, hyw⟩ := decI_some (fun z hz => frame_lt imgB_lt z (List.mem_of_mem_take hz)) hd
    have e2 : frame (imgB x) = frame (imgB y) ++ (frame (imgB x)).drop n := by rw [← e, List.take_append_drop]
    have hr : ((frame (imgB x)).drop n).length = (frame (imgB x)).length - n := List.length_drop
    generalize (frame (imgB x)).drop n = r at e2 hr
    have h4 : r.length ≠ 0 := by omega
    have e3 := e2
    unfold frame at e3
    rw [List.append_assoc] at e3
    have c1 : (le4 (crc (imgB x))).length = 4 := by simp [le4]
    have c2 : (le4 (crc (imgB y))).length = 4 := by simp [le4]
    generalize le4 (crc (imgB x)) = c at e3 c1
    generalize le4 (crc (imgB y)) = c' at e3 c2
    rw [imgB_body x, imgB_body y] at e3
    simp only [List.cons_append, List.cons.injEq, true_and] at e3
    have p1 := img_pre h hw c
    have p2 := img_pre hk hyw (c' ++ r)
    rw [e3, p2] at p1
    injection p1 with p1
    injection p1 with _ p1
    have := congrArg List.length p1
    rw [List.length_append] at this
    omega

theorem cut_dec {x : ImgR} (hw : x.wide) (h : encE x = 0) {n : Nat} (hn : n < (encI x).length) : decE ((encI x).take n) = 150 ∧ decX ((encI x).take n) = ⟨[], []⟩ := by
  obtain ⟨hk, he, _, _⟩ := enc_ok hw h
  have hl : ¬ 1048576 < ((encI x).take n).length := by have := encI_len x; rw [List.length_take]; omega
  rw [he] at hn
  have := cut_none hk hw hn
  rw [← he] at this
  exact ⟨by rw [decE, if_neg hl, this], by rw [decX, if_neg hl, this]⟩

set_option maxHeartbeats 8000000 in
set_option maxRecDepth 100000 in
theorem img_cut_of (hA : ∀ w, Tab w → Calls Tryd.prog 8 #[] w fun e w' => e = .returned (.bool true) ∧ Below w.heap.size w w')
    (hE : ∀ gv fv x w, Tab w → ImgShows w gv fv x → x.small → x.wide → Calls Tryd.prog 11 #[imgV gv fv] w fun e w' => ∃ u, e = .returned (.tuple #[u, .int .i64 (encE x)]) ∧ Gave w (encI x) u w')
    (hD : ∀ v bs w, Tab w → SlB w v bs → bs.length ≤ 140737488355318 → (∀ x ∈ bs, x < 256) → Calls Tryd.prog 17 #[v] w (DecR w bs))
    (gv fv : Value) (x : ImgR) (a : Int) (w : World) (ht : Tab w) (h : ImgArg w gv fv x) (ha : -9223372036854775808 ≤ a ∧ a < 9223372036854775808) :
    Calls Tryd.prog 7 #[imgV gv fv, .int .i64 a] w fun e w' => e = .returned (.bool true) ∧ Below w.heap.size w w' := by
  have HA := Lib.hid h
  have HT := Lib.hid ht
  have HSm := Lib.hid h.small
  have HWd := Lib.hid h.wide
  have HHA := Lib.hid hA
  have HHE := Lib.hid hE
  have HHD := Lib.hid hD
  have HAr := Lib.hid ha
  obtain ⟨A1, c1, rfl, _⟩ := h.globs.slice
  obtain ⟨_, _, _, _, ⟨_, _, hf0, _⟩, _⟩ := h
  obtain ⟨A2, c2, rfl, _⟩ := hf0.slice
  clear hf0 ht hA hE hD ha
  have HB0 := Lib.hid ((Below.refl w.heap.size w).alloc (Nat.le_refl _) (.cells #[.slice A1 x.globs.length c1, .slice A2 x.fns.length c2] 25))
  have HK0 := Lib.hid (Blk.new w 25 #[.slice A1 x.globs.length c1, .slice A2 x.fns.length c2])
  go_enter Tryd.func7, Tryd.ntmps7
  go_upto_region 1 with (fail)
  generalize w.alloc (.cells #[.slice A1 x.globs.length c1, .slice A2 x.fns.length c2] 25) = w0 at *
  obtain ⟨gx, hgx⟩ : ∃ gx, gx = w.heap.size := ⟨_, rfl⟩
  rw [← hgx] at HK0
  rw [show (some { block := w.heap.size, off := 0, spot := none } : Option Addr) = some ⟨gx, 0, none⟩ by rw [hgx]]
  clear hgx
  go_wp2_with fail
  refine (HHA.out w0 (HT.out.below HB0.out)).mono ?_
  rintro e w1 ⟨rfl, hb1⟩
  have HB1 := Lib.hid (below_trans HB0.out hb1)
  have HK1 := Lib.hid (HK0.out.below hb1 HK0.out.lt)
  clear hb1 HB0 HK0
  have x0 := HK1.out.cell 0
  have x1 := HK1.out.cell 1
  go_wp2_with fail
  refine (HHE.out _ _ x w1 (HT.out.below HB1.out) (HA.out.shows.below HB1.out) HSm.out HWd.out).mono ?_
  rintro e w2 ⟨u, rfl, Ax, Fx, hx, hb⟩
  obtain ⟨bx, hbx⟩ : ∃ bx, bx = encI x := ⟨_, rfl⟩
  rw [← hbx] at hx
  have HBX := Lib.hid hbx
  obtain ⟨Lx, hLx⟩ : ∃ k, k = Fx.length := ⟨_, rfl⟩
  obtain rfl : u = .slice Ax bx.length Lx := by rw [hLx]; exact hx.val
  have HX2 := Lib.hid hx.sl
  have HB2 := Lib.hid (below_trans HB1.out hb)
  obtain ⟨ee, hee⟩ : ∃ ee, ee = encE x := ⟨_, rfl⟩
  have HEE := Lib.hid hee
  rw [← hee]
  clear hbx hLx hx hb x0 x1 HB1 HK1 hee
  by_cases he : ee = 0
  case neg =>
    have hd : ((ee : Int) != 0) = true := by simpa using he
    clear he
    go_wp2_with fail
    go_ret
    exact ⟨rfl, HB2.out⟩
  case pos =>
  by_cases hneg : a < 0
  · have hd : ((ee : Int) != 0) = false := by rw [he]; rfl
    have hd2 : decide (a < 0) = true := by simpa using hneg
    clear he hneg
    go_wp2_with fail
    go_ret
    exact ⟨rfl, HB2.out⟩
  · have hd : ((ee : Int) != 0) = false := by rw [he]; rfl
    have hd2 : decide (a < 0) = false := by simpa using hneg
    obtain ⟨m, hm⟩ : ∃ m : Nat, a = (m : Int) := ⟨a.toNat, by omega⟩
    obtain ⟨hk, hei, _, _⟩ := enc_ok HWd.out (HEE.out ▸ he)
    have hbl : bx.length ≠ 0 := by rw [HBX.out, hei, frame_length]; omega
    have hbm : bx.length ≤ 1048576 := by rw [HBX.out]; exact encI_len x
    obtain ⟨k, hkm⟩ : ∃ k, k = m % bx.length := ⟨_, rfl⟩
    have hkl : k < bx.length := by rw [hkm]; exact Nat.mod_lt _ (by omega)
    have hrem : a.tmod (bx.length : Int) = (k : Int) := by rw [hm, hkm]; rfl
    have hz : (bx.length : Int) ≠ 0 := by omega
    obtain ⟨h1, h2⟩ := cut_dec HWd.out (HEE.out ▸ he) (n := k) (by rw [← HBX.out]; exact hkl)
    rw [← HBX.out] at h1 h2
    have H1 := Lib.hid h1
    have H2 := Lib.hid h2
    have HTl : Hid ((bx.take k).length ≤ 140737488355318) := by show _ ≤ _; rw [List.length_take]; omega
    have HTb : Hid (∀ y ∈ bx.take k, y < 256) := fun y hy => encI_lt x y (by rw [← HBX.out]; exact List.mem_of_mem_take hy)
    obtain ⟨B, d, hsl, hsb⟩ := HX2.out.upto_ k (by omega)
    have HSB := Lib.hid hsb
    clear he hneg hm hk hei hbl hkm h1 h2 hsb
    go_wp2_with fail
    refine (HHD.out _ (bx.take k) w2 (HT.out.below HB2.out) HSB.out HTl.out HTb.out).mono ?_
    intro e w3 h
    obtain ⟨hb3, gv, fv, rfl, hown⟩ := dec_own h
    rw [H1.out]
    rw [H2.out] at hown
    obtain ⟨A3, c3, rfl⟩ : ∃ A c, gv = .slice A 0 c := own_slk hown.globs
    obtain ⟨_, _, hfr, _⟩ := hown.fns
    obtain ⟨A4, c4, rfl⟩ : ∃ A c, fv = .slice A 0 c := own_slk hfr
    have HB3 := Lib.hid (below_trans HB2.out hb3)
    clear h hfr hown hb3 hd hd2 hrem hz hsl hkl hbm
    go_upto_region 6 with (fail)
    have HB4 := Lib.hid (below_trans HB3.out ((Below.refl w3.heap.size w3).alloc (Nat.le_refl _) (.cells #[.slice A3 0 c3, .slice A4 0 c4] 25)))
    have HY4 := Lib.hid (Blk.new w3 25 #[.slice A3 0 c3, .slice A4 0 c4])
    generalize w3.alloc (.cells #[.slice A3 0 c3, .slice A4 0 c4] 25) = w4 at *
    obtain ⟨gy, hgy⟩ : ∃ gy, gy = w3.heap.size := ⟨_, rfl⟩
    rw [← hgy] at HY4
    rw [show (some { block := w3.heap.size, off := 0, spot := none } : Option Addr) = some ⟨gy, 0, none⟩ by rw [hgy]]
    clear hgy
    have y0 := HY4.out.cell 0
    have y1 := HY4.out.cell 1
    go_wp2_with fail
    go_ret
    exact ⟨rfl, HB4.out⟩

end Go.Proofs.YtebdjahcahgafaaDoor

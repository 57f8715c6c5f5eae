/- The program's Encode and Right. -/
import Derived.Test.YtebdjahcahgafaaDoorPWrite
import Derived.Test.YtebdjahcahgafaaDoorLWrites
namespace Go.Proofs.YtebdjahcahgafaaDoor
open Go.RowKit

/-- What every image begins with. -/
abbrev magicS : ByteArray := ⟨#[84, 73, 76, 84]⟩
theorem magic_bytes : bytesOf magicS = [84, 73, 76, 84] := by kernel_rfl

set_option maxHeartbeats 4000000 in
set_option maxRecDepth 100000 in
theorem qwimage_c (w0 : World) (g : Nat) (gv fv : Value) (x : ImgR) (w : World) (hs : WrSt w0 g 0 [] w) (hx : ImgShows w0 gv fv x) (hK : imgK x = true) (hw : x.wide) :
    Calls Tryd.prog 23 #[.pointer (some ⟨g, 0, none⟩), imgV gv fv] w fun e w' => e = .returned (.tuple #[]) ∧ WrSt w0 g 100000000 (imgB x) w' := by
  have hmf : ∀ (fn : Fn) (first cap : Array Value) (w : World), (Instr.makeFunc fn first cap).run Tryd.prog w = .ok (.func fn first cap) w := fun _ _ _ _ => rfl
  have HX := Lib.hid hx
  obtain ⟨A1, c1, rfl, _⟩ := hx.globs.slice
  obtain ⟨_, ts, _, hf0, _⟩ := hx
  obtain ⟨A2, cF, rfl, _⟩ := hf0.slice
  clear hf0
  obtain ⟨g64, f64, HG', HF'⟩ := imgK_iff.1 hK
  have HGK := Lib.hid HG'
  have HFK := Lib.hid HF'
  have HW := Lib.hid hw
  clear HG' HF' hK hw
  have HS0 := Lib.hid (hs.alloc (.cells #[.slice A1 x.globs.length c1, .slice A2 x.fns.length cF] 25))
  have HB0 := Lib.hid (Blk.new w 25 #[.slice A1 x.globs.length c1, .slice A2 x.fns.length cF])
  clear hs
  go_enter Tryd.func23, Tryd.ntmps23
  go_upto_region 1 with (fail)
  generalize w.alloc (.cells #[.slice A1 x.globs.length c1, .slice A2 x.fns.length cF] 25) = wa at *
  obtain ⟨v, hk, ho⟩ := HS0.out.ex
  have HK := Lib.hid hk
  have HO := Lib.hid ho
  have hk1 : wa.cell? ⟨g, 0, none⟩ = some v := hk.cell 0
  have hbase : w0.heap.size ≤ wa.heap.size := HS0.out.below.size
  clear hk ho
  go_wp2_with (at_builtin; refine wpList_text rfl (.tmp 8) (.const (.string magicS)) rfl w0.heap.size _ [] rfl HO.out magicS rfl (by decide) (by decide) hbase ?_)
  intro v2 w2 ho2 hg2
  rw [magic_bytes] at ho2
  obtain ⟨A3, c3, rfl⟩ := own_slice ho2
  obtain ⟨S2, K2⟩ := wr_step (k := 4) (bs := []) (cs := [84, 73, 76, 84]) HS0.out HK.out HO.out (Below.refl _ _) ho2 hg2 (by simp)
  have hkk := HK.out.fr (Fr.of_grown (S := fun i => v.ownBlock = some i) hg2 fun _ _ e => e) (own_ne_blk HO.out HK.out (by decide))
  have hfr2 : w2.frozen? ⟨g, 0, none⟩ = false := hkk.frozen 0
  have hc2 : w2.cell? ⟨g, 0, none⟩ = some v := hkk.cell 0
  have HS2 := Lib.hid S2
  have HB2 := Lib.hid (K2 _ _ _ (by decide) (by decide) HB0.out)
  clear S2 K2 ho2 hg2 hkk hk1 HS0 HB0
  go_upto_region 2 with (fail)
  generalize w2.setCell ⟨g, 0, none⟩ _ = w3 at *
  have b0 := HB2.out.cell 0
  go_wp2_with fail
  refine (qwglobs_c w0 g _ _ _ x.globs w3 HS2.out (by omega) HX.out.globs g64 (fun n hn => ?_)).mono ?_
  · have h1 := HGK.out n hn
    have h2 := HW.out.globs n hn
    simp only [globK, Bool.and_eq_true, Bool.not_eq_true', decide_eq_false_iff_not] at h1
    exact ⟨typeK_nat h1.1, ⟨by omega, by omega⟩, h2.2.2⟩
  rintro e w4 ⟨rfl, s1, k1⟩
  have HS4 := Lib.hid s1
  have HB4 := Lib.hid (k1 _ _ _ (by decide) (by decide) HB2.out)
  clear s1 k1 HS2 HB2 b0
  have b1 := HB4.out.cell 1
  go_wp2_with fail
  refine (qwfns_c w0 g _ _ _ _ x w4 HS4.out (by omega) HX.out f64 HFK.out HW.out.fns).mono ?_
  rintro e w5 ⟨rfl, s1, k1⟩
  have HS5 := Lib.hid (s1.mono (show _ ≤ 100000000 by omega))
  clear s1 k1 HS4 HB4 b1
  go_wp2_with fail
  go_end0
  refine ⟨rfl, ?_⟩
  have := HS5.out
  unfold imgB bodyI
  simpa only [List.append_assoc, List.nil_append] using this

set_option maxHeartbeats 4000000 in
set_option maxRecDepth 100000 in
theorem qE (gv fv : Value) (x : ImgR) (w : World) (ht : Tab w) (h : ImgShows w gv fv x) (hs : x.small) (hw : x.wide) :
    Calls Tryd.prog 11 #[imgV gv fv] w fun e w' => ∃ u, e = .returned (.tuple #[u, .int .i64 (encE x)]) ∧ Gave w (encI x) u w' := by
  have HI := Lib.hid h
  have HT := Lib.hid ht
  obtain ⟨A1, c1, rfl, _⟩ := h.globs.slice
  obtain ⟨_, ts, _, hf0, _⟩ := h
  obtain ⟨A2, cF, rfl, _⟩ := hf0.slice
  clear hf0 ht
  have HSm := Lib.hid hs
  have HW := Lib.hid hw
  clear hs hw
  have HB0 := Lib.hid ((Below.refl w.heap.size w).alloc (Nat.le_refl _) (.cells #[.slice A1 x.globs.length c1, .slice A2 x.fns.length cF] 25))
  have HK0 := Lib.hid (Blk.new w 25 #[.slice A1 x.globs.length c1, .slice A2 x.fns.length cF])
  go_enter Tryd.func11, Tryd.ntmps11
  go_upto_region 1 with (fail)
  generalize w.alloc (.cells #[.slice A1 x.globs.length c1, .slice A2 x.fns.length cF] 25) = wa at *
  have b0 := HK0.out.cell 0
  have b1 := HK0.out.cell 1
  go_wp2_with fail
  refine (qvalid_c _ _ x wa (HI.out.below HB0.out) HSm.out).mono ?_
  rintro e w1 ⟨rfl, hb⟩
  have HB := Lib.hid (below_trans HB0.out hb)
  have HKI := Lib.hid (HK0.out.below hb HK0.out.lt)
  clear hb HB0 HK0 wa b0 b1
  generalize hik : imgK x = ok
  have HOK := Lib.hid hik
  clear hik
  cases ok with
  | false =>
    go_wp2_with fail
    go_ret2
    exact ⟨.slice none 0 0, by unfold encE; rw [HOK.out]; rfl, none, [], by unfold encI; rw [HOK.out]; exact FullB.nil _ _, HB.out⟩
  | true =>
  have S0 : Hid (WrSt w w1.heap.size 0 [] (w1.alloc (.cells #[.slice none 0 0] 59))) :=
    ⟨⟨_, Blk.new w1 59 #[.slice none 0 0], OwnB.nil _ _⟩, HB.out.size, HB.out.alloc HB.out.size _, Nat.le_refl _⟩
  have HKI1 := Lib.hid (HKI.out.alloc (.cells #[.slice none 0 0] 59))
  go_upto_region 4 with (fail)
  generalize hg : w1.heap.size = g at *
  generalize w1.alloc (.cells #[.slice none 0 0] 59) = w2 at *
  clear HKI
  have b0 := HKI1.out.cell 0
  have b1 := HKI1.out.cell 1
  go_wp2_with fail
  refine (qwimage_c w g _ _ x w2 S0.out HI.out HOK.out HW.out).mono ?_
  rintro e w3 ⟨rfl, hs3⟩
  obtain ⟨v, hk, ho⟩ := hs3.ex
  have hlen := hs3.len
  have HB3 := Lib.hid hs3.below
  have hc : w3.cell? ⟨g, 0, none⟩ = some v := hk.cell 0
  have HF := Lib.hid (frame_c v (imgB x) w3 ho.sl (HT.out.below HB3.out) (by omega) imgB_lt)
  have hfl := frame_length (imgB x)
  have HBy := Lib.hid (frame_lt (imgB_lt (x := x)))
  clear hs3 hk ho S0 HKI1 b0 b1 HB
  generalize hfr : frame (imgB x) = fr at *
  have HFr := Lib.hid hfr
  clear hfr
  go_wp2_with fail
  refine HF.out.mono ?_
  rintro e w4 ⟨gf, nf, rfl, hn, hgf, hkf, hbf⟩
  have HB4 := Lib.hid (below_trans HB3.out hbf)
  have HFu : Hid (FullB w4 w.heap.size (.slice (some ⟨gf, 0, none⟩) nf nf) fr (some ⟨gf, 0, none⟩) fr) := FullB.exact hkf (Nat.le_trans HB3.out.size hgf) hn (by unfold maxLen; omega) HBy.out
  clear hgf hkf hbf HF HB3 hc
  by_cases hlim : 1048576 < fr.length
  · have i1 : (1048576 : Int) < (nf : Int) := by omega
    have HE1 : Hid (encE x = 2) := by show _ = _; unfold encE; rw [if_pos HOK.out, HFr.out, if_pos hlim]
    have HE2 : Hid (encI x = []) := by show _ = _; unfold encI; rw [if_pos HOK.out, HFr.out, if_pos hlim]
    clear hlim hn hfl hlen
    go_wp2_with fail
    go_ret2
    exact ⟨.slice none 0 0, by rw [HE1.out]; rfl, none, [], by rw [HE2.out]; exact FullB.nil _ _, HB4.out⟩
  · have i1 : decide ((1048576 : Int) < (nf : Int)) = false := by simp; omega
    have HE1 : Hid (encE x = 0) := by show _ = _; unfold encE; rw [if_pos HOK.out, HFr.out, if_neg hlim]
    have HE2 : Hid (encI x = fr) := by show _ = _; unfold encI; rw [if_pos HOK.out, HFr.out, if_neg hlim]
    clear hlim hn hfl hlen
    go_wp2_with fail
    go_ret2
    exact ⟨_, by rw [HE1.out]; rfl, _, _, by rw [HE2.out]; exact HFu.out, HB4.out⟩

set_option maxHeartbeats 4000000 in
set_option maxRecDepth 100000 in
theorem qR (gv fv : Value) (x : ImgR) (w : World) (ht : Tab w) (h : ImgShows w gv fv x) (hs : x.small) (hw : x.wide) :
    Calls Tryd.prog 10 #[imgV gv fv] w fun e w' => e = .returned (.int .i64 (encE x)) ∧ Below w.heap.size w w' := by
  have HI := Lib.hid h
  have HT := Lib.hid ht
  obtain ⟨A1, c1, rfl, _⟩ := h.globs.slice
  obtain ⟨_, ts, _, hf0, _⟩ := h
  obtain ⟨A2, cF, rfl, _⟩ := hf0.slice
  clear hf0 ht
  have HB0 := Lib.hid ((Below.refl w.heap.size w).alloc (Nat.le_refl _) (.cells #[.slice A1 x.globs.length c1, .slice A2 x.fns.length cF] 25))
  have HC := Lib.hid (qE _ _ x _ (HT.out.below HB0.out) (HI.out.below HB0.out) hs hw)
  generalize encE x = ee at *
  generalize encI x = bs at *
  clear hs hw HI HT
  go_enter Tryd.func10, Tryd.ntmps10
  go_wp2_with fail
  refine HC.out.mono ?_
  rintro e w1 ⟨u, rfl, Au, Fu, hf, hb⟩
  obtain ⟨eu⟩ : u = _ := hf.val
  have HB := Lib.hid (below_trans HB0.out hb)
  clear hb hf HC HB0
  go_wp2_with fail
  go_ret
  exact ⟨rfl, HB.out⟩


end Go.Proofs.YtebdjahcahgafaaDoor

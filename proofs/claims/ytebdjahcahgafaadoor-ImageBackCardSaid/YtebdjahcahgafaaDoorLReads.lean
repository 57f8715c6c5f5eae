/- The walk of ImageReads, from the contracts of the program (premises here). -/
import Derived.Test.YtebdjahcahgafaaDoorLWrites
import Derived.Test.YtebdjahcahgafaaDoorIDec
import Derived.Test.YtebdjahcahgafaaDoorLent
namespace Go.Proofs.YtebdjahcahgafaaDoor
open Go.RowKit

/-- What Decode answers. -/
def decE (bs : List Nat) : Int := if 1048576 < bs.length then 2 else match decI bs with | none => 150 | some _ => 0
def decX (bs : List Nat) : ImgR := if 1048576 < bs.length then ⟨[], []⟩ else match decI bs with | none => ⟨[], []⟩ | some x => x

structure Bnd (x : ImgR) : Prop where
  ng : x.globs.length ≤ 64
  nf : x.fns.length ≤ 64
  nc : ∀ f ∈ x.fns, f.code.length ≤ 32768
  sm : x.small

theorem bnd_nil : Bnd ⟨[], []⟩ := ⟨by simp, by simp, fun f h => by simp at h, ⟨by simp, by simp, fun f h => by simp at h⟩⟩

theorem bnd_of {x : ImgR} (h : imgK x = true) : Bnd x := by
  simp only [imgK, Bool.and_eq_true, decide_eq_true_eq, List.all_eq_true] at h
  obtain ⟨h1, h2, _, h4⟩ := h
  have h5 : ∀ f ∈ x.fns, f.code.length ≤ 32768 ∧ f.params.length ≤ 8 ∧ f.locals.length ≤ 32 ∧ f.name.size ≤ 24 := fun f hf => by
    have := h4 f hf
    simp only [fnK, headK, nameK, Bool.and_eq_true, decide_eq_true_eq] at this
    obtain ⟨⟨⟨_, _, _, n4⟩, _, _, _, p, l, _, c⟩, _⟩ := this
    exact ⟨by omega, by omega, by omega, by omega⟩
  exact ⟨h1, h2, fun f hf => (h5 f hf).1, by omega, by omega, fun f hf => ⟨by have := h5 f hf; omega, by have := h5 f hf; omega, by have := h5 f hf; omega, by have := h5 f hf; omega⟩⟩

theorem decI_K {bs : List Nat} {x : ImgR} (h : decI bs = some x) : imgK x = true := by
  unfold decI readI at h
  split at h
  · split at h
    · cases hp : pImg ((bs.take (bs.length - 4)).drop 4) with
      | none => rw [hp] at h; simp at h
      | some q =>
        rw [hp] at h
        simp only [Option.bind_some] at h
        split at h
        · rename_i h2
          injection h with h
          rw [← h]; exact h2.2
        · simp at h
    · simp at h
  · simp at h

theorem bnd_dec (bs : List Nat) : Bnd (decX bs) := by
  unfold decX
  split
  · exact bnd_nil
  · split
    · exact bnd_nil
    · rename_i h; exact bnd_of (decI_K h)

theorem own_img_nil (w : World) (base : Nat) : ImgOwn w base (.slice none 0 0) (.slice none 0 0) ⟨[], []⟩ :=
  ⟨World.ownsRow_nil _ _ _ _, [], rfl, World.ownsRow_nil _ _ _ _, fun i f t h => by simp at h⟩

theorem dec_own {w w' : World} {bs : List Nat} {e : Ending} (h : DecR w bs e w') : Below w.heap.size w w' ∧ ∃ gv fv, e = .returned (.tuple #[imgV gv fv, .int .i64 (decE bs)]) ∧ ImgOwn w' w.heap.size gv fv (decX bs) := by
  obtain ⟨hb, h⟩ := h
  refine ⟨hb, ?_⟩
  by_cases h1 : 1048576 < bs.length
  · rw [if_pos h1] at h
    exact ⟨_, _, by rw [decE, if_pos h1]; exact h, by rw [decX, if_pos h1]; exact own_img_nil _ _⟩
  · rw [if_neg h1] at h
    unfold decE decX
    rw [if_neg h1, if_neg h1]
    cases hd : decI bs with
    | none => rw [hd] at h; exact ⟨_, _, h, own_img_nil _ _⟩
    | some x => rw [hd] at h; exact h

/-- What stays from round to round. -/
structure RdI (w wr : World) (gr : Nat) (V W : Value) (bs cs : List Nat) : Prop where
  below : Below w.heap.size w wr
  rows : Blk wr gr 30 #[V, W]
  one : SlB wr V bs
  two : SlB wr W cs

set_option maxHeartbeats 8000000 in
set_option maxRecDepth 100000 in
theorem img_reads_of (hA : ∀ w, Tab w → Calls Tryd.prog 8 #[] w fun e w' => e = .returned (.bool true) ∧ Below w.heap.size w w')
    (hD : ∀ v bs w, Tab w → SlB w v bs → bs.length ≤ 140737488355318 → (∀ x ∈ bs, x < 256) → Calls Tryd.prog 17 #[v] w (DecR w bs))
    (v : Value) (bs : List Nat) (w : World) (ht : Tab w) (hv : SlB w v bs) (hn : bs.length * 1 ≤ 140737488351232) (hby : ∀ x ∈ bs, x < 256) :
    Calls Tryd.prog 4 #[v] w fun e w' => e = .returned (.bool true) ∧ Below w.heap.size w w' := by
  have HT := Lib.hid ht
  have HV := Lib.hid hv
  have HBy := Lib.hid hby
  have HHA := Lib.hid hA
  have HHD := Lib.hid hD
  have HLn : Hid (bs.length ≤ 140737488351232) := by show _ ≤ _; omega
  obtain ⟨A, c, rfl, _⟩ := hv
  clear hA hD ht hby hn
  go_enter Tryd.func4, Tryd.ntmps4
  go_wp2_with fail
  refine (HHA.out w HT.out).mono ?_
  rintro e w1 ⟨rfl, hb1⟩
  have HB1 := Lib.hid hb1
  clear hb1
  go_wp2_with fail
  refine (frame_u (HV.out.below HB1.out) (HT.out.below HB1.out) (by have := HLn.out; omega) HBy.out).mono ?_
  rintro e w2 ⟨u, rfl, Af, Ff, hf, hb2⟩
  obtain ⟨nf, hnf⟩ : ∃ k, k = (frame bs).length := ⟨_, rfl⟩
  obtain ⟨Lf, hLf⟩ : ∃ k, k = Ff.length := ⟨_, rfl⟩
  obtain rfl : u = .slice Af nf Lf := by rw [hnf, hLf]; exact hf.val
  have HNF := Lib.hid hnf
  have HF2 := Lib.hid hf.sl
  have HB2 := Lib.hid (below_trans HB1.out hb2)
  clear hnf hLf hf hb2
  go_upto_region 3 with (fail)
  have I0 : Hid (RdI w (w2.alloc (.cells #[.slice A bs.length c, .slice Af nf Lf] 30)) w2.heap.size (.slice A bs.length c) (.slice Af nf Lf) bs (frame bs)) := by
    have hb3 : Below w2.heap.size w2 (w2.alloc (.cells #[.slice A bs.length c, .slice Af nf Lf] 30)) := (Below.refl _ _).alloc (Nat.le_refl _) _
    exact ⟨below_trans HB2.out hb3, Blk.new w2 30 _, (HV.out.below HB2.out).below hb3, HF2.out.below hb3⟩
  generalize w2.alloc (.cells #[.slice A bs.length c, .slice Af nf Lf] 30) = w3 at *
  obtain ⟨gr, hgr⟩ : ∃ gr, gr = w2.heap.size := ⟨_, rfl⟩
  rw [← hgr] at I0
  rw [show (some { block := w2.heap.size, off := 0, spot := none } : Option Addr) = some ⟨gr, 0, none⟩ by rw [hgr]]
  clear hgr HB1 HB2 HF2
  go_wp2_with fail
  go_loopg [5, 6, 7, 8, 9, 10, 11, 12, 13, 14, 15, 16] 2 (fun gg s5 _ _ _ _ _ _ _ _ _ _ _ wr => ∃ k : Nat, k + gg = 2 ∧ s5 = .int .i64 (k : Int) ∧ Hid (RdI w wr gr (.slice A bs.length c) (.slice Af nf Lf) bs (frame bs)))
  case atStart => exact ⟨0, by omega, rfl, I0⟩
  case round =>
    clear I0
    obtain ⟨k, hk, rfl, I⟩ := hrel
    cases gk with
    | zero =>
      obtain rfl : k = 2 := by omega
      clear hk
      have hd : decide (((2 : Nat) : Int) < 2) = false := by decide
      have HBF := Lib.hid I.out.below
      go_wp2_with fail
      go_ret
      exact ⟨rfl, HBF.out⟩
    | succ gk =>
      have hrow : ∃ (Ak : Option Addr) (ck : Nat) (cs : List Nat) (nk : Nat), nk = cs.length ∧ (∀ w', Below wr.heap.size wr w' → w'.cell? ⟨gr, k, none⟩ = some (.slice Ak nk ck)) ∧ SlB wr (.slice Ak nk ck) cs ∧ cs.length ≤ 140737488355318 ∧ ∀ x ∈ cs, x < 256 := by
        have hl := HLn.out
        have h3 : k = 0 ∨ k = 1 := by omega
        rcases h3 with rfl | rfl
        · exact ⟨A, c, bs, _, rfl, fun w' hb => (I.out.rows.below hb I.out.rows.lt).cell 0, I.out.one, by omega, HBy.out⟩
        · exact ⟨Af, Lf, frame bs, _, HNF.out, fun w' hb => (I.out.rows.below hb I.out.rows.lt).cell 1, I.out.two, by rw [frame_length]; omega, frame_lt HBy.out⟩
      obtain ⟨Ak, ck, cs, nk, hnk, hcell, hsl, hlen, hcb⟩ := hrow
      subst hnk
      have HCell := Lib.hid hcell
      have HSl := Lib.hid hsl
      have HLen := Lib.hid hlen
      have HCb := Lib.hid hcb
      have y0 := hcell wr (Below.refl _ _)
      have hk2 : decide ((k : Int) < 2) = true := by simp; omega
      have hk3 : (k : Int) < 2 := by omega
      have hk4 : k < 2 := by omega
      clear hcell hsl hlen hcb
      go_wp2_with fail
      have HRd : Hid (Reads wr wr.heap.size Ak cs.length (U8s cs)) := by
        obtain ⟨A', c', e, _, _, h3⟩ := HSl.out
        injection e with e1 _ _
        subst e1
        exact h3
      refine (lent_c Ak ck cs wr HRd.out (by have := HLen.out; omega)).mono ?_
      rintro e w4 ⟨g, rfl, hg, hk4b, hb4⟩
      have HGr : Hid (wr.heap.size ≤ g) := hg
      have HGk := Lib.hid hk4b
      have HGs := Lib.hid (U8s_reads (c := cs.length + 3) hk4b rfl (by omega))
      have C4 := Lib.hid hb4
      have HGl : Hid (g < w4.heap.size) := hk4b.lt
      clear hg hk4b hb4 y0
      go_wp2_with fail
      refine (HHD.out _ cs w4 (HT.out.below (below_trans I.out.below C4.out)) HGs.out HLen.out HCb.out).mono ?_
      intro e w5 h
      obtain ⟨hb5, gv, fv, rfl, hown⟩ := dec_own h
      obtain ⟨A1, c1, rfl⟩ := own_slk hown.globs
      obtain ⟨_, _, hfr, _⟩ := hown.fns
      obtain ⟨A2, c2, rfl⟩ := own_slk hfr
      obtain ⟨X, hX⟩ : ∃ X, X = decX cs := ⟨_, rfl⟩
      obtain ⟨ee, hee⟩ : ∃ ee, ee = decE cs := ⟨_, rfl⟩
      have HXe := Lib.hid hX
      have HEe := Lib.hid hee
      rw [← hX] at hown hfr ⊢
      rw [← hee]
      have HO5 := Lib.hid hown
      have C5 := Lib.hid (below_trans C4.out hb5)
      have HGk5 := Lib.hid (HGk.out.below hb5 HGl.out)
      have S45 : Hid (w4.heap.size ≤ w5.heap.size) := hb5.size
      clear h hfr hX hee hown hb5 HGk HGs
      go_upto_region 8 with (fail)
      have hb6 : Below w5.heap.size w5 (w5.alloc (.cells #[.slice A1 X.globs.length c1, .slice A2 X.fns.length c2] 25)) := (Below.refl _ _).alloc (Nat.le_refl _) _
      have C6 := Lib.hid (below_trans C5.out hb6)
      have HO6 := Lib.hid (HO5.out.fr (Fr.alloc w5 (.cells #[.slice A1 X.globs.length c1, .slice A2 X.fns.length c2] 25)) (fun _ _ _ h => h))
      have HGk6 := Lib.hid (HGk5.out.below hb6 (Nat.lt_of_lt_of_le HGl.out S45.out))
      have HX6 := Lib.hid (Blk.new w5 25 #[.slice A1 X.globs.length c1, .slice A2 X.fns.length c2])
      have S6 : Hid (w5.heap.size ≤ (w5.alloc (.cells #[.slice A1 X.globs.length c1, .slice A2 X.fns.length c2] 25)).heap.size) := hb6.size
      clear hb6 HO5 HGk5 C5
      generalize w5.alloc (.cells #[.slice A1 X.globs.length c1, .slice A2 X.fns.length c2] 25) = w6 at *
      obtain ⟨gx, hgx⟩ : ∃ gx, gx = w5.heap.size := ⟨_, rfl⟩
      have HGx := Lib.hid hgx
      rw [← hgx] at HX6
      rw [show (some { block := w5.heap.size, off := 0, spot := none } : Option Addr) = some ⟨gx, 0, none⟩ by rw [hgx]]
      clear hgx
      have y0 := HCell.out w6 C6.out
      go_wp2_with fail
      refine (kept_c g ck wr.heap.size Ak cs w6 HGk6.out (HRd.out.below C6.out) HGr.out (by have := HLen.out; omega)).mono ?_
      rintro e w7 ⟨rfl, hf7⟩
      have C7 := Lib.hid (below_at C6.out hf7 HGr.out C6.out.size)
      have HO7 := Lib.hid (HO6.out.fr hf7 (fun b hb _ e => by have e : b = g := e; have := HGl.out; omega))
      have HX7 := Lib.hid (HX6.out.fr hf7 (by show ¬ gx = g; have := HGl.out; have := HGx.out; have := S45.out; omega))
      clear hf7 y0 HO6 HX6 HGk6 C6
      have y0 := HCell.out w7 C7.out
      go_wp2_with fail
      refine (rdecode_c _ cs w7 (HSl.out.below C7.out) HLen.out HCb.out).mono ?_
      intro e w8 h
      obtain ⟨hb8, gv, fv, rfl, hown⟩ := dec_own h
      rw [← HXe.out] at hown
      rw [← HEe.out]
      obtain ⟨A3, c3, rfl⟩ := own_slk hown.globs
      obtain ⟨_, _, hfr, _⟩ := hown.fns
      obtain ⟨A4, c4, rfl⟩ := own_slk hfr
      have HW8 := Lib.hid hown
      have D8 := Lib.hid hb8
      have HX8 := Lib.hid (HX7.out.below hb8 HX7.out.lt)
      clear h hfr hown hb8 HX7 y0
      go_upto_region 10 with (fail)
      have hb9 : Below w8.heap.size w8 (w8.alloc (.cells #[.slice A3 X.globs.length c3, .slice A4 X.fns.length c4] 25)) := (Below.refl _ _).alloc (Nat.le_refl _) _
      have D9 := Lib.hid (below_trans D8.out hb9)
      have HW9 := Lib.hid (HW8.out.fr (Fr.alloc w8 (.cells #[.slice A3 X.globs.length c3, .slice A4 X.fns.length c4] 25)) (fun _ _ _ h => h))
      have HX9 := Lib.hid (HX8.out.below hb9 HX8.out.lt)
      have HY9 := Lib.hid (Blk.new w8 25 #[.slice A3 X.globs.length c3, .slice A4 X.fns.length c4])
      clear hb9 HW8 HX8
      generalize w8.alloc (.cells #[.slice A3 X.globs.length c3, .slice A4 X.fns.length c4] 25) = w9 at *
      obtain ⟨gy, hgy⟩ : ∃ gy, gy = w8.heap.size := ⟨_, rfl⟩
      have HGy : Hid (w7.heap.size ≤ gy) := by show _ ≤ _; rw [hgy]; exact D8.out.size
      rw [← hgy] at HY9
      rw [show (some { block := w8.heap.size, off := 0, spot := none } : Option Addr) = some ⟨gy, 0, none⟩ by rw [hgy]]
      clear hgy D8
      have x0 := HX9.out.cell 0
      have x1 := HX9.out.cell 1
      have y0 := HY9.out.cell 0
      have y1 := HY9.out.cell 1
      have HBn : Hid (Bnd X) := by show Bnd X; rw [HXe.out]; exact bnd_dec cs
      go_wp2_with fail
      refine (rsame_c _ _ _ _ X X w9 (HO7.out.shows.below D9.out) HW9.out.shows HBn.out.sm HBn.out.sm).mono ?_
      rintro e w10 ⟨⟨r, rfl, hr⟩, hb10⟩
      obtain rfl : r = true := hr.2 rfl
      have D10 := Lib.hid (below_trans D9.out hb10)
      have HX10 := Lib.hid (HX9.out.below hb10 HX9.out.lt)
      have HY10 := Lib.hid (HY9.out.below hb10 HY9.out.lt)
      have HW10 := Lib.hid (HW9.out.fr (Fr.of_below (S := fun _ => False) hb10) (fun _ _ _ h => h))
      clear hr hb10 x0 x1 y0 y1 HX9 HY9 HW9 D9
      have x0 := HX10.out.cell 0
      have x1 := HX10.out.cell 1
      go_wp2_with fail
      refine (spoil_c w7 w10 w4.heap.size _ _ X HO7.out D10.out HBn.out.ng HBn.out.nf HBn.out.nc HBn.out.sm).mono ?_
      rintro e w11 ⟨⟨n, rfl, hn0, _⟩, hf11⟩
      have C10 := Lib.hid (below_trans C7.out D10.out)
      have C11 : Hid (Below wr.heap.size wr w11) := C10.out.trans (hf11.below C10.out.size (fun i hi hh => by have := C4.out.size; omega))
      have HY11 := Lib.hid (HY10.out.fr hf11 (by have := HGy.out; show ¬ (w4.heap.size ≤ gy ∧ gy < w7.heap.size); omega))
      have HW11 := Lib.hid (HW10.out.fr hf11 (fun b hb _ hh => by have hh : w4.heap.size ≤ b ∧ b < w7.heap.size := hh; omega))
      have hn1 : decide (n < 0) = false := by simp; omega
      clear hn0 hf11 x0 x1 HX10 HY10 HW10 HO7 D10 C10
      have y0 := HCell.out w11 C11.out
      go_wp2_with fail
      refine (HHD.out _ cs w11 (HT.out.below (below_trans I.out.below C11.out)) (HSl.out.below C11.out) HLen.out HCb.out).mono ?_
      intro e w12 h
      obtain ⟨hb12, gv, fv, rfl, hown⟩ := dec_own h
      rw [← HXe.out] at hown
      rw [← HEe.out]
      obtain ⟨A5, c5, rfl⟩ := own_slk hown.globs
      obtain ⟨_, _, hfr, _⟩ := hown.fns
      obtain ⟨A6, c6, rfl⟩ := own_slk hfr
      have HZ12 := Lib.hid hown.shows
      have C12 := Lib.hid (below_trans C11.out hb12)
      have HY12 := Lib.hid (HY11.out.below hb12 HY11.out.lt)
      have HW12 := Lib.hid (HW11.out.shows.below hb12)
      clear h hfr hown hb12 HY11 HW11 y0 C11
      go_upto_region 13 with (fail)
      have hb13 : Below w12.heap.size w12 (w12.alloc (.cells #[.slice A5 X.globs.length c5, .slice A6 X.fns.length c6] 25)) := (Below.refl _ _).alloc (Nat.le_refl _) _
      have C13 := Lib.hid (below_trans C12.out hb13)
      have HW13 := Lib.hid (HW12.out.below hb13)
      have HZ13 := Lib.hid (HZ12.out.below hb13)
      have HY13 := Lib.hid (HY12.out.below hb13 HY12.out.lt)
      have HB13 := Lib.hid (Blk.new w12 25 #[.slice A5 X.globs.length c5, .slice A6 X.fns.length c6])
      clear hb13 HW12 HZ12 HY12 C12
      generalize w12.alloc (.cells #[.slice A5 X.globs.length c5, .slice A6 X.fns.length c6] 25) = w13 at *
      obtain ⟨gz, hgz⟩ : ∃ gz, gz = w12.heap.size := ⟨_, rfl⟩
      rw [← hgz] at HB13
      rw [show (some { block := w12.heap.size, off := 0, spot := none } : Option Addr) = some ⟨gz, 0, none⟩ by rw [hgz]]
      clear hgz
      have x0 := HB13.out.cell 0
      have x1 := HB13.out.cell 1
      have y0 := HY13.out.cell 0
      have y1 := HY13.out.cell 1
      go_wp2_with fail
      refine (rsame_c _ _ _ _ X X w13 HZ13.out HW13.out HBn.out.sm HBn.out.sm).mono ?_
      rintro e w14 ⟨⟨r, rfl, hr⟩, hb14⟩
      obtain rfl : r = true := hr.2 rfl
      have C14 := Lib.hid (below_trans C13.out hb14)
      have IN : Hid (RdI w w14 gr (.slice A bs.length c) (.slice Af nf Lf) bs (frame bs)) :=
        ⟨below_trans I.out.below C14.out, I.out.rows.below C14.out I.out.rows.lt, I.out.one.below C14.out, I.out.two.below C14.out⟩
      clear hr hb14 x0 x1 y0 y1 C13 C14 HB13 HY13 HZ13 HW13
      go_wp2_with fail
      go_roundg gk
      case measure => omega
      case rel => exact ⟨k + 1, by omega, by push_cast; rfl, IN⟩

end Go.Proofs.YtebdjahcahgafaaDoor

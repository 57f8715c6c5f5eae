/- The walk of ImageWrites, from the contracts of the program (premises here). -/
import Derived.Test.YtebdjahcahgafaaDoorICopy
import Derived.Test.YtebdjahcahgafaaDoorISame
import Derived.Test.YtebdjahcahgafaaDoorISpoil
import Derived.Test.YtebdjahcahgafaaDoorIEnc
import Derived.Test.YtebdjahcahgafaaDoorOwnN
import Derived.Test.YtebdjahcahgafaaDoorUni
import Derived.Deep.RegionHeld3
namespace Go.Proofs.YtebdjahcahgafaaDoor
open Go.RowKit

/-- What Encode answers beside the bytes, and the bytes. -/
def encE (x : ImgR) : Int := if imgK x = true then (if 1048576 < (frame (imgB x)).length then 2 else 0) else 150
def encI (x : ImgR) : List Nat := if imgK x = true then (if 1048576 < (frame (imgB x)).length then [] else frame (imgB x)) else []

/-- The two slices by their number. -/
def two {α : Type} (a b : α) : Nat → α
  | 0 => a
  | _ => b
theorem two_all {P : Nat → Prop} (h0 : P 0) (h1 : P 1) : ∀ j, j < 2 → P j := by
  intro j hj
  match j, hj with
  | 0, _ => exact h0
  | 1, _ => exact h1

theorem FullB.between {w : World} {base : Nat} {v : Value} {bs fs : List Nat} {A : Option Addr} (h : FullB w base v bs A fs) : ∀ p, A = some p → base ≤ p.block ∧ p.block < w.heap.size := by
  intro p e
  obtain ⟨g, rfl, e2, e3⟩ := h.row p e
  exact ⟨e2, e3.lt⟩
theorem FullB.lower {w : World} {base B : Nat} {v : Value} {bs fs : List Nat} {A : Option Addr} (h : FullB w base v bs A fs) (hb : B ≤ base) : FullB w B v bs A fs :=
  ⟨h.val, h.take, h.le, h.max, h.byte, h.void, fun a e => by obtain ⟨g, e1, e2, e3⟩ := h.row a e; exact ⟨g, e1, Nat.le_trans hb e2, e3⟩⟩

theorem enc_sl {w w' : World} {x : ImgR} {e : Ending} (h : EncR w x e w') : Below w.heap.size w w' ∧ ∃ v, SlB w' v (encI x) ∧ e = .returned (.tuple #[v, .int .i64 (encE x)]) := by
  obtain ⟨hb, h⟩ := h
  refine ⟨hb, ?_⟩
  by_cases h1 : imgK x = true
  · by_cases h2 : 1048576 < (frame (imgB x)).length
    · rw [if_pos h1, if_pos h2] at h
      exact ⟨_, by rw [encI, if_pos h1, if_pos h2]; exact SlB.nil _, by rw [encE, if_pos h1, if_pos h2]; exact h⟩
    · rw [if_pos h1, if_neg h2] at h
      obtain ⟨v, e1, h3⟩ := h
      exact ⟨v, by rw [encI, if_pos h1, if_neg h2]; exact h3.sl, by rw [encE, if_pos h1, if_neg h2]; exact e1⟩
  · rw [if_neg h1] at h
    exact ⟨_, by rw [encI, if_neg h1]; exact SlB.nil _, by rw [encE, if_neg h1]; exact h⟩

theorem ImgArg.below {w w' : World} {gv fv : Value} {x : ImgR} (h : ImgArg w gv fv x) (hb : Below w.heap.size w w') : ImgArg w' gv fv x := by
  obtain ⟨h1, h2, h3, h4, ⟨ts, h5, h6, h7⟩, h8⟩ := h
  exact ⟨h1.below hb, h2, h3, h4, ⟨ts, h5, h6.below hb, fun i f t hf ht => by have k := h7 i f t hf ht; exact ⟨k.shows.below hb, k.n1, k.n2, k.n3, k.bp, k.bl, k.bc, k.bn⟩⟩, h8⟩

set_option maxHeartbeats 8000000 in
set_option maxRecDepth 100000 in
theorem img_writes_of (hA : ∀ w, Tab w → Calls Tryd.prog 8 #[] w fun e w' => e = .returned (.bool true) ∧ Below w.heap.size w w')
    (hR : ∀ gv fv x w, Tab w → ImgShows w gv fv x → x.small → x.wide → Calls Tryd.prog 10 #[imgV gv fv] w fun e w' => e = .returned (.int .i64 (encE x)) ∧ Below w.heap.size w w')
    (hE : ∀ gv fv x w, Tab w → ImgShows w gv fv x → x.small → x.wide → Calls Tryd.prog 11 #[imgV gv fv] w fun e w' => ∃ u, e = .returned (.tuple #[u, .int .i64 (encE x)]) ∧ Gave w (encI x) u w')
    (gv fv : Value) (x : ImgR) (w : World) (ht : Tab w) (h : ImgArg w gv fv x) :
    Calls Tryd.prog 3 #[imgV gv fv] w fun e w' => e = .returned (.bool true) ∧ Below w.heap.size w w' := by
  have HA := Lib.hid h
  have HT := Lib.hid ht
  have HSm := Lib.hid h.small
  have HWd := Lib.hid h.wide
  obtain ⟨A1, c1, rfl, _⟩ := h.globs.slice
  obtain ⟨_, _, _, _, ⟨_, _, hf0, _⟩, _⟩ := h
  obtain ⟨A2, c2, rfl, _⟩ := hf0.slice
  clear hf0 ht
  have HB0 := Lib.hid ((Below.refl w.heap.size w).alloc (Nat.le_refl _) (.cells #[.slice A1 x.globs.length c1, .slice A2 x.fns.length c2] 25))
  have HK0 := Lib.hid (Blk.new w 25 #[.slice A1 x.globs.length c1, .slice A2 x.fns.length c2])
  have HHA := Lib.hid hA
  have HHR := Lib.hid hR
  have HHE := Lib.hid hE
  clear hA hR hE
  go_enter Tryd.func3, Tryd.ntmps3
  go_upto_region 1 with (fail)
  generalize w.alloc (.cells #[.slice A1 x.globs.length c1, .slice A2 x.fns.length c2] 25) = w0 at *
  obtain ⟨gx, hgx⟩ : ∃ gx, gx = w.heap.size := ⟨_, rfl⟩
  have HGx : Hid (gx = w.heap.size) := hgx
  rw [← hgx] at HK0
  rw [show (some { block := w.heap.size, off := 0, spot := none } : Option Addr) = some ⟨gx, 0, none⟩ by rw [hgx]]
  clear hgx
  go_wp2_with fail
  refine (HHA.out w0 (HT.out.below HB0.out)).mono ?_
  rintro e w1 ⟨rfl, hb1⟩
  have HB1 := Lib.hid (below_trans HB0.out hb1)
  have HK1 := Lib.hid (HK0.out.below hb1 HK0.out.lt)
  clear hb1 HB0 HK0
  have x0 := HK1.out.cell 0
  have x1 := HK1.out.cell 1
  go_wp2_with fail
  refine (copied_c _ _ x w1 (HA.out.below HB1.out)).mono ?_
  rintro e w2 ⟨hb2, gv', fv', rfl, hown⟩
  have HWas := Lib.hid hown.shows
  obtain ⟨Ag, cg, rfl⟩ := own_slk hown.globs
  obtain ⟨_, _, hfr, _⟩ := hown.fns
  obtain ⟨Af, cf, rfl⟩ := own_slk hfr
  clear hfr
  have HB2 := Lib.hid (below_trans HB1.out hb2)
  have HK2 := Lib.hid (HK1.out.below hb2 HK1.out.lt)
  clear hb2 hown x0 x1 HB1 HK1
  go_upto_region 3 with (fail)
  have HB3 := Lib.hid (HB2.out.alloc HB2.out.size (.cells #[.slice Ag x.globs.length cg, .slice Af x.fns.length cf] 25))
  have HK3 := Lib.hid (HK2.out.alloc (.cells #[.slice Ag x.globs.length cg, .slice Af x.fns.length cf] 25))
  have HC3 := Lib.hid (Blk.new w2 25 #[.slice Ag x.globs.length cg, .slice Af x.fns.length cf])
  have HW3 := Lib.hid (HWas.out.below ((Below.refl _ _).alloc (Nat.le_refl _) (.cells #[.slice Ag x.globs.length cg, .slice Af x.fns.length cf] 25)))
  generalize w2.alloc (.cells #[.slice Ag x.globs.length cg, .slice Af x.fns.length cf] 25) = w3 at *
  obtain ⟨gc, hgc⟩ : ∃ gc, gc = w2.heap.size := ⟨_, rfl⟩
  rw [← hgc] at HC3
  rw [show (some { block := w2.heap.size, off := 0, spot := none } : Option Addr) = some ⟨gc, 0, none⟩ by rw [hgc]]
  clear hgc HB2 HK2 HWas
  have x0 := HK3.out.cell 0
  have x1 := HK3.out.cell 1
  go_wp2_with fail
  refine (HHR.out _ _ x w3 (HT.out.below HB3.out) (HA.out.shows.below HB3.out) HSm.out HWd.out).mono ?_
  rintro e w4 ⟨rfl, hb⟩
  have HB4 := Lib.hid (below_trans HB3.out hb)
  have HK4 := Lib.hid (HK3.out.below hb HK3.out.lt)
  have HC4 := Lib.hid (HC3.out.below hb HC3.out.lt)
  have HW4 := Lib.hid (HW3.out.below hb)
  clear hb x0 x1 HB3 HK3 HC3 HW3
  obtain ⟨ee, hee⟩ : ∃ ee, ee = encE x := ⟨_, rfl⟩
  have HEE := Lib.hid hee
  rw [← hee]
  clear hee
  have x0 := HK4.out.cell 0
  have x1 := HK4.out.cell 1
  go_wp2_with fail
  refine (HHE.out _ _ x w4 (HT.out.below HB4.out) (HA.out.shows.below HB4.out) HSm.out HWd.out).mono ?_
  rintro e w5 ⟨u, rfl, Ax, Fx, hx, hb⟩
  rw [← HEE.out]
  obtain ⟨nx, hnx⟩ : ∃ k, k = (encI x).length := ⟨_, rfl⟩
  obtain ⟨Lx, hLx⟩ : ∃ k, k = Fx.length := ⟨_, rfl⟩
  obtain rfl : u = .slice Ax nx Lx := by rw [hnx, hLx]; exact hx.val
  have HNX := Lib.hid hnx
  clear hLx hnx
  have X5 := Lib.hid hx
  have HXl : Hid (∀ p, Ax = some p → p.block < w5.heap.size) := fun p hp => (hx.between p hp).2
  have HZ4 : Hid (w.heap.size ≤ w4.heap.size) := HB4.out.size
  have HW45 : Hid (w4.heap.size ≤ w5.heap.size) := hb.size
  have C5 := Lib.hid hb
  have HB5 := Lib.hid (below_trans HB4.out hb)
  have HK5 := Lib.hid (HK4.out.below hb HK4.out.lt)
  have HC5 := Lib.hid (HC4.out.below hb HC4.out.lt)
  have HW5 := Lib.hid (HW4.out.below hb)
  clear hb hx x0 x1 HB4 HK4 HC4 HW4
  have x0 := HK5.out.cell 0
  have x1 := HK5.out.cell 1
  go_wp2_with fail
  refine (HHE.out _ _ x w5 (HT.out.below HB5.out) (HA.out.shows.below HB5.out) HSm.out HWd.out).mono ?_
  rintro e w6 ⟨u, rfl, Ay, Fy, hy, hb⟩
  rw [← HEE.out]
  obtain ⟨Ly, hLy⟩ : ∃ k, k = Fy.length := ⟨_, rfl⟩
  obtain rfl : u = .slice Ay nx Ly := by rw [HNX.out, hLy]; exact hy.val
  clear hLy
  have Y6 := Lib.hid hy
  have X6 := Lib.hid (X5.out.below hb)
  have C6 := Lib.hid hb
  have HB6 := Lib.hid (below_trans HB5.out hb)
  have HK6 := Lib.hid (HK5.out.below hb HK5.out.lt)
  have HC6 := Lib.hid (HC5.out.below hb HC5.out.lt)
  have HW6 := Lib.hid (HW5.out.below hb)
  clear hb hy x0 x1 HB5 HK5 HC5 HW5 X5
  have x0 := HK6.out.cell 0
  have x1 := HK6.out.cell 1
  have y0 := HC6.out.cell 0
  have y1 := HC6.out.cell 1
  go_wp2_with fail
  refine (rsame_c _ _ _ _ x x w6 (HA.out.shows.below HB6.out) HW6.out HSm.out HSm.out).mono ?_
  rintro e w7 ⟨⟨r, rfl, hr⟩, hb⟩
  obtain rfl : r = true := hr.2 rfl
  have Y7 := Lib.hid (Y6.out.below hb)
  have X7 := Lib.hid (X6.out.below hb)
  have HB7 := Lib.hid (below_trans HB6.out hb)
  have HK7 := Lib.hid (HK6.out.below hb HK6.out.lt)
  have C7 := Lib.hid hb
  clear hr hb x0 x1 y0 y1 HB6 HK6 HC6 HW6 X6
  have x0 := HK7.out.cell 0
  have x1 := HK7.out.cell 1
  go_wp2_with fail
  refine (rencode_c _ _ x w7 (HA.out.shows.below HB7.out) HSm.out HWd.out).mono ?_
  intro e w8 h
  obtain ⟨hb, v, hs, rfl⟩ := enc_sl h
  rw [← HEE.out]
  obtain ⟨Az, cz, rfl, _⟩ := id hs
  rw [← HNX.out]
  have Y8 := Lib.hid (Y7.out.below hb)
  have X8 := Lib.hid (X7.out.below hb)
  have HB8 := Lib.hid (below_trans HB7.out hb)
  have C8 := Lib.hid hb
  obtain ⟨sx, hsx⟩ : ∃ t, t = strOf (encI x) := ⟨_, rfl⟩
  have cx : Sem.run Tryd.prog (convert 30 9 (.slice Ax nx Lx)) w8 = .ok (.string sx) w8 := by rw [hsx]; exact X8.out.sl.conv
  have cy : Sem.run Tryd.prog (convert 30 9 (.slice Ay nx Ly)) w8 = .ok (.string sx) w8 := by rw [hsx]; exact Y8.out.sl.conv
  have cz' : Sem.run Tryd.prog (convert 30 9 (.slice Az nx cz)) w8 = .ok (.string sx) w8 := by rw [hsx, HNX.out]; exact hs.conv
  clear h hb hs x0 x1 HB7 HK7 X7 Y7 hsx
  go_wp2_with fail
  clear cx cy cz'
  have hh : (w8.alloc (.cells #[.slice Ax nx Lx, .slice Ay nx Ly] 30)).ownsRow 0 30 1 (.slice (some ⟨w8.heap.size, 0, none⟩) 2 2) 2 (vals (two (.slice Ax nx Lx) (.slice Ay nx Ly)) 2) :=
    ⟨rfl, .inr ⟨w8.heap.size, 2, #[.slice Ax nx Lx, .slice Ay nx Ly], rfl, Nat.zero_le _, heap_alloc_new w8 _, Nat.le_refl _, by unfold maxLen; omega, rfl, by first | rfl | simp [vals, two]⟩⟩
  have hb8 : Below w8.heap.size w8 (w8.alloc (.cells #[.slice Ax nx Lx, .slice Ay nx Ly] 30)) := (Below.refl _ _).alloc (Nat.le_refl _) _
  generalize w8.alloc (.cells #[.slice Ax nx Lx, .slice Ay nx Ly] 30) = w9 at hh hb8 ⊢
  have hF : ∀ j, j < 2 → FullB w9 w4.heap.size (two (.slice Ax nx Lx) (.slice Ay nx Ly) j) (two (encI x) (encI x) j) (two Ax Ay j) (two Fx Fy j) := two_all (X8.out.below hb8) ((Y8.out.below hb8).lower HW45.out)
  have hyb := Y8.out.between
  have hxb := HXl.out
  have hG : ∀ a b, a < 2 → b < 2 → a ≠ b → ∀ p q, two Ax Ay a = some p → two Ax Ay b = some q → p.block ≠ q.block := by
    intro a b ha hb hab p q hp hq
    have h3 : (a = 0 ∧ b = 1) ∨ (a = 1 ∧ b = 0) := by omega
    rcases h3 with ⟨rfl, rfl⟩ | ⟨rfl, rfl⟩
    · have := hxb p hp; have := (hyb q hq).1; omega
    · have := hxb q hq; have := (hyb p hp).1; omega
  have B9 := Lib.hid (below_trans HB8.out hb8)
  have HFb : Hid (∀ j, j < 2 → ∀ p, two Ax Ay j = some p → w.heap.size ≤ p.block) := fun j hj p hp => Nat.le_trans HZ4.out ((hF j hj).between p hp).1
  clear hyb hxb hb8 HXl X8 Y8 C8 HB8
  refine (ownedN_c w8.heap.size 2 2 w4.heap.size (two (.slice Ax nx Lx) (.slice Ay nx Ly)) (two (encI x) (encI x)) (two Ax Ay) (two Fx Fy) w9 (by omega) (by omega) hh hF hG).mono ?_
  rintro e w10 ⟨rfl, _, hf10⟩
  have B10 : Hid (Below w.heap.size w w10) := B9.out.trans (hf10.below B9.out.size (fun i hi => by
    rintro ⟨j, hj, a, ha, rfl⟩
    have := HFb.out j hj a ha
    omega))
  clear hh hF hG hf10 B9 HFb
  go_wp2_with fail
  go_ret
  exact ⟨rfl, B10.out⟩
end Go.Proofs.YtebdjahcahgafaaDoor

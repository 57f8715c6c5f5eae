/- Spoil: the owner of an image writes over it. -/
import Derived.Test.YtebdjahcahgafaaDoorIOkM
import Derived.Deep.DeepCutAuto
namespace Go.Proofs.YtebdjahcahgafaaDoor
open Go.RowKit

theorem own_slk {w : World} {base n k : Nat} {e : TypeId} {v : Value} {xs : List Value} (h : w.ownsRow base e k v n xs) : ∃ A c, v = .slice A n c := by
  rcases h.2 with ⟨rfl, h0⟩ | ⟨g, cap, cur, rfl, _⟩
  · exact ⟨none, 0, by rw [h0]⟩
  · exact ⟨_, _, rfl⟩

/-- A row of one's own below top, whatever its cells hold: they may be written. -/
def Room (w : World) (base top : Nat) (e : TypeId) (k : Nat) (v : Value) (n : Nat) : Prop :=
  (v = .slice none 0 0 ∧ n = 0) ∨ ∃ g cap cur, v = .slice (some ⟨g, 0, none⟩) n cap ∧ base ≤ g ∧ g < top ∧ Blk w g e cur ∧ n ≤ cap ∧ cur.size = cap * k
theorem Room.of_own {w : World} {base n k : Nat} {e : TypeId} {v : Value} {xs : List Value} (h : w.ownsRow base e k v n xs) : Room w base w.heap.size e k v n := by
  rcases h.2 with h2 | ⟨g, cap, cur, rfl, hb, hg, hnc, _, hsz, _⟩
  · exact .inl h2
  · exact .inr ⟨g, cap, cur, rfl, hb, (Array.getElem?_eq_some_iff.1 hg).1, hg, hnc, hsz⟩
section
variable {w w' : World} {base top n k : Nat} {e : TypeId} {v : Value}
theorem Room.slice (h : Room w base top e k v n) : ∃ A c, v = .slice A n c := by
  rcases h with ⟨rfl, h0⟩ | ⟨g, cap, cur, rfl, _⟩
  · exact ⟨none, 0, by rw [h0]⟩
  · exact ⟨_, _, rfl⟩
theorem Room.set (h : Room w base top e k v n) (q j : Nat) (u : Value) : Room (w.setCell ⟨q, j, none⟩ u) base top e k v n := by
  rcases h with h | ⟨g, cap, cur, rfl, hb, ht, hg, hnc, hsz⟩
  · exact .inl h
  · by_cases e : g = q
    · subst e
      exact .inr ⟨g, cap, _, rfl, hb, ht, hg.set_ j u, hnc, by simpa using hsz⟩
    · exact .inr ⟨g, cap, cur, rfl, hb, ht, hg.far (p := ⟨q, j, none⟩) e u, hnc, hsz⟩
theorem Room.below (h : Room w base top e k v n) (hb : Below w.heap.size w w') : Room w' base top e k v n := by
  rcases h with h | ⟨g, cap, cur, rfl, h1, ht, hg, hnc, hsz⟩
  · exact .inl h
  · exact .inr ⟨g, cap, cur, rfl, h1, ht, hg.below hb hg.lt, hnc, hsz⟩
theorem Room.at_ (h : Room w base top e k v n) {i : Nat} (hi : i < n) : ∃ g c cur, v = .slice (some ⟨g, 0, none⟩) n c ∧ base ≤ g ∧ g < top ∧ Blk w g e cur ∧ ∀ j, j < k → ∃ u, cur[i * k + j]? = some u := by
  rcases h with ⟨_, h0⟩ | ⟨g, cap, cur, rfl, hb, ht, hg, hnc, hsz⟩
  · omega
  · refine ⟨g, cap, cur, rfl, hb, ht, hg, fun j hj => ?_⟩
    have h1 : (i + 1) * k ≤ cap * k := Nat.mul_le_mul_right k (by omega)
    have hlt : i * k + j < cur.size := by rw [hsz]; rw [Nat.add_mul] at h1; omega
    exact ⟨cur[i * k + j], Array.getElem?_eq_getElem hlt⟩
end

/-- A function's slices. -/
structure FnRoom (w : World) (base top : Nat) (t : Trip) (f : FnR) : Prop where
  params : Room w base top 3 1 t.1 f.params.length
  locals : Room w base top 3 1 t.2.1 f.locals.length
  code : Room w base top 50 3 t.2.2 f.code.length
theorem FnRoom.set {w : World} {base top : Nat} {t : Trip} {f : FnR} (h : FnRoom w base top t f) (q j : Nat) (u : Value) : FnRoom (w.setCell ⟨q, j, none⟩ u) base top t f := ⟨h.params.set q j u, h.locals.set q j u, h.code.set q j u⟩
theorem FnRoom.below {w w' : World} {base top : Nat} {t : Trip} {f : FnR} (h : FnRoom w base top t f) (hb : Below w.heap.size w w') : FnRoom w' base top t f := ⟨h.params.below hb, h.locals.below hb, h.code.below hb⟩

/-- The row of functions: from the k-th on as it was. -/
def RowFrom (w : World) (base top : Nat) (fv : Value) (l : List FnR) (ts : List Trip) (k : Nat) : Prop :=
  (fv = .slice none 0 0 ∧ l.length = 0) ∨ ∃ g cap cur, fv = .slice (some ⟨g, 0, none⟩) l.length cap ∧ base ≤ g ∧ g < top ∧ Blk w g 54 cur ∧ cur.size = cap * 5 ∧ l.length ≤ cap ∧
    ∀ (i j : Nat) (f : FnR) (t : Trip), k ≤ i → l[i]? = some f → ts[i]? = some t → j < 5 → cur[i * 5 + j]? = (fnC f t)[j]?

/-- In the midst of spoiling, at the k-th function. -/
structure SpX (w : World) (base top : Nat) (gv fv : Value) (x : ImgR) (ts : List Trip) (b0 k : Nat) (wr : World) : Prop where
  fr : Fr (fun i => base ≤ i ∧ i < top) w wr
  kb : Blk wr b0 25 #[gv, fv]
  rg : Room wr base top 48 3 gv x.globs.length
  row : RowFrom wr base top fv x.fns ts k
  rf : ∀ (i : Nat) (f : FnR) (t : Trip), x.fns[i]? = some f → ts[i]? = some t → FnRoom wr base top t f
section
variable {w wr w2 : World} {base top b0 k q : Nat} {gv fv : Value} {x : ImgR} {ts : List Trip} {e : TypeId} {cur : Array Value}
/-- A cell that is no function's is written. -/
theorem SpX.set (X : SpX w base top gv fv x ts b0 k wr) (hq : Blk wr q e cur) (h1 : e ≠ 54) (h2 : e ≠ 25) (hb : base ≤ q) (ht : q < top) (j : Nat) (u : Value) : SpX w base top gv fv x ts b0 k (wr.setCell ⟨q, j, none⟩ u) := by
  have hf : Fr (fun i => i = q) wr (wr.setCell ⟨q, j, none⟩ u) := Fr.set (S := fun i => i = q) wr (p := ⟨q, j, none⟩) rfl _
  refine ⟨X.fr.trans hf (fun i _ e => by have e : i = q := e; omega), X.kb.fr hf (fun e => Blk.ne_ X.kb hq (fun h => h2 h.symm) e), X.rg.set q j u, ?_, fun i f t hx ht => (X.rf i f t hx ht).set q j u⟩
  rcases X.row with h | ⟨g, cap, cur', rfl, h3, h4, hg, h5, h6, h7⟩
  · exact .inl h
  · exact .inr ⟨g, cap, cur', rfl, h3, h4, hg.fr hf (fun e => Blk.ne_ hg hq (fun h => h1 h.symm) e), h5, h6, h7⟩
theorem SpX.below (X : SpX w base top gv fv x ts b0 k wr) (hb : Below wr.heap.size wr w2) : SpX w base top gv fv x ts b0 k w2 := by
  refine ⟨X.fr.trans (Fr.of_below (S := fun _ => False) hb) (fun _ _ h => h.elim), X.kb.below hb X.kb.lt, X.rg.below hb, ?_, fun i f t hx ht => (X.rf i f t hx ht).below hb⟩
  rcases X.row with h | ⟨g, cap, cur', rfl, h3, h4, hg, h5, h6, h7⟩
  · exact .inl h
  · exact .inr ⟨g, cap, cur', rfl, h3, h4, hg.below hb hg.lt, h5, h6, h7⟩
/-- The k-th function is written over. -/
theorem SpX.fn (Y : SpX w base top gv fv x ts b0 (k + 1) wr) {cap : Nat} {g : Nat} (hv : fv = .slice (some ⟨g, 0, none⟩) x.fns.length cap) {j : Nat} (hj : j < 5) (u : Value) : SpX w base top gv fv x ts b0 (k + 1) (wr.setCell ⟨g, k * 5 + j, none⟩ u) := by
  rcases Y.row with ⟨h, _⟩ | ⟨g', cap', cur', e1, h3, h4, hg, h5, h6, h7⟩
  · rw [hv] at h; cases h
  · rw [hv] at e1
    injection e1 with e2 _ e3
    injection e2 with e2
    injection e2 with e2
    subst e2 e3
    have hf : Fr (fun i => i = g) wr (wr.setCell ⟨g, k * 5 + j, none⟩ u) := Fr.set (S := fun i => i = g) wr (p := ⟨g, k * 5 + j, none⟩) rfl _
    refine ⟨Y.fr.trans hf (fun i _ e => by have e : i = g := e; omega), Y.kb.fr hf (fun e => Blk.ne_ Y.kb hg (by decide) e), Y.rg.set _ _ u, .inr ⟨g, cap, _, hv, h3, h4, hg.set_ _ u, by simpa using h5, h6, fun i j' f t hi hx ht hj' => ?_⟩, fun i f t hx ht => (Y.rf i f t hx ht).set _ _ u⟩
    rw [Array.getElem?_setIfInBounds_ne (by omega)]
    exact h7 i j' f t hi hx ht hj'
theorem SpX.next (X : SpX w base top gv fv x ts b0 k wr) : SpX w base top gv fv x ts b0 (k + 1) wr := by
  refine ⟨X.fr, X.kb, X.rg, ?_, X.rf⟩
  rcases X.row with h | ⟨g, cap, cur', rfl, h3, h4, hg, h5, h6, h7⟩
  · exact .inl h
  · exact .inr ⟨g, cap, cur', rfl, h3, h4, hg, h5, h6, fun i j f t hi => h7 i j f t (by omega)⟩
theorem SpX.at_ (X : SpX w base top gv fv x ts b0 k wr) (hl : ts.length = x.fns.length) (hk : k < x.fns.length) : ∃ g c, fv = .slice (some ⟨g, 0, none⟩) x.fns.length c ∧ ∃ cur, Blk wr g 54 cur ∧ ∀ j, j < 5 → cur[k * 5 + j]? = (fnC x.fns[k] (ts[k]'(by omega)))[j]? := by
  rcases X.row with ⟨_, h⟩ | ⟨g, cap, cur', rfl, h3, h4, hg, h5, h6, h7⟩
  · omega
  · exact ⟨g, cap, rfl, cur', hg, fun j hj => h7 k j _ _ (Nat.le_refl _) (List.getElem?_eq_getElem hk) (List.getElem?_eq_getElem (by omega)) hj⟩
end

/-- What Spoil does. -/
def SpoilR (w : World) (base top : Nat) (e : Ending) (w' : World) : Prop := (∃ n : Int, e = .returned (.int .i64 n) ∧ 0 ≤ n ∧ n ≤ 3000000) ∧ Fr (fun i => base ≤ i ∧ i < top) w w'

set_option maxHeartbeats 8000000 in
set_option maxRecDepth 100000 in
theorem spoil_c (w0 w : World) (base : Nat) (gv fv : Value) (x : ImgR) (h : ImgOwn w0 base gv fv x) (hb : Below w0.heap.size w0 w) (hg : x.globs.length ≤ 64) (hf : x.fns.length ≤ 64) (hc : ∀ f ∈ x.fns, f.code.length ≤ 32768) (hs : x.small) :
    Calls Tryd.prog 20 #[imgV gv fv] w (SpoilR w base w0.heap.size) := by
  obtain ⟨hgl, ts, hts, hfr, hfn⟩ := h
  obtain ⟨Ag, cg, rfl⟩ := own_slk hgl
  obtain ⟨Af, cf, rfl⟩ := own_slk hfr
  have X0 : SpX w base w0.heap.size (.slice Ag x.globs.length cg) (.slice Af x.fns.length cf) x ts w.heap.size 0 (w.alloc (.cells #[.slice Ag x.globs.length cg, .slice Af x.fns.length cf] 25)) := by
    have hb2 : Below w0.heap.size w0 (w.alloc (.cells #[.slice Ag x.globs.length cg, .slice Af x.fns.length cf] 25)) := hb.alloc hb.size _
    refine ⟨Fr.alloc w _, Blk.new w 25 _, (Room.of_own hgl).below hb2, ?_, fun i f t hx ht => ?_⟩
    · rcases hfr.2 with h2 | ⟨g, cap, cur, e1, hbg, hgg, hnc, _, hsz, htk⟩
      · exact .inl h2
      · have hlt := (Array.getElem?_eq_some_iff.1 hgg).1
        refine .inr ⟨g, cap, cur, e1, hbg, hlt, Blk.below hgg hb2 hlt, hsz, hnc, fun i j f t _ hx ht hj => ?_⟩
        have hz : (x.fns.zip ts)[i]? = some (f, t) := by rw [List.getElem?_zip_eq_some]; exact ⟨hx, ht⟩
        have h3 := flat_at fnC_len hz hj
        have hi : i < x.fns.length := (List.getElem?_eq_some_iff.1 hx).1
        have h4 : (cur.toList.take (x.fns.length * 5))[i * 5 + j]? = (fnC f t)[j]? := by rw [htk]; exact h3
        rw [List.getElem?_take, if_pos (by omega)] at h4
        simpa using h4
    · have k := hfn i f t hx ht
      exact ⟨(Room.of_own k.params).below hb2, (Room.of_own k.locals).below hb2, (Room.of_own k.code).below hb2⟩
  have HX := Lib.hid X0
  have HTs := Lib.hid hts
  have HSm := Lib.hid hs
  have HC := Lib.hid hc
  clear hgl hfr hfn X0 hb hts hs hc
  generalize w0.heap.size = top at *
  go_enter Tryd.func20, Tryd.ntmps20
  go_upto_region 1 with (fail)
  generalize w.alloc (.cells #[.slice Ag x.globs.length cg, .slice Af x.fns.length cf] 25) = w1 at *
  obtain ⟨b0, hb0⟩ : ∃ b0, b0 = w.heap.size := ⟨_, rfl⟩
  rw [← hb0] at HX
  rw [show (some { block := w.heap.size, off := 0, spot := none } : Option Addr) = some ⟨b0, 0, none⟩ by rw [hb0]]
  clear hb0
  have k0 := HX.out.kb.cell 0
  go_wp2_with fail
  go_loopg [4] x.globs.length (fun gg s4 wr => ∃ k : Nat, k + gg = x.globs.length ∧ s4 = .int .i64 (k : Int) ∧ Hid (SpX w base top (.slice Ag x.globs.length cg) (.slice Af x.fns.length cf) x ts b0 0 wr))
  case atStart => exact ⟨0, by omega, rfl, HX⟩
  case round =>
    clear k0 HX
    obtain ⟨k, hk, rfl, HX⟩ := hrel
    have k0 := HX.out.kb.cell 0
    cases gk with
    | succ gk =>
      have hka : k < x.globs.length := by omega
      obtain ⟨g, c, cur, e1, hbg, htg, hbl, hcells⟩ := HX.out.rg.at_ hka
      injection e1 with e2 _ e3
      subst e2 e3
      obtain ⟨u0, h0⟩ := hcells 0 (by omega)
      obtain ⟨u1, h1⟩ := hcells 1 (by omega)
      obtain ⟨u2, h2⟩ := hcells 2 (by omega)
      have c0 : wr.cell? ⟨g, k * 3, none⟩ = some u0 := (hbl.cell (k * 3)).trans (by simpa using h0)
      have c1 : wr.cell? ⟨g, k * 3 + 1, none⟩ = some u1 := (hbl.cell (k * 3 + 1)).trans h1
      have c2 : wr.cell? ⟨g, k * 3 + 2, none⟩ = some u2 := (hbl.cell (k * 3 + 2)).trans h2
      have z0 := hbl.frozen (k * 3)
      have z1 := hbl.frozen (k * 3 + 1)
      have z2 := hbl.frozen (k * 3 + 2)
      have Y1 := HX.out.set hbl (by decide) (by decide) hbg htg (k * 3) (.int .i64 (-7))
      have Y2 := Y1.set (hbl.set_ (k * 3) (.int .i64 (-7))) (by decide) (by decide) hbg htg (k * 3 + 1) (.int .i64 0)
      have Y3 := Y2.set ((hbl.set_ (k * 3) (.int .i64 (-7))).set_ (k * 3 + 1) (.int .i64 0)) (by decide) (by decide) hbg htg (k * 3 + 2) (.int .i64 0)
      have HY := Lib.hid Y3
      clear Y1 Y2 Y3 hbl hcells h0 h1 h2 HX
      have hki : (k : Int) < (x.globs.length : Int) := by omega
      go_wp2_with fail
      go_roundg gk
      case measure => omega
      case rel => exact ⟨k + 1, by omega, by push_cast; rfl, HY⟩
    | zero =>
      have ek : k = x.globs.length := by omega
      subst ek
      have hd : decide ((x.globs.length : Int) < (x.globs.length : Int)) = false := by simp
      have k1 := HX.out.kb.cell 1
      clear hk
      go_wp2_with fail
      go_loopg [3, 5, 6, 7, 8, 9] x.fns.length (fun gg s3 s5 _ _ _ _ wr => ∃ k nn : Nat, k + gg = x.fns.length ∧ s3 = .int .i64 (nn : Int) ∧ nn ≤ 64 + 32768 * k ∧ s5 = .int .i64 (k : Int) ∧ Hid (SpX w base top (.slice Ag x.globs.length cg) (.slice Af x.fns.length cf) x ts b0 k wr))
      case atStart => exact ⟨0, x.globs.length, by omega, rfl, by omega, rfl, HX⟩
      case round =>
        clear k0 k1 HX hd
        obtain ⟨k, nn, hk, rfl, hnn, rfl, HX⟩ := hrel
        have k1 := HX.out.kb.cell 1
        cases gk with
        | zero =>
          have ek : k = x.fns.length := by omega
          subst ek
          have hd : decide ((x.fns.length : Int) < (x.fns.length : Int)) = false := by simp
          clear hk
          go_wp2_with fail
          go_ret
          exact ⟨⟨_, rfl, by omega, by omega⟩, HX.out.fr⟩
        | succ gk =>
          have hka : k < x.fns.length := by omega
          obtain ⟨g, c, e1, cur, hbl, hcells⟩ := HX.out.at_ HTs.out hka
          injection e1 with e2 _ e3
          subst e2 e3
          have hrm := HX.out.rf k x.fns[k] (ts[k]'(by have := HTs.out; omega)) (List.getElem?_eq_getElem hka) (List.getElem?_eq_getElem (by have := HTs.out; omega))
          have hcode := HC.out _ (List.getElem_mem hka)
          have hsm := HSm.out.fns _ (List.getElem_mem hka)
          have HG1 : Hid (x.fns[k]? = some x.fns[k]) := List.getElem?_eq_getElem hka
          have HG2 : Hid (ts[k]? = some (ts[k]'(by have := HTs.out; omega))) := List.getElem?_eq_getElem (by have := HTs.out; omega)
          generalize x.fns[k] = f at *
          generalize ts[k]'(by have := HTs.out; omega) = t at *
          obtain ⟨t1, t2, t3⟩ := t
          obtain ⟨Ap, cp, e1⟩ := hrm.params.slice
          obtain ⟨Al, cl, e2⟩ := hrm.locals.slice
          obtain ⟨Ac, cc, e3⟩ := hrm.code.slice
          simp only at e1 e2 e3
          subst e1 e2 e3
          have c0 : wr.cell? ⟨g, k * 5, none⟩ = some (.string f.name) := (hbl.cell (k * 5)).trans (by simpa [fnC] using hcells 0 (by omega))
          have c1 : wr.cell? ⟨g, k * 5 + 1, none⟩ = some (.slice Ap f.params.length cp) := (hbl.cell (k * 5 + 1)).trans (hcells 1 (by omega))
          have c2 : wr.cell? ⟨g, k * 5 + 2, none⟩ = some (.int .i64 f.result) := (hbl.cell (k * 5 + 2)).trans (hcells 2 (by omega))
          have c3 : wr.cell? ⟨g, k * 5 + 3, none⟩ = some (.slice Al f.locals.length cl) := (hbl.cell (k * 5 + 3)).trans (hcells 3 (by omega))
          have c4 : wr.cell? ⟨g, k * 5 + 4, none⟩ = some (.slice Ac f.code.length cc) := (hbl.cell (k * 5 + 4)).trans (hcells 4 (by omega))
          have np1 := hsm.np
          have nl1 := hsm.nl
          have hb1 : Below wr.heap.size wr (wr.alloc (.cells (fnBox f (.slice Ap f.params.length cp, .slice Al f.locals.length cl, .slice Ac f.code.length cc)) 54)) := (Below.refl _ _).alloc (Nat.le_refl _) _
          have KF := Lib.hid (Blk.new wr 54 (fnBox f (.slice Ap f.params.length cp, .slice Al f.locals.length cl, .slice Ac f.code.length cc)))
          have HX := Lib.hid (HX.out.below hb1)
          have hki : (k : Int) < (x.fns.length : Int) := by omega
          clear hb1 hcells hbl hrm hsm
          go_upto_region 10 with (fail)
          generalize wr.alloc (.cells (fnBox f (.slice Ap f.params.length cp, .slice Al f.locals.length cl, .slice Ac f.code.length cc)) 54) = wa at *
          generalize wr.heap.size = gF at *
          clear c0 c1 c2 c3 c4 k1
          have f4 := KF.out.cell 4
          go_wp2_with fail
          go_loopg [3, 7] f.code.length (fun gg s3 s7 wr => ∃ j : Nat, j + gg = f.code.length ∧ s3 = .int .i64 ((nn + j : Nat) : Int) ∧ s7 = .int .i64 (j : Int) ∧ Hid (SpX w base top (.slice Ag x.globs.length cg) (.slice (some ⟨g, 0, none⟩) x.fns.length cf) x ts b0 k wr) ∧ Hid (Blk wr gF 54 (fnBox f (.slice Ap f.params.length cp, .slice Al f.locals.length cl, .slice Ac f.code.length cc))))
          case atStart => exact ⟨0, by omega, by simp, rfl, HX, KF⟩
          case round =>
            clear f4 HX KF
            obtain ⟨j, hj, rfl, rfl, HX, KF⟩ := hrel
            have f4 := KF.out.cell 4
            cases gk with
            | succ gj =>
              have hja : j < f.code.length := by omega
              obtain ⟨q, c, cur, e1, hbg, htg, hbl, hcells⟩ := (HX.out.rf k f _ HG1.out HG2.out).code.at_ hja
              simp only at e1
              injection e1 with e2 _ e3
              subst e2 e3
              obtain ⟨u0, h0⟩ := hcells 0 (by omega)
              obtain ⟨u1, h1⟩ := hcells 1 (by omega)
              obtain ⟨u2, h2⟩ := hcells 2 (by omega)
              have c0 : wr.cell? ⟨q, j * 3, none⟩ = some u0 := (hbl.cell (j * 3)).trans (by simpa using h0)
              have c1 : wr.cell? ⟨q, j * 3 + 1, none⟩ = some u1 := (hbl.cell (j * 3 + 1)).trans h1
              have c2 : wr.cell? ⟨q, j * 3 + 2, none⟩ = some u2 := (hbl.cell (j * 3 + 2)).trans h2
              have z0 := hbl.frozen (j * 3)
              have z1 := hbl.frozen (j * 3 + 1)
              have z2 := hbl.frozen (j * 3 + 2)
              have Y1 := HX.out.set hbl (by decide) (by decide) hbg htg (j * 3) (.int .i64 (-7))
              have Y2 := Y1.set (hbl.set_ (j * 3) (.int .i64 (-7))) (by decide) (by decide) hbg htg (j * 3 + 1) (.int .i64 0)
              have HY := Lib.hid (Y2.set ((hbl.set_ (j * 3) (.int .i64 (-7))).set_ (j * 3 + 1) (.int .i64 0)) (by decide) (by decide) hbg htg (j * 3 + 2) (.int .i64 0))
              have hne : gF ≠ q := fun e => Blk.ne_ KF.out hbl (by decide) e
              have KF2 := Lib.hid (((KF.out.far (p := ⟨q, j * 3, none⟩) hne (.int .i64 (-7))).far (p := ⟨q, j * 3 + 1, none⟩) hne (.int .i64 0)).far (p := ⟨q, j * 3 + 2, none⟩) hne (.int .i64 0))
              have hji : (j : Int) < (f.code.length : Int) := by omega
              have hjw : nn + j + 1 < 4000000 := by omega
              have hsum : ((nn + j : Nat) : Int) + 1 = ((nn + (j + 1) : Nat) : Int) := by omega
              clear Y1 Y2 hbl hcells h0 h1 h2 HX KF hne
              go_wp2_with fail
              go_roundg gj
              case measure => omega
              case rel => exact ⟨j + 1, by omega, by push_cast; (try congr 1) <;> (try omega), by push_cast; rfl, HY, KF2⟩
            | zero =>
              have ek : j = f.code.length := by omega
              subst ek
              have hd : decide ((f.code.length : Int) < (f.code.length : Int)) = false := by simp
              have f3 := KF.out.cell 3
              clear hj
              go_wp2_with fail
              go_loopg [8] f.locals.length (fun gg s8 wr => ∃ j : Nat, j + gg = f.locals.length ∧ s8 = .int .i64 (j : Int) ∧ Hid (SpX w base top (.slice Ag x.globs.length cg) (.slice (some ⟨g, 0, none⟩) x.fns.length cf) x ts b0 k wr) ∧ Hid (Blk wr gF 54 (fnBox f (.slice Ap f.params.length cp, .slice Al f.locals.length cl, .slice Ac f.code.length cc))))
              case atStart => exact ⟨0, by omega, rfl, HX, KF⟩
              case round =>
                clear hd HX KF
                obtain ⟨j, hj, rfl, HX, KF⟩ := hrel
                have fc := KF.out.cell 3
                cases gk with
                | succ gj =>
                  have hja : j < f.locals.length := by omega
                  obtain ⟨q, c, cur, e1, hbg, htg, hbl, hcells⟩ := (HX.out.rf k f _ HG1.out HG2.out).locals.at_ hja
                  simp only at e1
                  injection e1 with e2 _ e3
                  subst e2 e3
                  obtain ⟨u0, h0⟩ := hcells 0 (by omega)
                  have c0 : wr.cell? ⟨q, j, none⟩ = some u0 := (hbl.cell j).trans (by simpa using h0)
                  have z0 := hbl.frozen j
                  have HY := Lib.hid (HX.out.set hbl (by decide) (by decide) hbg htg j (.int .i64 (-7)))
                  have hne : gF ≠ q := fun e => Blk.ne_ KF.out hbl (by decide) e
                  have KF2 := Lib.hid (KF.out.far (p := ⟨q, j, none⟩) hne (.int .i64 (-7)))
                  have hji : (j : Int) < (f.locals.length : Int) := by omega
                  clear hbl hcells h0 HX KF hne
                  go_wp2_with fail
                  go_roundg gj
                  case measure => omega
                  case rel => exact ⟨j + 1, by omega, by push_cast; rfl, HY, KF2⟩
                | zero =>
                  have ek : j = f.locals.length := by omega
                  subst ek
                  have hd : decide ((f.locals.length : Int) < (f.locals.length : Int)) = false := by simp
                  clear hj
                  go_wp2_with fail
                  go_loopg [9] f.params.length (fun gg s9 wr => ∃ j : Nat, j + gg = f.params.length ∧ s9 = .int .i64 (j : Int) ∧ Hid (SpX w base top (.slice Ag x.globs.length cg) (.slice (some ⟨g, 0, none⟩) x.fns.length cf) x ts b0 k wr) ∧ Hid (Blk wr gF 54 (fnBox f (.slice Ap f.params.length cp, .slice Al f.locals.length cl, .slice Ac f.code.length cc))))
                  case atStart => exact ⟨0, by omega, rfl, HX, KF⟩
                  case round =>
                    clear hd HX KF
                    obtain ⟨j, hj, rfl, HX, KF⟩ := hrel
                    have fc := KF.out.cell 1
                    cases gk with
                    | succ gj =>
                      have hja : j < f.params.length := by omega
                      obtain ⟨q, c, cur, e1, hbg, htg, hbl, hcells⟩ := (HX.out.rf k f _ HG1.out HG2.out).params.at_ hja
                      simp only at e1
                      injection e1 with e2 _ e3
                      subst e2 e3
                      obtain ⟨u0, h0⟩ := hcells 0 (by omega)
                      have c0 : wr.cell? ⟨q, j, none⟩ = some u0 := (hbl.cell j).trans (by simpa using h0)
                      have z0 := hbl.frozen j
                      have HY := Lib.hid (HX.out.set hbl (by decide) (by decide) hbg htg j (.int .i64 (-7)))
                      have hne : gF ≠ q := fun e => Blk.ne_ KF.out hbl (by decide) e
                      have KF2 := Lib.hid (KF.out.far (p := ⟨q, j, none⟩) hne (.int .i64 (-7)))
                      have hji : (j : Int) < (f.params.length : Int) := by omega
                      clear hbl hcells h0 HX KF hne
                      go_wp2_with fail
                      go_roundg gj
                      case measure => omega
                      case rel => exact ⟨j + 1, by omega, by push_cast; rfl, HY, KF2⟩
                    | zero =>
                      have ek : j = f.params.length := by omega
                      subst ek
                      have hd : decide ((f.params.length : Int) < (f.params.length : Int)) = false := by simp
                      clear hj
                      go_upto_region 23 with (fail)
                      have k1 := HX.out.kb.cell 1
                      obtain ⟨g2, c2', e1, cur, hbl, hcells⟩ := HX.out.at_ HTs.out hka
                      injection e1 with e2 _ e3
                      injection e2 with e2
                      injection e2 with e2
                      subst e2 e3
                      have cc0 : ∃ u, wr.cell? ⟨g, k * 5, none⟩ = some u := ⟨_, (hbl.cell (k * 5 + 0)).trans (hcells 0 (by omega))⟩
                      have cc1 : ∃ u, wr.cell? ⟨g, k * 5 + 1, none⟩ = some u := ⟨_, (hbl.cell (k * 5 + 1)).trans (hcells 1 (by omega))⟩
                      have cc2 : ∃ u, wr.cell? ⟨g, k * 5 + 2, none⟩ = some u := ⟨_, (hbl.cell (k * 5 + 2)).trans (hcells 2 (by omega))⟩
                      have cc3 : ∃ u, wr.cell? ⟨g, k * 5 + 3, none⟩ = some u := ⟨_, (hbl.cell (k * 5 + 3)).trans (hcells 3 (by omega))⟩
                      have cc4 : ∃ u, wr.cell? ⟨g, k * 5 + 4, none⟩ = some u := ⟨_, (hbl.cell (k * 5 + 4)).trans (hcells 4 (by omega))⟩
                      obtain ⟨v0, cc0⟩ := cc0
                      obtain ⟨v1, cc1⟩ := cc1
                      obtain ⟨v2, cc2⟩ := cc2
                      obtain ⟨v3, cc3⟩ := cc3
                      obtain ⟨v4, cc4⟩ := cc4
                      have z0 := hbl.frozen (k * 5)
                      have z1 := hbl.frozen (k * 5 + 1)
                      have z2 := hbl.frozen (k * 5 + 2)
                      have z3 := hbl.frozen (k * 5 + 3)
                      have z4 := hbl.frozen (k * 5 + 4)
                      have Y0 := HX.out.next.fn (cap := cf) (g := g) rfl (j := 0) (by omega) (.string ⟨#[115, 112, 111, 105, 108, 116]⟩)
                      rw [Nat.add_zero] at Y0
                      have HY := Lib.hid ((((Y0.fn (cap := cf) (g := g) rfl (j := 1) (by omega) (.slice none 0 0)).fn (cap := cf) (g := g) rfl (j := 2) (by omega) (.int .i64 0)).fn (cap := cf) (g := g) rfl (j := 3) (by omega) (.slice none 0 0)).fn (cap := cf) (g := g) rfl (j := 4) (by omega) (.slice none 0 0))
                      clear Y0 hbl hcells HX KF fc
                      go_wp2_with fail
                      go_roundg gk
                      case measure => omega
                      case rel => exact ⟨k + 1, nn + f.code.length, by omega, rfl, by omega, by push_cast; rfl, HY⟩

end Go.Proofs.YtebdjahcahgafaaDoor

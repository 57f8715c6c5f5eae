/- Copied: an image in other memory. -/
import Derived.Test.YtebdjahcahgafaaDoorIDec
namespace Go.Proofs.YtebdjahcahgafaaDoor
open Go.RowKit

/-- A slice without memory has no room. -/
def NilOk (v : Value) : Prop := ∀ n c, v = .slice none n c → n = 0 ∧ c = 0
set_option maxRecDepth 100000 in
/-- Appending what a slice shows to a row of one's own. -/
theorem run_shows {t e : TypeId} {i : TypeInfo} {z : Value} {size bytes : Nat} (w : World) (base : Nat) (ty : TypeId) (ht : Tryd.prog.underlying t = some (.slice e)) (hi : Tryd.prog.info? e = some i) (hz : i.zero = some z)
    (hsize : i.size = size) (hby : i.bytes = bytes) (hzs : z.cells.size = size) (hsz : 0 < size) (v u : Value) (n m : Nat) (xs ys : List Value) (hown : w.ownsRow base e size v n xs) (hu : Shows w u size m ys) (hn : NilOk u) (h1 : ∀ u ∈ ys, u.oneCell' = true)
    (h63 : n + m ≤ maxLen) (hbytes : (n + m) * bytes ≤ 140737488355328) (hbase : base ≤ w.heap.size) :
    ∃ v' w', (Builtin.append_ #[t, t] ty #[v, u]).run Tryd.prog w = .ok v' w' ∧ w'.ownsRow base e size v' (n + m) (xs ++ ys) ∧ w.grownBy w' v.ownBlock := by
  obtain ⟨hl, A, c, rfl, hc, hj⟩ := hu
  cases A with
  | none =>
    obtain ⟨rfl, rfl⟩ := hn _ _ rfl
    have hr := run_append_owned_none (P := Tryd.prog) w base t ty e i size ht hi v n xs hown
    have : ys = [] := List.eq_nil_of_length_eq_zero (by simpa using hl)
    subst this
    exact ⟨v, w, hr, by simpa using hown, World.grownBy.refl _ _⟩
  | some ad =>
    have hcells : ∀ j u, ys[j]? = some u → w.cell? (ad.add j) = some u := by
      intro j u hju
      have hlt : j < ys.length := (List.getElem?_eq_some_iff.1 hju).1
      have hm : 0 < m := by
        rcases Nat.eq_zero_or_pos m with h | h
        · rw [hl, h, Nat.zero_mul] at hlt; omega
        · exact h
      obtain ⟨b, o, e1, hb, hk⟩ := hj hm
      injection e1 with e1
      subst e1
      have e2 : (⟨b, o, none⟩ : Addr).add j = ⟨b, o + j, none⟩ := by unfold Addr.add; split <;> simp_all
      rw [e2]
      exact hk j u hju
    obtain ⟨v', w', hr, h2, h3, _, _⟩ := run_append_own_at (P := Tryd.prog) w base t ty e i z size bytes ht hi hz hsize hby hzs hsz v n xs hown ad m c ys hl hcells h1 h63 hbytes hbase
    exact ⟨v', w', hr, h2, h3⟩
theorem wpList_shows {w : World} {ops : Array Oper} {rest : List Oper} {o : Oper} {a : Act} {Q : Exit → Act → World → Prop} (hgd : o.guard = none) (sl x : Operand) (t : TypeId)
    (ho : o.op = .call { callee := .builtin .append, args := #[sl, x], argTypes := #[t, t] }) (base : Nat) (e : TypeId) (i : TypeInfo) (z : Value) (size bytes : Nat) (ht : Tryd.prog.underlying t = some (.slice e)) (hi : Tryd.prog.info? e = some i) (hz : i.zero = some z)
    (hsize : i.size = size) (hby : i.bytes = bytes) (hzs : z.cells.size = size) (hsz : 0 < size) (v u : Value) (n m : Nat) (xs ys : List Value) (hsl : a.eval sl = v) (hown : w.ownsRow base e size v n xs) (hx : a.eval x = u) (hu : Shows w u size m ys) (hn : NilOk u) (h1 : ∀ u ∈ ys, u.oneCell' = true)
    (h63 : n + m ≤ maxLen) (hbytes : (n + m) * bytes ≤ 140737488355328) (hbase : base ≤ w.heap.size)
    (h : ∀ v' w', w'.ownsRow base e size v' (n + m) (xs ++ ys) → w.grownBy w' v.ownBlock → wpList Tryd.prog ops Q rest (a.put o.dst v') w') : wpList Tryd.prog ops Q (o :: rest) a w := by
  refine wpList_plain hgd fun K hK => ?_
  obtain ⟨v', w', hr, h2, h3⟩ := run_shows w base o.type ht hi hz hsize hby hzs hsz v u n m xs ys hown hu hn h1 h63 hbytes hbase
  unfold Oper.wp execOp
  simp only [ho, resolve, invoke, builtin, Sem.run_bind, Sem.run_pure, Result.andThen_ok, List.map_toArray, List.map_cons, List.map_nil, hsl, hx, hr]
  exact hK _ _ (h v' w' h2 h3)
theorem globsV_one (l : List GlobR) : ∀ u ∈ globsV l, u.oneCell' = true := by
  intro u hu
  obtain ⟨g, _, hg⟩ := List.mem_flatMap.1 hu
  simp [globC] at hg
  rcases hg with rfl | rfl | rfl <;> rfl
theorem codeV_one (l : List InsR) : ∀ u ∈ codeV l, u.oneCell' = true := by
  intro u hu
  obtain ⟨g, _, hg⟩ := List.mem_flatMap.1 hu
  simp [insC] at hg
  rcases hg with rfl | rfl | rfl <;> rfl

/-- An image that came in. -/
structure FnArg (w : World) (t : Trip) (f : FnR) : Prop where
  shows : FnShows w t f
  n1 : NilOk t.1
  n2 : NilOk t.2.1
  n3 : NilOk t.2.2
  bp : f.params.length * 8 ≤ 140737488351232
  bl : f.locals.length * 8 ≤ 140737488351232
  bc : f.code.length * 24 ≤ 140737488351232
  bn : f.name.size ≤ 140737488351232
structure ImgArg (w : World) (gv fv : Value) (x : ImgR) : Prop where
  globs : Shows w gv 3 x.globs.length (globsV x.globs)
  ng : NilOk gv
  bg : x.globs.length * 24 ≤ 140737488351232
  bf : x.fns.length * 96 ≤ 140737488351232
  fns : ∃ ts : List Trip, ts.length = x.fns.length ∧ Shows w fv 5 x.fns.length (fnsV x.fns ts) ∧ ∀ (i : Nat) (f : FnR) (t : Trip), x.fns[i]? = some f → ts[i]? = some t → FnArg w t f
  wide : x.wide
theorem ImgArg.shows {w : World} {gv fv : Value} {x : ImgR} (h : ImgArg w gv fv x) : ImgShows w gv fv x := by
  obtain ⟨h1, _, _, _, ⟨ts, h2, h3, h4⟩, _⟩ := h
  exact ⟨h1, ts, h2, h3, fun i f t hf ht => (h4 i f t hf ht).shows⟩
theorem ImgArg.small {w : World} {gv fv : Value} {x : ImgR} (h : ImgArg w gv fv x) : x.small := by
  obtain ⟨_, _, h1, h2, ⟨ts, h3, _, h4⟩, _⟩ := h
  refine ⟨by omega, by omega, fun f hf => ?_⟩
  obtain ⟨i, hi, e⟩ := List.getElem_of_mem hf
  have k := h4 i f (ts[i]'(by omega)) (by rw [List.getElem?_eq_getElem hi, e]) (List.getElem?_eq_getElem (by omega))
  exact ⟨by have := k.bp; omega, by have := k.bl; omega, by have := k.bc; omega, by have := k.bn; omega⟩

/-- In the midst of copying: what came in lies in b1, the result in rx, the copy in px; w1 is when they were made. -/
structure CX (w1 : World) (b1 rx px : Nat) (gv fv gv' fv' : Value) (wr : World) : Prop where
  kb : Blk wr b1 25 #[gv, fv]
  res : Blk wr rx 25 #[.slice none 0 0, .slice none 0 0]
  xb : Blk wr px 25 #[gv', fv']
  fr : Fr (fun i => i = px) w1 wr
  bw : b1 < w1.heap.size
  rw_ : rx < w1.heap.size
  pw : px < w1.heap.size
  ne : rx ≠ px ∧ b1 ≠ px ∧ b1 ≠ rx
section
variable {w1 wr w2 : World} {b1 rx px : Nat} {gv fv gv' fv' : Value}
theorem CX.sub {S : Nat → Prop} (X : CX w1 b1 rx px gv fv gv' fv' wr) (hf : Fr S wr w2) (hS : ∀ i, S i → w1.heap.size ≤ i) : CX w1 b1 rx px gv fv gv' fv' w2 :=
  ⟨X.kb.fr hf (fun e => by have := hS _ e; have := X.bw; omega), X.res.fr hf (fun e => by have := hS _ e; have := X.rw_; omega), X.xb.fr hf (fun e => by have := hS _ e; have := X.pw; omega), X.fr.trans hf (fun i hi e => absurd (hS _ e) (by omega)), X.bw, X.rw_, X.pw, X.ne⟩
theorem CX.alloc (X : CX w1 b1 rx px gv fv gv' fv' wr) (o : Obj) : CX w1 b1 rx px gv fv gv' fv' (wr.alloc o) := X.sub (S := fun _ => False) (Fr.alloc wr o) (fun _ h => h.elim)
theorem CX.store (X : CX w1 b1 rx px gv fv gv' fv' wr) (j : Nat) (u : Value) (g2 f2 : Value) (he : #[gv', fv'].setIfInBounds j u = #[g2, f2]) : CX w1 b1 rx px gv fv g2 f2 (wr.setCell ⟨px, j, none⟩ u) := by
  have hf : Fr (fun i => i = px) wr (wr.setCell ⟨px, j, none⟩ u) := Fr.set (S := fun i => i = px) wr (p := ⟨px, j, none⟩) rfl _
  have hb := X.xb.set_ j u
  rw [he] at hb
  exact ⟨X.kb.fr hf X.ne.2.1, X.res.fr hf X.ne.1, hb, X.fr.trans hf (fun _ _ e => e), X.bw, X.rw_, X.pw, X.ne⟩
/-- What was shown when the copying began is shown still. -/
theorem CX.shows {w0 : World} {v : Value} {k n : Nat} {xs : List Value} (X : CX w1 b1 rx px gv fv gv' fv' wr) (hb : Below w0.heap.size w0 w1) (hp : w0.heap.size ≤ px) (h : Shows w0 v k n xs) : Shows wr v k n xs :=
  h.below (hb.trans (X.fr.below hb.size (fun i hi e => by have e : i = px := e; omega)))
end

/-- A row of one's own. -/
structure RowD where
  e : TypeId
  k : Nat
  v : Value
  n : Nat
  xs : List Value
/-- In the midst of copying a function, in block gF: the rows R of one's own, the functions l that are copied. -/
structure KX (w1 : World) (b1 rx px : Nat) (gv fv gv' fv' : Value) (l : List FnR) (R : List RowD) (gF : Nat) (fc : Array Value) (wr : World) : Prop where
  x : CX w1 b1 rx px gv fv gv' fv' wr
  fs : FnsOwn wr w1.heap.size fv' l
  kf : Blk wr gF 54 fc
  hF : w1.heap.size ≤ gF
  nF : fv'.ownBlock ≠ some gF
  rs : ∀ r ∈ R, r.e ≠ 54 ∧ wr.ownsRow w1.heap.size r.e r.k r.v r.n r.xs
section
variable {w1 wr w2 : World} {b1 rx px gF : Nat} {gv fv gv' fv' : Value} {l : List FnR} {R : List RowD} {fc : Array Value}
theorem KX.below (X : KX w1 b1 rx px gv fv gv' fv' l R gF fc wr) (hb : Below wr.heap.size wr w2) : KX w1 b1 rx px gv fv gv' fv' l R gF fc w2 := by
  have hf : Fr (fun _ => False) wr w2 := Fr.of_below hb
  exact ⟨X.x.sub hf (fun _ h => h.elim), X.fs.fr hf (fun _ _ _ h => h), X.kf.below hb X.kf.lt, X.hF, X.nF, fun r hr => ⟨(X.rs r hr).1, ownsRow_fr (X.rs r hr).2 hf (fun _ _ h => h)⟩⟩
/-- One more row. -/
theorem KX.row (X : KX w1 b1 rx px gv fv gv' fv' l R gF fc wr) {e : TypeId} {k n : Nat} {u : Value} {xs : List Value} {base : Nat} (he : e ≠ 54) (hb : w1.heap.size ≤ base) (h : wr.ownsRow base e k u n xs) : KX w1 b1 rx px gv fv gv' fv' l (⟨e, k, u, n, xs⟩ :: R) gF fc wr :=
  ⟨X.x, X.fs, X.kf, X.hF, X.nF, fun r hr => by
    rcases List.mem_cons.1 hr with rfl | hr
    · exact ⟨he, own_lower h hb⟩
    · exact X.rs r hr⟩
/-- A field of the function is stored. -/
theorem KX.put (X : KX w1 b1 rx px gv fv gv' fv' l R gF fc wr) (j : Nat) (u : Value) : KX w1 b1 rx px gv fv gv' fv' l R gF (fc.setIfInBounds j u) (wr.setCell ⟨gF, j, none⟩ u) := by
  have hf : Fr (fun i => i = gF) wr (wr.setCell ⟨gF, j, none⟩ u) := Fr.set (S := fun i => i = gF) wr (p := ⟨gF, j, none⟩) rfl _
  refine ⟨X.x.sub hf (fun i e => by have e : i = gF := e; rw [e]; exact X.hF), ?_, X.kf.set_ j u, X.hF, X.nF, fun r hr => ⟨(X.rs r hr).1, ownsRow_fr (X.rs r hr).2 hf (fun q hq e => own_ne_blk (X.rs r hr).2 X.kf (X.rs r hr).1 (by rw [hq, e]))⟩⟩
  obtain ⟨ts, h2, h3, h4⟩ := X.fs.ex
  refine ⟨ts, h2, ownsRow_fr h3 hf (fun q hq e => X.nF (by rw [hq, e])), fun i f t hx ht => ?_⟩
  have k := h4 i f t hx ht
  exact ⟨ownsRow_fr k.params hf (fun q hq e => own_ne_blk k.params X.kf (by decide) (by rw [hq, e])), ownsRow_fr k.locals hf (fun q hq e => own_ne_blk k.locals X.kf (by decide) (by rw [hq, e])), ownsRow_fr k.code hf (fun q hq e => own_ne_blk k.code X.kf (by decide) (by rw [hq, e]))⟩
theorem made_below {o : Obj} (hg : (wr.alloc o).grownBy w2 (some wr.heap.size)) : Below wr.heap.size wr w2 :=
  ((Below.refl _ _).alloc (Nat.le_refl _) o).grown hg (by simp) (fun k hk => by injection hk with hk; omega)
end

/-- What Copied answers. -/
def CopyR (w : World) (x : ImgR) (e : Ending) (w' : World) : Prop := Below w.heap.size w w' ∧ ∃ gv fv, e = .returned (imgV gv fv) ∧ ImgOwn w' w.heap.size gv fv x

set_option maxHeartbeats 8000000 in
set_option maxRecDepth 100000 in
theorem copied_c (gv fv : Value) (x : ImgR) (w : World) (h : ImgArg w gv fv x) : Calls Tryd.prog 9 #[imgV gv fv] w (CopyR w x) := by
  have HA := Lib.hid h
  obtain ⟨A1, c1, rfl, _⟩ := h.globs.slice
  obtain ⟨_, _, bg, bf, ⟨ts, hts, hf0, hfa⟩, _⟩ := h
  obtain ⟨A2, c2, rfl, _⟩ := hf0.slice
  have HTs := Lib.hid hts
  have HF0 := Lib.hid hf0
  have HFA := Lib.hid hfa
  clear hts hf0 hfa
  have hnil := HA.out.ng
  have HN := Lib.hid hnil
  clear hnil
  go_enter Tryd.func9, Tryd.ntmps9
  go_upto_region 2 with (fail)
  have HBz : Hid (Below w.heap.size w (((w.alloc (.cells #[.slice A1 x.globs.length c1, .slice A2 x.fns.length c2] 25)).alloc (.cells #[.slice none 0 0, .slice none 0 0] 25)).alloc (.cells #[.slice none 0 0, .slice none 0 0] 25))) := (((Below.refl _ _).alloc (Nat.le_refl _) _).alloc (by simp <;> omega) _).alloc (by simp <;> omega) _
  have X : Hid (CX (((w.alloc (.cells #[.slice A1 x.globs.length c1, .slice A2 x.fns.length c2] 25)).alloc (.cells #[.slice none 0 0, .slice none 0 0] 25)).alloc (.cells #[.slice none 0 0, .slice none 0 0] 25)) w.heap.size (w.heap.size + 1) (w.heap.size + 1 + 1) (.slice A1 x.globs.length c1) (.slice A2 x.fns.length c2) (.slice none 0 0) (.slice none 0 0) (((w.alloc (.cells #[.slice A1 x.globs.length c1, .slice A2 x.fns.length c2] 25)).alloc (.cells #[.slice none 0 0, .slice none 0 0] 25)).alloc (.cells #[.slice none 0 0, .slice none 0 0] 25))) := by
    refine ⟨((Blk.new w 25 _).alloc _).alloc _, ?_, ?_, Fr.refl _ _, by simp <;> omega, by simp <;> omega, by simp <;> omega, ⟨by omega, by omega, by omega⟩⟩
    · have := (Blk.new (w.alloc (.cells #[.slice A1 x.globs.length c1, .slice A2 x.fns.length c2] 25)) 25 #[.slice none 0 0, .slice none 0 0]).alloc (.cells #[.slice none 0 0, .slice none 0 0] 25)
      simpa using this
    · have := Blk.new ((w.alloc (.cells #[.slice A1 x.globs.length c1, .slice A2 x.fns.length c2] 25)).alloc (.cells #[.slice none 0 0, .slice none 0 0] 25)) 25 #[.slice none 0 0, .slice none 0 0]
      simpa using this
  have hpx : Hid (w.heap.size ≤ w.heap.size + 1 + 1) := by show _ ≤ _; omega
  have hrx : Hid (w.heap.size ≤ w.heap.size + 1) := by show _ ≤ _; omega
  generalize ((w.alloc (.cells #[.slice A1 x.globs.length c1, .slice A2 x.fns.length c2] 25)).alloc (.cells #[.slice none 0 0, .slice none 0 0] 25)).alloc (.cells #[.slice none 0 0, .slice none 0 0] 25) = wz at *
  generalize w.heap.size + 1 + 1 = px at *
  generalize w.heap.size + 1 = rx at *
  obtain ⟨b1, hb1⟩ : ∃ b1, b1 = w.heap.size := ⟨_, rfl⟩
  rw [← hb1] at X
  rw [show (some { block := w.heap.size, off := 0, spot := none } : Option Addr) = some ⟨b1, 0, none⟩ by rw [hb1]]
  clear hb1
  have k0 := X.out.kb.cell 0
  have y0 : wz.cell? ⟨px, 0, none⟩ = some (.slice none 0 0) := X.out.xb.cell 0
  have HSg := Lib.hid (X.out.shows HBz.out hpx.out HA.out.globs)
  obtain ⟨i0, hi0, hz0, hz1, hz2⟩ := infoGlob
  go_wp2_with (at_builtin; refine wpList_shows rfl (.tmp 7) (.tmp 9) 22 rfl wz.heap.size 48 i0 _ 3 24 Tryd.underlying22 hi0 hz0 hz1 hz2 rfl (by decide) _ _ 0 x.globs.length [] _ rfl (World.ownsRow_nil _ _ _ _) rfl HSg.out HN.out (globsV_one _) ?a1 ?a2 (Nat.le_refl _) ?_)
  case a1 => unfold maxLen; omega
  case a2 => omega
  intro u1 w2 ho1 hg1
  have hf1 : Fr (fun _ => False) wz w2 := Fr.of_grown hg1 fun i _ e => by simp [Value.ownBlock] at e
  have X2 := Lib.hid (X.out.sub hf1 (fun _ h => h.elim))
  obtain ⟨Ag, cg, rfl⟩ := own_sl ho1
  have X3 : Hid (CX wz b1 rx px (.slice A1 x.globs.length c1) (.slice A2 x.fns.length c2) (.slice Ag x.globs.length cg) (.slice none 0 0) (w2.setCell ⟨px, 0, none⟩ (.slice Ag x.globs.length cg))) := X2.out.store 0 _ _ _ rfl
  have HOG : Hid ((w2.setCell ⟨px, 0, none⟩ (.slice Ag x.globs.length cg)).ownsRow wz.heap.size 48 3 (.slice Ag x.globs.length cg) x.globs.length (globsV x.globs)) := own_fr ho1 (Fr.set (S := fun i => i = px) w2 (p := ⟨px, 0, none⟩) rfl _) (fun b hb _ e => by have e : b = px := e; have := X2.out.pw; omega)
  have y0 := X2.out.xb.cell 0
  have z0 := X2.out.xb.frozen 0
  clear hf1 hg1 ho1 X X2 k0
  go_upto_region 3 with (fail)
  generalize w2.setCell ⟨px, 0, none⟩ (.slice Ag x.globs.length cg) = w3 at *
  clear y0 z0
  go_wp2_with fail
  go_loopg [4, 5] x.fns.length (fun gg s4 _ wr => ∃ (k : Nat) (fv' : Value), k + gg = x.fns.length ∧ s4 = .int .i64 (k : Int) ∧ Hid (CX wz b1 rx px (.slice A1 x.globs.length c1) (.slice A2 x.fns.length c2) (.slice Ag x.globs.length cg) fv' wr) ∧ Hid (wr.ownsRow wz.heap.size 48 3 (.slice Ag x.globs.length cg) x.globs.length (globsV x.globs)) ∧ Hid (FnsOwn wr wz.heap.size fv' (x.fns.take k)))
  case atStart => exact ⟨0, .slice none 0 0, by omega, rfl, X3, HOG, by show FnsOwn _ _ _ _; rw [List.take_zero]; exact FnsOwn.nil _ _⟩
  case round =>
    clear X3 HOG
    obtain ⟨k, fv', hk, rfl, X, HOG, HFS⟩ := hrel
    have k1 := X.out.kb.cell 1
    cases gk with
    | succ gk =>
      have hka : k < x.fns.length := by omega
      have hf0 := X.out.shows HBz.out hpx.out HF0.out
      obtain ⟨b, o, c, e1, _, hlt, hcells⟩ := hf0.spot (by omega)
      injection e1 with e2 _ e3
      subst e2 e3
      have hx0 : x.fns[k]? = some x.fns[k] := List.getElem?_eq_getElem hka
      have ht0 : ts[k]? = some (ts[k]'(by have := HTs.out; omega)) := List.getElem?_eq_getElem (by have := HTs.out; omega)
      have hz : (x.fns.zip ts)[k]? = some (x.fns[k], ts[k]'(by have := HTs.out; omega)) := by rw [List.getElem?_zip_eq_some]; exact ⟨hx0, ht0⟩
      have hat := fun (j : Nat) (hj : j < 5) => flat_at fnC_len hz hj
      have hfa := HFA.out k _ _ hx0 ht0
      have HT : Hid (x.fns.take (k + 1) = x.fns.take k ++ [x.fns[k]]) := by show _ = _; rw [List.take_add_one, hx0]; rfl
      have c0 := hcells (k * 5) _ (by have := hat 0 (by omega); rw [Nat.add_zero] at this; exact this.trans rfl)
      have c1' := hcells (k * 5 + 1) _ ((hat 1 (by omega)).trans rfl)
      have c2' := hcells (k * 5 + 2) _ ((hat 2 (by omega)).trans rfl)
      have c3' := hcells (k * 5 + 3) _ ((hat 3 (by omega)).trans rfl)
      have c4' := hcells (k * 5 + 4) _ ((hat 4 (by omega)).trans rfl)
      rw [← Nat.add_assoc] at c1' c2' c3' c4'
      clear hat hz hx0 ht0 hcells hf0 hlt
      generalize x.fns[k] = f at *
      generalize ts[k]'(by have := HTs.out; omega) = t at *
      obtain ⟨Ap, cp, Al, cl, Ac, cc, rfl⟩ := trip_slices hfa.shows
      simp only at c0 c1' c2' c3' c4'
      have HFa := Lib.hid hfa
      have hki : (k : Int) < (x.fns.length : Int) := by omega
      have hfv : ∀ q, fv'.ownBlock = some q → q < wr.heap.size := fun q hq => by
        obtain ⟨_, _, h3, _⟩ := HFS.out.ex
        exact (h3.lt q hq).2
      have X0 : Hid (KX wz b1 rx px (.slice A1 x.globs.length c1) (.slice (some ⟨b, o, none⟩) x.fns.length c2) (.slice Ag x.globs.length cg) fv' (x.fns.take k) [⟨48, 3, .slice Ag x.globs.length cg, x.globs.length, globsV x.globs⟩] wr.heap.size (fnBox f (.slice Ap f.params.length cp, .slice Al f.locals.length cl, .slice Ac f.code.length cc)) (wr.alloc (.cells (fnBox f (.slice Ap f.params.length cp, .slice Al f.locals.length cl, .slice Ac f.code.length cc)) 54))) := by
        have hF : Fr (fun _ => False) wr (wr.alloc (.cells (fnBox f (.slice Ap f.params.length cp, .slice Al f.locals.length cl, .slice Ac f.code.length cc)) 54)) := Fr.alloc _ _
        refine ⟨X.out.alloc _, HFS.out.fr hF (fun _ _ _ h => h), Blk.new wr 54 _, X.out.fr.size, fun e => by have := hfv _ e; omega, fun r hr => ?_⟩
        obtain rfl : r = ⟨48, 3, .slice Ag x.globs.length cg, x.globs.length, globsV x.globs⟩ := by simpa using hr
        exact ⟨by show (48 : TypeId) ≠ 54; decide, own_fr HOG.out hF (fun _ _ _ h => h)⟩
      clear hfa hfv
      have X := X0
      clear X0 HOG HFS
      go_upto_region 7 with (fail)
      generalize wr.alloc (.cells (fnBox f (.slice Ap f.params.length cp, .slice Al f.locals.length cl, .slice Ac f.code.length cc)) 54) = wa at *
      generalize wr.heap.size = gF at *
      clear c0 c1' c2' c3' c4' k1
      have KA : Hid (KX wz b1 rx px _ _ _ _ (x.fns.take k) [⟨48, 3, .slice Ag x.globs.length cg, x.globs.length, globsV x.globs⟩] gF _ (wa.alloc (.cells #[] 3))) := KX.below X.out ((Below.refl _ _).alloc (Nat.le_refl _) _)
      have HSh := Lib.hid (KA.out.x.shows HBz.out hpx.out HFa.out.shows.params)
      have hcF : (wa.alloc (.cells #[] 3)).cell? ⟨gF, 1, none⟩ = some (.slice Ap f.params.length cp) := KA.out.kf.cell 1
      have HE : Hid ((wa.alloc (.cells #[] 3)).ownsRow wa.heap.size 3 1 (.slice (some ⟨wa.heap.size, 0, none⟩) 0 0) 0 []) := World.ownsRow_made wa #[] 0 (Nat.le_refl _) (by unfold maxLen; omega) (by simp)
      obtain ⟨i0, hi0, hz0, hz1, hz2⟩ := infoI
      go_wp2_with (at_builtin; refine wpList_shows rfl (.tmp 24) (.tmp 26) 52 rfl wa.heap.size 3 i0 _ 1 8 Tryd.underlying52 hi0 hz0 hz1 hz2 rfl (by decide) _ _ 0 f.params.length [] _ rfl HE.out rfl HSh.out HFa.out.n1 (intsV_one _) ?a1 ?a2 (by simp) ?_)
      case a1 => have := HFa.out.bp; unfold maxLen; omega
      case a2 => have := HFa.out.bp; omega
      intro up wb ho hg
      have hsz : wz.heap.size ≤ wa.heap.size := X.out.x.fr.size
      have X := Lib.hid ((X.out.below (made_below hg)).row (by decide) hsz ho)
      obtain ⟨A_up, c_up, rfl⟩ := own_sl ho
      have hcF : wb.cell? ⟨gF, 1, none⟩ = some (.slice Ap f.params.length cp) := X.out.kf.cell 1
      have hzF := X.out.kf.frozen 1
      have X := Lib.hid (X.out.put 1 (.slice A_up f.params.length c_up))
      clear KA HSh HE ho hg hsz
      go_upto_region 8 with (fail)
      generalize wb.setCell ⟨gF, 1, none⟩ (.slice A_up f.params.length c_up) = wb at *
      clear hcF hzF
      have KA : Hid (KX wz b1 rx px _ _ _ _ (x.fns.take k) _ gF _ (wb.alloc (.cells #[] 3))) := KX.below X.out ((Below.refl _ _).alloc (Nat.le_refl _) _)
      have HSh := Lib.hid (KA.out.x.shows HBz.out hpx.out HFa.out.shows.locals)
      have hcF : (wb.alloc (.cells #[] 3)).cell? ⟨gF, 3, none⟩ = some (.slice Al f.locals.length cl) := KA.out.kf.cell 3
      have HE : Hid ((wb.alloc (.cells #[] 3)).ownsRow wb.heap.size 3 1 (.slice (some ⟨wb.heap.size, 0, none⟩) 0 0) 0 []) := World.ownsRow_made wb #[] 0 (Nat.le_refl _) (by unfold maxLen; omega) (by simp)
      obtain ⟨i0, hi0, hz0, hz1, hz2⟩ := infoI
      go_wp2_with (at_builtin; refine wpList_shows rfl (.tmp 29) (.tmp 31) 52 rfl wb.heap.size 3 i0 _ 1 8 Tryd.underlying52 hi0 hz0 hz1 hz2 rfl (by decide) _ _ 0 f.locals.length [] _ rfl HE.out rfl HSh.out HFa.out.n2 (intsV_one _) ?a1 ?a2 (by simp) ?_)
      case a1 => have := HFa.out.bl; unfold maxLen; omega
      case a2 => have := HFa.out.bl; omega
      intro ul wc ho hg
      have hsz : wz.heap.size ≤ wb.heap.size := X.out.x.fr.size
      have X := Lib.hid ((X.out.below (made_below hg)).row (by decide) hsz ho)
      obtain ⟨A_ul, c_ul, rfl⟩ := own_sl ho
      have hcF : wc.cell? ⟨gF, 3, none⟩ = some (.slice Al f.locals.length cl) := X.out.kf.cell 3
      have hzF := X.out.kf.frozen 3
      have X := Lib.hid (X.out.put 3 (.slice A_ul f.locals.length c_ul))
      clear KA HSh HE ho hg hsz
      go_upto_region 9 with (fail)
      generalize wc.setCell ⟨gF, 3, none⟩ (.slice A_ul f.locals.length c_ul) = wc at *
      clear hcF hzF
      have KA : Hid (KX wz b1 rx px _ _ _ _ (x.fns.take k) _ gF _ (wc.alloc (.cells #[] 50))) := KX.below X.out ((Below.refl _ _).alloc (Nat.le_refl _) _)
      have HSh := Lib.hid (KA.out.x.shows HBz.out hpx.out HFa.out.shows.code)
      have hcF : (wc.alloc (.cells #[] 50)).cell? ⟨gF, 4, none⟩ = some (.slice Ac f.code.length cc) := KA.out.kf.cell 4
      have HE : Hid ((wc.alloc (.cells #[] 50)).ownsRow wc.heap.size 50 3 (.slice (some ⟨wc.heap.size, 0, none⟩) 0 0) 0 []) := World.ownsRow_made wc #[] 0 (Nat.le_refl _) (by unfold maxLen; omega) (by simp)
      obtain ⟨i0, hi0, hz0, hz1, hz2⟩ := infoIns
      go_wp2_with (at_builtin; refine wpList_shows rfl (.tmp 34) (.tmp 36) 51 rfl wc.heap.size 50 i0 _ 3 24 Tryd.underlying51 hi0 hz0 hz1 hz2 rfl (by decide) _ _ 0 f.code.length [] _ rfl HE.out rfl HSh.out HFa.out.n3 (codeV_one _) ?a1 ?a2 (by simp) ?_)
      case a1 => have := HFa.out.bc; unfold maxLen; omega
      case a2 => have := HFa.out.bc; omega
      intro uc wd ho hg
      have hsz : wz.heap.size ≤ wc.heap.size := X.out.x.fr.size
      have X := Lib.hid ((X.out.below (made_below hg)).row (by decide) hsz ho)
      obtain ⟨A_uc, c_uc, rfl⟩ := own_sl ho
      have hcF : wd.cell? ⟨gF, 4, none⟩ = some (.slice Ac f.code.length cc) := X.out.kf.cell 4
      have hzF := X.out.kf.frozen 4
      have X := Lib.hid (X.out.put 4 (.slice A_uc f.code.length c_uc))
      clear KA HSh HE ho hg hsz
      go_upto_region 10 with (fail)
      generalize wd.setCell ⟨gF, 4, none⟩ (.slice A_uc f.code.length c_uc) = wd at *
      clear hcF hzF
      have f0 : wd.cell? ⟨gF, 0, none⟩ = some (.string f.name) := X.out.kf.cell 0
      have f1 : wd.cell? ⟨gF, 1, none⟩ = some (.slice A_up f.params.length c_up) := X.out.kf.cell 1
      have f2 : wd.cell? ⟨gF, 2, none⟩ = some (.int .i64 f.result) := X.out.kf.cell 2
      have f3 : wd.cell? ⟨gF, 3, none⟩ = some (.slice A_ul f.locals.length c_ul) := X.out.kf.cell 3
      have f4 : wd.cell? ⟨gF, 4, none⟩ = some (.slice A_uc f.code.length c_uc) := X.out.kf.cell 4
      have y1 : wd.cell? ⟨px, 1, none⟩ = some fv' := X.out.x.xb.cell 1
      have XA : Hid (KX wz b1 rx px _ _ _ _ (x.fns.take k) _ gF _ (wd.alloc (.cells #[.string f.name, .slice A_up f.params.length c_up, .int .i64 f.result, .slice A_ul f.locals.length c_ul, .slice A_uc f.code.length c_uc] 54))) := KX.below X.out ((Below.refl _ _).alloc (Nat.le_refl _) _)
      obtain ⟨ts', hts', hro, hall⟩ := XA.out.fs.ex
      have HRo := Lib.hid hro
      have HAll := Lib.hid hall
      have HTs' := Lib.hid hts'
      have HFO : Hid (FnOwn (wd.alloc (.cells #[.string f.name, .slice A_up f.params.length c_up, .int .i64 f.result, .slice A_ul f.locals.length c_ul, .slice A_uc f.code.length c_uc] 54)) wz.heap.size (.slice A_up f.params.length c_up, .slice A_ul f.locals.length c_ul, .slice A_uc f.code.length c_uc) f) := ⟨(XA.out.rs _ (List.mem_cons_of_mem _ (List.mem_cons_of_mem _ List.mem_cons_self))).2, (XA.out.rs _ (List.mem_cons_of_mem _ List.mem_cons_self)).2, (XA.out.rs _ List.mem_cons_self).2⟩
      have HOG : Hid ((wd.alloc (.cells #[.string f.name, .slice A_up f.params.length c_up, .int .i64 f.result, .slice A_ul f.locals.length c_ul, .slice A_uc f.code.length c_uc] 54)).ownsRow wz.heap.size 48 3 (.slice Ag x.globs.length cg) x.globs.length (globsV x.globs)) := (XA.out.rs _ (List.mem_cons_of_mem _ (List.mem_cons_of_mem _ (List.mem_cons_of_mem _ List.mem_cons_self)))).2
      have hlk : (x.fns.take k).length = k := by rw [List.length_take]; omega
      have HLK := Lib.hid hlk
      have hszw : Hid (wz.heap.size ≤ wd.heap.size) := X.out.x.fr.size
      have HXa := Lib.hid XA.out.x
      clear X XA hro hall hts' hlk
      generalize x.fns.take k = lk at *
      obtain ⟨i0, hi0, hz0, hz1, hz2⟩ := infoFn
      go_wp2_with (at_builtin; refine wpList_append_own_at _ rfl (.tmp 40) (.tmp 42) 23 rfl wz.heap.size 54 i0 _ 5 96 Tryd.underlying23 hi0 hz0 hz1 hz2 rfl (by decide) _ _ _ rfl HRo.out ⟨wd.heap.size, 0, none⟩ 1 1 (fnC f (.slice A_up f.params.length c_up, .slice A_ul f.locals.length c_ul, .slice A_uc f.code.length c_uc)) rfl rfl (cells_new wd 54 (fnC f (.slice A_up f.params.length c_up, .slice A_ul f.locals.length c_ul, .slice A_uc f.code.length c_uc))) ?c2 ?c3 ?c4 ?c5 ?_)
      case c2 => intro u hu; simp [fnC] at hu; rcases hu with rfl | rfl | rfl | rfl | rfl <;> rfl
      case c3 => have := HLK.out; unfold maxLen; omega
      case c4 => have := HLK.out; omega
      case c5 => have := hszw.out; simp; omega
      intro ud wh hod hgrd _ _
      have HFS2 : Hid (FnsOwn wh wz.heap.size ud (x.fns.take (k + 1))) := by
        show FnsOwn _ _ _ _
        rw [HT.out]
        exact FnsOwn.add HTs'.out HRo.out HAll.out HFO.out hgrd hod
      have hfr : Fr (fun q => fv'.ownBlock = some q) (wd.alloc (.cells #[.string f.name, .slice A_up f.params.length c_up, .int .i64 f.result, .slice A_ul f.locals.length c_ul, .slice A_uc f.code.length c_uc] 54)) wh := Fr.of_grown hgrd fun _ _ he => he
      have XH := Lib.hid (HXa.out.sub hfr (fun q hq => (HRo.out.lt q hq).1))
      have HOG := Lib.hid (ownsRow_fr HOG.out hfr (fun q hq e => own_ne_own HOG.out HRo.out (by decide) q e hq))
      obtain ⟨Ad, cd, rfl⟩ := own_sl hod
      have XI : Hid (CX wz b1 rx px (.slice A1 x.globs.length c1) (.slice (some ⟨b, o, none⟩) x.fns.length c2) (.slice Ag x.globs.length cg) (.slice Ad (lk.length + 1) cd) (wh.setCell ⟨px, 1, none⟩ (.slice Ad (lk.length + 1) cd))) := XH.out.store 1 _ _ _ rfl
      have HOG := Lib.hid (own_fr HOG.out (Fr.set (S := fun i => i = px) wh (p := ⟨px, 1, none⟩) rfl (.slice Ad (lk.length + 1) cd)) (fun b hb _ e => by have e : b = px := e; have := XH.out.pw; omega))
      have HFS2 := Lib.hid (HFS2.out.fr (Fr.set (S := fun i => i = px) wh (p := ⟨px, 1, none⟩) rfl (.slice Ad (lk.length + 1) cd)) (fun b hb _ e => by have e : b = px := e; have := XH.out.pw; omega))
      have y1 := XH.out.xb.cell 1
      have z1 := XH.out.xb.frozen 1
      clear XH HXa hod hgrd hfr HRo HAll HFO HTs' f0 f1 f2 f3 f4
      go_wp2_with fail
      go_roundg gk
      case measure => omega
      case rel => exact ⟨k + 1, _, by omega, by push_cast; rfl, XI, HOG, HFS2⟩
    | zero =>
      have ek : k = x.fns.length := by omega
      subst ek
      have hd : decide ((x.fns.length : Int) < (x.fns.length : Int)) = false := by simp
      rw [List.take_length] at HFS
      obtain ⟨ts', hts', hro, hall⟩ := HFS.out.ex
      obtain ⟨Af, cf, rfl⟩ := own_sl hro
      have HIM : Hid (ImgOwn wr wz.heap.size (.slice Ag x.globs.length cg) (.slice Af x.fns.length cf) x) := ⟨HOG.out, ts', hts', hro, hall⟩
      have y0 := X.out.xb.cell 0
      have y1 := X.out.xb.cell 1
      have r0 := X.out.res.cell 0
      have r1 := X.out.res.cell 1
      have z0 := X.out.res.frozen 0
      have z1 := X.out.res.frozen 1
      have hF2 : Hid (Fr (fun i => i = rx) wr ((wr.setCell ⟨rx, 0, none⟩ (.slice Ag x.globs.length cg)).setCell ⟨rx, 1, none⟩ (.slice Af x.fns.length cf))) := by
        have f1 : Fr (fun i => i = rx) wr (wr.setCell ⟨rx, 0, none⟩ (.slice Ag x.globs.length cg)) := Fr.set (S := fun i => i = rx) wr (p := ⟨rx, 0, none⟩) rfl _
        have f2 : Fr (fun i => i = rx) (wr.setCell ⟨rx, 0, none⟩ (.slice Ag x.globs.length cg)) _ := Fr.set (S := fun i => i = rx) _ (p := ⟨rx, 1, none⟩) (u := .slice Af x.fns.length cf) rfl
        exact f1.trans f2 (fun _ _ e => e)
      have HZ2 : Hid (Blk ((wr.setCell ⟨rx, 0, none⟩ (.slice Ag x.globs.length cg)).setCell ⟨rx, 1, none⟩ (.slice Af x.fns.length cf)) rx 25 #[.slice Ag x.globs.length cg, .slice Af x.fns.length cf]) := by
        have := (X.out.res.set_ 0 (.slice Ag x.globs.length cg)).set_ 1 (.slice Af x.fns.length cf)
        exact Lib.hid (by simpa using this)
      have HBw : Hid (Below w.heap.size w wr) := HBz.out.trans (X.out.fr.below HBz.out.size (fun i hi e => by have e : i = px := e; have := hpx.out; omega))
      have HB2 := Lib.hid (below_at_ HBw.out hF2.out hrx.out)
      have HIM := Lib.hid ((HIM.out.fr hF2.out (fun b hb _ e => by have e : b = rx := e; have := X.out.rw_; omega)).lower HBz.out.size)
      clear hk hro hall hts'
      go_wp2_with fail
      generalize (wr.setCell ⟨rx, 0, none⟩ (.slice Ag x.globs.length cg)).setCell ⟨rx, 1, none⟩ (.slice Af x.fns.length cf) = wy at *
      have q0 := HZ2.out.cell 0
      have q1 := HZ2.out.cell 1
      exact bodyPost_ret (v := imgV (.slice Ag x.globs.length cg) (.slice Af x.fns.length cf)) (by simp [results, Tryd.results9, go_sem, q0, q1]) rfl ⟨HB2.out, _, _, rfl, HIM.out⟩

end Go.Proofs.YtebdjahcahgafaaDoor

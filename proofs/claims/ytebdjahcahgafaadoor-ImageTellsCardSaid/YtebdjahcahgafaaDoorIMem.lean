/- How an image lies in memory: what a slice shows, cell by cell; images that are read, and images of one's own. -/
import Derived.Test.YtebdjahcahgafaaDoorIMath
import Derived.Test.YtebdjahcahgafaaDoorMem
import Derived.Laws.OwnMore
namespace Go.Proofs.YtebdjahcahgafaaDoor
open Go.RowKit

/-- The slice v, of n elements of k cells each, shows the cells xs. -/
def Shows (w : World) (v : Value) (k n : Nat) (xs : List Value) : Prop :=
  xs.length = n * k ∧ ∃ A c, v = .slice A n c ∧ n ≤ c ∧ (0 < n → ∃ b o, A = some ⟨b, o, none⟩ ∧ b < w.heap.size ∧ ∀ (j : Nat) (u : Value), xs[j]? = some u → w.cell? ⟨b, o + j, none⟩ = some u)

section
variable {w w' w0 : World} {v : Value} {k n : Nat} {xs : List Value}
theorem Shows.below (h : Shows w0 v k n xs) (hb : Below w0.heap.size w0 w') : Shows w' v k n xs := by
  obtain ⟨h1, A, c, rfl, hc, h2⟩ := h
  refine ⟨h1, A, c, rfl, hc, fun hn => ?_⟩
  obtain ⟨b, o, e, hlt, hj⟩ := h2 hn
  exact ⟨b, o, e, by have := hb.size; omega, fun j u hu => (hb.cell (p := ⟨b, o + j, none⟩) hlt).trans (hj j u hu)⟩
theorem Shows.nil (w : World) (k : Nat) : Shows w (.slice none 0 0) k 0 [] := ⟨by simp, none, 0, rfl, by omega, fun h => absurd h (by omega)⟩
theorem Shows.of_own {base : Nat} {e : TypeId} (h : w.ownsRow base e k v n xs) : Shows w v k n xs := by
  obtain ⟨h1, h2⟩ := h
  rcases h2 with ⟨rfl, rfl⟩ | ⟨g, cap, cur, rfl, _, hg, hnc, _, _, ht⟩
  · exact ⟨h1, none, 0, rfl, by omega, fun h => absurd h (by omega)⟩
  · refine ⟨h1, _, cap, rfl, hnc, fun _ => ⟨g, 0, rfl, (Array.getElem?_eq_some_iff.1 hg).1, fun j u hu => ?_⟩⟩
    rw [Nat.zero_add, cell_of_row w g j cur e (0, 0) hg]
    rw [← ht, List.getElem?_take] at hu
    split at hu
    · simpa using hu
    · cases hu
/-- What lies at the places of an element. -/
theorem Shows.spot (h : Shows w v k n xs) (hn : 0 < n) : ∃ b o c, v = .slice (some ⟨b, o, none⟩) n c ∧ n ≤ c ∧ b < w.heap.size ∧ ∀ (j : Nat) (u : Value), xs[j]? = some u → w.cell? ⟨b, o + j, none⟩ = some u := by
  obtain ⟨_, A, c, rfl, hc, h2⟩ := h
  obtain ⟨b, o, rfl, hlt, hj⟩ := h2 hn
  exact ⟨b, o, c, rfl, hc, hlt, hj⟩
theorem Shows.slice (h : Shows w v k n xs) : ∃ A c, v = .slice A n c ∧ n ≤ c := by
  obtain ⟨_, A, c, rfl, hc, _⟩ := h
  exact ⟨A, c, rfl, hc⟩
end

/-! ### Cells -/
def intsV (l : List Int) : List Value := l.map (.int .i64)
def globC (g : GlobR) : List Value := [.int .i64 g.ty, .int .i64 g.size, .int .i64 g.val]
def insC (i : InsR) : List Value := [.int .i64 i.op, .int .i64 i.a, .int .i64 i.b]
/-- The slices of a function: its parameters, its locals, its code. -/
abbrev Trip := Value × Value × Value
def fnC (f : FnR) (t : Trip) : List Value := [.string f.name, t.1, .int .i64 f.result, t.2.1, t.2.2]
def globsV (l : List GlobR) : List Value := l.flatMap globC
def codeV (l : List InsR) : List Value := l.flatMap insC
def fnsV (l : List FnR) (ts : List Trip) : List Value := (l.zip ts).flatMap fun p => fnC p.1 p.2
abbrev globV (g : GlobR) : Value := .agg #[.int .i64 g.ty, .int .i64 g.size, .int .i64 g.val]
abbrev insV (i : InsR) : Value := .agg #[.int .i64 i.op, .int .i64 i.a, .int .i64 i.b]
abbrev fnV (f : FnR) (t : Trip) : Value := .agg #[.string f.name, t.1, .int .i64 f.result, t.2.1, t.2.2]
abbrev imgV (gv fv : Value) : Value := .agg #[gv, fv]

theorem flat_length {α : Type} {f : α → List Value} {k : Nat} (hf : ∀ x, (f x).length = k) (l : List α) : (l.flatMap f).length = l.length * k := by
  induction l with
  | nil => simp
  | cons x l ih => rw [List.flatMap_cons, List.length_append, hf, ih, List.length_cons, Nat.add_mul, Nat.one_mul, Nat.add_comm]
theorem flat_at {α : Type} {f : α → List Value} {k : Nat} (hf : ∀ x, (f x).length = k) {l : List α} {i j : Nat} {x : α} (hx : l[i]? = some x) (hj : j < k) : (l.flatMap f)[i * k + j]? = (f x)[j]? := by
  induction l generalizing i with
  | nil => simp at hx
  | cons y l ih =>
    rw [List.flatMap_cons]
    match i, hx with
    | 0, hx =>
      obtain rfl : y = x := by simpa using hx
      rw [Nat.zero_mul, Nat.zero_add, List.getElem?_append_left (by rw [hf]; exact hj)]
    | i + 1, hx =>
      rw [List.getElem?_append_right (by rw [hf, Nat.add_mul]; omega), hf]
      have e : (i + 1) * k + j - k = i * k + j := by rw [Nat.add_mul]; omega
      rw [e]
      exact ih (by simpa using hx)
theorem globC_len (g : GlobR) : (globC g).length = 3 := rfl
theorem insC_len (i : InsR) : (insC i).length = 3 := rfl
theorem fnC_len (p : FnR × Trip) : (fnC p.1 p.2).length = 5 := rfl
theorem intsV_len (l : List Int) : (intsV l).length = l.length := by simp [intsV]
theorem globsV_len (l : List GlobR) : (globsV l).length = l.length * 3 := flat_length globC_len l
theorem codeV_len (l : List InsR) : (codeV l).length = l.length * 3 := flat_length insC_len l
theorem fnsV_len {l : List FnR} {ts : List Trip} (h : ts.length = l.length) : (fnsV l ts).length = l.length * 5 := by
  unfold fnsV
  rw [flat_length fnC_len, List.length_zip, h, Nat.min_self]

section
variable {w w' w0 : World} {v : Value}
theorem Shows.int {l : List Int} (h : Shows w v 1 l.length (intsV l)) {i : Nat} (hi : i < l.length) : ∃ b o c, v = .slice (some ⟨b, o, none⟩) l.length c ∧ l.length ≤ c ∧ b < w.heap.size ∧ w.cell? ⟨b, o + i, none⟩ = some (.int .i64 l[i]) := by
  obtain ⟨b, o, c, e, hc, hb, hj⟩ := h.spot (by omega)
  refine ⟨b, o, c, e, hc, hb, hj i _ ?_⟩
  simp [intsV, hi]
theorem Shows.glob {l : List GlobR} (h : Shows w v 3 l.length (globsV l)) {i : Nat} (hi : i < l.length) : ∃ b o c, v = .slice (some ⟨b, o, none⟩) l.length c ∧ l.length ≤ c ∧ b < w.heap.size ∧
    w.cell? ⟨b, o + i * 3, none⟩ = some (.int .i64 l[i].ty) ∧ w.cell? ⟨b, o + i * 3 + 1, none⟩ = some (.int .i64 l[i].size) ∧ w.cell? ⟨b, o + i * 3 + 2, none⟩ = some (.int .i64 l[i].val) := by
  obtain ⟨b, o, c, e, hc, hb, hj⟩ := h.spot (by omega)
  have hx : l[i]? = some l[i] := List.getElem?_eq_getElem hi
  refine ⟨b, o, c, e, hc, hb, hj (i * 3) _ ?_, ?_, ?_⟩
  · have := flat_at globC_len hx (j := 0) (by omega); rw [Nat.add_zero] at this; exact this.trans rfl
  · rw [Nat.add_assoc]; exact hj (i * 3 + 1) _ ((flat_at globC_len hx (j := 1) (by omega)).trans rfl)
  · rw [Nat.add_assoc]; exact hj (i * 3 + 2) _ ((flat_at globC_len hx (j := 2) (by omega)).trans rfl)
theorem Shows.ins {l : List InsR} (h : Shows w v 3 l.length (codeV l)) {i : Nat} (hi : i < l.length) : ∃ b o c, v = .slice (some ⟨b, o, none⟩) l.length c ∧ l.length ≤ c ∧ b < w.heap.size ∧
    w.cell? ⟨b, o + i * 3, none⟩ = some (.int .i64 l[i].op) ∧ w.cell? ⟨b, o + i * 3 + 1, none⟩ = some (.int .i64 l[i].a) ∧ w.cell? ⟨b, o + i * 3 + 2, none⟩ = some (.int .i64 l[i].b) := by
  obtain ⟨b, o, c, e, hc, hb, hj⟩ := h.spot (by omega)
  have hx : l[i]? = some l[i] := List.getElem?_eq_getElem hi
  refine ⟨b, o, c, e, hc, hb, hj (i * 3) _ ?_, ?_, ?_⟩
  · have := flat_at insC_len hx (j := 0) (by omega); rw [Nat.add_zero] at this; exact this.trans rfl
  · rw [Nat.add_assoc]; exact hj (i * 3 + 1) _ ((flat_at insC_len hx (j := 1) (by omega)).trans rfl)
  · rw [Nat.add_assoc]; exact hj (i * 3 + 2) _ ((flat_at insC_len hx (j := 2) (by omega)).trans rfl)
end

/-- A function that is read. -/
structure FnShows (w : World) (t : Trip) (f : FnR) : Prop where
  params : Shows w t.1 1 f.params.length (intsV f.params)
  locals : Shows w t.2.1 1 f.locals.length (intsV f.locals)
  code : Shows w t.2.2 3 f.code.length (codeV f.code)
/-- An image that is read. -/
structure ImgShows (w : World) (gv fv : Value) (x : ImgR) : Prop where
  globs : Shows w gv 3 x.globs.length (globsV x.globs)
  fns : ∃ ts : List Trip, ts.length = x.fns.length ∧ Shows w fv 5 x.fns.length (fnsV x.fns ts) ∧ ∀ (i : Nat) (f : FnR) (t : Trip), x.fns[i]? = some f → ts[i]? = some t → FnShows w t f
section
variable {w w' w0 : World} {gv fv : Value} {x : ImgR} {t : Trip} {f : FnR}
theorem FnShows.below (h : FnShows w0 t f) (hb : Below w0.heap.size w0 w') : FnShows w' t f := ⟨h.params.below hb, h.locals.below hb, h.code.below hb⟩
theorem ImgShows.below (h : ImgShows w0 gv fv x) (hb : Below w0.heap.size w0 w') : ImgShows w' gv fv x := by
  obtain ⟨h1, ts, h2, h3, h4⟩ := h
  exact ⟨h1.below hb, ts, h2, h3.below hb, fun i f t hf ht => (h4 i f t hf ht).below hb⟩
/-- The function at a place. -/
theorem ImgShows.fn (h : ImgShows w gv fv x) {i : Nat} (hi : i < x.fns.length) : ∃ b o c t, fv = .slice (some ⟨b, o, none⟩) x.fns.length c ∧ x.fns.length ≤ c ∧ b < w.heap.size ∧ FnShows w t x.fns[i] ∧
    w.cell? ⟨b, o + i * 5, none⟩ = some (.string x.fns[i].name) ∧ w.cell? ⟨b, o + i * 5 + 1, none⟩ = some t.1 ∧ w.cell? ⟨b, o + i * 5 + 2, none⟩ = some (.int .i64 x.fns[i].result) ∧ w.cell? ⟨b, o + i * 5 + 3, none⟩ = some t.2.1 ∧ w.cell? ⟨b, o + i * 5 + 4, none⟩ = some t.2.2 := by
  obtain ⟨_, ts, h2, h3, h4⟩ := h
  obtain ⟨b, o, c, e, hc, hb, hj⟩ := h3.spot (by omega)
  have hx : x.fns[i]? = some x.fns[i] := List.getElem?_eq_getElem hi
  have ht : ts[i]? = some (ts[i]'(by omega)) := List.getElem?_eq_getElem (by omega)
  have hz : (x.fns.zip ts)[i]? = some (x.fns[i], ts[i]'(by omega)) := by rw [List.getElem?_zip_eq_some]; exact ⟨hx, ht⟩
  have at_ := fun (j : Nat) (hj : j < 5) => flat_at fnC_len hz hj
  refine ⟨b, o, c, ts[i]'(by omega), e, hc, hb, h4 i _ _ hx ht, hj (i * 5) _ ?_, ?_, ?_, ?_, ?_⟩
  · have := at_ 0 (by omega); rw [Nat.add_zero] at this; exact this.trans rfl
  · rw [Nat.add_assoc]; exact hj (i * 5 + 1) _ ((at_ 1 (by omega)).trans rfl)
  · rw [Nat.add_assoc]; exact hj (i * 5 + 2) _ ((at_ 2 (by omega)).trans rfl)
  · rw [Nat.add_assoc]; exact hj (i * 5 + 3) _ ((at_ 3 (by omega)).trans rfl)
  · rw [Nat.add_assoc]; exact hj (i * 5 + 4) _ ((at_ 4 (by omega)).trans rfl)
end

/-- A function of one's own: its slices are new since base. -/
structure FnOwn (w : World) (base : Nat) (t : Trip) (f : FnR) : Prop where
  params : w.ownsRow base 3 1 t.1 f.params.length (intsV f.params)
  locals : w.ownsRow base 3 1 t.2.1 f.locals.length (intsV f.locals)
  code : w.ownsRow base 50 3 t.2.2 f.code.length (codeV f.code)
/-- An image of one's own. -/
structure ImgOwn (w : World) (base : Nat) (gv fv : Value) (x : ImgR) : Prop where
  globs : w.ownsRow base 48 3 gv x.globs.length (globsV x.globs)
  fns : ∃ ts : List Trip, ts.length = x.fns.length ∧ w.ownsRow base 54 5 fv x.fns.length (fnsV x.fns ts) ∧ ∀ (i : Nat) (f : FnR) (t : Trip), x.fns[i]? = some f → ts[i]? = some t → FnOwn w base t f
section
variable {w w' w0 : World} {base base' : Nat} {gv fv : Value} {x : ImgR} {t : Trip} {f : FnR}
theorem FnOwn.shows (h : FnOwn w base t f) : FnShows w t f := ⟨.of_own h.params, .of_own h.locals, .of_own h.code⟩
theorem ImgOwn.shows (h : ImgOwn w base gv fv x) : ImgShows w gv fv x := by
  obtain ⟨h1, ts, h2, h3, h4⟩ := h
  exact ⟨.of_own h1, ts, h2, .of_own h3, fun i f t hf ht => (h4 i f t hf ht).shows⟩
theorem own_lower {e : TypeId} {k n : Nat} {v : Value} {xs : List Value} (h : w.ownsRow base e k v n xs) (hb : base' ≤ base) : w.ownsRow base' e k v n xs := by
  refine ⟨h.1, ?_⟩
  rcases h.2 with h2 | ⟨g, cap, cur, e1, h1, h2, h3⟩
  · exact .inl h2
  · exact .inr ⟨g, cap, cur, e1, by omega, h2, h3⟩
/-- Whatever is written in other blocks, one's own stays. -/
theorem own_fr {S : Nat → Prop} {e : TypeId} {k n : Nat} {v : Value} {xs : List Value} (h : w.ownsRow base e k v n xs) (hf : Fr S w w') (hS : ∀ b, base ≤ b → b < w.heap.size → ¬ S b) : w'.ownsRow base e k v n xs :=
  ownsRow_fr h hf fun b hb => hS b (h.lt b hb).1 (h.lt b hb).2
theorem FnOwn.fr {S : Nat → Prop} (h : FnOwn w base t f) (hf : Fr S w w') (hS : ∀ b, base ≤ b → b < w.heap.size → ¬ S b) : FnOwn w' base t f :=
  ⟨own_fr h.params hf hS, own_fr h.locals hf hS, own_fr h.code hf hS⟩
theorem ImgOwn.fr {S : Nat → Prop} (h : ImgOwn w base gv fv x) (hf : Fr S w w') (hS : ∀ b, base ≤ b → b < w.heap.size → ¬ S b) : ImgOwn w' base gv fv x := by
  obtain ⟨h1, ts, h2, h3, h4⟩ := h
  exact ⟨own_fr h1 hf hS, ts, h2, own_fr h3 hf hS, fun i f t hx ht => (h4 i f t hx ht).fr hf hS⟩
theorem FnOwn.lower (h : FnOwn w base t f) (hb : base' ≤ base) : FnOwn w base' t f := ⟨own_lower h.params hb, own_lower h.locals hb, own_lower h.code hb⟩
theorem ImgOwn.lower (h : ImgOwn w base gv fv x) (hb : base' ≤ base) : ImgOwn w base' gv fv x := by
  obtain ⟨h1, ts, h2, h3, h4⟩ := h
  exact ⟨own_lower h1 hb, ts, h2, own_lower h3 hb, fun i f t hx ht => (h4 i f t hx ht).lower hb⟩
end

end Go.Proofs.YtebdjahcahgafaaDoor

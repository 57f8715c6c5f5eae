/- Maps with whole numbers as keys: a block that is a map and reads as a list of pairs, in its own order; look-up, store, delete, length as equations. -/
import Derived.Test.YtmlbhlfjaagcaaaDoorMem
import Derived.MapKept
import Derived.WideLaws
namespace Go.Proofs.YtmlbhlfjaagcaaaDoor
open Go.RowKit Go.MapKept

theorem l_map_erase {α β : Type} (f : α → β) : ∀ (l : List α) (j : Nat), (l.eraseIdx j).map f = (l.map f).eraseIdx j
  | [], _ => by simp
  | _ :: _, 0 => by simp
  | a :: r, j + 1 => by simp [l_map_erase f r j]

/-- The first pair with that key, and where it stands. -/
def mfind : List (Int × Value) → Int → Nat → Option (Nat × Value)
  | [], _, _ => none
  | p :: r, k, i => if k = p.1 then some (i, p.2) else mfind r k (i + 1)
def mget (m : List (Int × Value)) (k : Int) : Option Value := (mfind m k 0).map (·.2)
def mput (m : List (Int × Value)) (k : Int) (v : Value) : List (Int × Value) :=
  match mfind m k 0 with
  | some (i, _) => m.set i (k, v)
  | none => m ++ [(k, v)]
def mdel (m : List (Int × Value)) (k : Int) : List (Int × Value) :=
  match mfind m k 0 with
  | some (i, _) => m.eraseIdx i
  | none => m

def asPairs (q : IntKind) (m : List (Int × Value)) : List (Value × Value) := m.map fun p => (Value.int q p.1, p.2)
def ofEntries (es : List MapEntry) : List (Value × Value) := es.map fun e => (e.key, e.val)

/-- Block b of w is a map that reads as the pairs m. -/
def MapI (w : World) (b : Nat) (q : IntKind) (m : List (Int × Value)) : Prop :=
  ∃ es clock, w.heap[b]? = some (.map es clock) ∧ ofEntries es.toList = asPairs q m

theorem findNow_eq (q : IntKind) (k : Int) : ∀ (es : List MapEntry) (m : List (Int × Value)) (i : Nat), ofEntries es = asPairs q m → Instr.findNow (.int q) (.int q k) es i = some (mfind m k i)
  | [], [], i, _ => rfl
  | [], _ :: _, _, h => by simp [ofEntries, asPairs] at h
  | _ :: _, [], _, h => by simp [ofEntries, asPairs] at h
  | e :: es, p :: m, i, h => by
    simp only [ofEntries, asPairs, List.map_cons, List.cons.injEq, Prod.mk.injEq] at h
    obtain ⟨⟨h1, h2⟩, h3⟩ := h
    have ih := findNow_eq q k es m (i + 1) h3
    unfold Instr.findNow mfind
    rw [h1, h2, ih]
    by_cases hk : k = p.1
    · subst hk; simp [Instr.sameNow]
    · have : (k == p.1) = false := by simpa using hk
      simp [Instr.sameNow, this, hk]

theorem mfind_spec (k : Int) : ∀ (m : List (Int × Value)) (i j : Nat) (v : Value), mfind m k i = some (j, v) → i ≤ j ∧ m[j - i]? = some (k, v)
  | [], _, _, _, h => by simp [mfind] at h
  | p :: m, i, j, v, h => by
    unfold mfind at h
    by_cases hk : k = p.1
    · rw [if_pos hk] at h
      injection h with h
      injection h with h1 h2
      subst h1 h2 hk
      exact ⟨Nat.le_refl _, by simp⟩
    · rw [if_neg hk] at h
      obtain ⟨a, b⟩ := mfind_spec k m (i + 1) j v h
      refine ⟨by omega, ?_⟩
      rw [show j - i = (j - (i + 1)) + 1 from by omega]
      simpa using b

theorem mfind_none (k : Int) : ∀ (m : List (Int × Value)) (i : Nat), mfind m k i = none ↔ ∀ p ∈ m, p.1 ≠ k
  | [], i => by simp [mfind]
  | p :: m, i => by
    unfold mfind
    by_cases hk : k = p.1
    · rw [if_pos hk]; simp [hk]
    · rw [if_neg hk, mfind_none k m (i + 1)]
      constructor
      · intro h q hq
        rcases List.mem_cons.1 hq with rfl | hq
        · exact fun e => hk e.symm
        · exact h q hq
      · intro h q hq
        exact h q (List.mem_cons_of_mem _ hq)

theorem entries_at {q : IntKind} {es : List MapEntry} {m : List (Int × Value)} (h : ofEntries es = asPairs q m) {j : Nat} {p : Int × Value} (hp : m[j]? = some p) : ∃ e, es[j]? = some e ∧ e.key = .int q p.1 ∧ e.val = p.2 := by
  have h2 : (ofEntries es)[j]? = some (.int q p.1, p.2) := by rw [h]; simp [asPairs, hp]
  unfold ofEntries at h2
  rw [List.getElem?_map] at h2
  cases he : es[j]? with
  | none => rw [he] at h2; simp at h2
  | some e =>
    rw [he] at h2
    simp only [Option.map_some, Option.some.injEq, Prod.mk.injEq] at h2
    exact ⟨e, rfl, h2.1, h2.2⟩

section
variable {P : Program} {w w' : World} {b : Nat} {q : IntKind} {m : List (Int × Value)} {t kt et : TypeId}

theorem MapI.lt (h : MapI w b q m) : b < w.heap.size := by
  obtain ⟨es, clock, hb, _⟩ := h
  exact (Array.getElem?_eq_some_iff.1 hb).1
theorem MapI.fr {S : Nat → Prop} (h : MapI w b q m) (hf : Fr S w w') (hn : ¬ S b) : MapI w' b q m := by
  have hl := h.lt
  obtain ⟨es, clock, hb, he⟩ := h
  exact ⟨es, clock, (hf.block b hl hn).trans hb, he⟩
theorem MapI.below {B : Nat} (h : MapI w b q m) (hf : Below B w w') (hn : b < B) : MapI w' b q m := by
  obtain ⟨es, clock, hb, he⟩ := h
  exact ⟨es, clock, (hf.block b hn).trans hb, he⟩
theorem MapI.alloc (h : MapI w b q m) (o : Obj) : MapI (w.alloc o) b q m := h.fr (S := fun _ => False) (Fr.alloc w o) (fun h => h)
theorem MapI.new (w : World) (q : IntKind) : MapI (w.alloc (.map #[] 0)) w.heap.size q [] := ⟨#[], 0, heap_alloc_new w _, rfl⟩
theorem MapI.ne_blk {g : Nat} {ty : TypeId} {cs : Array Value} (h : MapI w b q m) (hg : Blk w g ty cs) : b ≠ g := by
  rintro rfl
  obtain ⟨es, clock, hb, he⟩ := h
  unfold Blk at hg
  rw [hb] at hg
  cases hg
theorem MapI.far (h : MapI w b q m) {p : Addr} (hp : b ≠ p.block) (u : Value) : MapI (w.setCell p u) b q m := by
  obtain ⟨es, clock, hb, he⟩ := h
  exact ⟨es, clock, (Below.heap_setCell w p u b hp).trans hb, he⟩

theorem isKey_int (q : IntKind) (k : Int) : IsKey (.int q) (.int q k) := by simp [IsKey]

theorem MapI.len (h : MapI w b q m) (ht : P.underlying t = some (.map (P.mapKeyOf t) (P.mapElemOf t))) (ty : TypeId) : (Builtin.len_ #[t] ty #[.map (some b)]).run P w = .ok (.int .i64 (m.length : Int)) w := by
  obtain ⟨es, clock, hb, he⟩ := h
  rw [run_len_map w t ty b es clock ht hb]
  have : es.size = m.length := by
    have := congrArg List.length he
    simpa [ofEntries, asPairs] using this
  rw [this]; rfl

theorem MapI.look (h : MapI w b q m) (ht : P.underlying t = some (.map kt et)) (hk : P.underlying kt = some (.int q)) {z : Value} (hz : (zeroValue et).run P w = .ok z w) (k : Int) :
    (Instr.lookup t (.map (some b)) (.int q k) true).run P w = .ok (.tuple #[(mget m k).getD z, .bool (mget m k).isSome]) w := by
  obtain ⟨es, clock, hb, he⟩ := h
  have h1 := findNow_eq q k es.toList m 0 he
  unfold mget
  cases hf : mfind m k 0 with
  | none =>
    rw [hf] at h1
    simp [Instr.lookup, run_underlying ht, MapKept.run_getObj_map hb, run_checkKey hk (isKey_int q k), run_findKey hk h1, hz, Result.andThen]
  | some a =>
    rw [hf] at h1
    simp [Instr.lookup, run_underlying ht, MapKept.run_getObj_map hb, run_checkKey hk (isKey_int q k), run_findKey hk h1, Result.andThen]

theorem MapI.look1 (h : MapI w b q m) (ht : P.underlying t = some (.map kt et)) (hk : P.underlying kt = some (.int q)) {z : Value} (hz : (zeroValue et).run P w = .ok z w) (k : Int) :
    (Instr.lookup t (.map (some b)) (.int q k) false).run P w = .ok ((mget m k).getD z) w := by
  obtain ⟨es, clock, hb, he⟩ := h
  have h1 := findNow_eq q k es.toList m 0 he
  unfold mget
  cases hf : mfind m k 0 with
  | none =>
    rw [hf] at h1
    simp [Instr.lookup, run_underlying ht, MapKept.run_getObj_map hb, run_checkKey hk (isKey_int q k), run_findKey hk h1, hz, Result.andThen]
  | some a =>
    rw [hf] at h1
    simp [Instr.lookup, run_underlying ht, MapKept.run_getObj_map hb, run_checkKey hk (isKey_int q k), run_findKey hk h1, Result.andThen]

theorem set_fr (w : World) (b : Nat) (o : Obj) : Fr (fun k => k = b) w { w with heap := w.heap.setIfInBounds b o } :=
  ⟨rfl, rfl, rfl, by simp, fun k _ hn => by
    have hn : k ≠ b := hn
    simp [Ne.symm hn]⟩

theorem MapI.put (h : MapI w b q m) (ht : P.underlying t = some (.map kt et)) (hk : P.underlying kt = some (.int q)) (k : Int) (v : Value) :
    ∃ w', (Instr.mapUpdate t (.map (some b)) (.int q k) v).run P w = .ok () w' ∧ MapI w' b q (mput m k v) ∧ Fr (fun i => i = b) w w' := by
  have hl := h.lt
  obtain ⟨es, clock, hb, he⟩ := h
  have h1 := findNow_eq q k es.toList m 0 he
  unfold mput
  cases hf : mfind m k 0 with
  | none =>
    rw [hf] at h1
    refine ⟨{ w with heap := w.heap.setIfInBounds b (.map (es.push { key := .int q k, val := v, born := clock }) (clock + 1)) }, ?_, ⟨_, _, (heap_set hb).1, ?_⟩, set_fr w b _⟩
    · simp [Instr.mapUpdate, run_underlying ht, MapKept.run_getObj_map hb, run_checkKey hk (isKey_int q k), run_findKey hk h1, run_setObj_map _ hb, Result.andThen]
    · simp only [ofEntries, asPairs] at he ⊢
      simp [he]
  | some a =>
    obtain ⟨i, v0⟩ := a
    rw [hf] at h1
    obtain ⟨_, h3⟩ := mfind_spec k m 0 i v0 hf
    obtain ⟨e0, h4, h5, h6⟩ := entries_at he h3
    have h7 : es[i]? = some e0 := by simpa using h4
    refine ⟨{ w with heap := w.heap.setIfInBounds b (.map (es.modify i fun e => { e with key := .int q k, val := v }) clock) }, ?_, ⟨_, _, (heap_set hb).1, ?_⟩, set_fr w b _⟩
    · simp [Instr.mapUpdate, run_underlying ht, MapKept.run_getObj_map hb, run_checkKey hk (isKey_int q k), run_findKey hk h1, h7, h5, run_keyThatStays (isKey_int q k), run_setObj_map _ hb, Result.andThen]
    · apply List.ext_getElem?
      intro j
      have hj := congrArg (fun l => l[j]?) he
      simp only [ofEntries, asPairs, List.getElem?_map] at hj ⊢
      rw [Array.toList_modify, List.getElem?_modify, List.getElem?_set]
      by_cases hij : i = j
      · subst hij
        have hlen : i < m.length := (List.getElem?_eq_some_iff.1 (by simpa using h3)).1
        have h8 : es.toList[i]? = some e0 := by simpa using h7
        simp [h8, hlen]
      · simp only [if_neg hij]
        rw [← hj]
        simp

theorem MapI.del (h : MapI w b q m) (ht : P.underlying t = some (.map kt et)) (hk : P.underlying kt = some (.int q)) (k : Int) :
    ∃ w', (∀ ty, (Builtin.delete_ #[t, kt] ty #[.map (some b), .int q k]).run P w = .ok (.tuple #[]) w') ∧ MapI w' b q (mdel m k) ∧ Fr (fun i => i = b) w w' := by
  have hl := h.lt
  obtain ⟨es, clock, hb, he⟩ := h
  have h1 := findNow_eq q k es.toList m 0 he
  unfold mdel
  cases hf : mfind m k 0 with
  | none =>
    rw [hf] at h1
    refine ⟨{ w with heap := w.heap.setIfInBounds b (.map es clock) }, fun ty => ?_, ⟨_, _, (heap_set hb).1, he⟩, set_fr w b _⟩
    simp [Builtin.delete_, run_underlying ht, MapKept.run_getObj_map hb, run_checkKey hk (isKey_int q k), run_findKey hk h1, run_setObj_map _ hb, Result.andThen]
  | some a =>
    obtain ⟨i, v0⟩ := a
    rw [hf] at h1
    obtain ⟨_, h3⟩ := mfind_spec k m 0 i v0 hf
    obtain ⟨e0, h4, h5, h6⟩ := entries_at he h3
    refine ⟨{ w with heap := w.heap.setIfInBounds b (.map (es.eraseIdxIfInBounds i) clock) }, fun ty => ?_, ⟨_, _, (heap_set hb).1, ?_⟩, set_fr w b _⟩
    · simp [Builtin.delete_, run_underlying ht, MapKept.run_getObj_map hb, run_checkKey hk (isKey_int q k), run_findKey hk h1, run_setObj_map _ hb, Result.andThen]
    · have e1 : (es.eraseIdxIfInBounds i).toList = es.toList.eraseIdx i := by simp
      rw [e1]
      simp only [ofEntries, asPairs] at he ⊢
      rw [l_map_erase, he, l_map_erase]
end

end Go.Proofs.YtmlbhlfjaagcaaaDoor

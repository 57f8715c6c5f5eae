/- Boxes that are lent with a mark behind them, and whether they were kept: contracts of Lent and Kept. -/
import Derived.Test.YtnffflcfncffpaaBRow
import Derived.Laws.CopyRow
import Derived.Laws.MakeOwn
import Derived.Laws.StructEq
import Derived.OwnWalk
import Derived.Deep.DeepCutAuto
namespace Go.Proofs.Ytnffflcfncffpaa
open Go.RowKit

/-- Boxes as cells. -/
def cellsL : List Bx → List Value
  | [] => []
  | b :: r => .int .i64 b.x :: .int .i64 b.y :: .int .i64 b.r :: cellsL r
theorem cellsL_len (L : List Bx) : (cellsL L).length = L.length * 3 := by
  induction L with
  | nil => rfl
  | cons b r ih => simp only [cellsL, List.length_cons, ih]; omega
theorem cellsL_one (L : List Bx) : ∀ v ∈ cellsL L, v.oneCell' = true := by
  induction L with
  | nil => simp [cellsL]
  | cons b r ih =>
    intro v hv
    simp only [cellsL, List.mem_cons] at hv
    rcases hv with rfl | rfl | rfl | hv
    · rfl
    · rfl
    · rfl
    · exact ih v hv
theorem cellsL_append (L M : List Bx) : cellsL (L ++ M) = cellsL L ++ cellsL M := by
  induction L with
  | nil => rfl
  | cons b r ih => simp only [List.cons_append, cellsL, ih]
theorem cellsL_at (L : List Bx) (k : Nat) (h : k < L.length) : (cellsL L)[k * 3]? = some (.int .i64 (Bx.at L k).x) ∧ (cellsL L)[k * 3 + 1]? = some (.int .i64 (Bx.at L k).y) ∧ (cellsL L)[k * 3 + 2]? = some (.int .i64 (Bx.at L k).r) := by
  induction L generalizing k with
  | nil => simp at h
  | cons b r ih =>
    cases k with
    | zero => exact ⟨rfl, rfl, rfl⟩
    | succ k =>
      have := ih k (by simpa using h)
      rw [show (k + 1) * 3 = k * 3 + 3 by omega]
      have e : Bx.at (b :: r) (k + 1) = Bx.at r k := rfl
      rw [e]
      exact this
theorem cellsL_any (L : List Bx) (j : Nat) (v : Value) (h : (cellsL L)[j]? = some v) : ∃ k, k < L.length ∧ (j = k * 3 ∧ v = .int .i64 (Bx.at L k).x ∨ j = k * 3 + 1 ∧ v = .int .i64 (Bx.at L k).y ∨ j = k * 3 + 2 ∧ v = .int .i64 (Bx.at L k).r) := by
  have hl : j < L.length * 3 := by
    rcases Nat.lt_or_ge j (L.length * 3) with h' | h'
    · exact h'
    · rw [List.getElem?_eq_none (by rw [cellsL_len]; exact h')] at h; cases h
  have hk : j / 3 < L.length := by omega
  have hc := cellsL_at L (j / 3) hk
  refine ⟨j / 3, hk, ?_⟩
  have h3 : j % 3 = 0 ∨ j % 3 = 1 ∨ j % 3 = 2 := by omega
  rcases h3 with h3 | h3 | h3
  · have e : j = j / 3 * 3 := by omega
    rw [e, hc.1] at h
    exact .inl ⟨e, by injection h with h; exact h.symm⟩
  · have e : j = j / 3 * 3 + 1 := by omega
    rw [e, hc.2.1] at h
    exact .inr (.inl ⟨e, by injection h with h; exact h.symm⟩)
  · have e : j = j / 3 * 3 + 2 := by omega
    rw [e, hc.2.2] at h
    exact .inr (.inr ⟨e, by injection h with h; exact h.symm⟩)

theorem info25 : (Try.prog.info? 25).map (fun i => (i.zero, i.size, i.bytes)) = some (some (.agg #[.int .i64 0, .int .i64 0, .int .i64 0]), 3, 24) := by kernel_rfl

theorem made3 (n : Nat) : madeCells #[.int .i64 0, .int .i64 0, .int .i64 0] n = (List.replicate n (Value.int .i64 0)).toArray := by
  unfold madeCells
  apply Array.ext
  · simp
  · intro i h1 h2
    simp only [Array.getElem_map, Array.getElem_range, List.getElem_toArray, List.getElem_replicate]
    have h3 : i % 3 = 0 ∨ i % 3 = 1 ∨ i % 3 = 2 := by omega
    change (#[Value.int .i64 0, .int .i64 0, .int .i64 0] : Array Value)[i % 3]! = _
    rcases h3 with h3 | h3 | h3 <;> rw [h3] <;> rfl

theorem lent_make (n : Nat) (hn : n * 24 ≤ 140737488351232) (w : World) : (Instr.makeSlice 36 (.int .i64 (n : Int)) (.int .i64 ((n : Int) + 1))).run Try.prog w = .ok (.slice (some ⟨w.heap.size, 0, none⟩) n (n + 1)) (w.alloc (.cells (List.replicate (n * 3 + 3) (Value.int .i64 0)).toArray 25)) := by
  obtain ⟨i, hi, hz, hs, hb⟩ := info_parts info25
  have h := run_make (P := Try.prog) w 36 25 i _ Try.underlying36 hi hz .i64 .i64 (n : Int) ((n : Int) + 1) (by omega) (by omega) (by rw [hb]; omega) (by omega)
  rw [hs] at h
  rw [h, show ((n : Int) + 1).toNat * 3 = n * 3 + 3 by omega]
  congr 3
  exact made3 _

theorem run_copy3 (w : World) (ty : TypeId) (g dCap : Nat) (a : Option Addr) (n c : Nat) (cur : List Value) (cs : List Value)
    (hg : Blk w g 25 cur.toArray) (hn : cs.length = n * 3) (hsrc : 0 < n → ∃ ad, a = some ad ∧ ∀ j v, cs[j]? = some v → w.cell? (ad.add j) = some v) (hfit : cs.length ≤ cur.length) (h1 : ∀ v ∈ cs, v.oneCell' = true) :
    (Builtin.copy_ #[36, 36] ty #[.slice (some ⟨g, 0, none⟩) n dCap, .slice a n c]).run Try.prog w = .ok (goInt n) (w.setRow g (cs ++ cur.drop cs.length).toArray) := by
  obtain ⟨i, hi, hz, hs, hb⟩ := info_parts info25
  have hst := run_storeCells_at Try.prog g 0 25 cs 0 cur.toArray w hg (by simpa using hfit) h1
  simp only [Nat.add_zero, List.take_zero, List.nil_append, Nat.zero_add] at hst
  have hmin : Nat.min n n = n := Nat.min_self n
  cases a with
  | some ad =>
    have hl : (loadCells ad (n * 3)).run Try.prog w = .ok cs.toArray w := by
      rw [← hn]
      rcases Nat.eq_zero_or_pos n with h0 | h0
      · obtain rfl : cs = [] := List.eq_nil_of_length_eq_zero (by omega)
        exact run_loadCells_list (P := Try.prog) w ad [] (by simp)
      · obtain ⟨ad', e, hc⟩ := hsrc h0
        injection e with e
        subst e
        exact run_loadCells_list (P := Try.prog) w ad cs hc
    simp [Builtin.copy_, run_underlying Try.underlying36, Builtin.lenOf, Builtin.firstCells, sizeOf, typeInfo, hi, hs, hmin, hl, hst]
  | none =>
    have h0 : n = 0 := by
      rcases Nat.eq_zero_or_pos n with h0 | h0
      · exact h0
      · obtain ⟨ad', e, _⟩ := hsrc h0
        cases e
    subst h0
    obtain rfl : cs = [] := List.eq_nil_of_length_eq_zero (by omega)
    simp only [List.nil_append, List.length_nil, List.drop_zero] at hst ⊢
    simp [Builtin.copy_, run_underlying Try.underlying36, Builtin.lenOf, Builtin.firstCells, sizeOf, typeInfo, hi, hst]

/-- Block g holds the boxes L and the mark. -/
def LentAt (w : World) (g : Nat) (L : List Bx) : Prop := Blk w g 25 (cellsL (L ++ [⟨0, 0, -77⟩])).toArray
theorem LentAt.below {w w2 : World} {g : Nat} {L : List Bx} (h : LentAt w g L) (hb : Below w.heap.size w w2) : LentAt w2 g L := Blk.below h hb h.lt
theorem LentAt.cells {w : World} {g : Nat} {L : List Bx} (h : LentAt w g L) (k : Nat) (hk : k < L.length) : w.cell? ⟨g, k * 3, none⟩ = some (.int .i64 (Bx.at L k).x) ∧ w.cell? ⟨g, k * 3 + 1, none⟩ = some (.int .i64 (Bx.at L k).y) ∧ w.cell? ⟨g, k * 3 + 2, none⟩ = some (.int .i64 (Bx.at L k).r) := by
  have hc := cellsL_at (L ++ [⟨0, 0, -77⟩]) k (by simp; omega)
  have e : Bx.at (L ++ [⟨0, 0, -77⟩]) k = Bx.at L k := by
    rw [Bx.at_get (by simp; omega), Bx.at_get hk, List.getElem_append_left hk]
  rw [e] at hc
  unfold LentAt at h
  rw [h.cell, h.cell, h.cell]
  simpa using hc
theorem LentAt.mark {w : World} {g : Nat} {L : List Bx} (h : LentAt w g L) : w.cell? ⟨g, L.length * 3, none⟩ = some (.int .i64 0) ∧ w.cell? ⟨g, L.length * 3 + 1, none⟩ = some (.int .i64 0) ∧ w.cell? ⟨g, L.length * 3 + 2, none⟩ = some (.int .i64 (-77)) := by
  have hc := cellsL_at (L ++ [⟨0, 0, -77⟩]) L.length (by simp)
  have e : Bx.at (L ++ [⟨0, 0, -77⟩]) L.length = ⟨0, 0, -77⟩ := by
    rw [Bx.at_get (by simp)]; simp
  rw [e] at hc
  unfold LentAt at h
  rw [h.cell, h.cell, h.cell]
  simpa using hc
theorem LentAt.rbox {w : World} {g n : Nat} {L : List Bx} (h : LentAt w g L) (hn : L.length = n) (hi : ∀ k, k < n → I64 (Bx.at L k).x ∧ I64 (Bx.at L k).y ∧ I64 (Bx.at L k).r) : RBox w w.heap.size (some ⟨g, 0, none⟩) n L :=
  ⟨hn, hi, fun _ => ⟨g, 0, rfl, Blk.lt h, fun k hk => by rw [Nat.zero_add]; exact h.cells k (by omega)⟩⟩

theorem lent_copy (A : Option Addr) (n c : Nat) (L : List Bx) (w : World) (hL : RBox w w.heap.size A n L) :
    ∃ w2, (∀ ty, (Builtin.copy_ #[36, 36] ty #[.slice (some ⟨w.heap.size, 0, none⟩) n (n + 1), .slice A n c]).run Try.prog (w.alloc (.cells (List.replicate (n * 3 + 3) (Value.int .i64 0)).toArray 25)) = .ok (goInt n) w2) ∧ Blk w2 w.heap.size 25 (cellsL L ++ List.replicate 3 (Value.int .i64 0)).toArray ∧ Below w.heap.size w w2 := by
  have hk := Blk.new w 25 (List.replicate (n * 3 + 3) (Value.int .i64 0)).toArray
  have hlen : (cellsL L).length = n * 3 := by rw [cellsL_len, hL.1]
  have hr := fun ty => run_copy3 (w.alloc (.cells (List.replicate (n * 3 + 3) (Value.int .i64 0)).toArray 25)) ty w.heap.size (n + 1) A n c (List.replicate (n * 3 + 3) (Value.int .i64 0)) (cellsL L) hk hlen (fun h0 => by
    obtain ⟨b, o, e, hb, hc⟩ := hL.2.2 h0
    refine ⟨_, e, fun j v hj => ?_⟩
    obtain ⟨k, hkl, hcase⟩ := cellsL_any L j v hj
    have hck := hc k (by rw [← hL.1]; exact hkl)
    have hadd : (⟨b, o, none⟩ : Addr).add j = ⟨b, o + j, none⟩ := by unfold Addr.add; split <;> simp_all
    rw [hadd, World.cell?_alloc_lt w _ _ hb]
    rcases hcase with ⟨rfl, rfl⟩ | ⟨rfl, rfl⟩ | ⟨rfl, rfl⟩
    · exact hck.1
    · exact hck.2.1
    · exact hck.2.2) (by rw [hlen]; simp) (cellsL_one L)
  refine ⟨_, hr, ?_, ?_⟩
  · have h2 := Blk.setRow_ hk (cellsL L ++ (List.replicate (n * 3 + 3) (Value.int .i64 0)).drop (cellsL L).length).toArray
    have e : (List.replicate (n * 3 + 3) (Value.int .i64 0)).drop (cellsL L).length = List.replicate 3 (Value.int .i64 0) := by
      rw [hlen, List.drop_replicate]
      congr 1
      omega
    rw [e] at h2 ⊢
    exact h2
  · exact bsr (bel1 w _) (Nat.le_refl _) _
end Go.Proofs.Ytnffflcfncffpaa

/- Bytes that were made of a text, and grow: append where the row bears the mark of such bytes. -/
import Derived.Test.YtebabgonffbdhaaDoorRefDec
import Derived.Laws.IdiomCopy
import Derived.Laws.IdiomStrings
namespace Go.Proofs.YtebabgonffbdhaaDoor
open Go.RowKit

/-- The bytes l lie at v, in memory that is new since w; no cell of the row is frozen. -/
structure RB (w : World) (v : Value) (l : List Nat) (wx : World) : Prop where
  row : ∃ (g cap : Nat) (cur : Array Value) (fz : Nat × Nat), v = .slice (some ⟨g, 0, none⟩) l.length cap ∧ w.heap.size ≤ g ∧ wx.heap[g]? = some (.cells cur 5 fz) ∧ (∀ j, j < cur.size → ¬ (fz.1 ≤ j ∧ j < fz.2)) ∧ l.length ≤ cap ∧ cap ≤ maxLen ∧ cur.size = cap ∧ cur.toList.take l.length = U8s l
  below : Below w.heap.size w wx

theorem RB.make (w wx : World) (l : List Nat) (hb : Below w.heap.size w wx) (hl : l.length ≤ 1000) (h256 : ∀ c ∈ l, c < 256) :
    ∃ v wy, (convert 9 56 (.string (strOf l))).run Tryd.prog wx = .ok v wy ∧ RB w v l wy := by
  have hz : (strOf l).size = l.length := strOf_size l
  have hge := grownCap_ge wx (strOf l).size 0 5
  have hle := grownCap_le_maxLen wx (strOf l).size 0 5 (by rw [hz]; unfold maxLen; omega)
  have hsz : (bytesRow (strOf l) (grownCap wx (strOf l).size 0 5)).size = grownCap wx (strOf l).size 0 5 := by
    unfold bytesRow
    simp only [Array.size_append, Array.size_map, Array.size_replicate]
    have : (strOf l).data.size = (strOf l).size := rfl
    omega
  refine ⟨_, _, run_bytes_of_string wx 9 56 5 (strOf l) Tryd.underlying9 Tryd.underlying56 Tryd.underlying5, ⟨⟨wx.heap.size, _, _, _, by rw [hz], hb.size, heap_alloc_new wx.drew _, ?_, by rw [← hz]; exact hge, hle, hsz, ?_⟩, ?_⟩⟩
  · intro j hj; simp only; omega
  · unfold bytesRow
    rw [Array.toList_append, List.take_append_of_le_length (by simp [strOf])]
    simp only [strOf, U8s, Array.toList_map, List.map_map]
    rw [List.take_of_length_le (by simp)]
    apply List.map_congr_left
    intro c hc
    have := h256 c hc
    simp [Function.comp]
    omega
  · exact hb.drew.alloc hb.size _

theorem RB.app {w wx : World} {v : Value} {l : List Nat} (h : RB w v l wx) (c : Nat) (ty : TypeId) (hl : l.length ≤ 1000) :
    ∃ v' w', (Builtin.append_ #[56, 56] ty #[v, .slice (some ⟨wx.heap.size, 0, none⟩) 1 1]).run Tryd.prog (wx.alloc (.cells #[.int .u8 (c : Int)] 5)) = .ok v' w' ∧ RB w v' (l ++ [c]) w' := by
  obtain ⟨⟨g, cap, cur, fz, rfl, hg, hh, hf, hlc, hcm, hcs, htk⟩, hb⟩ := h
  obtain ⟨i0, hi, hz0, hz1, hz2⟩ := info_parts infoU8
  have hglt : g < wx.heap.size := (Array.getElem?_eq_some_iff.1 hh).1
  have hne : g ≠ wx.heap.size := by omega
  have hh2 : (wx.alloc (.cells #[.int .u8 (c : Int)] 5)).heap[g]? = some (.cells cur 5 fz) := (Below.heap_alloc wx _ g hglt).trans hh
  have hnews := cell_one_new wx (.int .u8 (c : Int)) 5
  have hb2 : Below w.heap.size w (wx.alloc (.cells #[.int .u8 (c : Int)] 5)) := hb.alloc hb.size _
  have hs2 : (wx.alloc (.cells #[.int .u8 (c : Int)] 5)).heap.size = wx.heap.size + 1 := by simp
  generalize wx.alloc (.cells #[.int .u8 (c : Int)] 5) = W at *
  have hU : U8s (l ++ [c]) = U8s l ++ [.int .u8 (c : Int)] := by rw [U8s_append]; rfl
  have hUl := U8s_length l
  by_cases hroom : l.length + 1 ≤ cap
  · have hcell : W.cell? ⟨g, l.length, none⟩ = cur[l.length]? := cell_of_row W g l.length cur 5 fz hh2
    have hlt : l.length < cur.size := by omega
    have hfr : W.frozen? ⟨g, l.length, none⟩ = false := by
      have := hf l.length hlt
      simp only [World.frozen?, hh2]
      simpa using this
    have hst := run_storeCells_cells (P := Tryd.prog) g l.length [.int .u8 (c : Int)] 0 W (fun j hj => by
        obtain rfl : j = 0 := by simpa using hj
        simp only [Nat.add_zero]
        rw [hcell, Array.getElem?_eq_getElem hlt]; rfl) (fun j hj => by
        obtain rfl : j = 0 := by simpa using hj
        simpa using hfr) (fun u hu => by simp at hu; subst hu; rfl)
    have hff := run_firstCells_some (P := Tryd.prog) W 1 1 ⟨wx.heap.size, 0, none⟩ 1 1 [.int .u8 (c : Int)] rfl hnews
    refine ⟨.slice (some ⟨g, 0, none⟩) (l.length + 1) cap, W.setCell ⟨g, l.length, none⟩ (.int .u8 (c : Int)), ?_, ⟨⟨g, cap, cur.setIfInBounds l.length (.int .u8 (c : Int)), fz, by simp, hg, ?_, ?_, by simp; omega, hcm, by simp; omega, ?_⟩, ?_⟩⟩
    · simp only [Nat.add_zero] at hst
      have hst2 : (storeCells ⟨g, l.length, none⟩ [.int .u8 (c : Int)]).run Tryd.prog W = .ok () (W.setCell ⟨g, l.length, none⟩ (.int .u8 (c : Int))) := hst
      simp [Builtin.append_, run_underlying Tryd.underlying56, sizeOf, typeInfo, hi, hz1, Builtin.lenOf, hroom, hff, Addr.add_lit, hst2]
    · simp [World.setCell, Array.getElem?_modify, hh2]
    · intro j hj; exact hf j (by simpa using hj)
    · rw [hU, Array.toList_setIfInBounds, List.length_append]
      simp only [List.length_cons, List.length_nil, Nat.zero_add]
      rw [List.take_succ_eq_append_getElem (by simp; omega), List.take_set_of_le (Nat.le_refl _), htk]
      simp
    · exact hb2.setCell (by simp; omega) _
  · have holds : ∀ j u, (U8s l)[j]? = some u → W.cell? ((⟨g, 0, none⟩ : Addr).add j) = some u := by
      intro j u hu
      have hadd : (⟨g, 0, none⟩ : Addr).add j = ⟨g, j, none⟩ := by unfold Addr.add; split <;> simp_all
      rw [hadd, cell_of_row W g j cur 5 fz hh2]
      rw [← htk, List.getElem?_take] at hu
      split at hu
      · simpa using hu
      · cases hu
    have hr := run_append_grow (P := Tryd.prog) W 56 ty 5 i0 (.int .u8 0) Tryd.underlying56 hi hz0 ⟨g, 0, none⟩ l.length cap (U8s l) (by rw [hz1, hUl, Nat.mul_one]) holds ⟨wx.heap.size, 0, none⟩ 1 1 [.int .u8 (c : Int)] (by rw [hz1]; rfl) hnews (by omega) (by omega) (by
      rw [hz2]; exact growslice_fits (by omega) (by omega))
    have hge := grownCap_ge W (l.length + 1) cap 5
    have hle := grownCap_le_maxLen W (l.length + 1) cap 5 (by unfold maxLen; omega)
    refine ⟨_, _, hr, ⟨⟨W.heap.size, _, _, (0, 0), by simp, by have := hb2.size; omega, heap_alloc_new W.drew _, ?_, by simpa using hge, hle, ?_, ?_⟩, ?_⟩⟩
    · intro j _; simp
    · simp only [Array.size_append, List.size_toArray, size_zeroCells, hUl]
      simp [Value.cells]
      omega
    · rw [hU]
      simp only [Array.toList_append, List.append_assoc]
      rw [← List.append_assoc]
      exact List.take_left' (by simp [hUl])
    · exact hb2.drew.alloc hb2.size _

theorem wpList_app {ops : Array Oper} {rest : List Oper} {o : Oper} {a : Act} {Q : Exit → Act → World → Prop} {w wx : World} {v : Value} {l : List Nat} {c : Nat} (hgd : o.guard = none) (s x : Operand)
    (ho : o.op = .call { callee := .builtin .append, args := #[s, x], argTypes := #[56, 56] }) (hs : a.eval s = v) (hx : a.eval x = .slice (some ⟨wx.heap.size, 0, none⟩) 1 1) (hR : RB w v l wx) (hl : l.length ≤ 1000)
    (h : ∀ v' w', RB w v' (l ++ [c]) w' → wpList Tryd.prog ops Q rest (a.put o.dst v') w') : wpList Tryd.prog ops Q (o :: rest) a (wx.alloc (.cells #[.int .u8 (c : Int)] 5)) := by
  refine wpList_plain hgd fun K hK => ?_
  obtain ⟨v', w', hr, h2⟩ := hR.app c o.type hl
  unfold Oper.wp execOp
  simp only [ho, resolve, invoke, builtin, Sem.run_bind, Sem.run_pure, Result.andThen_ok, List.map_toArray, List.map_cons, List.map_nil, hs, hx, hr]
  exact hK _ _ (h v' w' h2)

theorem RB.conv {w wx : World} {v : Value} {l : List Nat} (h : RB w v l wx) : (convert 56 9 v).run Tryd.prog wx = .ok (.string (strOf l)) wx := by
  obtain ⟨⟨g, cap, cur, fz, rfl, hg, hh, hf, hlc, hcm, hcs, htk⟩, hb⟩ := h
  refine conv_reads wx wx.heap.size cap (some ⟨g, 0, none⟩) l ⟨U8s_length l, fun _ => ⟨_, rfl, (Array.getElem?_eq_some_iff.1 hh).1, fun j u hu => ?_⟩⟩
  have hadd : (⟨g, 0, none⟩ : Addr).add j = ⟨g, j, none⟩ := by unfold Addr.add; split <;> simp_all
  rw [hadd, cell_of_row wx g j cur 5 fz hh]
  rw [← htk, List.getElem?_take] at hu
  split at hu
  · simpa using hu
  · cases hu

end Go.Proofs.YtebabgonffbdhaaDoor

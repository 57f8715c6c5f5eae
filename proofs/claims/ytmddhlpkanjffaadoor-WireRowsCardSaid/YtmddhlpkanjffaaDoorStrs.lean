/- A slice of texts that came in, opened as a list. -/
import Derived.Test.YtmddhlpkanjffaaDoorDr
import Derived.Test.YtmddhlpkanjffaaDoorStrCells
import Derived.SliceStrings
namespace Go.Proofs.YtmddhlpkanjffaaDoor
open Go.ChangeShapes Go.WideShapes Go.ChangeAt Go.RowKit

section
variable {H : Type} {enc : TypeId × Value → H} {W : World} {a : Option Addr} {len cap : Nat} {d : DataW H} {p : List MemPlace}

theorem open_strs (h : DataW.Trod enc Tryd.prog W 0 (fun _ => true) true 45 (.slice a len cap) d p) :
    ∃ ss : List ByteArray, Reads W W.heap.size a len (Strs ss) ∧ len ≤ maxLen ∧ LenOf d len := by
  obtain ⟨fuel, hf⟩ := h
  rcases open_strings Tryd.underlying45 Tryd.underlying9 (by kernel_rfl) hf with ⟨hcs, _⟩ | ⟨x, l, c, zs, hcs, _, hl, hm, hz, hx, hcell, hwz⟩
  · simp [Value.cells] at hcs
    obtain ⟨rfl, rfl, rfl⟩ := hcs
    exact ⟨[], ⟨rfl, fun h => absurd h (by omega)⟩, by unfold maxLen; omega, .inl rfl⟩
  · simp [Value.cells] at hcs
    obtain ⟨rfl, rfl, rfl⟩ := hcs
    simp only [if_true] at hz
    have hd : d = .slice (strs (zs.take len)) (strs (zs.drop len)) := (Prod.mk.inj hx).1
    refine ⟨zs.take len, reads_of (by simp [Strs]; omega) (fun i hi => ?_), by omega, .inr ⟨_, _, hd, by simp [strs]; omega⟩⟩
    have hi' : i < zs.length := by omega
    rw [hcell i hi']
    simp [Strs, List.getD, hi, List.getElem?_eq_getElem hi']
end

theorem wf_getD {zs : List Int} (h : ∀ n ∈ zs, (Lit.int .i64 n).wf = true) : ∀ i, zs.getD i 0 < 9223372036854775808 ∧ -9223372036854775808 ≤ zs.getD i 0 := by
  intro i
  rw [List.getD_eq_getElem?_getD]
  rcases Nat.lt_or_ge i zs.length with hi | hi
  · rw [List.getElem?_eq_getElem hi]
    have := wf_range (h _ (List.getElem_mem hi))
    exact ⟨this.2, this.1⟩
  · rw [List.getElem?_eq_none hi]
    decide

end Go.Proofs.YtmddhlpkanjffaaDoor

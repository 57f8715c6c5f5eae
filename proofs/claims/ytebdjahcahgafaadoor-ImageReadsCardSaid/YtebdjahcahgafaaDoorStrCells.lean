/- Texts as cells. -/
import Derived.Test.YtebdjahcahgafaaDoorArgs
namespace Go.Proofs.YtebdjahcahgafaaDoor
open Go.RowKit

/-- Texts as cells. -/
def Strs (ss : List ByteArray) : List Value := ss.map Value.string

theorem Strs_at {w : World} {B n k : Nat} {A : Option Addr} {ss : List ByteArray} (h : Reads w B A n (Strs ss)) (hk : k < n) : ∃ b o, A = some ⟨b, o, none⟩ ∧ b < B ∧ w.cell? ⟨b, o + k, none⟩ = some (.string (ss.getD k ⟨#[]⟩)) := by
  obtain ⟨b, o, h1, h2, h3⟩ := h.spot hk
  have hl : k < ss.length := by have := h.1; simp [Strs] at this; omega
  exact ⟨b, o, h1, h2, by rw [h3]; simp [Strs, List.getD, List.getElem?_eq_getElem hl]⟩

end Go.Proofs.YtebdjahcahgafaaDoor

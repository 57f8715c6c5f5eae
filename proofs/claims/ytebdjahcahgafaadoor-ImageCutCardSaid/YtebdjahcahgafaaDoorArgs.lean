/- Slices that came in, as cells: numbers and bools, read at a place. -/
import Derived.Test.YtebdjahcahgafaaDoorMem
namespace Go.Proofs.YtebdjahcahgafaaDoor
open Go.RowKit

/-- Numbers as cells. -/
def Ints (zs : List Int) : List Value := zs.map (Value.int .i64)

/-- Bools as cells. -/
def Bools (bs : List Bool) : List Value := bs.map Value.bool

theorem Ints_at {w : World} {B n k : Nat} {A : Option Addr} {zs : List Int} (h : Reads w B A n (Ints zs)) (hk : k < n) : ∃ b o, A = some ⟨b, o, none⟩ ∧ b < B ∧ w.cell? ⟨b, o + k, none⟩ = some (.int .i64 (zs.getD k 0)) := by
  obtain ⟨b, o, h1, h2, h3⟩ := h.spot hk
  have hl : k < zs.length := by have := h.1; simp [Ints] at this; omega
  exact ⟨b, o, h1, h2, by rw [h3]; simp [Ints, List.getD, List.getElem?_eq_getElem hl]⟩

theorem Bools_at {w : World} {B n k : Nat} {A : Option Addr} {bs : List Bool} (h : Reads w B A n (Bools bs)) (hk : k < n) : ∃ b o, A = some ⟨b, o, none⟩ ∧ b < B ∧ w.cell? ⟨b, o + k, none⟩ = some (.bool (bs.getD k false)) := by
  obtain ⟨b, o, h1, h2, h3⟩ := h.spot hk
  have hl : k < bs.length := by have := h.1; simp [Bools] at this; omega
  exact ⟨b, o, h1, h2, by rw [h3]; simp [Bools, List.getD, List.getElem?_eq_getElem hl]⟩

end Go.Proofs.YtebdjahcahgafaaDoor

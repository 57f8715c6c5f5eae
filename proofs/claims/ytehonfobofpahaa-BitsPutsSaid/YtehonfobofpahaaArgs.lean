/- Slices that came in, as cells: numbers and bools, read at a place. -/
import Derived.Test.YtehonfobofpahaaBase
namespace Go.Proofs.Ytehonfobofpahaa
open Go.RowKit

/-- Numbers as cells. -/
def Ints (zs : List Int) : List Value := zs.map (Value.int .i64)
/-- Bools as cells. -/
def Bools (bs : List Bool) : List Value := bs.map Value.bool

theorem Reads.spot {w : World} {B n k : Nat} {A : Option Addr} {cs : List Value} (h : Reads w B A n cs) (hk : k < n) : ∃ b o, A = some ⟨b, o, none⟩ ∧ b < B ∧ w.cell? ⟨b, o + k, none⟩ = cs[k]? := by
  obtain ⟨⟨b, o, sp⟩, u, rfl, hb, hx, hc⟩ := h.at_ hk
  obtain ⟨ad0, u0, e0, _, _, hc0⟩ := h.at_ (k := 0) (by omega)
  injection e0 with e0
  subst e0
  have hsp : sp = none := by simpa [Addr.add] using World.cell?_spot hc0
  subst hsp
  refine ⟨b, o, rfl, hb, ?_⟩
  rw [hx, ← hc]
  congr 1
  unfold Addr.add
  split <;> simp_all

theorem Ints_at {w : World} {B n k : Nat} {A : Option Addr} {zs : List Int} (h : Reads w B A n (Ints zs)) (hk : k < n) : ∃ b o, A = some ⟨b, o, none⟩ ∧ b < B ∧ w.cell? ⟨b, o + k, none⟩ = some (.int .i64 (zs.getD k 0)) := by
  obtain ⟨b, o, h1, h2, h3⟩ := h.spot hk
  have hl : k < zs.length := by have := h.1; simp [Ints] at this; omega
  exact ⟨b, o, h1, h2, by rw [h3]; simp [Ints, List.getD, List.getElem?_eq_getElem hl]⟩

theorem Bools_at {w : World} {B n k : Nat} {A : Option Addr} {bs : List Bool} (h : Reads w B A n (Bools bs)) (hk : k < n) : ∃ b o, A = some ⟨b, o, none⟩ ∧ b < B ∧ w.cell? ⟨b, o + k, none⟩ = some (.bool (bs.getD k false)) := by
  obtain ⟨b, o, h1, h2, h3⟩ := h.spot hk
  have hl : k < bs.length := by have := h.1; simp [Bools] at this; omega
  exact ⟨b, o, h1, h2, by rw [h3]; simp [Bools, List.getD, List.getElem?_eq_getElem hl]⟩

end Go.Proofs.Ytehonfobofpahaa

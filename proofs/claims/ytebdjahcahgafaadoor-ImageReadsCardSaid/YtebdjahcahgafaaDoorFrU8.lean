/- A slice of bytes that came in, opened as a list. -/
import Derived.Test.YtebdjahcahgafaaDoorFrame
import Derived.Test.YtebdjahcahgafaaDoorBytesM
namespace Go.Proofs.YtebdjahcahgafaaDoor
open Go.ChangeShapes Go.WideShapes Go.ChangeAt Go.RowKit

theorem bytesU8 : Tryd.prog.bytesOf 5 = 1 := by kernel_rfl

section
variable {H : Type} {enc : TypeId × Value → H} {W : World} {a : Option Addr} {len cap : Nat} {d : DataW H} {p : List MemPlace}

theorem open_u8s (h : DataW.Trod enc Tryd.prog W 0 (fun _ => true) true 30 (.slice a len cap) d p) :
    ∃ bs : List Nat, bs.length = len ∧ Reads W W.heap.size a len (U8s bs) ∧ len ≤ maxLen ∧ (∀ i, bs.getD i 0 < 256) ∧ LenOf d len := by
  obtain ⟨fuel, hf⟩ := h
  rcases open_ints Tryd.underlying30 Tryd.underlying5 (by kernel_rfl) hf with ⟨hcs, _⟩ | ⟨x, l, c, zs, hcs, _, hl, hm, hz, hx, hcell, hwz⟩
  · simp [Value.cells] at hcs
    obtain ⟨rfl, rfl, rfl⟩ := hcs
    exact ⟨[], rfl, ⟨rfl, fun h => absurd h (by omega)⟩, by unfold maxLen; omega, fun i => by simp, .inl rfl⟩
  · simp [Value.cells] at hcs
    obtain ⟨rfl, rfl, rfl⟩ := hcs
    simp only [if_true] at hz
    have hd : d = .slice (lits .u8 (zs.take len)) (lits .u8 (zs.drop len)) := (Prod.mk.inj hx).1
    have hrange : ∀ n ∈ zs, 0 ≤ n ∧ n ≤ 255 := fun n hn => by
      have h := hwz n hn
      have h1 : IntKind.u8.min = 0 := rfl
      have h2 : IntKind.u8.max = 255 := rfl
      simp only [Lit.wf, Bool.and_eq_true, decide_eq_true_eq, h1, h2] at h
      exact h
    refine ⟨(zs.take len).map Int.toNat, by simp; omega, reads_of (by simp [U8s]; omega) (fun i hi => ?_), by omega, fun i => ?_, .inr ⟨_, _, hd, by simp [lits]; omega⟩⟩
    · have hi' : i < zs.length := by omega
      have hr := hrange zs[i] (List.getElem_mem hi')
      rw [hcell i hi']
      simp [U8s, List.getD, hi, List.getElem?_eq_getElem hi']
      omega
    · rw [List.getD_eq_getElem?_getD]
      rcases Nat.lt_or_ge i ((zs.take len).map Int.toNat).length with h | h
      · rw [List.getElem?_eq_getElem h]
        have hi' : i < zs.length := by simp at h; omega
        have hr := hrange zs[i] (List.getElem_mem hi')
        simp
        omega
      · rw [List.getElem?_eq_none h]; decide
end

end Go.Proofs.YtebdjahcahgafaaDoor

/- How the arguments of these laws read, and what the listed table holds when a call begins. -/
import Derived.Test.YtebdjahcahgafaaDoorCards
import Derived.Test.YtebdjahcahgafaaDoorTie
import Derived.Test.YtebdjahcahgafaaDoorFrU8
import Derived.Test.YtebdjahcahgafaaDoorBulk
import Derived.Test.YtebdjahcahgafaaDoorTexts
import Derived.Deep.DeepHandedRow
import Derived.Lib.LaidTab
namespace Go.Proofs.YtebdjahcahgafaaDoor
open Go.ChangeShapes Go.WideShapes Go.ChangeAt Go.RowKit

theorem gTab : Tryd.prog.globalNamed "tiltyard/wire.nibbles" = some 0 := by kernel_rfl
theorem gTabType : (Tryd.prog.globals[0]?).map (·.type) = some 116 := by kernel_rfl
theorem cells56 : Tryd.prog.cellsOf 116 = 16 := by kernel_rfl
theorem cells55 : Tryd.prog.cellsOf 114 = 1 := by kernel_rfl

/-- What the row's list gives: the table lies in block 0. -/
theorem table {W : World} (h : laidMetH Tryd.prog [("tiltyard/wire.nibbles", Rows.laid_tiltyard_wire_nibbles)] W) : Tab W := by
  have hT : Lib.TabIs Tryd.prog W "tiltyard/wire.nibbles" .u32 (nibs.map fun n : Nat => (n : Int)) :=
    Lib.tabIs_of_head (rest := []) gTab gTabType Tryd.underlying116 Tryd.underlying114 cells55 cells56 h
  intro i hi
  have := hT.cell gTab i (by simpa [nibs] using hi)
  rw [this]
  congr 2
  rw [List.getD_eq_getElem?_getD, List.getD_eq_getElem?_getD, List.getElem?_map]
  cases nibs[i]? <;> rfl

/-- A world for the witness: the settled one, the table holding what its initialiser lays. -/
noncomputable def laidWorld (os : Os) : World :=
  { World.holding Tryd.prog os ⟨#[], #[], []⟩ with heap := (World.holding Tryd.prog os ⟨#[], #[], []⟩).heap.modify 0 fun
      | .cells _ t frozen => .cells #[.int .u32 0, .int .u32 498536548, .int .u32 997073096, .int .u32 651767980, .int .u32 1994146192, .int .u32 1802195444, .int .u32 1303535960, .int .u32 1342533948, .int .u32 3988292384, .int .u32 4027552580, .int .u32 3604390888, .int .u32 3412177804, .int .u32 2607071920, .int .u32 2262029012, .int .u32 2685067896, .int .u32 3183342108] t frozen
      | o => o }

section
variable {H : Type} {enc : TypeId × Value → H} {W : World} {a : Option Addr} {len cap : Nat} {d : DataW H} {p : List MemPlace}

theorem open_sl (h : DataW.Trod enc Tryd.prog W 0 (fun _ => true) true 30 (.slice a len cap) d p) :
    ∃ bs : List Nat, bs.length = len ∧ SlB W (.slice a len cap) bs ∧ (∀ x ∈ bs, x < 256) ∧ LenOf d len := by
  have h0 := h
  obtain ⟨bs, e, hr, hm, hby, hl⟩ := open_u8s h
  have hby' : ∀ x ∈ bs, x < 256 := by
    intro x hx
    obtain ⟨i, hi, rfl⟩ := List.mem_iff_getElem.1 hx
    have := hby i
    rwa [List.getD_eq_getElem?_getD, List.getElem?_eq_getElem hi] at this
  obtain ⟨fuel, hf⟩ := h0
  refine ⟨bs, e, ⟨a, cap, by rw [e], ?_, ?_, by rw [e]; exact hr⟩, hby', hl⟩
  · rcases open_ints Tryd.underlying30 Tryd.underlying5 (by kernel_rfl) hf with ⟨hcs, _⟩ | ⟨x, l, c, zs, hcs, _, hlc, _⟩
    · simp [Value.cells] at hcs
      omega
    · simp [Value.cells] at hcs
      omega
  · intro ha
    rcases open_ints Tryd.underlying30 Tryd.underlying5 (by kernel_rfl) hf with ⟨hcs, _⟩ | ⟨x, l, c, zs, hcs, _, hlc, _⟩
    · simp [Value.cells] at hcs
      omega
    · simp [Value.cells, ha] at hcs

theorem wf_range {n : Int} (h : (Lit.int .i64 n).wf = true) : -9223372036854775808 ≤ n ∧ n < 9223372036854775808 := by
  have h1 : IntKind.i64.min = -9223372036854775808 := rfl
  have h2 : IntKind.i64.max = 9223372036854775807 := rfl
  simp only [Lit.wf, Bool.and_eq_true, decide_eq_true_eq, h1, h2] at h
  omega
end

end Go.Proofs.YtebdjahcahgafaaDoor

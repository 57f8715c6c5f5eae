/- Bytes: slices of bytes as lists, copies of them, their texts. -/
import Derived.Test.YtmlbhlfjaagcaaaDoorMem
import Derived.Test.YtmlbhlfjaagcaaaDoorProg
import Derived.WalkKit
import Derived.WalkSpells
import Derived.WalkLawsBesides
import Derived.Laws.CopyOwn
import Derived.Laws.BytesArg
import Derived.Lib.Hide
import Derived.Deep.OwnRows
namespace Go.Proofs.YtmlbhlfjaagcaaaDoor
open Go.RowKit

theorem infoU8 : (Tryd.prog.info? 5).map (fun i => (i.zero, i.size, i.bytes)) = some (some (.int .u8 0), 1, 1) := by kernel_rfl
theorem sizeU8 : (Tryd.prog.info? 5).map (·.size) = some 1 := by kernel_rfl

theorem made_blk (w : World) (n : Nat) : (w.alloc (.cells (madeCells #[.int .u8 0] n) 5)).heap[w.heap.size]? = some (.cells (List.replicate n (Value.int .u8 0)).toArray 5 (0, 0)) := by
  rw [heap_alloc_new, ← toList_madeCells_one]

theorem splice_all (n : Nat) (xs : List Value) (h : xs.length = n) : splice (List.replicate n (Value.int .u8 0)) 0 xs = xs := by
  simp [splice, h]

/-- Bytes as cells. -/
def U8s (bs : List Nat) : List Value := bs.map fun b : Nat => Value.int .u8 (b : Int)

theorem U8s_length (bs : List Nat) : (U8s bs).length = bs.length := by simp [U8s]

theorem U8s_one (bs : List Nat) : ∀ u ∈ U8s bs, u.oneCell' = true := by
  intro u hu
  obtain ⟨_, _, rfl⟩ := List.mem_map.1 hu
  rfl

theorem U8s_get (bs : List Nat) (i : Nat) (h : i < bs.length) : (U8s bs)[i]? = some (.int .u8 ((bs.getD i 0 : Nat) : Int)) := by
  simp [U8s, List.getD, List.getElem?_eq_getElem h]

theorem U8s_append (a b : List Nat) : U8s (a ++ b) = U8s a ++ U8s b := by simp [U8s]

theorem U8s_set (rs : List Nat) (m y : Nat) : U8s (rs.set m y) = (U8s rs).set m (.int .u8 (y : Int)) := by simp [U8s, List.map_set]

theorem byte_of {bs : List Nat} (h : (bs.all fun b => decide (b < 256)) = true) : ∀ i, bs.getD i 0 < 256 := by
  intro i
  rw [List.getD_eq_getElem?_getD]
  rcases Nat.lt_or_ge i bs.length with hi | hi
  · rw [List.getElem?_eq_getElem hi]
    simpa using List.all_eq_true.1 h _ (List.getElem_mem hi)
  · rw [List.getElem?_eq_none hi]; decide

/-- The text of bytes. -/
def strOf (bs : List Nat) : ByteArray := ⟨(bs.map UInt8.ofNat).toArray⟩

theorem conv_eq (w : World) (g cap : Nat) (bs : List Nat) (h : Blk w g 5 (U8s bs).toArray) : (convert 36 9 (.slice (some ⟨g, 0, none⟩) bs.length cap)).run Tryd.prog w = .ok (.string (strOf bs)) w := by
  have e := run_convert_bytes_arg (P := Tryd.prog) w 36 5 Tryd.underlying36 Tryd.underlying5 g 0 bs.length cap (bs.map fun b : Nat => (b : Int)) (by simp) (fun i hi => by
    rw [Nat.zero_add, h.cell]
    have := U8s_get bs i hi
    simp only [List.getElem?_toArray, this]
    simp [List.getD, List.getElem?_eq_getElem hi]) 9 Tryd.underlying9
  rw [e]
  simp [strOfNums, strOf, Function.comp_def]

theorem conv_reads (w : World) (B c : Nat) (A : Option Addr) (bs : List Nat) (h : Reads w B A bs.length (U8s bs)) : (convert 36 9 (.slice A bs.length c)).run Tryd.prog w = .ok (.string (strOf bs)) w := by
  rcases Nat.eq_zero_or_pos bs.length with h0 | h0
  · obtain rfl : bs = [] := List.eq_nil_of_length_eq_zero h0
    cases A with
    | none => exact run_convert_bytes_nil (P := Tryd.prog) w 36 5 Tryd.underlying36 Tryd.underlying5 0 c 9 Tryd.underlying9
    | some ad =>
      obtain ⟨b, o, sp⟩ := ad
      rw [run_convert_bytes_string w 36 9 5 _ _ c Tryd.underlying36 Tryd.underlying5 Tryd.underlying9]
      have hl : (loadCells ⟨b, o, sp⟩ 0).run Tryd.prog w = .ok (([] : List Int).map (Value.int .u8)).toArray w := run_loadCells_list (P := Tryd.prog) w ⟨b, o, sp⟩ [] (fun j v hj => by simp at hj)
      rw [show ([] : List Nat).length = 0 from rfl, run_bytesToString w _ 0 c [] hl]
      rfl
  · obtain ⟨b, o, rfl, _, _⟩ := h.spot h0
    have e := run_convert_bytes_arg (P := Tryd.prog) w 36 5 Tryd.underlying36 Tryd.underlying5 b o bs.length c (bs.map fun b : Nat => (b : Int)) (by simp) (fun i hi => by
      obtain ⟨b', o', e, _, hc⟩ := h.spot hi
      injection e with e
      injection e with e1 e2
      subst e1 e2
      rw [hc, U8s_get bs i hi]
      simp [List.getD, List.getElem?_eq_getElem hi]) 9 Tryd.underlying9
    rw [e]
    simp [strOfNums, strOf, Function.comp_def]

end Go.Proofs.YtmlbhlfjaagcaaaDoor

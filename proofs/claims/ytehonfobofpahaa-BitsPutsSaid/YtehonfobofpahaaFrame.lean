/- How the arguments of a law read: slices of int, byte and bool, as lists, with the reach of their sizes. -/
import Derived.Test.YtehonfobofpahaaRows
import Derived.Test.YtehonfobofpahaaArgs
import Derived.WalkKit
import Derived.ProofKit
import Derived.OpenShut
import Derived.ShutString
import Derived.ChangeOld
import Derived.SizedLaws
import Derived.Deep.Grids
namespace Go.Proofs.Ytehonfobofpahaa
open Go.ChangeShapes Go.WideShapes Go.ChangeAt Go.RowKit

theorem Try.own : ownKnob Try.prog.godebug = none := by kernel_rfl
theorem Try.laidOut : laidOutB Try.prog = true := by kernel_rfl
theorem Try.cells3 : Try.prog.cellsOf 3 = 1 := by kernel_rfl
theorem Try.cells4 : Try.prog.cellsOf 4 = 1 := by kernel_rfl
theorem Try.cells5 : Try.prog.cellsOf 5 = 1 := by kernel_rfl
theorem Try.bytes3 : Try.prog.bytesOf 3 = 8 := by kernel_rfl
theorem Try.bytes5 : Try.prog.bytesOf 5 = 1 := by kernel_rfl

/-- What a datum says of a slice's length. -/
def LenOf {H : Type} (d : DataW H) (len : Nat) : Prop := len = 0 ∨ ∃ elems spare, d = .slice elems spare ∧ elems.length = len

theorem reads_of {w : World} {x : Addr} {len : Nat} {cs : List Value} (hl : cs.length = len) (hc : ∀ i, i < len → w.cell? (x.add i) = cs[i]?) : Reads w w.heap.size (some x) len cs := by
  refine ⟨hl, fun hn => ⟨x, rfl, ?_, fun j u hu => ?_⟩⟩
  · have h0 := hc 0 hn
    rw [List.getElem?_eq_getElem (by omega)] at h0
    have hb := World.block_lt_of_cell? w _ h0
    rwa [block_of_add] at hb
  · have hj : j < len := by
      rcases Nat.lt_or_ge j len with h | h
      · exact h
      · rw [List.getElem?_eq_none (by omega)] at hu; cases hu
    rw [hc j hj, hu]

section
variable {H : Type} {enc : TypeId × Value → H} {W : World} {a : Option Addr} {len cap : Nat} {d : DataW H} {p : List MemPlace}

theorem open_i64s (h : DataW.Trod enc Try.prog W 0 (fun _ => true) true 22 (.slice a len cap) d p) :
    ∃ zs : List Int, Reads W W.heap.size a len (Ints zs) ∧ len ≤ maxLen ∧ (∀ n ∈ zs, (Lit.int .i64 n).wf = true) ∧ LenOf d len := by
  obtain ⟨fuel, hf⟩ := h
  rcases open_ints Try.underlying22 Try.underlying3 Try.cells3 hf with ⟨hcs, _⟩ | ⟨x, l, c, zs, hcs, _, hl, hm, hz, hx, hcell, hwz⟩
  · simp [Value.cells] at hcs
    obtain ⟨rfl, rfl, rfl⟩ := hcs
    exact ⟨[], ⟨rfl, fun h => absurd h (by omega)⟩, by unfold maxLen; omega, by simp, .inl rfl⟩
  · simp [Value.cells] at hcs
    obtain ⟨rfl, rfl, rfl⟩ := hcs
    simp only [if_true] at hz
    have hd : d = .slice (lits .i64 (zs.take len)) (lits .i64 (zs.drop len)) := (Prod.mk.inj hx).1
    refine ⟨zs.take len, reads_of (by simp [Ints]; omega) (fun i hi => ?_), by omega, fun n hn => hwz n (List.mem_of_mem_take hn), .inr ⟨_, _, hd, by simp [lits]; omega⟩⟩
    rw [hcell i (by omega)]
    simp [Ints, List.getD, hi, List.getElem?_eq_getElem (show i < zs.length by omega)]

theorem open_u8s (h : DataW.Trod enc Try.prog W 0 (fun _ => true) true 32 (.slice a len cap) d p) :
    ∃ bs : List Nat, bs.length = len ∧ Reads W W.heap.size a len (U8s bs) ∧ len ≤ maxLen ∧ (∀ i, bs.getD i 0 < 256) ∧ LenOf d len := by
  obtain ⟨fuel, hf⟩ := h
  rcases open_ints Try.underlying32 Try.underlying5 Try.cells5 hf with ⟨hcs, _⟩ | ⟨x, l, c, zs, hcs, _, hl, hm, hz, hx, hcell, hwz⟩
  · simp [Value.cells] at hcs
    obtain ⟨rfl, rfl, rfl⟩ := hcs
    exact ⟨[], rfl, ⟨rfl, fun h => absurd h (by omega)⟩, by unfold maxLen; omega, fun i => by simp, .inl rfl⟩
  · simp [Value.cells] at hcs
    obtain ⟨rfl, rfl, rfl⟩ := hcs
    simp only [if_true] at hz
    have hd : d = .slice (lits .u8 (zs.take len)) (lits .u8 (zs.drop len)) := (Prod.mk.inj hx).1
    have hrange : ∀ n ∈ zs, 0 ≤ n ∧ n ≤ 255 := fun n hn => by
      have h := hwz n hn
      have h1 : IntKind.u8.min = 0 := rfl
      have h2 : IntKind.u8.max = 255 := rfl
      simp only [Lit.wf, Bool.and_eq_true, decide_eq_true_eq, h1, h2] at h
      exact h
    refine ⟨(zs.take len).map Int.toNat, by simp; omega, reads_of (by simp [U8s]; omega) (fun i hi => ?_), by omega, fun i => ?_, .inr ⟨_, _, hd, by simp [lits]; omega⟩⟩
    · have hi' : i < zs.length := by omega
      have hr := hrange zs[i] (List.getElem_mem hi')
      rw [hcell i hi']
      simp [U8s, List.getD, hi, List.getElem?_eq_getElem hi']
      omega
    · rw [List.getD_eq_getElem?_getD]
      rcases Nat.lt_or_ge i ((zs.take len).map Int.toNat).length with h | h
      · rw [List.getElem?_eq_getElem h]
        have hi' : i < zs.length := by simp at h; omega
        have hr := hrange zs[i] (List.getElem_mem hi')
        simp
        omega
      · rw [List.getElem?_eq_none h]; decide

theorem open_bs (h : DataW.Trod enc Try.prog W 0 (fun _ => true) true 26 (.slice a len cap) d p) :
    ∃ bs : List Bool, Reads W W.heap.size a len (Bools bs) ∧ len ≤ maxLen := by
  obtain ⟨fuel, hf⟩ := h
  rcases Deep.open_bools Try.underlying26 Try.underlying4 Try.cells4 hf with ⟨hcs, _⟩ | ⟨x, l, c, B, hcs, _, hl, hm, hx, hcell⟩
  · simp [Value.cells] at hcs
    obtain ⟨rfl, rfl, rfl⟩ := hcs
    exact ⟨[], ⟨rfl, fun h => absurd h (by omega)⟩, by unfold maxLen; omega⟩
  · simp [Value.cells] at hcs
    obtain ⟨rfl, rfl, rfl⟩ := hcs
    refine ⟨(List.range len).map B, reads_of (by simp [Bools]) (fun i hi => ?_), by omega⟩
    rw [hcell i (by omega)]
    simp [Bools, hi]

theorem reach_of {ts : List TypeId} {ds : List (DataW H)} (hsz : (DataW.weightsEach Try.prog ts ds).all (· ≤ reachBytes) = true) {j : Nat} {t e : TypeId} {k : Nat} (ht : ts[j]? = some t) (hd : ds[j]? = some d) (hu : Try.prog.underlying t = some (.slice e))
    (hb : Try.prog.bytesOf e = k) (hl : LenOf d len) : len * k ≤ 140737488351232 := by
  rcases hl with rfl | ⟨elems, spare, rfl, rfl⟩
  · simp
  · have := sized_slice hsz ht hd hu
    rw [hb] at this
    simp only [reachBytes] at this
    exact Nat.le_trans (Nat.mul_le_mul_right _ (Nat.le_add_right _ _)) this
end

end Go.Proofs.Ytehonfobofpahaa

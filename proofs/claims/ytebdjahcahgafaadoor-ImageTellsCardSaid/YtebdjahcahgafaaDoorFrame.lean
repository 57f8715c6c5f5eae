/- How the arguments of a law read: what a datum says of a slice's length, and the reach of its size. -/
import Derived.Test.YtebdjahcahgafaaDoorRows
import Derived.Test.YtebdjahcahgafaaDoorArgs
import Derived.WalkKit
import Derived.ProofKit
import Derived.OpenShut
import Derived.ShutString
import Derived.ChangeOld
import Derived.SizedLaws
namespace Go.Proofs.YtebdjahcahgafaaDoor
open Go.ChangeShapes Go.WideShapes Go.ChangeAt Go.RowKit

theorem Tryd.own : ownKnob Tryd.prog.godebug = none := by kernel_rfl
theorem Tryd.laidOut : laidOutB Tryd.prog = true := by kernel_rfl

/-- What a datum says of a slice's length. -/
def LenOf {H : Type} (d : DataW H) (len : Nat) : Prop := len = 0 ∨ ∃ elems spare, d = .slice elems spare ∧ elems.length = len

theorem reads_of {w : World} {x : Addr} {len : Nat} {cs : List Value} (hl : cs.length = len) (hc : ∀ i, i < len → w.cell? (x.add i) = cs[i]?) : Reads w w.heap.size (some x) len cs := by
  refine ⟨hl, fun hn => ⟨x, rfl, ?_, fun j u hu => ?_⟩⟩
  · have h0 := hc 0 hn
    rw [List.getElem?_eq_getElem (by omega)] at h0
    have hb := World.block_lt_of_cell? w _ h0
    rwa [block_of_add] at hb
  · have hj : j < len := by
      rcases Nat.lt_or_ge j len with h | h
      · exact h
      · rw [List.getElem?_eq_none (by omega)] at hu; cases hu
    rw [hc j hj, hu]

section
variable {H : Type} {len : Nat} {d : DataW H}
theorem reach_of {ts : List TypeId} {ds : List (DataW H)} (hsz : (DataW.weightsEach Tryd.prog ts ds).all (· ≤ reachBytes) = true) {j : Nat} {t e : TypeId} {k : Nat} (ht : ts[j]? = some t) (hd : ds[j]? = some d) (hu : Tryd.prog.underlying t = some (.slice e))
    (hb : Tryd.prog.bytesOf e = k) (hl : LenOf d len) : len * k ≤ 140737488351232 := by
  rcases hl with rfl | ⟨elems, spare, rfl, rfl⟩
  · simp
  · have := sized_slice hsz ht hd hu
    rw [hb] at this
    simp only [reachBytes] at this
    exact Nat.le_trans (Nat.mul_le_mul_right _ (Nat.le_add_right _ _)) this
end

end Go.Proofs.YtebdjahcahgafaaDoor

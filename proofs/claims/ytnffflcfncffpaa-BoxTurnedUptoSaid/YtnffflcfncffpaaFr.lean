/- How a pair that came in reads. -/
import Derived.Test.YtnffflcfncffpaaRows
import Derived.Test.YtnffflcfncffpaaVLeaf
import Derived.WalkKit
import Derived.ProofKit
import Derived.OpenShut
import Derived.ChangeOld
import Derived.Below
import Derived.Lib.SmallJoins
namespace Go.Proofs.Ytnffflcfncffpaa
open Go.ChangeShapes Go.WideShapes Go.ChangeAt Go.RowKit Go.Joins

theorem own : ownKnob Try.prog.godebug = none := by kernel_rfl
theorem laidOut : laidOutB Try.prog = true := by kernel_rfl
theorem cells23 : Try.prog.cellsOf 23 = 2 := by kernel_rfl

theorem wf_range {n : Int} (h : (Lit.int .i64 n).wf = true) : I64 n := by
  have h1 : IntKind.i64.min = -9223372036854775808 := rfl
  have h2 : IntKind.i64.max = 9223372036854775807 := rfl
  simp only [Lit.wf, Bool.and_eq_true, decide_eq_true_eq, h1, h2] at h
  unfold I64
  omega

section
variable {H : Type} {enc : TypeId × Value → H} {W : World} {base : Nat} {v : Value} {d : DataW H} {p : List MemPlace}

theorem int_of_trod {m : Nat} {c : Value} {x : DataW H × List MemPlace} (h : DataW.trod enc Try.prog W 0 (fun _ => true) true m 3 [c] = some x) : ∃ a : Int, c = .int .i64 a ∧ I64 a := by
  obtain ⟨a, ea, _, wa⟩ := DataW.trod_int Try.underlying3 h
  exact ⟨a, by simpa using ea, wf_range wa⟩

theorem open_vec (hval : Value.okWide Try.prog W .any base 23 v) (h : DataW.Trod enc Try.prog W 0 (fun _ => true) true 23 v d p) :
    ∃ x y : Int, v = vecV x y ∧ I64 x ∧ I64 y := by
  obtain ⟨v0, v1, y0, y1, n, rfl, _, _, h0, h1⟩ := open_agg2 Try.underlying23 (by kernel_rfl) cells23 hval h
  obtain ⟨a, rfl, ha⟩ := int_of_trod h0
  obtain ⟨b, rfl, hb⟩ := int_of_trod h1
  exact ⟨a, b, rfl, ha, hb⟩
end
end Go.Proofs.Ytnffflcfncffpaa

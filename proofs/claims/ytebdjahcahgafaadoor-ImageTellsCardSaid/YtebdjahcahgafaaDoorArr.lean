/- An array of four bytes that came in, opened. -/
import Derived.Test.YtebdjahcahgafaaDoorDr
namespace Go.Proofs.YtebdjahcahgafaaDoor
open Go.ChangeShapes Go.WideShapes Go.ChangeAt Go.RowKit

theorem cells43 : Tryd.prog.cellsOf 44 = 4 := by kernel_rfl
theorem cells5 : Tryd.prog.cellsOf 5 = 1 := by kernel_rfl

section
variable {H : Type} {enc : TypeId × Value → H} {W : World} {base : Nat} {v : Value} {d : DataW H} {p : List MemPlace}

theorem byte_of_trod {m : Nat} {c : Value} {x : DataW H × List MemPlace} (h : DataW.trod enc Tryd.prog W 0 (fun _ => true) true m 5 [c] = some x) : ∃ a : Nat, c = .int .u8 (a : Int) ∧ a < 256 := by
  obtain ⟨a, ea, _, wa⟩ := DataW.trod_int Tryd.underlying5 h
  have h1 : IntKind.u8.min = 0 := rfl
  have h2 : IntKind.u8.max = 255 := rfl
  simp only [Lit.wf, Bool.and_eq_true, decide_eq_true_eq, h1, h2] at wa
  refine ⟨a.toNat, ?_, by omega⟩
  have e : c = .int .u8 a := by simpa using ea
  rw [e, Int.toNat_of_nonneg wa.1]

set_option maxRecDepth 100000 in
theorem open_arr4 (hval : Value.okWide Tryd.prog W .any base 44 v) (h : DataW.Trod enc Tryd.prog W 0 (fun _ => true) true 44 v d p) :
    ∃ a0 a1 a2 a3 : Nat, v = .agg #[.int .u8 (a0 : Int), .int .u8 (a1 : Int), .int .u8 (a2 : Int), .int .u8 (a3 : Int)] ∧ ∀ x ∈ [a0, a1, a2, a3], x < 256 := by
  simp only [Value.okWide, Tryd.underlying44] at hval
  obtain ⟨cs, rfl, hs, _⟩ := hval
  rw [cells43] at hs
  obtain ⟨fuel, hf⟩ := h
  cases fuel with
  | zero => simp [DataW.trod] at hf
  | succ m =>
    rw [DataW.trod_step] at hf
    unfold DataW.trodStep at hf
    simp only [Tryd.underlying44, Value.cells] at hf
    rw [if_pos (by rw [cells43]; simpa using hs)] at hf
    simp only [Option.map_eq_some_iff] at hf
    obtain ⟨ys, hy, _⟩ := hf
    match cs, hs with
    | ⟨[c0, c1, c2, c3]⟩, _ =>
      simp [cells5, List.range, List.range.loop, List.mapM_cons, Option.bind_eq_some_iff] at hy
      obtain ⟨_, _, t0, _, ⟨_, _, t1, _, ⟨_, _, t2, _, ⟨_, _, t3, _⟩, _⟩, _⟩, _⟩ := hy
      obtain ⟨a0, rfl, l0⟩ := byte_of_trod t0
      obtain ⟨a1, rfl, l1⟩ := byte_of_trod t1
      obtain ⟨a2, rfl, l2⟩ := byte_of_trod t2
      obtain ⟨a3, rfl, l3⟩ := byte_of_trod t3
      refine ⟨a0, a1, a2, a3, rfl, fun x hx => ?_⟩
      simp only [List.mem_cons, List.not_mem_nil, or_false] at hx
      rcases hx with rfl | rfl | rfl | rfl <;> assumption

end
end Go.Proofs.YtebdjahcahgafaaDoor

/- The contract of put: bytes, and behind them the bytes of a number. -/
import Derived.Test.YtmlbhlfjaagcaaaDoorJoin
import Derived.Test.YtmlbhlfjaagcaaaDoorVar
import Derived.Test.YtmlbhlfjaagcaaaDoorOps
import Derived.Deep.LoopGhost
import Derived.Deep.DeepCutAuto
namespace Go.Proofs.YtmlbhlfjaagcaaaDoor
open Go.RowKit

theorem U8s_reads {w : World} {g n t c : Nat} {xs ys : List Nat} (h : Blk w g t (U8s (xs ++ ys)).toArray) (hn : n = xs.length) (hc : xs.length ≤ c) : SlB w (.slice (some ⟨g, 0, none⟩) n c) xs := by
  subst hn
  refine ⟨_, c, rfl, hc, (fun e => nomatch e), by rw [U8s_length], fun _ => ⟨_, rfl, h.lt, fun j u hu => ?_⟩⟩
  have e : (⟨g, 0, none⟩ : Addr).add j = ⟨g, j, none⟩ := by unfold Addr.add; split <;> simp_all
  rw [e, h.cell, U8s_append, List.getElem?_toArray, List.getElem?_append_left (List.getElem?_eq_some_iff.1 hu).1]
  exact hu

theorem size_u8 (w : World) : (sizeOf 5).run Tryd.prog w = .ok 1 w := by
  have h : Tryd.t5.size = 1 := by kernel_rfl
  simp [sizeOf, h]
theorem or128 : ∀ b, b < 256 → (b ||| 128) = b % 128 + 128 := by decide +kernel

theorem u8_or128 (y : Nat) : bits BinOp.or IntKind.u8 ((y : Int) % 256) 128 = ((y % 128 + 128 : Nat) : Int) := by
  have h := u8_or_nat (y % 256) 128 (Nat.mod_lt _ (by omega)) (by omega)
  have e : ((y % 256 : Nat) : Int) = (y : Int) % 256 := by omega
  rw [e] at h
  rw [show ((128 : Nat) : Int) = 128 from rfl] at h
  rw [h]
  congr 1
  rw [or128 _ (Nat.mod_lt _ (by omega))]
  omega

end Go.Proofs.YtmlbhlfjaagcaaaDoor

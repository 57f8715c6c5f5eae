/- The reference's square. -/
import Derived.Test.YtefaagacgoohjaaVPlus
import Derived.Deep.RegionHeld3
import Derived.Deep.DeepCutAuto
namespace Go.Proofs.Ytefaagacgoohjaa
open Go.RowKit

/-- The cells of a whole number of the reference. -/
abbrev bigR (m : Bool) (a0 a1 a2 a3 a4 a5 a6 a7 : Nat) : Array Value :=
  #[.bool m, .int .i64 (a0 : Int), .int .i64 (a1 : Int), .int .i64 (a2 : Int), .int .i64 (a3 : Int), .int .i64 (a4 : Int), .int .i64 (a5 : Int), .int .i64 (a6 : Int), .int .i64 (a7 : Int)]
theorem bigR_one (m : Bool) (a0 a1 a2 a3 a4 a5 a6 a7 : Nat) : (bigR m a0 a1 a2 a3 a4 a5 a6 a7).all (·.oneCell') = true := by simp [bigR, Value.oneCell']
theorem info51 : (Try.prog.info? 51).map (·.size) = some 9 := by kernel_rfl

set_option maxRecDepth 100000 in
set_option maxHeartbeats 1000000 in
theorem rsquare_any (n : Int) (w : World) (hn : I64 n) :
    Calls Try.prog 43 #[.int .i64 n] w fun e w' => (∃ c0 c1 c2 c3 c4 c5 c6 c7 : Nat, e = .returned (bigV false c0 c1 c2 c3 c4 c5 c6 c7) ∧ Dig8 c0 c1 c2 c3 c4 c5 c6 c7 ∧ vl8 c0 c1 c2 c3 c4 c5 c6 c7 = n.natAbs * n.natAbs) ∧ Below w.heap.size w w' := by
  have HO := Lib.hid (fun w => of_any n w hn.1 hn.2)
  clear hn
  generalize decide (n < 0) = sgn at *
  go_enter Try.func43, Try.ntmps43
  go_wp2_with fail
  refine (HO.out _).mono ?_
  rintro e w1 ⟨⟨a0, a1, a2, a3, rfl, da, va⟩, hb⟩
  have hk : Blk w1 w.heap.size 51 (bigR false 0 0 0 0 0 0 0 0) := last_blk hb
  have HA := Lib.hid (And.intro da va)
  have HK := Lib.hid hk
  have HB := Lib.hid (bt ((Below.refl _ _).alloc (Nat.le_refl _) _) hb)
  clear da va hb hk HO
  go_wp2_with fail
  refine (times_big _ _ a0 a1 a2 a3 a0 a1 a2 a3 _ HA.out.1 HA.out.1).mono ?_
  rintro e w2 ⟨⟨c0, c1, c2, c3, c4, c5, c6, c7, rfl, dc, vc⟩, hb⟩
  rw [HA.out.2] at vc
  have hk := (HK.out.alloc _).below hb (HK.out.alloc _).lt
  have HK2 := Lib.hid hk
  have HC := Lib.hid (And.intro dc vc)
  have HB2 := Lib.hid (bt (HB.out.alloc HB.out.size _) hb)
  rw [show (!(sgn == sgn)) = false by cases sgn <;> rfl]
  clear dc vc hb hk HK HB HA
  rename_i hK
  refine hK _ _ ?_
  refine wpList_store_row rfl 51 (.tmp 2) (.tmp 8) rfl w.heap.size (bigR false c0 c1 c2 c3 c4 c5 c6 c7) rfl rfl 51 (bigR false 0 0 0 0 0 0 0 0) HK2.out info51 rfl (bigR_one ..) ?_
  have HN := Lib.hid (And.intro (HK2.out.setRow_ (bigR false c0 c1 c2 c3 c4 c5 c6 c7)) (bsr HB2.out (Nat.le_refl _) (bigR false c0 c1 c2 c3 c4 c5 c6 c7)))
  generalize w2.setRow w.heap.size (bigR false c0 c1 c2 c3 c4 c5 c6 c7) = w3 at *
  clear hK HK2 HB2
  go_wp2_with fail
  exact bodyPost_ret (results_cell_row rfl _ _ w.heap.size 51 (bigR false c0 c1 c2 c3 c4 c5 c6 c7) (0, 0) _ rfl HN.out.1 Try.underlying51 rfl info51) rfl ⟨⟨c0, c1, c2, c3, c4, c5, c6, c7, rfl, HC.out.1, HC.out.2⟩, HN.out.2⟩
end Go.Proofs.Ytefaagacgoohjaa

/- The document's examples come out right. -/
import Derived.Test.YtnffflcfncffpaaBGo
namespace Go.Proofs.Ytnffflcfncffpaa
open Go.RowKit

abbrev aw1 : Bx := ⟨0, 0, 4294967296⟩
abbrev aw2 : List Bx := [⟨21474836480, 0, 4294967296⟩]

/-- What awake's memory holds. -/
abbrev AW (w : World) (g h : Nat) (w1 : World) : Prop := w1.cell? ⟨g, 0, none⟩ = some (.int .i64 0) ∧ w1.cell? ⟨g, 1, none⟩ = some (.int .i64 0) ∧ w1.cell? ⟨g, 2, none⟩ = some (.int .i64 4294967296) ∧ w1.cell? ⟨h, 0, none⟩ = some (.int .i64 21474836480) ∧ w1.cell? ⟨h, 1, none⟩ = some (.int .i64 0) ∧ w1.cell? ⟨h, 2, none⟩ = some (.int .i64 4294967296) ∧ Blk w1 g 25 (boxR 0 0 4294967296) ∧ Blk w1 h 25 (boxR 21474836480 0 4294967296) ∧ Below w.heap.size w w1
section
variable {w w1 w2 : World} {g h : Nat}
theorem AW.make (k : Blk w1 g 25 (boxR 0 0 4294967296)) (m : Blk w1 h 25 (boxR 21474836480 0 4294967296)) (b : Below w.heap.size w w1) : AW w g h w1 := ⟨k.cell 0, k.cell 1, k.cell 2, m.cell 0, m.cell 1, m.cell 2, k, m, b⟩
theorem AW.keep (a : AW w g h w1) (hb : Below w1.heap.size w1 w2) : AW w g h w2 := by
  obtain ⟨_, _, _, _, _, _, h1, h2, h3⟩ := a
  exact AW.make (h1.below hb h1.lt) (h2.below hb h2.lt) (vbt h3 hb)
theorem AW.rbox (a : AW w g h w1) : RBox w1 w1.heap.size (some ⟨h, 0, none⟩) 1 aw2 := by
  obtain ⟨_, _, _, h1, h2, h3, _, h4, _⟩ := a
  refine ⟨rfl, fun k hk => ?_, fun _ => ⟨h, 0, rfl, h4.lt, fun k hk => ?_⟩⟩
  · obtain rfl : k = 0 := by omega
    unfold I64; decide
  · obtain rfl : k = 0 := by omega
    exact ⟨h1, h2, h3⟩
end

theorem awake_c (w : World) : Calls Try.prog 11 #[] w fun e w' => e = .returned (.bool true) ∧ Below w.heap.size w w' := by
  have G1 := Lib.hid (fun w => gap_c 0 0 4294967296 21474836480 0 4294967296 w (by unfold I64; omega) (by unfold I64; omega) (by unfold I64; omega) (by unfold I64; omega))
  have G2 := Lib.hid (fun w => meet_c 0 0 4294967296 0 0 4294967296 w (by unfold I64; omega) (by unfold I64; omega) (by unfold I64; omega) (by unfold I64; omega))
  have G3 := Lib.hid (fun h w hL => Push_c aw1 0 17179869184 (some ⟨h, 0, none⟩) 1 1 aw2 w (by unfold I64; decide) (by unfold I64; decide) (by unfold I64; omega) (by omega) hL)
  have G4 := Lib.hid (fun h w hL => Push_c aw1 0 12884901888 (some ⟨h, 0, none⟩) 1 1 aw2 w (by unfold I64; decide) (by unfold I64; decide) (by unfold I64; omega) (by omega) hL)
  have G5 := Lib.hid (fun w => right_c 0 0 0 w (by unfold I64; omega) (by unfold I64; omega))
  rw [show numB (okB 0 0 4294967296 21474836480 0 4294967296) (gapF 0 21474836480 4294967296 4294967296) = 12884901888 by decide, show numB (okB 0 0 4294967296 21474836480 0 4294967296) (gapF 0 0 4294967296 4294967296) = -8589934592 by decide, show errB (okB 0 0 4294967296 21474836480 0 4294967296) = 0 by decide] at G1
  rw [show meetB 0 0 4294967296 0 0 4294967296 = true by decide, show errB (okB 0 0 4294967296 0 0 4294967296) = 0 by decide] at G2
  rw [show pWay 0 aw1 17179869184 aw2 = 12884901888 by decide, show pWho 0 aw1 17179869184 aw2 = 0 by decide, show errP 0 aw1 17179869184 aw2 = 0 by decide] at G3
  rw [show pWay 0 aw1 12884901888 aw2 = 12884901888 by decide, show pWho 0 aw1 12884901888 aw2 = -1 by decide, show errP 0 aw1 12884901888 aw2 = 0 by decide] at G4
  rw [show errR 0 0 0 = 60 by decide] at G5
  go_enter Try.func11, Try.ntmps11
  go_upto_region 3 with (fail)
  have k1 := (Blk.new w 25 (boxR 0 0 4294967296)).alloc (.cells (boxR 21474836480 0 4294967296) 25)
  have k2 := Blk.new (w.alloc (.cells (boxR 0 0 4294967296) 25)) 25 (boxR 21474836480 0 4294967296)
  rw [show (w.alloc (.cells (boxR 0 0 4294967296) 25)).heap.size = w.heap.size + 1 by simp] at k2
  have HA := Lib.hid (AW.make k1 k2 (bel2 w _ _))
  clear k1 k2
  generalize (w.alloc (.cells (boxR 0 0 4294967296) 25)).alloc (.cells (boxR 21474836480 0 4294967296) 25) = w1 at *
  have HX0 := Lib.hid (HA.out.keep (below_draw (Below.refl _ _) 1))
  go_region_held3 (AW w w.heap.size (w.heap.size + 1)) (first | exact HX0.out | assumption) (first | (go_at_call 12; refine (G1.out _).mono ?_; rintro e w6 ⟨rfl, hb⟩; have hS6 := AW.keep (by assumption) hb; clear hb))
  obtain ⟨c0, c1, c2, _⟩ := id hS6
  have HA := Lib.hid hS6
  clear hS6 HX0
  go_wp2_with fail
  refine (G2.out _).mono ?_
  rintro e w2 ⟨rfl, hb⟩
  have hA := HA.out.keep hb
  clear c0 c1 c2 hb
  obtain ⟨c0, c1, c2, _⟩ := id hA
  have HA := Lib.hid hA
  clear hA
  go_wp2_with fail
  refine (G3.out _ _ HA.out.rbox).mono ?_
  rintro e w3 ⟨rfl, hb⟩
  have hA := HA.out.keep hb
  clear c0 c1 c2 hb
  obtain ⟨c0, c1, c2, _⟩ := id hA
  have HA := Lib.hid hA
  clear hA
  go_wp2_with fail
  refine (G4.out _ _ HA.out.rbox).mono ?_
  rintro e w4 ⟨rfl, hb⟩
  have hA := HA.out.keep hb
  clear c0 c1 c2 hb
  have HA := Lib.hid hA
  clear hA
  go_wp2_with fail
  refine (G5.out _).mono ?_
  rintro e w5 ⟨rfl, hb⟩
  have HB := Lib.hid (vbt HA.out.2.2.2.2.2.2.2.2 hb)
  clear hb
  go_wp2_with fail
  go_ret
  exact ⟨rfl, HB.out⟩
end Go.Proofs.Ytnffflcfncffpaa

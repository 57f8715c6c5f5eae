/- The walk of BoxAlike. (By tools/genalike.py.) -/
import Derived.Test.YtnffflcfncffpaaTellsWalk
namespace Go.Proofs.Ytnffflcfncffpaa
open Go.RowKit

theorem turned_c (x y r : Int) (w : World) :
    Calls Try.prog 26 #[boxV x y r] w fun e w' => e = .returned (boxV y x r) ∧ Below w.heap.size w w' := by
  have HB := Lib.hid (bel2 w)
  go_enter Try.func26, Try.ntmps26
  go_wp2_with fail
  exact bodyPost_ret (v := boxV y x r) (by simp [results, Try.results26, go_sem]) rfl ⟨rfl, HB.out _ _⟩

theorem mirrored_c (x y r : Int) (w : World) (hx : -1152921504606846976 ≤ x ∧ x ≤ 1152921504606846976) :
    Calls Try.prog 27 #[boxV x y r] w fun e w' => e = .returned (boxV (-x) y r) ∧ Below w.heap.size w w' := by
  have HB := Lib.hid (bel2 w)
  have e1 : wrap64 (-x) = -x := IntWalk.wrap64_in _ (by omega)
  clear hx
  go_enter Try.func27, Try.ntmps27
  go_wp2_with fail
  exact bodyPost_ret (v := boxV (-x) y r) (by simp [results, Try.results27, go_sem, e1]) rfl ⟨rfl, HB.out _ _⟩

/-- What the regions of BoxAlike read, and what stays. -/
abbrev AS (w : World) (x y r u v s p q : Int) (w1 : World) : Prop := w1.cell? ⟨w.heap.size, 0, none⟩ = some (.int .i64 x) ∧ w1.cell? ⟨w.heap.size, 1, none⟩ = some (.int .i64 y) ∧ w1.cell? ⟨w.heap.size, 2, none⟩ = some (.int .i64 r) ∧ w1.cell? ⟨w.heap.size + 1, 0, none⟩ = some (.int .i64 u) ∧ w1.cell? ⟨w.heap.size + 1, 1, none⟩ = some (.int .i64 v) ∧ w1.cell? ⟨w.heap.size + 1, 2, none⟩ = some (.int .i64 s) ∧ TS w w1 x y r u v s p q
theorem AS.make {w w1 : World} {x y r u v s p q : Int} (h : TS w w1 x y r u v s p q) : AS w x y r u v s p q w1 := ⟨h.a.cell 0, h.a.cell 1, h.a.cell 2, h.b.cell 0, h.b.cell 1, h.b.cell 2, h⟩
theorem AS.keep {w w1 w2 : World} {x y r u v s p q : Int} (h : AS w x y r u v s p q w1) (hb : Below w1.heap.size w1 w2) : AS w x y r u v s p q w2 := AS.make (h.2.2.2.2.2.2.below hb)

theorem right_turn {x y r : Int} (h : rightB x y r = true) : rightB y x r = true := by
  have := rightB_spec.1 h
  exact rightB_spec.2 ⟨by omega, by omega, by omega⟩
theorem right_mirror {x y r : Int} (h : rightB x y r = true) : rightB (-x) y r = true := by
  have := rightB_spec.1 h
  exact rightB_spec.2 ⟨by omega, by omega, by omega⟩
theorem gapF_comm (x u r s : Int) : gapF u x s r = gapF x u r s := by unfold gapF; omega
theorem gapF_neg (x u r s : Int) : gapF (-x) (-u) r s = gapF x u r s := by unfold gapF; omega
theorem gapF_move (x u r s p : Int) : gapF (x + p) (u + p) r s = gapF x u r s := by unfold gapF; omega

set_option maxRecDepth 100000 in
set_option maxHeartbeats 1000000 in
theorem alike_walk (x y r u v s p q : Int) (w : World) (hx : I64 x) (hy : I64 y) (hu : I64 u) (hv : I64 v) :
    Calls Try.prog 5 #[boxV x y r, boxV u v s, vecV p q] w fun e w' => e = .returned (.bool true) ∧ Below w.heap.size w w' := by
  have HA := Lib.hid (fun w => awake_c w)
  have C1 := Lib.hid (fun w => right_c x y r w hx hy)
  have C2 := Lib.hid (fun w => right_c u v s w hu hv)
  unfold errR at C1 C2
  by_cases hok : rightB x y r = true ∧ rightB u v s = true
  · obtain ⟨h1, h2⟩ := hok
    rw [h1, if_pos rfl] at C1
    rw [h2, if_pos rfl] at C2
    have s1 := rightB_spec.1 h1
    have s2 := rightB_spec.1 h2
    have G1 := Lib.hid (fun w => gap_ok x y r u v s w h1 h2)
    have G2 := Lib.hid (fun w => gap_ok u v s x y r w h2 h1)
    have G3 := Lib.hid (fun w => gap_ok y x r v u s w (right_turn h1) (right_turn h2))
    have G4 := Lib.hid (fun w => gap_ok (-x) y r (-u) v s w (right_mirror h1) (right_mirror h2))
    have G5 := Lib.hid (fun w => meet_c x y r u v s w hx hy hu hv)
    have eok : okB x y r u v s = true := by unfold okB; rw [h1, h2]; rfl
    have em : meetB x y r u v s = (decide (gapF x u r s < 0) && decide (gapF y v r s < 0)) := by unfold meetB; rw [eok, Bool.true_and]
    rw [em, eok] at G5
    rw [gapF_comm x u r s, gapF_comm y v r s] at G2
    rw [gapF_neg] at G4
    have Z := Lib.hid (show ((-1000 ≤ p ∧ p ≤ 1000) ∧ (-1000 ≤ q ∧ q ≤ 1000)) → wrap64 (x + p) = x + p ∧ wrap64 (y + q) = y + q ∧ wrap64 (u + p) = u + p ∧ wrap64 (v + q) = v + q ∧ ∀ w, Calls Try.prog 12 #[boxV (x + p) (y + q) r, boxV (u + p) (v + q) s] w fun e w' => e = .returned (.tuple #[.int .i64 (numB (okB (x + p) (y + q) r (u + p) (v + q) s) (gapF x u r s)), .int .i64 (numB (okB (x + p) (y + q) r (u + p) (v + q) s) (gapF y v r s)), .int .i64 (errB (okB (x + p) (y + q) r (u + p) (v + q) s))]) ∧ Below w.heap.size w w' from by
      intro h
      refine ⟨IntWalk.wrap64_in _ (by omega), IntWalk.wrap64_in _ (by omega), IntWalk.wrap64_in _ (by omega), IntWalk.wrap64_in _ (by omega), fun w => ?_⟩
      have g := gap_c (x + p) (y + q) r (u + p) (v + q) s w (by unfold I64; omega) (by unfold I64; omega) (by unfold I64; omega) (by unfold I64; omega)
      rwa [gapF_move, gapF_move] at g)
    unfold errB at G5
    rw [if_pos rfl] at G5
    generalize gapF x u r s = X at *
    generalize gapF y v r s = Y at *
    have sx := s1.2.1
    have su := s2.2.1
    clear hx hy hu hv h1 h2 s1 s2 eok em
    go_enter Try.func5, Try.ntmps5
    go_wp2_with fail
    refine (HA.out _).mono ?_
    rintro e w1 ⟨rfl, hb⟩
    have HS := Lib.hid ((TS.make w x y r u v s p q).below hb)
    clear hb HA
    have c0 := HS.out.a.cell 0
    have c1 := HS.out.a.cell 1
    have c2 := HS.out.a.cell 2
    have c3 := HS.out.b.cell 0
    have c4 := HS.out.b.cell 1
    have c5 := HS.out.b.cell 2
    have c6 := HS.out.c.cell 0
    have c7 := HS.out.c.cell 1
    go_wp2_with fail
    refine (C1.out _).mono ?_
    rintro e w2 ⟨rfl, hb⟩
    have HS := Lib.hid (HS.out.below hb)
    clear hb c0 c1 c2 c3 c4 c5 c6 c7
    have c0 := HS.out.a.cell 0
    have c1 := HS.out.a.cell 1
    have c2 := HS.out.a.cell 2
    have c3 := HS.out.b.cell 0
    have c4 := HS.out.b.cell 1
    have c5 := HS.out.b.cell 2
    have c6 := HS.out.c.cell 0
    have c7 := HS.out.c.cell 1
    go_wp2_with fail
    refine (C2.out _).mono ?_
    rintro e w2 ⟨rfl, hb⟩
    have HS := Lib.hid (HS.out.below hb)
    clear hb c0 c1 c2 c3 c4 c5 c6 c7
    have c0 := HS.out.a.cell 0
    have c1 := HS.out.a.cell 1
    have c2 := HS.out.a.cell 2
    have c3 := HS.out.b.cell 0
    have c4 := HS.out.b.cell 1
    have c5 := HS.out.b.cell 2
    have c6 := HS.out.c.cell 0
    have c7 := HS.out.c.cell 1
    go_wp2_with fail
    refine (G1.out _).mono ?_
    rintro e w2 ⟨rfl, hb⟩
    have HS := Lib.hid (HS.out.below hb)
    clear hb c0 c1 c2 c3 c4 c5 c6 c7
    have c0 := HS.out.a.cell 0
    have c1 := HS.out.a.cell 1
    have c2 := HS.out.a.cell 2
    have c3 := HS.out.b.cell 0
    have c4 := HS.out.b.cell 1
    have c5 := HS.out.b.cell 2
    have c6 := HS.out.c.cell 0
    have c7 := HS.out.c.cell 1
    go_wp2_with fail
    refine (G2.out _).mono ?_
    rintro e w2 ⟨rfl, hb⟩
    have HS := Lib.hid (HS.out.below hb)
    clear hb c0 c1 c2 c3 c4 c5 c6 c7
    go_upto_region 8 with (fail)
    have HX0 := Lib.hid (AS.make (HS.out.below (below_draw (Below.refl _ _) 1)))
    go_region_held3 (AS w x y r u v s p q) (first | exact HX0.out | assumption) (first | (go_at_call 26; refine (turned_c _ _ _ _).mono ?_; rintro e w6 ⟨rfl, hb⟩; have hS6 := AS.keep (by assumption) hb; clear hb) | (go_at_call 12; refine (G3.out _).mono ?_; rintro e w6 ⟨rfl, hb⟩; have hS6 := AS.keep (by assumption) hb; clear hb))
    have HS := Lib.hid hS6.2.2.2.2.2.2
    clear hS6 HX0
    go_upto_region 9 with (fail)
    have HX0 := Lib.hid (AS.make (HS.out.below (below_draw (Below.refl _ _) 1)))
    go_region_held3 (AS w x y r u v s p q) (first | exact HX0.out | assumption) (first | (go_at_call 27; refine (mirrored_c _ _ _ _ (by assumption)).mono ?_; rintro e w6 ⟨rfl, hb⟩; have hS6 := AS.keep (by assumption) hb; clear hb) | (go_at_call 12; refine (G4.out _).mono ?_; rintro e w6 ⟨rfl, hb⟩; have hS6 := AS.keep (by assumption) hb; clear hb))
    have HS := Lib.hid hS6.2.2.2.2.2.2
    clear hS6 HX0
    have c0 := HS.out.a.cell 0
    have c1 := HS.out.a.cell 1
    have c2 := HS.out.a.cell 2
    have c3 := HS.out.b.cell 0
    have c4 := HS.out.b.cell 1
    have c5 := HS.out.b.cell 2
    have c6 := HS.out.c.cell 0
    have c7 := HS.out.c.cell 1
    go_wp2_with fail
    refine (G5.out _).mono ?_
    rintro e w2 ⟨rfl, hb⟩
    have HS := Lib.hid (HS.out.below hb)
    clear hb c0 c1 c2 c3 c4 c5 c6 c7
    by_cases hX : X < 0
    · have d1 : decide (X < 0) = true := decide_eq_true hX
      clear hX
      go_upto_region 13 with (fail)
      clear d1
      have c0 := HS.out.a.cell 0
      have c1 := HS.out.a.cell 1
      have c2 := HS.out.a.cell 2
      have c6 := HS.out.c.cell 0
      have c7 := HS.out.c.cell 1
      by_cases p1 : 1000 < p
      · go_wp2_with fail
        go_ret
        exact ⟨rfl, HS.out.bel⟩
      have p1' : decide (1000 < p) = false := decide_eq_false p1
      by_cases p2 : p < -1000
      · clear p1
        go_wp2_with fail
        go_ret
        exact ⟨rfl, HS.out.bel⟩
      have p2' : decide (p < -1000) = false := decide_eq_false p2
      by_cases p3 : 1000 < q
      · clear p1 p2
        go_wp2_with fail
        go_ret
        exact ⟨rfl, HS.out.bel⟩
      have p3' : decide (1000 < q) = false := decide_eq_false p3
      by_cases p4 : q < -1000
      · clear p1 p2 p3
        go_wp2_with fail
        go_ret
        exact ⟨rfl, HS.out.bel⟩
      have p4' : decide (q < -1000) = false := decide_eq_false p4
      obtain ⟨z1, z2, z3, z4, gz⟩ := Z.out ⟨⟨by omega, by omega⟩, by omega, by omega⟩
      have GZ := Lib.hid gz
      clear p1 p2 p3 p4 gz
      go_upto_region 16 with (fail)
      have HS := Lib.hid (HS.out.below (bel1 _ (.cells (boxR (x + p) (y + q) r) 25)))
      clear c0 c1 c2 c6 c7 p1' p2' p3' p4'
      have c3 := HS.out.b.cell 0
      have c4 := HS.out.b.cell 1
      have c5 := HS.out.b.cell 2
      have c6 := HS.out.c.cell 0
      have c7 := HS.out.c.cell 1
      go_wp2_with fail
      refine (GZ.out _).mono ?_
      rintro e w9 ⟨rfl, hb⟩
      have HB := Lib.hid (vbt (vbt HS.out.bel (bel1 _ _)) hb)
      clear hb c3 c4 c5 c6 c7 z1 z2 z3 z4
      generalize okB (x + p) (y + q) r (u + p) (v + q) s = ok at *
      unfold numB errB
      cases ok
      · simp only [Bool.false_eq_true, if_false]
        go_wp2_with fail
        go_ret
        exact ⟨rfl, HB.out⟩
      · simp only [if_true]
        go_wp2_with fail
        go_ret
        exact ⟨rfl, HB.out⟩
    · have d1 : decide (X < 0) = false := decide_eq_false hX
      clear hX
      go_upto_region 13 with (fail)
      clear d1
      have c0 := HS.out.a.cell 0
      have c1 := HS.out.a.cell 1
      have c2 := HS.out.a.cell 2
      have c6 := HS.out.c.cell 0
      have c7 := HS.out.c.cell 1
      by_cases p1 : 1000 < p
      · go_wp2_with fail
        go_ret
        exact ⟨rfl, HS.out.bel⟩
      have p1' : decide (1000 < p) = false := decide_eq_false p1
      by_cases p2 : p < -1000
      · clear p1
        go_wp2_with fail
        go_ret
        exact ⟨rfl, HS.out.bel⟩
      have p2' : decide (p < -1000) = false := decide_eq_false p2
      by_cases p3 : 1000 < q
      · clear p1 p2
        go_wp2_with fail
        go_ret
        exact ⟨rfl, HS.out.bel⟩
      have p3' : decide (1000 < q) = false := decide_eq_false p3
      by_cases p4 : q < -1000
      · clear p1 p2 p3
        go_wp2_with fail
        go_ret
        exact ⟨rfl, HS.out.bel⟩
      have p4' : decide (q < -1000) = false := decide_eq_false p4
      obtain ⟨z1, z2, z3, z4, gz⟩ := Z.out ⟨⟨by omega, by omega⟩, by omega, by omega⟩
      have GZ := Lib.hid gz
      clear p1 p2 p3 p4 gz
      go_upto_region 16 with (fail)
      have HS := Lib.hid (HS.out.below (bel1 _ (.cells (boxR (x + p) (y + q) r) 25)))
      clear c0 c1 c2 c6 c7 p1' p2' p3' p4'
      have c3 := HS.out.b.cell 0
      have c4 := HS.out.b.cell 1
      have c5 := HS.out.b.cell 2
      have c6 := HS.out.c.cell 0
      have c7 := HS.out.c.cell 1
      go_wp2_with fail
      refine (GZ.out _).mono ?_
      rintro e w9 ⟨rfl, hb⟩
      have HB := Lib.hid (vbt (vbt HS.out.bel (bel1 _ _)) hb)
      clear hb c3 c4 c5 c6 c7 z1 z2 z3 z4
      generalize okB (x + p) (y + q) r (u + p) (v + q) s = ok at *
      unfold numB errB
      cases ok
      · simp only [Bool.false_eq_true, if_false]
        go_wp2_with fail
        go_ret
        exact ⟨rfl, HB.out⟩
      · simp only [if_true]
        go_wp2_with fail
        go_ret
        exact ⟨rfl, HB.out⟩
  · have HOK := Lib.hid hok
    clear hx hy hu hv
    by_cases h1 : rightB x y r = true
    · have h2 : rightB u v s = false := by
        cases h : rightB u v s
        · rfl
        · exact absurd ⟨h1, h⟩ hok
      rw [h1, if_pos rfl] at C1
      rw [h2, if_neg (by simp)] at C2
      clear h1 h2 hok
      go_enter Try.func5, Try.ntmps5
      go_wp2_with fail
      refine (HA.out _).mono ?_
      rintro e w1 ⟨rfl, hb⟩
      have HS := Lib.hid ((TS.make w x y r u v s p q).below hb)
      clear hb HA
      have c0 := HS.out.a.cell 0
      have c1 := HS.out.a.cell 1
      have c2 := HS.out.a.cell 2
      have c3 := HS.out.b.cell 0
      have c4 := HS.out.b.cell 1
      have c5 := HS.out.b.cell 2
      have c6 := HS.out.c.cell 0
      have c7 := HS.out.c.cell 1
      go_wp2_with fail
      refine (C1.out _).mono ?_
      rintro e w2 ⟨rfl, hb⟩
      have HS := Lib.hid (HS.out.below hb)
      clear hb c0 c1 c2 c3 c4 c5 c6 c7
      have c0 := HS.out.a.cell 0
      have c1 := HS.out.a.cell 1
      have c2 := HS.out.a.cell 2
      have c3 := HS.out.b.cell 0
      have c4 := HS.out.b.cell 1
      have c5 := HS.out.b.cell 2
      have c6 := HS.out.c.cell 0
      have c7 := HS.out.c.cell 1
      go_wp2_with fail
      refine (C2.out _).mono ?_
      rintro e w2 ⟨rfl, hb⟩
      have HS := Lib.hid (HS.out.below hb)
      clear hb c0 c1 c2 c3 c4 c5 c6 c7
      go_wp2_with fail
      go_ret
      exact ⟨rfl, HS.out.bel⟩
    · rw [if_neg h1] at C1
      clear h1 hok
      generalize (if rightB u v s = true then (0 : Int) else 60) = e2 at *
      go_enter Try.func5, Try.ntmps5
      go_wp2_with fail
      refine (HA.out _).mono ?_
      rintro e w1 ⟨rfl, hb⟩
      have HS := Lib.hid ((TS.make w x y r u v s p q).below hb)
      clear hb HA
      have c0 := HS.out.a.cell 0
      have c1 := HS.out.a.cell 1
      have c2 := HS.out.a.cell 2
      have c3 := HS.out.b.cell 0
      have c4 := HS.out.b.cell 1
      have c5 := HS.out.b.cell 2
      have c6 := HS.out.c.cell 0
      have c7 := HS.out.c.cell 1
      go_wp2_with fail
      refine (C1.out _).mono ?_
      rintro e w2 ⟨rfl, hb⟩
      have HS := Lib.hid (HS.out.below hb)
      clear hb c0 c1 c2 c3 c4 c5 c6 c7
      have c0 := HS.out.a.cell 0
      have c1 := HS.out.a.cell 1
      have c2 := HS.out.a.cell 2
      have c3 := HS.out.b.cell 0
      have c4 := HS.out.b.cell 1
      have c5 := HS.out.b.cell 2
      have c6 := HS.out.c.cell 0
      have c7 := HS.out.c.cell 1
      go_wp2_with fail
      refine (C2.out _).mono ?_
      rintro e w2 ⟨rfl, hb⟩
      have HS := Lib.hid (HS.out.below hb)
      clear hb c0 c1 c2 c3 c4 c5 c6 c7
      go_wp2_with fail
      go_ret
      exact ⟨rfl, HS.out.bel⟩
end Go.Proofs.Ytnffflcfncffpaa

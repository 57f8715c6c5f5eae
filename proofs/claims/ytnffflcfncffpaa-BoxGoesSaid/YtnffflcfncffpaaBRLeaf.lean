/- The reference's leaves: within, Right, part, gap, Gap, Meet, Holds. -/
import Derived.Test.YtnffflcfncffpaaBMeet
import Derived.Test.YtnffflcfncffpaaVRef2
import Derived.Deep.RegionHeld3
import Derived.Deep.DeepCutAuto
namespace Go.Proofs.Ytnffflcfncffpaa
open Go.RowKit

theorem rwithin_c (n : Int) (w : World) :
    Calls Try.prog 32 #[.int .i64 n] w fun e w' => e = .returned (.bool (inB n)) ∧ w = w' := by
  unfold inB
  by_cases h : -1152921504606846976 ≤ n
  · have d1 : decide (-1152921504606846976 ≤ n) = true := decide_eq_true h
    have d2 : decide (-1152921504606846976 ≤ n ∧ n ≤ 1152921504606846976) = decide (n ≤ 1152921504606846976) := decide_eq_decide.2 (by omega)
    rw [d2]
    clear h d2
    go_enter Try.func32, Try.ntmps32
    go_wp2_with fail
    go_ret
    exact ⟨rfl, rfl⟩
  · have d1 : decide (-1152921504606846976 ≤ n) = false := decide_eq_false h
    have d2 : decide (-1152921504606846976 ≤ n ∧ n ≤ 1152921504606846976) = false := decide_eq_false (by omega)
    rw [d2]
    clear h d2
    go_enter Try.func32, Try.ntmps32
    go_wp2_with fail
    go_ret
    exact ⟨rfl, rfl⟩

theorem rright_c (x y r : Int) (w : World) :
    Calls Try.prog 18 #[boxV x y r] w fun e w' => e = .returned (.bool (rightB x y r)) ∧ Below w.heap.size w w' := by
  have H1 := Lib.hid (fun w => rwithin_c x w)
  have H2 := Lib.hid (fun w => rwithin_c y w)
  have HB := Lib.hid (bel1 w)
  have e0 : rightB x y r = (inB x && (inB y && (decide (1 ≤ r) && decide (r ≤ 1099511627776)))) := by
    unfold rightB
    rw [← Bool.decide_and]
    cases inB x <;> cases inB y <;> simp
  rw [e0]
  clear e0
  generalize inB x = p at *
  generalize inB y = q at *
  go_enter Try.func18, Try.ntmps18
  go_wp2_with fail
  refine (H1.out _).mono ?_
  rintro e w1 ⟨rfl, rfl⟩
  go_wp2_with fail
  refine (H2.out _).mono ?_
  rintro e w1 ⟨rfl, rfl⟩
  cases p
  · go_wp2_with fail
    go_ret
    exact ⟨by simp, HB.out _⟩
  cases q
  · go_wp2_with fail
    go_ret
    exact ⟨by simp, HB.out _⟩
  by_cases h : 1 ≤ r
  · have d1 : decide (1 ≤ r) = true := decide_eq_true h
    clear h
    go_wp2_with fail
    go_ret
    exact ⟨by rw [d1]; rfl, HB.out _⟩
  · have d1 : decide (1 ≤ r) = false := decide_eq_false h
    clear h
    go_wp2_with fail
    go_ret
    exact ⟨by rw [d1]; rfl, HB.out _⟩

theorem rpart0_c (x y : Int) (w : World) :
    Calls Try.prog 40 #[vecV x y, .int .i64 0] w fun e w' => e = .returned (.int .i64 x) ∧ Below w.heap.size w w' := by
  have HB := Lib.hid (bel1 w)
  go_enter Try.func40, Try.ntmps40
  go_wp2_with fail
  go_ret
  exact ⟨rfl, HB.out _⟩
theorem rpart1_c (x y : Int) (w : World) :
    Calls Try.prog 40 #[vecV x y, .int .i64 1] w fun e w' => e = .returned (.int .i64 y) ∧ Below w.heap.size w w' := by
  have HB := Lib.hid (bel1 w)
  go_enter Try.func40, Try.ntmps40
  go_wp2_with fail
  go_ret
  exact ⟨rfl, HB.out _⟩

theorem gap_ends {a b r s : Int} (hr : 1 ≤ r ∧ r ≤ 1099511627776) (hs : 1 ≤ s ∧ s ≤ 1099511627776) (h : (b - a).natAbs ≤ 4611686018427387904) :
    ∃ hi lo, (if a < b then b else a) = hi ∧ (if b < a then b else a) = lo ∧ IntKind.i64.wrap (hi - lo) = hi - lo ∧ IntKind.i64.wrap (hi - lo - r) = hi - lo - r ∧ IntKind.i64.wrap (hi - lo - r - s) = hi - lo - r - s ∧ hi - lo - r - s = gapF a b r s := by
  refine ⟨_, _, rfl, rfl, ?_⟩
  unfold gapF
  have e : (if a < b then b else a) - (if b < a then b else a) = ((b - a).natAbs : Int) := by split <;> split <;> omega
  rw [e]
  exact ⟨IntWalk.i64_in _ (by omega), IntWalk.i64_in _ (by omega), IntWalk.i64_in _ (by omega), rfl⟩

theorem rgap0_c (x y r u v s : Int) (w : World) (hr : 1 ≤ r ∧ r ≤ 1099511627776) (hs : 1 ≤ s ∧ s ≤ 1099511627776) (hx : (u - x).natAbs ≤ 4611686018427387904) :
    Calls Try.prog 29 #[boxV x y r, boxV u v s, .int .i64 0] w fun e w' => e = .returned (.int .i64 (gapF x u r s)) ∧ Below w.heap.size w w' := by
  obtain ⟨hi, lo, m1, m2, q1, q2, q3, q4⟩ := gap_ends hr hs hx
  have H1 := Lib.hid (fun w => rpart0_c x y w)
  have H2 := Lib.hid (fun w => rpart0_c u v w)
  rw [← q4]
  clear hr hs hx q4
  go_enter Try.func29, Try.ntmps29
  go_wp2_with fail
  refine (H1.out _).mono ?_
  rintro e w1 ⟨rfl, hb⟩
  obtain ⟨k1, k2, hb⟩ := two_blk hb
  have K1 := Lib.hid k1
  have K2 := Lib.hid k2
  have HB := Lib.hid hb
  clear hb k1 k2
  have c0 := K2.out.cell 0
  have c1 := K2.out.cell 1
  go_wp2_with fail
  refine (H2.out _).mono ?_
  rintro e w2 ⟨rfl, hb⟩
  have K1 := Lib.hid (K1.out.below hb K1.out.lt)
  have K2 := Lib.hid (K2.out.below hb K2.out.lt)
  have HB := Lib.hid (vbt HB.out hb)
  clear hb c0 c1
  have c0 := K1.out.cell 2
  have c1 := K2.out.cell 2
  go_wp2_with fail
  go_ret
  exact ⟨rfl, HB.out⟩

theorem rgap1_c (x y r u v s : Int) (w : World) (hr : 1 ≤ r ∧ r ≤ 1099511627776) (hs : 1 ≤ s ∧ s ≤ 1099511627776) (hx : (v - y).natAbs ≤ 4611686018427387904) :
    Calls Try.prog 29 #[boxV x y r, boxV u v s, .int .i64 1] w fun e w' => e = .returned (.int .i64 (gapF y v r s)) ∧ Below w.heap.size w w' := by
  obtain ⟨hi, lo, m1, m2, q1, q2, q3, q4⟩ := gap_ends hr hs hx
  have H1 := Lib.hid (fun w => rpart1_c x y w)
  have H2 := Lib.hid (fun w => rpart1_c u v w)
  rw [← q4]
  clear hr hs hx q4
  go_enter Try.func29, Try.ntmps29
  go_wp2_with fail
  refine (H1.out _).mono ?_
  rintro e w1 ⟨rfl, hb⟩
  obtain ⟨k1, k2, hb⟩ := two_blk hb
  have K1 := Lib.hid k1
  have K2 := Lib.hid k2
  have HB := Lib.hid hb
  clear hb k1 k2
  have c0 := K2.out.cell 0
  have c1 := K2.out.cell 1
  go_wp2_with fail
  refine (H2.out _).mono ?_
  rintro e w2 ⟨rfl, hb⟩
  have K1 := Lib.hid (K1.out.below hb K1.out.lt)
  have K2 := Lib.hid (K2.out.below hb K2.out.lt)
  have HB := Lib.hid (vbt HB.out hb)
  clear hb c0 c1
  have c0 := K1.out.cell 2
  have c1 := K2.out.cell 2
  go_wp2_with fail
  go_ret
  exact ⟨rfl, HB.out⟩

/-- The gap along an axis that is handed in as a number. -/
def gapI (ax x y r u v s : Int) : Int := if ax = 0 then gapF x u r s else gapF y v r s
theorem rgap_c (ax x y r u v s : Int) (w : World) (hax : ax = 0 ∨ ax = 1) (hr : 1 ≤ r ∧ r ≤ 1099511627776) (hs : 1 ≤ s ∧ s ≤ 1099511627776) (hx : (u - x).natAbs ≤ 4611686018427387904) (hy : (v - y).natAbs ≤ 4611686018427387904) :
    Calls Try.prog 29 #[boxV x y r, boxV u v s, .int .i64 ax] w fun e w' => e = .returned (.int .i64 (gapI ax x y r u v s)) ∧ Below w.heap.size w w' := by
  rcases hax with rfl | rfl
  · exact rgap0_c x y r u v s w hr hs hx
  · exact rgap1_c x y r u v s w hr hs hy

theorem BX.drew {w w1 : World} {g : Nat} {x y r u v s : Int} (h : BX w g x y r u v s w1) : BX w g x y r u v s w1.drew := by
  obtain ⟨_, _, _, _, _, _, h1, h2, h3⟩ := h
  exact BX.make h1 h2 h3.drew

theorem rGap_c (x y r u v s : Int) (w : World) :
    Calls Try.prog 13 #[boxV x y r, boxV u v s] w fun e w' => e = .returned (.tuple #[.int .i64 (numB (okB x y r u v s) (gapF x u r s)), .int .i64 (numB (okB x y r u v s) (gapF y v r s)), .int .i64 (errB (okB x y r u v s))]) ∧ Below w.heap.size w w' := by
  have H1 := Lib.hid (fun w => rright_c x y r w)
  have H2 := Lib.hid (fun w => rright_c u v s w)
  cases hok : okB x y r u v s with
  | false =>
    unfold okB at hok
    generalize rightB x y r = p at *
    generalize rightB u v s = q at *
    go_enter Try.func13, Try.ntmps13
    go_wp2_with fail
    refine (H1.out _).mono ?_
    rintro e w1 ⟨rfl, hb⟩
    obtain ⟨k1, k2, hb⟩ := two_blk hb
    have HB := Lib.hid hb
    have c0 := k2.cell 0
    have c1 := k2.cell 1
    have c2 := k2.cell 2
    clear hb k1 k2
    go_wp2_with fail
    refine (H2.out _).mono ?_
    rintro e w2 ⟨rfl, hb⟩
    have HB := Lib.hid (vbt HB.out hb)
    clear hb c0 c1 c2
    cases p <;> cases q
    case true.true => cases hok
    all_goals
      go_wp2_with fail
      exact bodyPost_ret (v := .tuple #[.int .i64 0, .int .i64 0, .int .i64 60]) (by simp [results, Try.results13, go_sem]) rfl ⟨rfl, HB.out⟩
  | true =>
    unfold okB at hok
    rw [Bool.and_eq_true] at hok
    have s1 := rightB_spec.1 hok.1
    have s2 := rightB_spec.1 hok.2
    have H3 := Lib.hid (fun ax hax w => rgap_c ax x y r u v s w hax (by omega) (by omega) (by omega) (by omega))
    rw [hok.1] at H1
    rw [hok.2] at H2
    clear hok s1 s2
    unfold numB errB
    rw [if_pos rfl, if_pos rfl, if_pos rfl]
    rw [show gapF x u r s = gapI 0 x y r u v s from rfl, show gapF y v r s = gapI 1 x y r u v s from rfl]
    go_enter Try.func13, Try.ntmps13
    go_wp2_with fail
    refine (H1.out _).mono ?_
    rintro e w1 ⟨rfl, hb⟩
    obtain ⟨k1, k2, hb⟩ := two_blk hb
    have HX := Lib.hid (BX.make k1 k2 hb)
    have c0 := k2.cell 0
    have c1 := k2.cell 1
    have c2 := k2.cell 2
    clear hb k1 k2
    go_wp2_with fail
    refine (H2.out _).mono ?_
    rintro e w2 ⟨rfl, hb⟩
    have HX := Lib.hid (HX.out.keep hb)
    clear hb c0 c1 c2
    go_upto_region 5 with (fail)
    have HX0 := Lib.hid HX.out.drew
    go_region_held3 (BX w w.heap.size x y r u v s) (first | exact HX0.out | assumption) (first | (go_at_call 29; refine (H3.out _ (by decide) _).mono ?_; rintro e w6 ⟨rfl, hb⟩; have hS6 := BX.keep (by assumption) hb; clear hb))
    go_wp2_with fail
    exact bodyPost_ret (v := .tuple #[.int .i64 (gapI 0 x y r u v s), .int .i64 (gapI 1 x y r u v s), .int .i64 0]) (by simp [results, Try.results13, go_sem]) rfl ⟨rfl, BX.bel (by assumption)⟩

theorem rMeet_c (x y r u v s : Int) (w : World) :
    Calls Try.prog 15 #[boxV x y r, boxV u v s] w fun e w' => e = .returned (.tuple #[.bool (meetB x y r u v s), .int .i64 (errB (okB x y r u v s))]) ∧ Below w.heap.size w w' := by
  have H1 := Lib.hid (fun w => rGap_c x y r u v s w)
  unfold meetB
  generalize okB x y r u v s = ok at *
  generalize gapF x u r s = p at *
  generalize gapF y v r s = q at *
  unfold numB errB at *
  go_enter Try.func15, Try.ntmps15
  go_wp2_with fail
  refine (H1.out _).mono ?_
  rintro e w1 ⟨rfl, hb⟩
  have HB := Lib.hid (vbt (bel2 w _ _) hb)
  clear hb
  cases ok
  · simp only [Bool.false_eq_true, if_false]
    go_wp2_with fail
    go_ret2
    exact ⟨rfl, HB.out⟩
  · simp only [if_true]
    by_cases hp : p < 0
    · have d1 : decide (p < 0) = true := decide_eq_true hp
      clear hp
      go_wp2_with fail
      go_ret2
      exact ⟨by simp, HB.out⟩
    · have d1 : decide (p < 0) = false := decide_eq_false hp
      clear hp
      go_wp2_with fail
      go_ret2
      exact ⟨by simp, HB.out⟩

theorem rHolds_c (x y r u v : Int) (w : World) (hx : I64 x) (hy : I64 y) (hu : I64 u) (hv : I64 v) :
    Calls Try.prog 17 #[boxV x y r, vecV u v] w fun e w' => e = .returned (.tuple #[.bool (holdB x y r u v), .int .i64 (errB (rightB x y r))]) ∧ Below w.heap.size w w' := by
  have H1 := Lib.hid (fun w => rright_c x y r w)
  unfold holdB
  by_cases h1 : rightB x y r = true
  · have s1 := rightB_spec.1 h1
    have H2 := Lib.hid (fun w => rvnear_c x y u v r w hx hy hu hv (by unfold I64; omega) (by omega))
    clear hx hy hu hv s1
    rw [h1] at H1 ⊢
    rw [Bool.true_and]
    generalize (nearF x u r && nearF y v r) = p at *
    clear h1
    go_enter Try.func17, Try.ntmps17
    go_wp2_with fail
    refine (H1.out _).mono ?_
    rintro e w1 ⟨rfl, hb⟩
    obtain ⟨k1, k2, hb⟩ := two_blk hb
    have c0 := k1.cell 0
    have c1 := k1.cell 1
    have c2 := k1.cell 2
    have c3 := k2.cell 0
    have c4 := k2.cell 1
    have HB := Lib.hid hb
    clear hb k1 k2
    go_wp2_with fail
    refine (H2.out _).mono ?_
    rintro e w1 ⟨rfl, hb⟩
    have HB := Lib.hid (vbt HB.out hb)
    clear hb c0 c1 c2 c3 c4
    go_wp2_with fail
    go_ret2
    exact ⟨rfl, HB.out⟩
  · rw [Bool.not_eq_true] at h1
    rw [h1] at H1 ⊢
    rw [Bool.false_and]
    clear hx hy hu hv h1
    go_enter Try.func17, Try.ntmps17
    go_wp2_with fail
    refine (H1.out _).mono ?_
    rintro e w1 ⟨rfl, hb⟩
    have HB := Lib.hid (vbt (bel2 w _ _) hb)
    clear hb
    go_wp2_with fail
    go_ret2
    exact ⟨rfl, HB.out⟩
end Go.Proofs.Ytnffflcfncffpaa

/- Turn, Heading and Walk at the document's examples. -/
import Derived.Test.YtkekidgakmhicaaPlace
import Derived.Deep.LoopGhost
import Derived.Maps.AppendAt
namespace Go.Proofs.Ytkekidgakmhicaa
open Go.RowKit
attribute [local go_sem] run_store_complex

theorem num_lit (b : Nat) (i : Int) (h : i.natAbs < 9007199254740992) (e : floatOfInt .f64 i = b) : Num b i := e ▸ num_of_int i h
theorem num_minus : Num 13830554455654793216 (-1) := num_lit _ _ (by decide) (by decide)
theorem num_two : Num 4611686018427387904 2 := num_lit _ _ (by decide) (by decide)
theorem num_three : Num 4613937818241073152 3 := num_lit _ _ (by decide) (by decide)

def sgn (x : Int) : Int := if 0 < x then 1 else if x < 0 then -1 else 0
def sgnB (x : Int) : Nat := if 0 < x then 4607182418800017408 else if x < 0 then 13830554455654793216 else 0
theorem num_sgn (x : Int) : Num (sgnB x) (sgn x) := by
  unfold sgn sgnB
  split
  · exact num_one
  · split
    · exact num_minus
    · exact num_zero

theorem sign_c {a : Nat} {x : Int} (w : World) (h : Num a x) :
    Calls Try.prog 24 #[.float .f64 a] w fun e w' => e = .returned (.float .f64 (sgnB x)) ∧ w = w' := by
  have e1 := num_gt h num_zero
  have e2 := num_lt h num_zero
  rcases Int.lt_trichotomy 0 x with hx | hx | hx
  · rw [decide_eq_true hx] at e1
    have e3 : sgnB x = 4607182418800017408 := if_pos hx
    rw [e3]
    clear h e2 hx
    go_enter Try.func24, Try.ntmps24
    go_wp2_with fail
    go_ret
    exact ⟨rfl, rfl⟩
  · rw [decide_eq_false (by omega)] at e1
    rw [decide_eq_false (by omega)] at e2
    have e3 : sgnB x = 0 := by unfold sgnB; rw [if_neg (by omega), if_neg (by omega)]
    rw [e3]
    clear h hx
    go_enter Try.func24, Try.ntmps24
    go_wp2_with fail
    go_ret
    exact ⟨rfl, rfl⟩
  · rw [decide_eq_false (by omega)] at e1
    rw [decide_eq_true (by omega)] at e2
    have e3 : sgnB x = 13830554455654793216 := by unfold sgnB; rw [if_neg (by omega), if_pos (by omega)]
    rw [e3]
    clear h hx
    go_enter Try.func24, Try.ntmps24
    go_wp2_with fail
    go_ret
    exact ⟨rfl, rfl⟩

theorem signs_c {a b : Nat} {x y : Int} (w : World) (h : Cx a b x y) :
    Calls Try.prog 19 #[.complex .f64 a b] w fun e w' => e = .returned (.complex .f64 (sgnB x) (sgnB y)) ∧ w = w' := by
  have H1 := Lib.hid (fun w => sign_c w h.re)
  have H2 := Lib.hid (fun w => sign_c w h.im)
  generalize sgnB x = p at *
  generalize sgnB y = q at *
  clear h
  go_enter Try.func19, Try.ntmps19
  go_wp2_with fail
  refine (H1.out _).mono ?_
  rintro e w' ⟨rfl, rfl⟩
  go_wp2_with fail
  refine (H2.out _).mono ?_
  rintro e w' ⟨rfl, rfl⟩
  go_wp2_with fail
  go_ret
  exact ⟨rfl, rfl⟩

theorem turn_ex : ∃ p q, Cx p q (-2) 3 ∧ ∀ w : World, Calls Try.prog 8 #[.complex .f64 4613937818241073152 4611686018427387904, .int .i64 1] w fun e w' => e = .returned (.tuple #[.complex .f64 p q, .int .i64 0]) ∧ w = w' := by
  have h : Cx 4613937818241073152 4611686018427387904 3 2 := ⟨num_three, num_two⟩
  obtain ⟨p, q, e1, n1⟩ := cx_mul h ⟨num_zero, num_one⟩ (by decide) (by decide) (by decide) (by decide)
  refine ⟨p, q, n1, fun w => ?_⟩
  have H1 := Lib.hid (fun w => cell_c w h (by decide) (by decide))
  have m1 : ∀ w : World, (binOp .mul 23 (.complex .f64 4613937818241073152 4611686018427387904) (.complex .f64 0 4607182418800017408)).run Try.prog w = .ok (.complex .f64 p q) w := fun w => run_complex_mul w 23 _ _ _ _ p q e1
  generalize 4613937818241073152 = A at *
  generalize 4611686018427387904 = B at *
  have hb : bits .and .i64 1 3 = 1 := by decide
  clear h e1 n1
  go_enter Try.func8, Try.ntmps8
  go_wp2_with fail
  refine (H1.out _).mono ?_
  rintro e w' ⟨rfl, rfl⟩
  go_wp2_with fail
  refine wp_loop_rounds 2 ?_
  rw [rounds_succ]
  go_wp2_with fail
  rw [rounds_succ]
  go_wp2_with fail
  go_ret2
  exact ⟨rfl, rfl⟩

/-- The headings' steps, one and minus one as words. -/
abbrev stepsV (o m : Nat) : Array Value := #[.complex .f64 o 0, .complex .f64 o o, .complex .f64 0 o, .complex .f64 m o, .complex .f64 m 0, .complex .f64 m m, .complex .f64 0 m, .complex .f64 o m]

set_option maxRecDepth 100000 in
set_option maxHeartbeats 1000000 in
theorem steps_c (w : World) : Calls Try.prog 18 #[] w fun e w' => e = .returned (.agg (stepsV 4607182418800017408 13830554455654793216)) ∧ Below w.heap.size w w' := by
  go_enter Try.func18, Try.ntmps18
  go_wp2_with fail
  exact bodyPost_ret (v := .agg (stepsV 4607182418800017408 13830554455654793216)) (by simp [results, Try.results18, go_sem]) rfl ⟨rfl, below1 _ _⟩

theorem Try.info23 : (Try.prog.info? 23).map (fun i => (i.zero, i.size, i.bytes)) = some (some (.complex .f64 0 0), 1, 16) := by kernel_rfl
theorem run_index8 (cs : Array Value) (i : Nat) (v : Value) (hlt : i < 8) (h : cs[i]? = some v) (w : World) : (Instr.index 43 (.agg cs) (.int .i64 (i : Int))).run Try.prog w = .ok v w := by
  obtain ⟨i0, hi, hz0, hz1, hz2⟩ := info_parts Try.info23
  simp [Instr.index, run_underlying Try.underlying43, asIntOf, sizeOf, typeInfo, hi, hz1, part, h, hlt, go_sem]

set_option maxRecDepth 100000 in
set_option maxHeartbeats 1000000 in
theorem heading_ex (w : World) : Calls Try.prog 9 #[.complex .f64 13842939354630062080 4611686018427387904] w fun e w' => e = .returned (.tuple #[.int .i64 3, .int .i64 0]) ∧ Below w.heap.size w w' := by
  have h : Cx 13842939354630062080 4611686018427387904 (-7) 2 := ⟨num_lit _ _ (by decide) (by decide), num_two⟩
  have H1 := Lib.hid (fun w => cell_c w h (by decide) (by decide))
  have hs := fun w => signs_c w h
  simp only [show sgnB (-7) = 13830554455654793216 by decide, show sgnB 2 = 4607182418800017408 by decide] at hs
  have HS := Lib.hid hs
  have HT := Lib.hid steps_c
  have z1 : (FloatKind.f64.format.order 4607182418800017408 13830554455654793216 == some .eq) = false := by rw [num_eq num_one num_minus]; decide
  have z2 : (FloatKind.f64.format.order 0 13830554455654793216 == some .eq) = false := by rw [num_eq num_zero num_minus]; decide
  have z3 : (FloatKind.f64.format.order 13830554455654793216 13830554455654793216 == some .eq) = true := by rw [num_eq num_minus num_minus]; decide
  have z4 : (FloatKind.f64.format.order 4607182418800017408 4607182418800017408 == some .eq) = true := by rw [num_eq num_one num_one]; decide
  generalize 13842939354630062080 = A at *
  generalize 4611686018427387904 = B at *
  generalize 13830554455654793216 = M at *
  generalize 4607182418800017408 = O at *
  have i0 : ∀ w : World, (Instr.index 43 (.agg (stepsV O M)) (.int .i64 0)).run Try.prog w = .ok (.complex .f64 O 0) w := run_index8 _ 0 _ (by decide) rfl
  have i1 : ∀ w : World, (Instr.index 43 (.agg (stepsV O M)) (.int .i64 1)).run Try.prog w = .ok (.complex .f64 O O) w := run_index8 _ 1 _ (by decide) rfl
  have i2 : ∀ w : World, (Instr.index 43 (.agg (stepsV O M)) (.int .i64 2)).run Try.prog w = .ok (.complex .f64 0 O) w := run_index8 _ 2 _ (by decide) rfl
  have i3 : ∀ w : World, (Instr.index 43 (.agg (stepsV O M)) (.int .i64 3)).run Try.prog w = .ok (.complex .f64 M O) w := run_index8 _ 3 _ (by decide) rfl
  clear h hs
  go_enter Try.func9, Try.ntmps9
  go_wp2_with fail
  refine (H1.out _).mono ?_
  rintro e w' ⟨rfl, rfl⟩
  go_wp2_with fail
  refine (HT.out _).mono ?_
  rintro e w1 ⟨rfl, hb⟩
  have HB := Lib.hid hb
  clear hb
  go_wp2_with fail
  refine wp_loop_rounds 4 ?_
  rw [rounds_succ]
  go_wp2_with fail
  refine (HS.out _).mono ?_
  rintro e w' ⟨rfl, rfl⟩
  go_wp2_with fail
  rw [rounds_succ]
  go_wp2_with fail
  refine (HS.out _).mono ?_
  rintro e w' ⟨rfl, rfl⟩
  go_wp2_with fail
  rw [rounds_succ]
  go_wp2_with fail
  refine (HS.out _).mono ?_
  rintro e w' ⟨rfl, rfl⟩
  go_wp2_with fail
  rw [rounds_succ]
  go_wp2_with fail
  refine (HS.out _).mono ?_
  rintro e w' ⟨rfl, rfl⟩
  go_wp2_with fail
  go_ret2
  exact ⟨rfl, HB.out⟩

/-- What is answered for the way from 0 to 3 + i. -/
def Out10 (w : World) (e : Ending) (w' : World) : Prop :=
  ∃ (v : Value) (xs : List Value) (p q : Nat), e = .returned (.tuple #[v, .int .i64 0]) ∧ w'.ownsRow w.heap.size 23 1 v 3 xs ∧ xs[1]? = some (.complex .f64 p q) ∧ Cx p q 2 1

set_option maxRecDepth 100000 in
set_option maxHeartbeats 2000000 in
theorem walk_ex (w : World) : Calls Try.prog 10 #[.complex .f64 0 0, .complex .f64 4613937818241073152 4607182418800017408] w fun e w' =>
    Out10 w e w' ∧ Below w.heap.size w w' := by
  obtain ⟨i0, hi, hz0, hz1, hz2⟩ := info_parts Try.info23
  have h : Cx 4613937818241073152 4607182418800017408 3 1 := ⟨num_three, num_one⟩
  have hf := fun w => far_c w ⟨num_zero, num_zero⟩ h (by decide) (by decide) (by decide) (by decide)
  simp only [show max ((3 - 0 : Int).natAbs : Int) ((1 - 0 : Int).natAbs : Int) = 3 by decide] at hf
  have HF := Lib.hid hf
  have H := Lib.hid h
  have hmk : ∀ w : World, (Instr.makeSlice 33 (.int .i64 0) (.int .i64 3)).run Try.prog w = .ok (.slice (some ⟨w.heap.size, 0, none⟩) 0 3) (w.alloc (.cells (madeCells (Value.complex .f64 0 0).cells (3 * i0.size)) 23)) :=
    fun w => run_make w 33 23 i0 (.complex .f64 0 0) Try.underlying33 hi hz0 .i64 .i64 0 3 (by decide) (by decide) (by rw [hz2]; decide) (by decide)
  rw [hz1] at hmk
  generalize 4613937818241073152 = A at *
  generalize 4607182418800017408 = O at *
  clear h hf
  go_enter Try.func10, Try.ntmps10
  go_wp2_with fail
  refine (HF.out _).mono ?_
  rintro e w' ⟨rfl, rfl⟩
  go_wp2_with fail
  have ho0 : (w.alloc (.cells (madeCells (Value.complex .f64 0 0).cells (3 * 1)) 23)).ownsRow w.heap.size 23 1 (.slice (some ⟨w.heap.size, 0, none⟩) 0 3) 0 [] :=
    World.ownsRow_made w _ 3 (Nat.le_refl _) (by decide) (size_madeCells _ _)
  have HO0 := Lib.hid ho0
  have HB0 := Lib.hid (below1 w (.cells (madeCells (Value.complex .f64 0 0).cells (3 * 1)) 23))
  clear ho0 hmk HF
  go_loopg [0, 8] 3 (fun gg s0 s8 wr => ∃ (j p q : Nat) (xs : List Value), gg + j = 3 ∧ s0 = .complex .f64 p q ∧ Cx p q (j : Int) ((min j 1 : Nat) : Int) ∧ (2 ≤ j → ∃ p q, xs[1]? = some (.complex .f64 p q) ∧ Cx p q 2 1) ∧ wr.ownsRow w.heap.size 23 1 s8 j xs ∧ Below w.heap.size w wr)
  case atStart => exact ⟨0, 0, 0, [], rfl, rfl, ⟨num_zero, num_zero⟩, by omega, HO0.out, HB0.out⟩
  case round =>
    obtain ⟨j, p, q, xs, hj, rfl, hpq, hx1, hown, hb⟩ := hrel
    have HO := Lib.hid hown
    have HB := Lib.hid hb
    have HX := Lib.hid hx1
    have HP := Lib.hid hpq
    clear hown hb hx1 hpq HO0 HB0
    cases gk with
    | zero =>
      obtain rfl : j = 3 := by omega
      have e1 : (FloatKind.f64.format.order p A == some .eq) = true := by rw [num_eq HP.out.re H.out.re]; decide
      have e2 : (FloatKind.f64.format.order q O == some .eq) = true := by rw [num_eq HP.out.im H.out.im]; decide
      go_wp2_with fail
      go_ret2
      obtain ⟨p1, q1, k1, k2⟩ := HX.out (by decide)
      exact ⟨⟨_, xs, p1, q1, rfl, HO.out, k1, k2⟩, HB.out⟩
    | succ gk =>
      have e1 : (FloatKind.f64.format.order p A == some .eq) = false := by rw [num_eq HP.out.re H.out.re]; exact decide_eq_false (by omega)
      obtain ⟨r, z, f1, n1⟩ := cx_sub H.out HP.out (by omega) (by omega)
      obtain ⟨p2, q2, f2, n2⟩ := cx_add HP.out (⟨num_sgn (3 - j), num_sgn (1 - ((min j 1 : Nat) : Int))⟩ : Cx _ _ _ _) (by unfold sgn; split <;> omega) (by unfold sgn; split <;> (try split) <;> omega)
      have m1 : ∀ w : World, (binOp .sub 23 (.complex .f64 A O) (.complex .f64 p q)).run Try.prog w = .ok (.complex .f64 r z) w := fun w => run_complex_sum w .sub (.inr rfl) 23 .f64 _ _ _ _ r z f1
      have m2 : ∀ w : World, (binOp .add 23 (.complex .f64 p q) (.complex .f64 (sgnB (3 - j)) (sgnB (1 - ((min j 1 : Nat) : Int))))).run Try.prog w = .ok (.complex .f64 p2 q2) w := fun w => run_complex_sum w .add (.inl rfl) 23 .f64 _ _ _ _ p2 q2 f2
      have HS := Lib.hid (fun w => signs_c w n1)
      have n3 : Cx p2 q2 ((j + 1 : Nat) : Int) ((min (j + 1) 1 : Nat) : Int) := by
        have g1 : (j : Int) + sgn (3 - j) = ((j + 1 : Nat) : Int) := by unfold sgn; rw [if_pos (by omega)]; omega
        have g2 : ((min j 1 : Nat) : Int) + sgn (1 - ((min j 1 : Nat) : Int)) = ((min (j + 1) 1 : Nat) : Int) := by unfold sgn; split <;> (try split) <;> omega
        rw [g1, g2] at n2
        exact n2
      have HN := Lib.hid n3
      have hj2 : j ≤ 2 := by omega
      generalize sgnB (3 - (j : Int)) = b1 at *
      generalize sgnB (1 - ((min j 1 : Nat) : Int)) = b2 at *
      clear n1 n2 n3 f1 f2
      go_wp2_with (first
        | (go_at_call 19; refine (HS.out _).mono ?_; rintro e w' ⟨rfl, rfl⟩)
        | (at_builtin; refine wpList_append_own_at _ rfl (.tmp 31) (.tmp 33) 33 rfl w.heap.size 23 i0 (.complex .f64 0 0) 1 16 Try.underlying33 hi hz0 hz1 hz2 rfl (by decide) _ _ _ rfl (HO.out.alloc _) ⟨wr.heap.size, 0, none⟩ 1 1 [.complex .f64 p2 q2] rfl rfl (cell_one_new _ _ _) ?c2 ?c3 ?c4 ?c5 ?_))
      case c2 => intro u hu; simp at hu; subst hu; rfl
      case c3 => unfold maxLen; omega
      case c4 => omega
      case c5 => have := HB.out.size; simp; omega
      intro v4 w4 hown4 hgrow4 _ _
      have HO4 := Lib.hid hown4
      have HB4 := Lib.hid ((HB.out.alloc HB.out.size (.cells #[.complex .f64 p2 q2] 23)).grown hgrow4 (by have := HB.out.size; simp; omega) (fun k hk => (HO.out.lt k hk).1))
      clear hown4 hgrow4
      go_wp2_with fail
      go_roundg gk
      case measure => omega
      case rel =>
        refine ⟨j + 1, p2, q2, xs ++ [.complex .f64 p2 q2], by omega, rfl, HN.out, fun h2 => ?_, HO4.out, HB4.out⟩
        have hlen : xs.length = j := by simpa using HO.out.1
        rcases Nat.lt_or_ge j 2 with hj' | hj'
        · obtain rfl : j = 1 := by omega
          exact ⟨p2, q2, by simp [hlen], HN.out⟩
        · obtain ⟨p1, q1, k1, k2⟩ := HX.out hj'
          exact ⟨p1, q1, by rw [List.getElem?_append_left (by omega)]; exact k1, k2⟩
end Go.Proofs.Ytkekidgakmhicaa

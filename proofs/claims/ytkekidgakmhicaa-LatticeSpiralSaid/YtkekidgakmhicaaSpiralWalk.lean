/- The walk of LatticeSpiral: the spiral's cells are numbered one by one. -/
import Derived.Test.YtkekidgakmhicaaAwake
namespace Go.Proofs.Ytkekidgakmhicaa
open Go.RowKit

theorem order_zero : (FloatKind.f64.format.order 0 0 == some .eq) = true := by rw [num_eq num_zero num_zero]; decide

set_option maxRecDepth 100000 in
set_option maxHeartbeats 1000000 in
theorem law_out (n : Int) (w : World) (h : n < 0 ∨ 1000000 < n) :
    Calls Try.prog 3 #[.int .i64 n] w fun e w' => e = .returned (.bool true) ∧ Below w.heap.size w w' := by
  have o := order_zero
  have HN := Lib.hid (fun w => spiral_no n w h)
  by_cases hn : n < 0
  · have d1 : decide (n < 0) = true := decide_eq_true hn
    clear h hn
    go_enter Try.func3, Try.ntmps3
    go_wp2_with fail
    refine (awake_c w).mono ?_
    rintro e w1 ⟨rfl, hb1⟩
    have HB1 := Lib.hid hb1
    clear hb1
    go_wp2_with fail
    refine (HN.out _).mono ?_
    rintro e w2 ⟨rfl, rfl⟩
    go_wp2_with fail
    go_ret
    exact ⟨rfl, HB1.out⟩
  · have d1 : decide (n < 0) = false := decide_eq_false hn
    have d2 : decide (1000000 < n) = true := decide_eq_true (by omega)
    clear h hn
    go_enter Try.func3, Try.ntmps3
    go_wp2_with fail
    refine (awake_c w).mono ?_
    rintro e w1 ⟨rfl, hb1⟩
    have HB1 := Lib.hid hb1
    clear hb1
    go_wp2_with fail
    refine (HN.out _).mono ?_
    rintro e w2 ⟨rfl, rfl⟩
    go_wp2_with fail
    go_ret
    exact ⟨rfl, HB1.out⟩

set_option maxRecDepth 100000 in
set_option maxHeartbeats 1000000 in
theorem law_in (n : Nat) (w : World) (hn : n ≤ 1000000) :
    Calls Try.prog 3 #[.int .i64 (n : Int)] w fun e w' => e = .returned (.bool true) ∧ Below w.heap.size w w' := by
  have HN := Lib.hid hn
  clear hn
  go_enter Try.func3, Try.ntmps3
  go_wp2_with fail
  refine (awake_c w).mono ?_
  rintro e w1 ⟨rfl, hb1⟩
  have HB1 := Lib.hid hb1
  clear hb1
  go_wp2_with fail
  refine (spiral_c n _ HN.out).mono ?_
  rintro e w2 ⟨⟨k, i, a, b, h1, h2, h3, h4, rfl⟩, hb2⟩
  have HB2 := Lib.hid (bt HB1.out hb2)
  have X := ax_le k i
  have Y := ay_le k i
  have hn := HN.out
  have hx : (ax k i).natAbs ≤ 1048576 := by omega
  have hy : (ay k i).natAbs ≤ 1048576 := by omega
  have hf := fun w => far_c w ⟨num_zero, num_zero⟩ h4 (by decide) (by decide) hx hy
  obtain ⟨K, hK⟩ : ∃ K : Int, K = max ((ax k i - 0).natAbs : Int) ((ay k i - 0).natAbs : Int) := ⟨_, rfl⟩
  rw [← hK] at hf
  have hK' : K = max (ax k i).natAbs (ay k i).natAbs := by rw [hK]; omega
  obtain ⟨r1, r2⟩ := ring k i h1 h2 K hK'
  rw [h3] at r1 r2
  have hK0 : 0 ≤ K := by omega
  have hK1 : K ≤ 1048576 := by omega
  have HP := Lib.hid (fun (w : World) (hk : K ≤ 500) => place_c w h4 h1 h2 (by omega) (show max (ax k i).natAbs (ay k i).natAbs ≤ 500 by omega))
  have HF := Lib.hid hf
  have HX := Lib.hid (And.intro h1 (And.intro h2 (And.intro h3 (And.intro h4 (And.intro hx hy)))))
  obtain ⟨S, hS⟩ : ∃ S : Int, 2 * K + 1 = S := ⟨_, rfl⟩
  obtain ⟨I, hI⟩ : ∃ I : Int, 2 * K - 1 = I := ⟨_, rfl⟩
  rw [hS] at r1
  rw [hI] at r2
  have sq : ∀ {x y : Int}, -2097153 ≤ x → x ≤ 2097153 → 0 ≤ x * x ∧ x * x ≤ 4398050705409 := by
    intro x _ q1 q2
    have h := Int.natAbs_mul_self (a := x)
    have h5 : x.natAbs * x.natAbs ≤ 2097153 * 2097153 := Nat.mul_le_mul (by omega) (by omega)
    generalize x.natAbs * x.natAbs = m at *
    rw [← h]
    omega
  have s1 := sq (x := S) (y := 0) (by omega) (by omega)
  have s2 := sq (x := I) (y := 0) (by omega) (by omega)
  obtain ⟨SS, hSS⟩ : ∃ SS : Int, S * S = SS := ⟨_, rfl⟩
  obtain ⟨II, hII⟩ : ∃ II : Int, I * I = II := ⟨_, rfl⟩
  rw [hSS] at r1 s1
  rw [hII] at r2 s2
  have d1 : decide (SS ≤ (n : Int)) = false := decide_eq_false (by omega)
  clear X Y hf hK hK' h1 h2 h3 h4 hx hy hb2 HB1 hn sq
  go_wp2_with fail
  refine (HF.out _).mono ?_
  rintro e w3 ⟨rfl, rfl⟩
  go_upto_region 8 with (fail)
  go_cut [72] (fun s72 wx => s72 = .bool false ∧ wx = w2)
  case first =>
    rcases Int.lt_or_eq_of_le hK0 with hp | hp
    · have d2 : decide (0 < K) = true := decide_eq_true hp
      have d3 : decide ((n : Int) < II) = false := decide_eq_false (by have := r2 hp; omega)
      clear r1 r2 hp
      go_wp2_with fail
      go_meet
      exact ⟨rfl, rfl⟩
    · have d2 : decide (0 < K) = false := decide_eq_false (by omega)
      clear r1 r2 hp
      go_wp2_with fail
      go_meet
      exact ⟨rfl, rfl⟩
  case rest =>
    obtain ⟨rfl, rfl⟩ := hcut
    clear r1 r2 s1 s2 hS hI hSS hII d1 HF
    go_upto_if 74 with (fail)
    go_cut [10] (fun s10 wx => Below w.heap.size w wx)
    case first =>
      by_cases hk : K ≤ 500
      · have d4 : decide (K ≤ 500) = true := decide_eq_true hk
        have HQ := Lib.hid (fun w => HP.out w hk)
        have h3 := HX.out.2.2.1
        simp only [h3] at HQ
        clear h3
        go_wp2_with fail
        refine (HQ.out _).mono ?_
        rintro e w4 ⟨rfl, hb4⟩
        have HB4 := Lib.hid (bt HB2.out hb4)
        clear hb4
        go_wp2_with fail
        go_meet
        exact HB4.out
      · have d4 : decide (K ≤ 500) = false := decide_eq_false hk
        have hk' : 500 < K := by omega
        go_wp2_with fail
        go_meet
        exact HB2.out
    case rest =>
      have HB5 := Lib.hid hcut
      clear hcut HB2 HP hK0 hK1
      by_cases hl : n = 1000000
      · subst hl
        go_wp2_with fail
        refine (spiral_no _ _ (.inr (by decide))).mono ?_
        rintro e w6 ⟨rfl, rfl⟩
        go_wp2_with fail
        go_ret
        exact ⟨rfl, HB5.out⟩
      · have hn1 : n + 1 ≤ 1000000 := by have := HN.out; omega
        have ec : (n : Int) + 1 = ((n + 1 : Nat) : Int) := by push_cast; rfl
        have HC := Lib.hid (fun w => spiral_c (n + 1) w hn1)
        obtain ⟨m, hm⟩ : ∃ m, m = n + 1 := ⟨_, rfl⟩
        rw [← hm] at ec HC
        have hm2 : m ≤ 1000000 := by omega
        have HM := Lib.hid hm
        clear hl hn1 hm
        go_wp2_with fail
        refine (HC.out _).mono ?_
        rintro e w6 ⟨⟨k', i', a', b', g1, g2, g3, g4, rfl⟩, hb6⟩
        have HB6 := Lib.hid (bt HB5.out hb6)
        obtain ⟨f1, f2, f3, f4, f5, f6⟩ := HX.out
        obtain ⟨t1, t2⟩ := beside f2 g1 g2 (by rw [g3, f3]; exact HM.out)
        have X := ax_le k' i'
        have Y := ay_le k' i'
        have hf := fun w => far_c w f4 g4 f5 f6 (show (ax k' i').natAbs ≤ 1048576 by omega) (show (ay k' i').natAbs ≤ 1048576 by omega)
        have t3 : max ((ax k' i' - ax k i).natAbs : Int) ((ay k' i' - ay k i).natAbs : Int) = 1 := by omega
        simp only [t3] at hf
        have HF := Lib.hid hf
        have e1 := num_eq f4.re g4.re
        have e2 := num_eq f4.im g4.im
        clear hf hb6 f1 f2 f3 f4 f5 f6 g1 g2 g3 g4 t1 t3 X Y ec hm2 HX HC HB5
        rcases t2 with t2 | t2
        · rw [decide_eq_true t2] at e1
          clear e2 t2
          go_wp2_with fail
          refine (HF.out _).mono ?_
          rintro e w7 ⟨rfl, rfl⟩
          go_wp2_with fail
          go_ret
          exact ⟨rfl, HB6.out⟩
        · rw [decide_eq_true t2] at e2
          generalize decide (ax k i = ax k' i') = B at e1
          clear t2
          cases B
          all_goals
            go_wp2_with fail
            refine (HF.out _).mono ?_
            rintro e w7 ⟨rfl, rfl⟩
            go_wp2_with fail
            go_ret
            exact ⟨rfl, HB6.out⟩

theorem spiral_walk (n : Int) (w : World) :
    Calls Try.prog 3 #[.int .i64 n] w fun e w' => e = .returned (.bool true) ∧ Below w.heap.size w w' := by
  by_cases h : n < 0 ∨ 1000000 < n
  · exact law_out n w h
  · obtain ⟨m, rfl⟩ : ∃ m : Nat, n = (m : Int) := ⟨n.toNat, by omega⟩
    exact law_in m w (by omega)
end Go.Proofs.Ytkekidgakmhicaa

/- The contract of Spiral: the cell of a number. -/
import Derived.Test.YtkekidgakmhicaaNext
import Derived.ScopeJumps
namespace Go.Proofs.Ytkekidgakmhicaa
open Go.RowKit
attribute [local go_sem] run_store_complex

/-- The run k lies in block g. -/
def RunAt (w : World) (g k : Nat) : Prop := ∃ a b c d, Blk w g 38 (rowS a b (rN k : Int) c d (rL k : Int)) ∧ Cx a b (cx k) (cy k) ∧ Cx c d (sx k) (sy k)
theorem RunAt.below {w w' : World} {g k : Nat} (h : RunAt w g k) (hb : Below w.heap.size w w') : RunAt w' g k := by
  obtain ⟨a, b, c, d, h1, h2, h3⟩ := h
  exact ⟨a, b, c, d, h1.below hb h1.lt, h2, h3⟩
theorem unit_le (k : Nat) : (sx k).natAbs ≤ 1 ∧ (sy k).natAbs ≤ 1 := by
  rcases unit k with ⟨h1, h2⟩ | ⟨h1, h2⟩ | ⟨h1, h2⟩ | ⟨h1, h2⟩ <;> rw [h1, h2] <;> decide
theorem corner_le {k n : Nat} (h : rN k ≤ n) (hn : n ≤ 1048576) : (cx k).natAbs ≤ 1048576 ∧ (cy k).natAbs ≤ 1048576 ∧ rL k ≤ 1048576 ∧ rN k ≤ 1048576 := by
  have h1 := cx_le k
  have h2 := cy_le k
  have h3 := rN_ge k
  refine ⟨by omega, by omega, ?_, by omega⟩
  unfold rL; omega

/-- The next run, by its contract. -/
theorem next_run {a b c d k : Nat} (hk : rN k ≤ 1048576) (h : Cx a b (cx k) (cy k)) (g : Cx c d (sx k) (sy k)) :
    ∃ p q r z, Cx p q (cx (k + 1)) (cy (k + 1)) ∧ Cx r z (sx (k + 1)) (sy (k + 1)) ∧ ∀ w : World, Calls Try.prog 13 #[.agg (rowS a b (rN k : Int) c d (rL k : Int))] w fun e w' => e = .returned (.agg (rowS p q (rN (k + 1) : Int) r z (rL (k + 1) : Int))) ∧ Below w.heap.size w w' := by
  obtain ⟨h1, h2, h3, h4⟩ := corner_le hk (Nat.le_refl _)
  obtain ⟨p, q, r, z, n1, n2, hc⟩ := next_c (rN k) (rL k) h g h1 h2 (unit_le k).1 (unit_le k).2 h3 h4
  rw [← sx_next k, ← sy_next k] at n2
  rw [← rL_next k] at hc
  exact ⟨p, q, r, z, n1, n2, hc⟩
/-- What holds where the loop is left: the frame, the run found. -/
def Found (w : World) (n : Nat) (a' : Act) (w' : World) : Prop :=
  ∃ k g, w.heap.size ≤ g ∧ rN k ≤ n ∧ n ≤ rN k + rL k ∧ (k = 0 ∨ rN k < n) ∧ RunAt w' g k ∧ Below w.heap.size w w' ∧
    ∃ u1 u2 u3 u5 u6 u7 u8 u9 u10 u11 u12 u13 u14 u15 u16 u17 u18 u19 u20 u21 u22 u23 u24 u25 u26 : Value,
      a' = { tmps := #[.int .i64 (n : Int), u1, u2, u3, .pointer (some ⟨g, 0, none⟩), u5, u6, u7, u8, u9, u10, u11, u12, u13, u14, u15, u16, u17, u18, u19, u20, u21, u22, u23, u24, u25, u26], defers := [] }

set_option maxRecDepth 100000 in
set_option maxHeartbeats 2000000 in
theorem spiral_c (n : Nat) (w : World) (hn : n ≤ 1000000) :
    Calls Try.prog 5 #[.int .i64 (n : Int)] w fun e w' => (∃ k i a b, (1 ≤ i ∨ k = 0 ∧ i = 0) ∧ i ≤ rL k ∧ rN k + i = n ∧ Cx a b (ax k i) (ay k i) ∧ e = .returned (.tuple #[.complex .f64 a b, .int .i64 0])) ∧ Below w.heap.size w w' := by
  have d1 : decide ((n : Int) < 0) = false := decide_eq_false (by omega)
  have d2 : decide ((1000000 : Int) < (n : Int)) = false := decide_eq_false (by omega)
  have HN := Lib.hid hn
  clear hn
  go_enter Try.func5, Try.ntmps5
  go_wp2_with fail
  refine wp_scope_jumps 0 (Found w n) (fun _ _ => 0) rfl ?_ ?_
  · go_wp2_with fail
    refine (first_c _).mono ?_
    rintro e w1 ⟨rfl, hb1⟩
    have HB1 := Lib.hid hb1
    clear hb1
    go_wp2_with fail
    have hr0 : RunAt (w1.alloc (.cells (rowS 0 0 0 4607182418800017408 0 1) 38)) w1.heap.size 0 := ⟨0, 0, 4607182418800017408, 0, Blk.new _ _ _, ⟨num_zero, num_zero⟩, ⟨num_one, num_zero⟩⟩
    have hb0 : Below w.heap.size w (w1.alloc (.cells (rowS 0 0 0 4607182418800017408 0 1) 38)) := bt HB1.out (below1 _ _)
    generalize w1.alloc (.cells _ 38) = w2 at hr0 hb0 ⊢
    obtain ⟨g, hg⟩ : ∃ g, g = w1.heap.size := ⟨_, rfl⟩
    rw [← hg] at hr0 ⊢
    have HG := Lib.hid (show w.heap.size ≤ g by rw [hg]; exact HB1.out.size)
    have HR0 := Lib.hid hr0
    have HB0 := Lib.hid hb0
    clear hr0 hb0 hg HB1 d1 d2
    go_loopg [12] n (fun gg _ wr => ∃ k, gg = n - rN k ∧ rN k ≤ n ∧ (k = 0 ∨ rN k < n) ∧ RunAt wr g k ∧ Below w.heap.size w wr)
    case atStart => exact ⟨0, rfl, Nat.zero_le _, .inl rfl, HR0.out, HB0.out⟩
    case round =>
      obtain ⟨k, hgk, hkn, hk0, hr, hb⟩ := hrel
      obtain ⟨a, b, c, d, hbl, hc1, hc2⟩ := hr
      have c1 := hbl.cell 1
      have c3 := hbl.cell 3
      obtain ⟨q1, q2, q3, q4⟩ := corner_le hkn (Nat.le_trans HN.out (by decide))
      obtain ⟨N, hN⟩ : ∃ N, N = rN k := ⟨_, rfl⟩
      obtain ⟨L, hL⟩ : ∃ L, L = rL k := ⟨_, rfl⟩
      have HBL := Lib.hid hbl
      have HC1 := Lib.hid hc1
      have HC2 := Lib.hid hc2
      have HB := Lib.hid hb
      have HK := Lib.hid (And.intro hgk (And.intro hkn hk0))
      have HNL := Lib.hid (And.intro hN hL)
      simp only [rowS, ← hN, ← hL] at c1 c3
      have hN2 : N ≤ 1048576 := by omega
      have hL2 : L ≤ 1048576 := by omega
      clear HR0 HB0 hgk hkn hk0 hbl hc1 hc2 hb q1 q2 q3 q4 hN hL
      by_cases hle : n ≤ N + L
      · have dd : decide ((n : Int) ≤ (N : Int) + (L : Int)) = true := decide_eq_true (by omega)
        have HLE := Lib.hid hle
        clear hle
        go_wp2_with fail
        go_step3
        simp only [Exit.inBlock, Exit.then, Exit.jump]
        obtain ⟨e1, e2⟩ := HNL.out
        obtain ⟨-, f2, f3⟩ := HK.out
        exact ⟨trivial, k, g, HG.out, f2, by rw [← e1, ← e2]; exact HLE.out, f3, ⟨a, b, c, d, HBL.out, HC1.out, HC2.out⟩, HB.out, _, _, _, _, _, _, _, _, _, _, _, _, _, _, _, _, _, _, _, _, _, _, _, _, _, rfl⟩
      · have dd : decide ((n : Int) ≤ (N : Int) + (L : Int)) = false := decide_eq_false (by omega)
        have HLE := Lib.hid hle
        clear hle
        go_upto_region 5 with (fail)
        obtain ⟨e1, e2⟩ := HNL.out
        obtain ⟨f1, f2, f3⟩ := HK.out
        obtain ⟨p, q, r, z, n1, n2, hc⟩ := next_run (by omega) HC1.out HC2.out
        have HP := Lib.hid (And.intro n1 n2)
        have HCC := Lib.hid hc
        have hnx : rN (k + 1) = N + L := by rw [e1, e2]; rfl
        have HX := Lib.hid (show gk = n - rN k ∧ rN k ≤ n ∧ rN (k + 1) < n ∧ rN k < rN (k + 1) by refine ⟨f1, f2, by have := HLE.out; omega, ?_⟩; rw [hnx, ← e1]; have : 0 < L := by { rw [e2]; unfold rL; omega }; omega)
        clear e1 e2 f1 f2 f3 n1 n2 hc hnx c1 c3 dd hN2 hL2 HNL HK HLE HC1 HC2
        refine wp_region_lit ?_
        refine wpList_load_row rfl 38 (.tmp 4) rfl g rfl 38 (rowS a b (rN k : Int) c d (rL k : Int)) (0, 0) _ HBL.out Try.underlying38 rfl info38 ?_
        go_wp2_with fail
        rename_i hK
        refine (HCC.out _).mono ?_
        rintro e w5 ⟨rfl, hb5⟩
        have HBL5 := Lib.hid (HBL.out.below hb5 HBL.out.lt)
        have HB5 := Lib.hid (bt HB.out hb5)
        clear hb5
        refine hK _ _ ?_
        refine wpList_store_row rfl 38 (.tmp 4) (.tmp 20) rfl g (rowS p q (rN (k + 1) : Int) r z (rL (k + 1) : Int)) rfl rfl 38 (rowS a b (rN k : Int) c d (rL k : Int)) HBL5.out info38 rfl (rowS_one ..) ?_
        have HBL6 := Lib.hid (HBL5.out.setRow_ (rowS p q (rN (k + 1) : Int) r z (rL (k + 1) : Int)))
        have HB6 := Lib.hid (bsr HB5.out HG.out (rowS p q (rN (k + 1) : Int) r z (rL (k + 1) : Int)))
        generalize w5.setRow g _ = w6 at HBL6 HB6 ⊢
        clear HBL5 HB5 HBL HB hK HCC
        go_wp2_with fail
        go_roundg (n - rN (k + 1))
        case measure => obtain ⟨x1, x2, x3, x4⟩ := HX.out; omega
        case rel => exact ⟨k + 1, rfl, Nat.le_of_lt HX.out.2.2.1, .inr HX.out.2.2.1, ⟨p, q, r, z, HBL6.out, HP.out.1, HP.out.2⟩, HB6.out⟩
  · rintro a' w' ⟨k, g, hg, h1, h2, h3, hr, hb, u1, u2, u3, u5, u6, u7, u8, u9, u10, u11, u12, u13, u14, u15, u16, u17, u18, u19, u20, u21, u22, u23, u24, u25, u26, rfl⟩
    obtain ⟨a, b, c, d, hbl, hc1, hc2⟩ := hr
    have c1 := hbl.cell 1
    obtain ⟨q1, q2, q3, q4⟩ := corner_le h1 (Nat.le_trans HN.out (by decide))
    obtain ⟨p, q, np, hc⟩ := cell_run (rN k : Int) (rL k : Int) (n - rN k) hc1 hc2 q1 q2 (unit_le k).1 (unit_le k).2 (by omega)
    obtain ⟨i, hi⟩ : ∃ i, i = n - rN k := ⟨_, rfl⟩
    rw [← hi] at np hc
    obtain ⟨N, hN⟩ : ∃ N, N = rN k := ⟨_, rfl⟩
    have HBL := Lib.hid hbl
    have HB := Lib.hid hb
    have HC := Lib.hid hc
    have HP := Lib.hid np
    have HI := Lib.hid (show (1 ≤ i ∨ k = 0 ∧ i = 0) ∧ i ≤ rL k ∧ rN k + i = n by
      refine ⟨?_, by omega, by omega⟩
      rcases h3 with rfl | h3
      · rcases Nat.eq_zero_or_pos i with h | h
        · exact .inr ⟨rfl, h⟩
        · exact .inl h
      · left; omega)
    simp only [rowS, ← hN] at c1
    have ec : (n : Int) - (N : Int) = (i : Int) := by omega
    have hi2 : i ≤ 1048576 := by omega
    have hc1' : w'.cell? ⟨g, 1, none⟩ = some (.int .i64 (N : Int)) := c1
    clear c1 hg h1 h2 h3 hb hbl hc1 hc2 q1 q2 q3 q4 np hc hi hN d1 d2
    go_upto_region 6 with (fail)
    refine wp_region_lit ?_
    refine wpList_load_row rfl 38 (.tmp 4) rfl g rfl 38 (rowS a b (rN k : Int) c d (rL k : Int)) (0, 0) _ HBL.out Try.underlying38 rfl info38 ?_
    go_wp2_with fail
    refine (HC.out _).mono ?_
    rintro e w5 ⟨rfl, hb5⟩
    have HB5 := Lib.hid (bt HB.out hb5)
    clear hb5
    go_wp2_with fail
    simp only [Exit.jump]
    go_ret2
    exact ⟨⟨k, i, p, q, HI.out.1, HI.out.2.1, HI.out.2.2, HP.out, rfl⟩, HB5.out⟩

/-- Of a number that may not be. -/
theorem spiral_no (n : Int) (w : World) (h : n < 0 ∨ 1000000 < n) :
    Calls Try.prog 5 #[.int .i64 n] w fun e w' => e = .returned (.tuple #[.complex .f64 0 0, .int .i64 1]) ∧ w = w' := by
  by_cases hn : n < 0
  · have d1 : decide (n < 0) = true := decide_eq_true hn
    clear hn h
    go_enter Try.func5, Try.ntmps5
    go_wp2_with fail
    refine wp_scope_jumps 0 (fun _ _ => False) (fun _ _ => 0) rfl ?_ ?_
    · go_wp2_with fail
      simp only [Exit.jump]
      go_ret2
      exact ⟨rfl, rfl⟩
    · rintro _ _ ⟨⟩
  · have d1 : decide (n < 0) = false := decide_eq_false hn
    have d2 : decide (1000000 < n) = true := decide_eq_true (by omega)
    clear hn h
    go_enter Try.func5, Try.ntmps5
    go_wp2_with fail
    refine wp_scope_jumps 0 (fun _ _ => False) (fun _ _ => 0) rfl ?_ ?_
    · go_wp2_with fail
      simp only [Exit.jump]
      go_ret2
      exact ⟨rfl, rfl⟩
    · rintro _ _ ⟨⟩
end Go.Proofs.Ytkekidgakmhicaa

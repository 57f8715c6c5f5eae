/- The contract of Place: the number of a cell. -/
import Derived.Test.YtkekidgakmhicaaSpiral
namespace Go.Proofs.Ytkekidgakmhicaa
open Go.RowKit
attribute [local go_sem] run_store_complex

/-- What holds where the loop is left. -/
def Met7 (w : World) (a b k : Nat) (a' : Act) (w' : World) : Prop :=
  ∃ g, w.heap.size ≤ g ∧ RunAt w' g k ∧ Below w.heap.size w w' ∧
    ∃ u1 u2 u3 u4 u5 u7 u8 u9 u10 u11 u12 u13 u14 u15 u16 u17 u18 u19 u20 u21 u22 u23 u24 u25 u26 u27 u28 u29 u30 : Value,
      a' = { tmps := #[.complex .f64 a b, u1, u2, u3, u4, u5, .pointer (some ⟨g, 0, none⟩), u7, u8, u9, u10, u11, u12, u13, u14, u15, u16, u17, u18, u19, u20, u21, u22, u23, u24, u25, u26, u27, u28, u29, u30], defers := [] }

theorem place_far {a b : Nat} {x y : Int} (w : World) (h : Cx a b x y) (hx : x.natAbs ≤ 1048576) (hy : y.natAbs ≤ 1048576) (hf : 500 < max x.natAbs y.natAbs) :
    Calls Try.prog 7 #[.complex .f64 a b] w fun e w' => e = .returned (.tuple #[.int .i64 0, .int .i64 2]) ∧ w = w' := by
  have hfar := fun w => far_c w ⟨num_zero, num_zero⟩ h (by decide) (by decide) hx hy
  obtain ⟨F, hF⟩ : ∃ F : Int, F = max ((x - 0).natAbs : Int) ((y - 0).natAbs : Int) := ⟨_, rfl⟩
  rw [← hF] at hfar
  have HF := Lib.hid hfar
  have hd : decide ((500 : Int) < F) = true := decide_eq_true (by omega)
  clear h hx hy hf hF hfar
  go_enter Try.func7, Try.ntmps7
  go_wp2_with fail
  refine wp_scope_jumps 0 (fun _ _ => False) (fun _ _ => 0) rfl ?_ ?_
  · go_wp2_with fail
    refine (HF.out _).mono ?_
    rintro e w1 ⟨rfl, rfl⟩
    go_wp2_with fail
    simp only [Exit.jump]
    go_ret2
    exact ⟨rfl, rfl⟩
  · rintro _ _ ⟨⟩

set_option maxRecDepth 100000 in
set_option maxHeartbeats 2000000 in
theorem place_c {a b k i : Nat} (w : World) (h : Cx a b (ax k i) (ay k i)) (h1 : 1 ≤ i ∨ k = 0 ∧ i = 0) (h2 : i ≤ rL k) (hn : rN k + i ≤ 1048576) (hf : max (ax k i).natAbs (ay k i).natAbs ≤ 500) :
    Calls Try.prog 7 #[.complex .f64 a b] w fun e w' => e = .returned (.tuple #[.int .i64 ((rN k + i : Nat) : Int), .int .i64 0]) ∧ Below w.heap.size w w' := by
  have hx : (ax k i).natAbs ≤ 1048576 := by omega
  have hy : (ay k i).natAbs ≤ 1048576 := by omega
  have hfar := fun w => far_c w ⟨num_zero, num_zero⟩ h (by decide) (by decide) hx hy
  obtain ⟨F, hF⟩ : ∃ F : Int, F = max ((ax k i - 0).natAbs : Int) ((ay k i - 0).natAbs : Int) := ⟨_, rfl⟩
  rw [← hF] at hfar
  have HF := Lib.hid hfar
  have hd : decide ((500 : Int) < F) = false := decide_eq_false (by omega)
  have H := Lib.hid h
  have HH := Lib.hid (And.intro h1 (And.intro h2 (And.intro hn (And.intro hx hy))))
  obtain ⟨M, hM⟩ : ∃ M : Int, M = ((rN k + i : Nat) : Int) := ⟨_, rfl⟩
  rw [← hM]
  have HM := Lib.hid hM
  clear h h1 h2 hn hf hx hy hF hfar hM
  go_enter Try.func7, Try.ntmps7
  go_wp2_with fail
  refine wp_scope_jumps 0 (Met7 w a b k) (fun _ _ => 0) rfl ?_ ?_
  · go_wp2_with fail
    refine (HF.out _).mono ?_
    rintro e w1 ⟨rfl, rfl⟩
    go_wp2_with fail
    refine (first_c _).mono ?_
    rintro e w1 ⟨rfl, hb1⟩
    have HB1 := Lib.hid hb1
    clear hb1
    go_wp2_with fail
    have hr0 : RunAt (w1.alloc (.cells (rowS 0 0 0 4607182418800017408 0 1) 38)) w1.heap.size 0 := ⟨0, 0, 4607182418800017408, 0, Blk.new _ _ _, ⟨num_zero, num_zero⟩, ⟨num_one, num_zero⟩⟩
    have hb0 : Below w.heap.size w (w1.alloc (.cells (rowS 0 0 0 4607182418800017408 0 1) 38)) := bt HB1.out (below1 _ _)
    generalize w1.alloc (.cells _ 38) = w2 at hr0 hb0 ⊢
    obtain ⟨g, hg⟩ : ∃ g, g = w1.heap.size := ⟨_, rfl⟩
    rw [← hg] at hr0 ⊢
    have HG := Lib.hid (show w.heap.size ≤ g by rw [hg]; exact HB1.out.size)
    have HR0 := Lib.hid hr0
    have HB0 := Lib.hid hb0
    clear hr0 hb0 hg HB1 hd HF
    go_loopg [19] k (fun gg _ wr => ∃ j, gg + j = k ∧ RunAt wr g j ∧ Below w.heap.size w wr)
    case atStart => exact ⟨0, rfl, HR0.out, HB0.out⟩
    case round =>
      obtain ⟨j, hjk, hr, hb⟩ := hrel
      obtain ⟨a1, b1, c1, d1, hbl, hc1, hc2⟩ := hr
      have hmono := rN_mono (show j ≤ k by omega)
      obtain ⟨g1, g2, g3, g4, g5⟩ := HH.out
      obtain ⟨q1, q2, q3, q4⟩ := corner_le (show rN j ≤ 1048576 by omega) (Nat.le_refl _)
      have hh := fun w => holds_c (rN j : Int) (rL j) hc1 hc2 H.out q1 q2 (unit_le j).1 (unit_le j).2 g4 g5 q3 w
      have hon : (decide ((ay k i - cy j) * sx j - (ax k i - cx j) * sy j = 0) && (decide (0 ≤ (ax k i - cx j) * sx j + (ay k i - cy j) * sy j) && decide ((ax k i - cx j) * sx j + (ay k i - cy j) * sy j ≤ (rL j : Int)))) = decide (j = k) := by
        by_cases e : j = k
        · subst e
          obtain ⟨o1, o2, o3⟩ := (here j i g2).2.2
          unfold wy at o1
          unfold wx at o2 o3
          rw [decide_eq_true o1, decide_eq_true o2, decide_eq_true o3, decide_eq_true rfl]; rfl
        · rw [decide_eq_false e]
          have hno : ¬ On j (ax k i) (ay k i) := by
            rcases g1 with g1 | ⟨rfl, -⟩
            · exact apart (by omega) g1 g2
            · omega
          apply Bool.eq_false_iff.2
          intro ht
          simp only [Bool.and_eq_true, decide_eq_true_eq] at ht
          exact hno ht
      simp only [hon] at hh
      have HHO := Lib.hid hh
      have HBL := Lib.hid hbl
      have HC1 := Lib.hid hc1
      have HC2 := Lib.hid hc2
      have HB := Lib.hid hb
      have HJ := Lib.hid (And.intro hjk q4)
      clear HR0 HB0 hjk hbl hc1 hc2 hb q1 q2 q3 q4 g1 g2 g3 g4 g5 hon hh hmono
      go_upto_region 7 with (fail)
      refine wp_region_lit ?_
      refine wpList_load_row rfl 38 (.tmp 6) rfl g rfl 38 (rowS a1 b1 (rN j : Int) c1 d1 (rL j : Int)) (0, 0) _ HBL.out Try.underlying38 rfl info38 ?_
      go_wp2_with fail
      refine (HHO.out _).mono ?_
      rintro e w5 ⟨rfl, hb5⟩
      have HBL5 := Lib.hid (HBL.out.below hb5 HBL.out.lt)
      have HB5 := Lib.hid (bt HB.out hb5)
      clear hb5 HBL HB HHO
      by_cases hjk : j = k
      · have dd : decide (j = k) = true := decide_eq_true hjk
        rw [dd]
        have HJK := Lib.hid hjk
        clear hjk dd
        go_wp2_with fail
        go_step3
        simp only [Exit.inBlock, Exit.then, Exit.jump]
        exact ⟨trivial, g, HG.out, ⟨a1, b1, c1, d1, HJK.out ▸ HBL5.out, HJK.out ▸ HC1.out, HJK.out ▸ HC2.out⟩, HB5.out, _, _, _, _, _, _, _, _, _, _, _, _, _, _, _, _, _, _, _, _, _, _, _, _, _, _, _, _, _, rfl⟩
      · have dd : decide (j = k) = false := decide_eq_false hjk
        rw [dd]
        have HJK := Lib.hid hjk
        clear hjk dd
        obtain ⟨p, q, r, z, n1, n2, hc⟩ := next_run HJ.out.2 HC1.out HC2.out
        have HP := Lib.hid (And.intro n1 n2)
        have HCC := Lib.hid hc
        clear n1 n2 hc HC1 HC2
        go_upto_region 8 with (fail)
        refine wp_region_lit ?_
        refine wpList_load_row rfl 38 (.tmp 6) rfl g rfl 38 (rowS a1 b1 (rN j : Int) c1 d1 (rL j : Int)) (0, 0) _ HBL5.out Try.underlying38 rfl info38 ?_
        go_wp2_with fail
        rename_i hK
        refine (HCC.out _).mono ?_
        rintro e w6 ⟨rfl, hb6⟩
        have HBL6 := Lib.hid (HBL5.out.below hb6 HBL5.out.lt)
        have HB6 := Lib.hid (bt HB5.out hb6)
        clear hb6
        refine hK _ _ ?_
        refine wpList_store_row rfl 38 (.tmp 6) (.tmp 22) rfl g (rowS p q (rN (j + 1) : Int) r z (rL (j + 1) : Int)) rfl rfl 38 (rowS a1 b1 (rN j : Int) c1 d1 (rL j : Int)) HBL6.out info38 rfl (rowS_one ..) ?_
        have HBL7 := Lib.hid (HBL6.out.setRow_ (rowS p q (rN (j + 1) : Int) r z (rL (j + 1) : Int)))
        have HB7 := Lib.hid (bsr HB6.out HG.out (rowS p q (rN (j + 1) : Int) r z (rL (j + 1) : Int)))
        generalize w6.setRow g _ = w7 at HBL7 HB7 ⊢
        clear HBL6 HB6 HBL5 HB5 hK HCC
        go_wp2_with fail
        go_roundg (gk - 1)
        case measure => have := HJ.out.1; have := HJK.out; omega
        case rel => exact ⟨j + 1, by have := HJ.out.1; have := HJK.out; omega, ⟨p, q, r, z, HBL7.out, HP.out.1, HP.out.2⟩, HB7.out⟩
  · rintro a' w' ⟨g, hg, hr, hb, u1, u2, u3, u4, u5, u7, u8, u9, u10, u11, u12, u13, u14, u15, u16, u17, u18, u19, u20, u21, u22, u23, u24, u25, u26, u27, u28, u29, u30, rfl⟩
    obtain ⟨a1, b1, c1, d1, hbl, hc1, hc2⟩ := hr
    obtain ⟨g1, g2, g3, g4, g5⟩ := HH.out
    obtain ⟨q1, q2, q3, q4⟩ := corner_le (show rN k ≤ 1048576 by omega) (Nat.le_refl _)
    obtain ⟨r, z, n1, hc⟩ := along_c (rN k : Int) (rL k : Int) hc1 hc2 H.out q1 q2 (unit_le k).1 (unit_le k).2 g4 g5
    have hw : (ax k i - cx k) * sx k + (ay k i - cy k) * sy k = (i : Int) := (here k i g2).1
    rw [hw] at n1
    have e3 : ∀ w : World, (convert 30 3 (.float .f64 r)).run Try.prog w = .ok (.int .i64 (i : Int)) w :=
      fun w => run_convert_float_int w 30 3 .f64 .i64 r _ (by kernel_rfl) Try.underlying3 (num_to_int n1.re (by omega) (by omega))
    have e4 : IntKind.i64.wrap ((rN k : Int) + (i : Int)) = ((rN k + i : Nat) : Int) := by rw [IntWalk.i64_in _ (by omega)]; push_cast; rfl
    have HB := Lib.hid hb
    have HBL := Lib.hid hbl
    have HC := Lib.hid hc
    have HG := Lib.hid hg
    rw [← HM.out] at e4
    clear hb hbl hc hg hc1 hc2 g1 g2 g3 g4 g5 q1 q2 q3 q4 n1 hw H HH hd HF HM
    go_upto_region 9 with (fail)
    refine wp_region_held_drew (S := fun w1 => w1.cell? ⟨g, 0, none⟩ = some (.complex .f64 a1 b1) ∧ w1.cell? ⟨g, 1, none⟩ = some (.int .i64 (rN k : Int)) ∧ w1.cell? ⟨g, 2, none⟩ = some (.complex .f64 c1 d1) ∧ w1.cell? ⟨g, 3, none⟩ = some (.int .i64 (rL k : Int)) ∧ Blk w1 g 38 (rowS a1 b1 (rN k : Int) c1 d1 (rL k : Int)) ∧ Blk w1 g 38 (rowS a1 b1 (rN k : Int) c1 d1 (rL k : Int)) ∧ Below w.heap.size w w1) (by kernel_rfl) (makeN HBL.out HBL.out HB.out.drew) (fun hH0 => ?_)
    refine wpAnyH_take (i := 0) (oi := { dst := some 23, op := Op.fieldAddr 38 (Operand.tmp 6) 1, type := 0, pos := "lattice.go:122", after := #[], guard := none }) (v := ?v0) rfl (by kernel_rfl) (by kernel_rfl) (by kernel_rfl) (fun _ _ _ h => h) (Or.inl ⟨by rfl, ?h0⟩) hH0 ?r0
    case h0 => intro w' hSw; (try dsimp only at hSw); go_simp; (try with_reducible rfl)
    simp only [Act.put, List.setIfInBounds_toArray, List.set_cons_zero, List.set_cons_succ]
    refine wpAnyH_take (i := 1) (oi := { dst := some 24, op := Op.load 3 (Operand.tmp 23), type := 3, pos := "lattice.go:122", after := #[{ on := 0, ground := Ground.data }], guard := none }) (v := ?v1) rfl (by kernel_rfl) (by kernel_rfl) (by kernel_rfl) (fun _ _ _ h => h) (Or.inl ⟨by rfl, ?h1⟩) hH0 ?r1
    case h1 => intro w' hSw; (try dsimp only at hSw); go_simp; (try with_reducible rfl)
    simp only [Act.put, List.setIfInBounds_toArray, List.set_cons_zero, List.set_cons_succ]
    refine wpAnyH_take (i := 2) (oi := { dst := some 25, op := Op.load 38 (Operand.tmp 6), type := 38, pos := "lattice.go:122", after := #[], guard := none }) (v := ?v2) rfl (by kernel_rfl) (by kernel_rfl) (by kernel_rfl) (fun _ _ _ h => h) (Or.inl ⟨by rfl, ?h2⟩) hH0 ?r2
    case h2 => intro w' hSw; (try dsimp only at hSw); go_simp; (try with_reducible rfl)
    simp only [Act.put, List.setIfInBounds_toArray, List.set_cons_zero, List.set_cons_succ]
    refine wpAnyH_take (i := 3) (oi := { dst := some 26, op := Op.move (Operand.tmp 0), type := 23, pos := "lattice.go:122", after := #[], guard := none }) (v := ?v3) rfl (by kernel_rfl) (by kernel_rfl) (by kernel_rfl) (fun _ _ _ h => h) (Or.inl ⟨by rfl, ?h3⟩) hH0 ?r3
    case h3 => intro w' hSw; (try dsimp only at hSw); go_simp; (try with_reducible rfl)
    simp only [Act.put, List.setIfInBounds_toArray, List.set_cons_zero, List.set_cons_succ]
    refine wpAnyH_ready (rs := [4]) (by kernel_rfl) (by simp) ?_
    refine AllReadyH.cons (o := { dst := some 27, op := Op.call { callee := Callee.value (Operand.func 17), args := #[Operand.tmp 25, Operand.tmp 26], argTypes := #[38, 23] }, type := 23, pos := "lattice.go:122", after := #[{ on := 2, ground := Ground.data }, { on := 3, ground := Ground.data }], guard := none }) rfl (fun K hK => ?_) AllReadyH.nil
    go_simp
    refine (HC.out _).mono ?_
    rintro e w3 ⟨rfl, hb⟩
    have hH1 := keepN hH0 hb
    clear hb
    go_wp2_with fail
    refine hK.out _ _ hH1 (fun hH1 => ?_)
    clear hK K
    refine wpAnyH_take (i := 5) (oi := { dst := some 28, op := Op.call { callee := Callee.builtin Builtin.real, args := #[Operand.tmp 27], argTypes := #[23] }, type := 30, pos := "lattice.go:122", after := #[{ on := 4, ground := Ground.data }], guard := none }) (v := ?v5) rfl (by kernel_rfl) (by kernel_rfl) (by kernel_rfl) (fun _ _ _ h => h) (Or.inl ⟨by rfl, ?h5⟩) hH1 ?r5
    case h5 => intro w' hSw; (try dsimp only at hSw); go_simp; (try with_reducible rfl)
    simp only [Act.put, List.setIfInBounds_toArray, List.set_cons_zero, List.set_cons_succ]
    refine wpAnyH_take (i := 6) (oi := { dst := some 29, op := Op.convert 30 3 (Operand.tmp 28), type := 3, pos := "lattice.go:122", after := #[{ on := 5, ground := Ground.data }], guard := none }) (v := ?v6) rfl (by kernel_rfl) (by kernel_rfl) (by kernel_rfl) (fun _ _ _ h => h) (Or.inl ⟨by rfl, ?h6⟩) hH1 ?r6
    case h6 => intro w' hSw; (try dsimp only at hSw); go_simp; (try with_reducible rfl)
    simp only [Act.put, List.setIfInBounds_toArray, List.set_cons_zero, List.set_cons_succ]
    refine wpAnyH_take (i := 7) (oi := { dst := some 30, op := Op.binOp BinOp.add 3 (Operand.tmp 24) (Operand.tmp 29) 3, type := 3, pos := "lattice.go:122", after := #[{ on := 1, ground := Ground.data }, { on := 6, ground := Ground.data }], guard := none }) (v := ?v7) rfl (by kernel_rfl) (by kernel_rfl) (by kernel_rfl) (fun _ _ _ h => h) (Or.inl ⟨by rfl, ?h7⟩) hH1 ?r7
    case h7 => intro w' hSw; (try dsimp only at hSw); go_simp; (try with_reducible rfl)
    simp only [Act.put, List.setIfInBounds_toArray, List.set_cons_zero, List.set_cons_succ]
    refine wpAnyH_take (i := 8) (oi := { dst := some 2, op := Op.assign (Operand.tmp 30), type := 3, pos := "lattice.go:122", after := #[{ on := 7, ground := Ground.data }, { on := 4, ground := Ground.chain }, { on := 0, ground := Ground.phase }, { on := 1, ground := Ground.phase }, { on := 2, ground := Ground.phase }, { on := 3, ground := Ground.phase }, { on := 4, ground := Ground.phase }, { on := 5, ground := Ground.phase }, { on := 6, ground := Ground.phase }, { on := 7, ground := Ground.phase }], guard := none }) (v := ?v8) rfl (by kernel_rfl) (by kernel_rfl) (by kernel_rfl) (fun _ _ _ h => h) (Or.inl ⟨by rfl, ?h8⟩) hH1 ?r8
    case h8 => intro w' hSw; (try dsimp only at hSw); go_simp; (try with_reducible rfl)
    simp only [Act.put, List.setIfInBounds_toArray, List.set_cons_zero, List.set_cons_succ]
    refine wpAnyH_take (i := 9) (oi := { dst := some 3, op := Op.assign (Operand.const (Value.int IntKind.i64 0)), type := 24, pos := "lattice.go:122", after := #[{ on := 8, ground := Ground.chain }, { on := 0, ground := Ground.phase }, { on := 1, ground := Ground.phase }, { on := 2, ground := Ground.phase }, { on := 3, ground := Ground.phase }, { on := 4, ground := Ground.phase }, { on := 5, ground := Ground.phase }, { on := 6, ground := Ground.phase }, { on := 7, ground := Ground.phase }, { on := 8, ground := Ground.phase }], guard := none }) (v := ?v9) rfl (by kernel_rfl) (by kernel_rfl) (by kernel_rfl) (fun _ _ _ h => h) (Or.inl ⟨by rfl, ?h9⟩) hH1 ?r9
    case h9 => intro w' hSw; (try dsimp only at hSw); go_simp; (try with_reducible rfl)
    simp only [Act.put, List.setIfInBounds_toArray, List.set_cons_zero, List.set_cons_succ]
    refine wpAnyH_done (by kernel_rfl) ?_ _
    go_wp2_with fail
    simp only [Exit.jump]
    go_ret2
    exact ⟨rfl, hH1.2.2.2.2.2.2⟩
end Go.Proofs.Ytkekidgakmhicaa

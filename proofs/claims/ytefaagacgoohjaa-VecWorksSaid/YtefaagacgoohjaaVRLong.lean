/- The reference's Long: the same length. -/
import Derived.Test.YtefaagacgoohjaaVSq
import Derived.Test.YtefaagacgoohjaaVTri
namespace Go.Proofs.Ytefaagacgoohjaa
open Go.RowKit

theorem makeB {w w1 : World} {g c0 c1 c2 c3 c4 c5 c6 c7 : Nat} (h : Blk w1 g 51 (bigR false c0 c1 c2 c3 c4 c5 c6 c7)) (hb : Below w.heap.size w w1) : w1.cell? ⟨g, 0, none⟩ = some (.bool false) ∧ w1.cell? ⟨g, 1, none⟩ = some (.int .i64 (c0 : Int)) ∧ w1.cell? ⟨g, 2, none⟩ = some (.int .i64 (c1 : Int)) ∧ w1.cell? ⟨g, 3, none⟩ = some (.int .i64 (c2 : Int)) ∧ w1.cell? ⟨g, 4, none⟩ = some (.int .i64 (c3 : Int)) ∧ w1.cell? ⟨g, 5, none⟩ = some (.int .i64 (c4 : Int)) ∧ w1.cell? ⟨g, 6, none⟩ = some (.int .i64 (c5 : Int)) ∧ w1.cell? ⟨g, 7, none⟩ = some (.int .i64 (c6 : Int)) ∧ w1.cell? ⟨g, 8, none⟩ = some (.int .i64 (c7 : Int)) ∧ Blk w1 g 51 (bigR false c0 c1 c2 c3 c4 c5 c6 c7) ∧ Below w.heap.size w w1 :=
  ⟨h.cell 0, h.cell 1, h.cell 2, h.cell 3, h.cell 4, h.cell 5, h.cell 6, h.cell 7, h.cell 8, h, hb⟩
theorem keepB {w w1 w2 : World} {g c0 c1 c2 c3 c4 c5 c6 c7 : Nat} (h : w1.cell? ⟨g, 0, none⟩ = some (.bool false) ∧ w1.cell? ⟨g, 1, none⟩ = some (.int .i64 (c0 : Int)) ∧ w1.cell? ⟨g, 2, none⟩ = some (.int .i64 (c1 : Int)) ∧ w1.cell? ⟨g, 3, none⟩ = some (.int .i64 (c2 : Int)) ∧ w1.cell? ⟨g, 4, none⟩ = some (.int .i64 (c3 : Int)) ∧ w1.cell? ⟨g, 5, none⟩ = some (.int .i64 (c4 : Int)) ∧ w1.cell? ⟨g, 6, none⟩ = some (.int .i64 (c5 : Int)) ∧ w1.cell? ⟨g, 7, none⟩ = some (.int .i64 (c6 : Int)) ∧ w1.cell? ⟨g, 8, none⟩ = some (.int .i64 (c7 : Int)) ∧ Blk w1 g 51 (bigR false c0 c1 c2 c3 c4 c5 c6 c7) ∧ Below w.heap.size w w1) (hb : Below w1.heap.size w1 w2) : w2.cell? ⟨g, 0, none⟩ = some (.bool false) ∧ w2.cell? ⟨g, 1, none⟩ = some (.int .i64 (c0 : Int)) ∧ w2.cell? ⟨g, 2, none⟩ = some (.int .i64 (c1 : Int)) ∧ w2.cell? ⟨g, 3, none⟩ = some (.int .i64 (c2 : Int)) ∧ w2.cell? ⟨g, 4, none⟩ = some (.int .i64 (c3 : Int)) ∧ w2.cell? ⟨g, 5, none⟩ = some (.int .i64 (c4 : Int)) ∧ w2.cell? ⟨g, 6, none⟩ = some (.int .i64 (c5 : Int)) ∧ w2.cell? ⟨g, 7, none⟩ = some (.int .i64 (c6 : Int)) ∧ w2.cell? ⟨g, 8, none⟩ = some (.int .i64 (c7 : Int)) ∧ Blk w2 g 51 (bigR false c0 c1 c2 c3 c4 c5 c6 c7) ∧ Below w.heap.size w w2 :=
  makeB (h.2.2.2.2.2.2.2.2.2.1.below hb h.2.2.2.2.2.2.2.2.2.1.lt) (bt h.2.2.2.2.2.2.2.2.2.2 hb)

set_option maxRecDepth 100000 in
set_option maxHeartbeats 4000000 in
theorem rvlong_c (x y : Int) (n : Nat) (w : World) (hx : I64 x) (hy : I64 y) (hn : IsLong (sqs x y) n) :
    Calls Try.prog 20 #[vecV x y] w fun e w' => e = .returned (.int .i64 (n : Int)) ∧ Below w.heap.size w w' := by
  have q1 : x.natAbs * x.natAbs ≤ 85070591730234615865843651857942052864 := sq_le (by unfold I64 at hx; omega)
  have q2 : y.natAbs * y.natAbs ≤ 85070591730234615865843651857942052864 := sq_le (by unfold I64 at hy; omega)
  have H1 := Lib.hid (fun w => rsquare_any x w hx)
  have H2 := Lib.hid (fun w => rsquare_any y w hy)
  unfold sqs at hn
  generalize x.natAbs * x.natAbs = p at *
  generalize y.natAbs * y.natAbs = q at *
  have HS := Lib.hid (show p + q < 340282366920938463463374607431768211456 by omega)
  obtain ⟨T, hT⟩ : ∃ T, p + q = T := ⟨_, rfl⟩
  have HT := Lib.hid hT
  rw [hT] at hn
  have HN := Lib.hid hn
  have HR := Lib.hid (Rl.start T)
  clear hn hx hy q1 q2 hT
  go_enter Try.func20, Try.ntmps20
  go_upto_region 1 with (fail)
  have hs := Box1.start w x y
  obtain ⟨w0, hw0⟩ : ∃ w0, w0 = w.alloc (.cells #[.int .i64 x, .int .i64 y] 23) := ⟨_, rfl⟩
  rw [← hw0] at hs ⊢
  obtain ⟨g, hg⟩ : ∃ g, g = w.heap.size := ⟨_, rfl⟩
  rw [← hg] at hs ⊢
  have HG := Lib.hid (show w.heap.size ≤ g by omega)
  have HB0 := Lib.hid hs
  clear hs hw0 hg
  go_cut [3] (fun s3 wx => ∃ g3 c0 c1 c2 c3 c4 c5 c6 c7 : Nat, s3 = .pointer (some ⟨g3, 0, none⟩) ∧ Dig8 c0 c1 c2 c3 c4 c5 c6 c7 ∧ vl8 c0 c1 c2 c3 c4 c5 c6 c7 = p + q ∧ Blk wx g3 51 (bigR false c0 c1 c2 c3 c4 c5 c6 c7) ∧ Below w.heap.size w wx)
  case first =>
    refine wp_region_held_drew (S := fun w1 => Box1 w w1 g x y) (by kernel_rfl) HB0.out.drew (fun hH0 => ?_)
    refine wpAnyH_take (i := 0) (oi := { dst := some 8, op := Op.fieldAddr 23 (Operand.tmp 1) 0, type := 0, pos := "ref.go:52", after := #[], guard := none }) (v := ?v0) rfl (by kernel_rfl) (by kernel_rfl) (by kernel_rfl) (fun _ _ _ h => h) (Or.inl ⟨by rfl, ?h0⟩) hH0 ?r0
    case h0 => intro w' hSw; (try dsimp only at hSw); go_simp; (try with_reducible rfl)
    simp only [Act.put, List.setIfInBounds_toArray, List.set_cons_zero, List.set_cons_succ]
    refine wpAnyH_take (i := 1) (oi := { dst := some 9, op := Op.load 3 (Operand.tmp 8), type := 3, pos := "ref.go:52", after := #[{ on := 0, ground := Ground.data }], guard := none }) (v := ?v1) rfl (by kernel_rfl) (by kernel_rfl) (by kernel_rfl) (fun _ _ _ h => h) (Or.inl ⟨by rfl, ?h1⟩) hH0 ?r1
    case h1 => intro w' hSw; (try dsimp only at hSw); go_simp; (try with_reducible rfl)
    simp only [Act.put, List.setIfInBounds_toArray, List.set_cons_zero, List.set_cons_succ]
    refine wpAnyH_take (i := 3) (oi := { dst := some 11, op := Op.fieldAddr 23 (Operand.tmp 1) 1, type := 0, pos := "ref.go:52", after := #[], guard := none }) (v := ?v3) rfl (by kernel_rfl) (by kernel_rfl) (by kernel_rfl) (fun _ _ _ h => h) (Or.inl ⟨by rfl, ?h3⟩) hH0 ?r3
    case h3 => intro w' hSw; (try dsimp only at hSw); go_simp; (try with_reducible rfl)
    simp only [Act.put, List.setIfInBounds_toArray, List.set_cons_zero, List.set_cons_succ]
    refine wpAnyH_take (i := 4) (oi := { dst := some 12, op := Op.load 3 (Operand.tmp 11), type := 3, pos := "ref.go:52", after := #[{ on := 3, ground := Ground.data }], guard := none }) (v := ?v4) rfl (by kernel_rfl) (by kernel_rfl) (by kernel_rfl) (fun _ _ _ h => h) (Or.inl ⟨by rfl, ?h4⟩) hH0 ?r4
    case h4 => intro w' hSw; (try dsimp only at hSw); go_simp; (try with_reducible rfl)
    simp only [Act.put, List.setIfInBounds_toArray, List.set_cons_zero, List.set_cons_succ]
    refine wpAnyH_ready (rs := [2, 7]) (by kernel_rfl) (by simp) ?_
    refine AllReadyH.cons (o := { dst := some 10, op := Op.call { callee := Callee.value (Operand.func 43), args := #[Operand.tmp 9], argTypes := #[3] }, type := 51, pos := "ref.go:52", after := #[{ on := 1, ground := Ground.data }], guard := none }) rfl (fun K hK => ?_) (AllReadyH.cons (o := { dst := some 3, op := Op.alloc 51, type := 0, pos := "ref.go:52", after := #[], guard := none }) rfl (fun K hK => ?_) AllReadyH.nil)
    · go_simp
      refine (H1.out _).mono ?_
      rintro e v1 ⟨⟨a0, a1, a2, a3, a4, a5, a6, a7, rfl, da, va⟩, hb⟩
      have hH1 := hH0.keep hb
      clear hb
      go_wp2_with fail
      refine hK.out _ _ hH1 (fun hH1 => ?_)
      clear hK K
      refine wpAnyH_ready (rs := [5, 7]) (by kernel_rfl) (by simp) ?_
      refine AllReadyH.cons (o := { dst := some 13, op := Op.call { callee := Callee.value (Operand.func 43), args := #[Operand.tmp 12], argTypes := #[3] }, type := 51, pos := "ref.go:52", after := #[{ on := 4, ground := Ground.data }, { on := 2, ground := Ground.chain }], guard := none }) rfl (fun K hK => ?_) (AllReadyH.cons (o := { dst := some 3, op := Op.alloc 51, type := 0, pos := "ref.go:52", after := #[], guard := none }) rfl (fun K hK => ?_) AllReadyH.nil)
      · go_simp
        refine (H2.out _).mono ?_
        rintro e v2 ⟨⟨b0, b1, b2, b3, b4, b5, b6, b7, rfl, db, vb⟩, hb⟩
        have hH2 := hH1.keep hb
        clear hb
        go_wp2_with fail
        refine hK.out _ _ hH2 (fun hH2 => ?_)
        clear hK K
        refine wpAnyH_ready (rs := [6, 7]) (by kernel_rfl) (by simp) ?_
        refine AllReadyH.cons (o := { dst := some 14, op := Op.call { callee := Callee.value (Operand.func 42), args := #[Operand.tmp 10, Operand.tmp 13], argTypes := #[51, 51] }, type := 51, pos := "ref.go:52", after := #[{ on := 2, ground := Ground.data }, { on := 5, ground := Ground.data }, { on := 5, ground := Ground.chain }], guard := none }) rfl (fun K hK => ?_) (AllReadyH.cons (o := { dst := some 3, op := Op.alloc 51, type := 0, pos := "ref.go:52", after := #[], guard := none }) rfl (fun K hK => ?_) AllReadyH.nil)
        · go_simp
          refine (rplus_c _ _ a0 a1 a2 a3 a4 a5 a6 a7 b0 b1 b2 b3 b4 b5 b6 b7 _ da db (by rw [va, vb]; exact HS.out)).mono ?_
          rintro e v3 ⟨⟨c0, c1, c2, c3, c4, c5, c6, c7, rfl, dc, vc⟩, hb⟩
          have hH3 := hH2.keep hb
          clear hb
          go_wp2_with fail
          refine hK.out _ _ hH3 (fun hH3 => ?_)
          clear hK K
          refine wpAnyH_ready (rs := [7]) (by kernel_rfl) (by simp) ?_
          refine AllReadyH.cons (o := { dst := some 3, op := Op.alloc 51, type := 0, pos := "ref.go:52", after := #[], guard := none }) rfl (fun K hK => ?_) AllReadyH.nil
          go_simp
          go_wp2_with fail
          have ba4 := Blk.new v3 51 (bigR false 0 0 0 0 0 0 0 0)
          have hne := hH3.2.2.1.lt
          refine hK.out _ _ (hH3.keep ((Below.refl _ _).alloc (Nat.le_refl _) _)) (fun hH4 => ?_)
          clear hK K
          refine wpAnyH_ready (rs := [8]) (by kernel_rfl) (by simp) ?_
          refine AllReadyH.cons (o := { dst := none, op := Op.store 51 (Operand.tmp 3) (Operand.tmp 14), type := 0, pos := "ref.go:52", after := #[{ on := 7, ground := Ground.data }, { on := 6, ground := Ground.data }, { on := 6, ground := Ground.chain }, { on := 0, ground := Ground.phase }, { on := 1, ground := Ground.phase }, { on := 2, ground := Ground.phase }, { on := 3, ground := Ground.phase }, { on := 4, ground := Ground.phase }, { on := 5, ground := Ground.phase }, { on := 6, ground := Ground.phase }, { on := 7, ground := Ground.phase }], guard := none }) rfl (fun K hK => ?_) AllReadyH.nil
          rw [if_pos (by rfl)]
          refine wp_store_row 51 (.tmp 3) (.tmp 14) rfl v3.heap.size (bigR false c0 c1 c2 c3 c4 c5 c6 c7) rfl rfl 51 (bigR false 0 0 0 0 0 0 0 0) ba4 info51 rfl (bigR_one ..) ?_
          have hne' : g < v3.heap.size := hne
          have hH5 := hH4.setRow (show g ≠ v3.heap.size by omega) (show w.heap.size ≤ v3.heap.size by have := HG.out; omega) (bigR false c0 c1 c2 c3 c4 c5 c6 c7)
          refine hK.out _ _ hH5 (fun hH5 => ?_)
          clear hK K
          refine wpAnyH_done (by kernel_rfl) ?_ _
          go_wp2_with fail
          go_meet
          exact ⟨v3.heap.size, c0, c1, c2, c3, c4, c5, c6, c7, rfl, dc, by rw [vc, va, vb], ba4.setRow_ _, hH5.below⟩
        · go_simp
          go_wp2_with fail
          have ba6 := Blk.new v2 51 (bigR false 0 0 0 0 0 0 0 0)
          have hne := hH2.2.2.1.lt
          refine hK.out _ _ (hH2.keep ((Below.refl _ _).alloc (Nat.le_refl _) _)) (fun hH6 => ?_)
          clear hK K
          refine wpAnyH_ready (rs := [6]) (by kernel_rfl) (by simp) ?_
          refine AllReadyH.cons (o := { dst := some 14, op := Op.call { callee := Callee.value (Operand.func 42), args := #[Operand.tmp 10, Operand.tmp 13], argTypes := #[51, 51] }, type := 51, pos := "ref.go:52", after := #[{ on := 2, ground := Ground.data }, { on := 5, ground := Ground.data }, { on := 5, ground := Ground.chain }], guard := none }) rfl (fun K hK => ?_) AllReadyH.nil
          go_simp
          refine (rplus_c _ _ a0 a1 a2 a3 a4 a5 a6 a7 b0 b1 b2 b3 b4 b5 b6 b7 _ da db (by rw [va, vb]; exact HS.out)).mono ?_
          rintro e v7 ⟨⟨c0, c1, c2, c3, c4, c5, c6, c7, rfl, dc, vc⟩, hb⟩
          have hH7 := hH6.keep hb
          have ba7 := ba6.below hb ba6.lt
          clear hb
          go_wp2_with fail
          refine hK.out _ _ hH7 (fun hH7 => ?_)
          clear hK K
          refine wpAnyH_ready (rs := [8]) (by kernel_rfl) (by simp) ?_
          refine AllReadyH.cons (o := { dst := none, op := Op.store 51 (Operand.tmp 3) (Operand.tmp 14), type := 0, pos := "ref.go:52", after := #[{ on := 7, ground := Ground.data }, { on := 6, ground := Ground.data }, { on := 6, ground := Ground.chain }, { on := 0, ground := Ground.phase }, { on := 1, ground := Ground.phase }, { on := 2, ground := Ground.phase }, { on := 3, ground := Ground.phase }, { on := 4, ground := Ground.phase }, { on := 5, ground := Ground.phase }, { on := 6, ground := Ground.phase }, { on := 7, ground := Ground.phase }], guard := none }) rfl (fun K hK => ?_) AllReadyH.nil
          rw [if_pos (by rfl)]
          refine wp_store_row 51 (.tmp 3) (.tmp 14) rfl v2.heap.size (bigR false c0 c1 c2 c3 c4 c5 c6 c7) rfl rfl 51 (bigR false 0 0 0 0 0 0 0 0) ba7 info51 rfl (bigR_one ..) ?_
          have hne' : g < v2.heap.size := hne
          have hH8 := hH7.setRow (show g ≠ v2.heap.size by omega) (show w.heap.size ≤ v2.heap.size by have := HG.out; omega) (bigR false c0 c1 c2 c3 c4 c5 c6 c7)
          refine hK.out _ _ hH8 (fun hH8 => ?_)
          clear hK K
          refine wpAnyH_done (by kernel_rfl) ?_ _
          go_wp2_with fail
          go_meet
          exact ⟨v2.heap.size, c0, c1, c2, c3, c4, c5, c6, c7, rfl, dc, by rw [vc, va, vb], ba7.setRow_ _, hH8.below⟩
      · go_simp
        go_wp2_with fail
        have ba9 := Blk.new v1 51 (bigR false 0 0 0 0 0 0 0 0)
        have hne := hH1.2.2.1.lt
        refine hK.out _ _ (hH1.keep ((Below.refl _ _).alloc (Nat.le_refl _) _)) (fun hH9 => ?_)
        clear hK K
        refine wpAnyH_ready (rs := [5]) (by kernel_rfl) (by simp) ?_
        refine AllReadyH.cons (o := { dst := some 13, op := Op.call { callee := Callee.value (Operand.func 43), args := #[Operand.tmp 12], argTypes := #[3] }, type := 51, pos := "ref.go:52", after := #[{ on := 4, ground := Ground.data }, { on := 2, ground := Ground.chain }], guard := none }) rfl (fun K hK => ?_) AllReadyH.nil
        go_simp
        refine (H2.out _).mono ?_
        rintro e v10 ⟨⟨b0, b1, b2, b3, b4, b5, b6, b7, rfl, db, vb⟩, hb⟩
        have hH10 := hH9.keep hb
        have ba10 := ba9.below hb ba9.lt
        clear hb
        go_wp2_with fail
        refine hK.out _ _ hH10 (fun hH10 => ?_)
        clear hK K
        refine wpAnyH_ready (rs := [6]) (by kernel_rfl) (by simp) ?_
        refine AllReadyH.cons (o := { dst := some 14, op := Op.call { callee := Callee.value (Operand.func 42), args := #[Operand.tmp 10, Operand.tmp 13], argTypes := #[51, 51] }, type := 51, pos := "ref.go:52", after := #[{ on := 2, ground := Ground.data }, { on := 5, ground := Ground.data }, { on := 5, ground := Ground.chain }], guard := none }) rfl (fun K hK => ?_) AllReadyH.nil
        go_simp
        refine (rplus_c _ _ a0 a1 a2 a3 a4 a5 a6 a7 b0 b1 b2 b3 b4 b5 b6 b7 _ da db (by rw [va, vb]; exact HS.out)).mono ?_
        rintro e v11 ⟨⟨c0, c1, c2, c3, c4, c5, c6, c7, rfl, dc, vc⟩, hb⟩
        have hH11 := hH10.keep hb
        have ba11 := ba10.below hb ba10.lt
        clear hb
        go_wp2_with fail
        refine hK.out _ _ hH11 (fun hH11 => ?_)
        clear hK K
        refine wpAnyH_ready (rs := [8]) (by kernel_rfl) (by simp) ?_
        refine AllReadyH.cons (o := { dst := none, op := Op.store 51 (Operand.tmp 3) (Operand.tmp 14), type := 0, pos := "ref.go:52", after := #[{ on := 7, ground := Ground.data }, { on := 6, ground := Ground.data }, { on := 6, ground := Ground.chain }, { on := 0, ground := Ground.phase }, { on := 1, ground := Ground.phase }, { on := 2, ground := Ground.phase }, { on := 3, ground := Ground.phase }, { on := 4, ground := Ground.phase }, { on := 5, ground := Ground.phase }, { on := 6, ground := Ground.phase }, { on := 7, ground := Ground.phase }], guard := none }) rfl (fun K hK => ?_) AllReadyH.nil
        rw [if_pos (by rfl)]
        refine wp_store_row 51 (.tmp 3) (.tmp 14) rfl v1.heap.size (bigR false c0 c1 c2 c3 c4 c5 c6 c7) rfl rfl 51 (bigR false 0 0 0 0 0 0 0 0) ba11 info51 rfl (bigR_one ..) ?_
        have hne' : g < v1.heap.size := hne
        have hH12 := hH11.setRow (show g ≠ v1.heap.size by omega) (show w.heap.size ≤ v1.heap.size by have := HG.out; omega) (bigR false c0 c1 c2 c3 c4 c5 c6 c7)
        refine hK.out _ _ hH12 (fun hH12 => ?_)
        clear hK K
        refine wpAnyH_done (by kernel_rfl) ?_ _
        go_wp2_with fail
        go_meet
        exact ⟨v1.heap.size, c0, c1, c2, c3, c4, c5, c6, c7, rfl, dc, by rw [vc, va, vb], ba11.setRow_ _, hH12.below⟩
    · go_simp
      go_wp2_with fail
      have ba13 := Blk.new w0.drew 51 (bigR false 0 0 0 0 0 0 0 0)
      have hne := hH0.2.2.1.lt
      refine hK.out _ _ (hH0.keep ((Below.refl _ _).alloc (Nat.le_refl _) _)) (fun hH13 => ?_)
      clear hK K
      refine wpAnyH_ready (rs := [2]) (by kernel_rfl) (by simp) ?_
      refine AllReadyH.cons (o := { dst := some 10, op := Op.call { callee := Callee.value (Operand.func 43), args := #[Operand.tmp 9], argTypes := #[3] }, type := 51, pos := "ref.go:52", after := #[{ on := 1, ground := Ground.data }], guard := none }) rfl (fun K hK => ?_) AllReadyH.nil
      go_simp
      refine (H1.out _).mono ?_
      rintro e v14 ⟨⟨a0, a1, a2, a3, a4, a5, a6, a7, rfl, da, va⟩, hb⟩
      have hH14 := hH13.keep hb
      have ba14 := ba13.below hb ba13.lt
      clear hb
      go_wp2_with fail
      refine hK.out _ _ hH14 (fun hH14 => ?_)
      clear hK K
      refine wpAnyH_ready (rs := [5]) (by kernel_rfl) (by simp) ?_
      refine AllReadyH.cons (o := { dst := some 13, op := Op.call { callee := Callee.value (Operand.func 43), args := #[Operand.tmp 12], argTypes := #[3] }, type := 51, pos := "ref.go:52", after := #[{ on := 4, ground := Ground.data }, { on := 2, ground := Ground.chain }], guard := none }) rfl (fun K hK => ?_) AllReadyH.nil
      go_simp
      refine (H2.out _).mono ?_
      rintro e v15 ⟨⟨b0, b1, b2, b3, b4, b5, b6, b7, rfl, db, vb⟩, hb⟩
      have hH15 := hH14.keep hb
      have ba15 := ba14.below hb ba14.lt
      clear hb
      go_wp2_with fail
      refine hK.out _ _ hH15 (fun hH15 => ?_)
      clear hK K
      refine wpAnyH_ready (rs := [6]) (by kernel_rfl) (by simp) ?_
      refine AllReadyH.cons (o := { dst := some 14, op := Op.call { callee := Callee.value (Operand.func 42), args := #[Operand.tmp 10, Operand.tmp 13], argTypes := #[51, 51] }, type := 51, pos := "ref.go:52", after := #[{ on := 2, ground := Ground.data }, { on := 5, ground := Ground.data }, { on := 5, ground := Ground.chain }], guard := none }) rfl (fun K hK => ?_) AllReadyH.nil
      go_simp
      refine (rplus_c _ _ a0 a1 a2 a3 a4 a5 a6 a7 b0 b1 b2 b3 b4 b5 b6 b7 _ da db (by rw [va, vb]; exact HS.out)).mono ?_
      rintro e v16 ⟨⟨c0, c1, c2, c3, c4, c5, c6, c7, rfl, dc, vc⟩, hb⟩
      have hH16 := hH15.keep hb
      have ba16 := ba15.below hb ba15.lt
      clear hb
      go_wp2_with fail
      refine hK.out _ _ hH16 (fun hH16 => ?_)
      clear hK K
      refine wpAnyH_ready (rs := [8]) (by kernel_rfl) (by simp) ?_
      refine AllReadyH.cons (o := { dst := none, op := Op.store 51 (Operand.tmp 3) (Operand.tmp 14), type := 0, pos := "ref.go:52", after := #[{ on := 7, ground := Ground.data }, { on := 6, ground := Ground.data }, { on := 6, ground := Ground.chain }, { on := 0, ground := Ground.phase }, { on := 1, ground := Ground.phase }, { on := 2, ground := Ground.phase }, { on := 3, ground := Ground.phase }, { on := 4, ground := Ground.phase }, { on := 5, ground := Ground.phase }, { on := 6, ground := Ground.phase }, { on := 7, ground := Ground.phase }], guard := none }) rfl (fun K hK => ?_) AllReadyH.nil
      rw [if_pos (by rfl)]
      refine wp_store_row 51 (.tmp 3) (.tmp 14) rfl w0.heap.size (bigR false c0 c1 c2 c3 c4 c5 c6 c7) rfl rfl 51 (bigR false 0 0 0 0 0 0 0 0) ba16 info51 rfl (bigR_one ..) ?_
      have hne' : g < w0.heap.size := hne
      have hH17 := hH16.setRow (show g ≠ w0.heap.size by omega) (show w.heap.size ≤ w0.heap.size by have := HG.out; omega) (bigR false c0 c1 c2 c3 c4 c5 c6 c7)
      refine hK.out _ _ hH17 (fun hH17 => ?_)
      clear hK K
      refine wpAnyH_done (by kernel_rfl) ?_ _
      go_wp2_with fail
      go_meet
      exact ⟨w0.heap.size, c0, c1, c2, c3, c4, c5, c6, c7, rfl, dc, by rw [vc, va, vb], ba16.setRow_ _, hH17.below⟩
  case rest =>
    obtain ⟨g3, c0, c1, c2, c3, c4, c5, c6, c7, rfl, dc, vc, hk, hb⟩ := hcut
    rw [HT.out] at vc
    have HDC := Lib.hid dc
    have HVC := Lib.hid vc
    have HK := Lib.hid hk
    have HB3 := Lib.hid hb
    clear dc vc hk hb H1 H2 HS HB0
    go_wp2_with fail
    go_loopg [4, 5] 63 (fun gg s4 s5 wr => ∃ (z : Int) (r : Nat), s4 = .int .i64 (r : Int) ∧ s5 = .int .i64 z ∧ z = (gg : Int) - 1 ∧ gg ≤ 63 ∧ Rl T gg r ∧ Blk wr g3 51 (bigR false c0 c1 c2 c3 c4 c5 c6 c7) ∧ Below w.heap.size w wr)
    case atStart => exact ⟨62, 0, rfl, rfl, rfl, Nat.le_refl _, HR.out, HK.out, HB3.out⟩
    case round =>
      obtain ⟨z, r, rfl, rfl, hz, hg, hq, hk, hb⟩ := hrel
      have HQ := Lib.hid hq
      have HK1 := Lib.hid hk
      have HB4 := Lib.hid hb
      clear hq hk hb HK HB3 HR
      cases gk with
      | zero =>
        obtain rfl : z = -1 := by omega
        obtain rfl : r = n := HQ.out.end_.unique HN.out
        clear hz hg
        go_wp2_with fail
        go_ret
        exact ⟨rfl, HB4.out⟩
      | succ k =>
        obtain rfl : z = (k : Int) := by omega
        have hk48 : k ≤ 62 := by omega
        have hlt := HQ.out.lt
        have hpow : 2 ^ (k + 1) = 2 * 2 ^ k := by rw [Nat.pow_succ]; omega
        have hpos := Nat.two_pow_pos k
        have iP : (2 : Int) ^ k = ((2 ^ k : Nat) : Int) := by push_cast; rfl
        have hno := Lib.hid HQ.out.no
        have hyes := Lib.hid HQ.out.yes
        generalize 2 ^ (k + 1) = P2 at *
        generalize 2 ^ k = P at *
        obtain ⟨mm, hmm⟩ : ∃ mm, mm = r + P := ⟨_, rfl⟩
        rw [← hmm] at hno hyes
        have e1 : wrap64 (P : Int) = (P : Int) := IntWalk.wrap64_in _ (by omega)
        have e2 : (r : Int) + (P : Int) = (mm : Int) := by omega
        have e3 : wrap64 (mm : Int) = (mm : Int) := IntWalk.wrap64_in _ (by omega)
        have HSQ := Lib.hid (fun w => rsquare_any (mm : Int) w (by unfold I64; omega))
        simp only [Int.natAbs_natCast] at HSQ
        clear hz hg hlt hpow hmm hpos
        go_upto_region 7 with (fail)
        try rw [e3]
        clear e1 e2 e3
        go_cut [7] (fun s7 wx => s7 = .int .i64 (cmp3 (mm * mm) T) ∧ Blk wx g3 51 (bigR false c0 c1 c2 c3 c4 c5 c6 c7) ∧ Below w.heap.size w wx)
        case first =>
          go_region_held3 (fun w' => w'.cell? ⟨g3, 0, none⟩ = some (.bool false) ∧ w'.cell? ⟨g3, 1, none⟩ = some (.int .i64 (c0 : Int)) ∧ w'.cell? ⟨g3, 2, none⟩ = some (.int .i64 (c1 : Int)) ∧ w'.cell? ⟨g3, 3, none⟩ = some (.int .i64 (c2 : Int)) ∧ w'.cell? ⟨g3, 4, none⟩ = some (.int .i64 (c3 : Int)) ∧ w'.cell? ⟨g3, 5, none⟩ = some (.int .i64 (c4 : Int)) ∧ w'.cell? ⟨g3, 6, none⟩ = some (.int .i64 (c5 : Int)) ∧ w'.cell? ⟨g3, 7, none⟩ = some (.int .i64 (c6 : Int)) ∧ w'.cell? ⟨g3, 8, none⟩ = some (.int .i64 (c7 : Int)) ∧ Blk w' g3 51 (bigR false c0 c1 c2 c3 c4 c5 c6 c7) ∧ Below w.heap.size w w') (first | exact makeB HK1.out HB4.out.drew | exact keepB (by assumption) (by assumption))
            (first
              | (go_at_call 43; refine (HSQ.out _).mono ?_; rintro e w' ⟨⟨e0, e1, e2, e3, e4, e5, e6, e7, rfl, de, ve⟩, hb⟩)
              | (go_at_call 44; refine (compare_c _ _ _ _ _ _ _ _ _ _ _ _ _ _ _ _ _ _ _ (by assumption) HDC.out).mono ?_; rintro e w' ⟨rfl, hb⟩))
          rename_i hH
          have HH := Lib.hid hH.2.2.2.2.2.2.2.2.2
          rw [HVC.out]
          clear hH hb de ve
          go_wp2_with fail
          go_meet
          exact ⟨rfl, HH.out.1, HH.out.2⟩
        case rest =>
          obtain ⟨rfl, hk5, hb5⟩ := hcut
          have HK5 := Lib.hid hk5
          have HB5 := Lib.hid hb5
          clear hk5 hb5
          by_cases hle : mm * mm ≤ T
          · have hd : decide (cmp3 (mm * mm) T ≤ 0) = true := decide_eq_true (by unfold cmp3; split <;> (try split) <;> omega)
            have HN2 := Lib.hid (hyes.out hle)
            generalize cmp3 (mm * mm) T = cc at hd ⊢
            clear hle
            go_wp2_with fail
            go_roundg k
            case measure => omega
            case rel => exact ⟨(k : Int) - 1, mm, rfl, rfl, rfl, by omega, HN2.out, HK5.out, HB5.out⟩
          · have hd : decide (cmp3 (mm * mm) T ≤ 0) = false := decide_eq_false (by unfold cmp3; split <;> (try split) <;> omega)
            have HN2 := Lib.hid (hno.out (by omega))
            generalize cmp3 (mm * mm) T = cc at hd ⊢
            clear hle
            go_wp2_with fail
            go_roundg k
            case measure => omega
            case rel => exact ⟨(k : Int) - 1, r, rfl, rfl, rfl, by omega, HN2.out, HK5.out, HB5.out⟩
end Go.Proofs.Ytefaagacgoohjaa

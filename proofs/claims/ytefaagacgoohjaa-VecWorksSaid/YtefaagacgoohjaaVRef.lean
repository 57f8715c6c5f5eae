/- The reference's Add, Sub, Mean, Scale, Clamp. -/
import Derived.Test.YtefaagacgoohjaaVRLeaf
import Derived.Test.YtefaagacgoohjaaVWide
import Derived.Test.YtefaagacgoohjaaVBox
namespace Go.Proofs.Ytefaagacgoohjaa
open Go.RowKit

set_option maxRecDepth 100000 in
set_option maxHeartbeats 1000000 in
theorem rvadd_c (x y u v : Int) (w : World) (hx : I64 x) (hy : I64 y) (hu : I64 u) (hv : I64 v) :
    Calls Try.prog 12 #[vecV x y, vecV u v] w fun e w' => e = .returned (vecV (addF x u) (addF y v)) ∧ Below w.heap.size w w' := by
  have H1 := Lib.hid (fun w => grow (radd_c x u w hx.1 hx.2 hu.1 hu.2))
  have H2 := Lib.hid (fun w => grow (radd_c y v w hy.1 hy.2 hv.1 hv.2))
  clear hx hy hu hv
  generalize addF x u = p at *
  generalize addF y v = q at *
  go_enter Try.func12, Try.ntmps12
  go_upto_region 1 with (fail)
  have hs : Boxes w ((((w.alloc (.cells #[.int .i64 x, .int .i64 y] 23)).alloc (.cells #[.int .i64 u, .int .i64 v] 23)).alloc (.cells #[.int .i64 0, .int .i64 0] 23))) w.heap.size (w.heap.size + 1) x y u v := (Boxes.start w x y u v).keep ((Below.refl _ _).alloc (Nat.le_refl _) _)
  have hr := Blk.new ((w.alloc (.cells #[.int .i64 x, .int .i64 y] 23)).alloc (.cells #[.int .i64 u, .int .i64 v] 23)) 23 #[.int .i64 0, .int .i64 0]
  rw [show ((w.alloc (.cells #[.int .i64 x, .int .i64 y] 23)).alloc (.cells #[.int .i64 u, .int .i64 v] 23)).heap.size = w.heap.size + 1 + 1 by simp] at hr
  obtain ⟨w0, hw0⟩ : ∃ w0, w0 = (((w.alloc (.cells #[.int .i64 x, .int .i64 y] 23)).alloc (.cells #[.int .i64 u, .int .i64 v] 23)).alloc (.cells #[.int .i64 0, .int .i64 0] 23)) := ⟨_, rfl⟩
  rw [← hw0] at hs hr ⊢
  clear hw0
  obtain ⟨g, hg⟩ : ∃ g, g = w.heap.size := ⟨_, rfl⟩
  rw [← hg] at hs hr ⊢
  have HG := Lib.hid (show w.heap.size ≤ g by omega)
  have HR := Lib.hid hr
  have HS := Lib.hid hs
  clear hs hr hg
  refine wp_region_held_drew (S := fun w1 => Boxes w w1 g (g + 1) x y u v) (by kernel_rfl) HS.out.drew (fun hH0 => ?_)
  refine wpAnyH_take (i := 0) (oi := { dst := some 5, op := Op.fieldAddr 23 (Operand.tmp 2) 0, type := 0, pos := "ref.go:14", after := #[], guard := none }) (v := ?v0) rfl (by kernel_rfl) (by kernel_rfl) (by kernel_rfl) (fun _ _ _ h => h) (Or.inl ⟨by rfl, ?h0⟩) hH0 ?r0
  case h0 => intro w' hSw; (try dsimp only at hSw); go_simp; (try with_reducible rfl)
  simp only [Act.put, List.setIfInBounds_toArray, List.set_cons_zero, List.set_cons_succ]
  refine wpAnyH_take (i := 1) (oi := { dst := some 6, op := Op.load 3 (Operand.tmp 5), type := 3, pos := "ref.go:14", after := #[{ on := 0, ground := Ground.data }], guard := none }) (v := ?v1) rfl (by kernel_rfl) (by kernel_rfl) (by kernel_rfl) (fun _ _ _ h => h) (Or.inl ⟨by rfl, ?h1⟩) hH0 ?r1
  case h1 => intro w' hSw; (try dsimp only at hSw); go_simp; (try with_reducible rfl)
  simp only [Act.put, List.setIfInBounds_toArray, List.set_cons_zero, List.set_cons_succ]
  refine wpAnyH_take (i := 2) (oi := { dst := some 7, op := Op.fieldAddr 23 (Operand.tmp 3) 0, type := 0, pos := "ref.go:14", after := #[], guard := none }) (v := ?v2) rfl (by kernel_rfl) (by kernel_rfl) (by kernel_rfl) (fun _ _ _ h => h) (Or.inl ⟨by rfl, ?h2⟩) hH0 ?r2
  case h2 => intro w' hSw; (try dsimp only at hSw); go_simp; (try with_reducible rfl)
  simp only [Act.put, List.setIfInBounds_toArray, List.set_cons_zero, List.set_cons_succ]
  refine wpAnyH_take (i := 3) (oi := { dst := some 8, op := Op.load 3 (Operand.tmp 7), type := 3, pos := "ref.go:14", after := #[{ on := 2, ground := Ground.data }], guard := none }) (v := ?v3) rfl (by kernel_rfl) (by kernel_rfl) (by kernel_rfl) (fun _ _ _ h => h) (Or.inl ⟨by rfl, ?h3⟩) hH0 ?r3
  case h3 => intro w' hSw; (try dsimp only at hSw); go_simp; (try with_reducible rfl)
  simp only [Act.put, List.setIfInBounds_toArray, List.set_cons_zero, List.set_cons_succ]
  refine wpAnyH_take (i := 5) (oi := { dst := some 10, op := Op.fieldAddr 23 (Operand.tmp 2) 1, type := 0, pos := "ref.go:14", after := #[], guard := none }) (v := ?v5) rfl (by kernel_rfl) (by kernel_rfl) (by kernel_rfl) (fun _ _ _ h => h) (Or.inl ⟨by rfl, ?h5⟩) hH0 ?r5
  case h5 => intro w' hSw; (try dsimp only at hSw); go_simp; (try with_reducible rfl)
  simp only [Act.put, List.setIfInBounds_toArray, List.set_cons_zero, List.set_cons_succ]
  refine wpAnyH_take (i := 6) (oi := { dst := some 11, op := Op.load 3 (Operand.tmp 10), type := 3, pos := "ref.go:14", after := #[{ on := 5, ground := Ground.data }], guard := none }) (v := ?v6) rfl (by kernel_rfl) (by kernel_rfl) (by kernel_rfl) (fun _ _ _ h => h) (Or.inl ⟨by rfl, ?h6⟩) hH0 ?r6
  case h6 => intro w' hSw; (try dsimp only at hSw); go_simp; (try with_reducible rfl)
  simp only [Act.put, List.setIfInBounds_toArray, List.set_cons_zero, List.set_cons_succ]
  refine wpAnyH_take (i := 7) (oi := { dst := some 12, op := Op.fieldAddr 23 (Operand.tmp 3) 1, type := 0, pos := "ref.go:14", after := #[], guard := none }) (v := ?v7) rfl (by kernel_rfl) (by kernel_rfl) (by kernel_rfl) (fun _ _ _ h => h) (Or.inl ⟨by rfl, ?h7⟩) hH0 ?r7
  case h7 => intro w' hSw; (try dsimp only at hSw); go_simp; (try with_reducible rfl)
  simp only [Act.put, List.setIfInBounds_toArray, List.set_cons_zero, List.set_cons_succ]
  refine wpAnyH_take (i := 8) (oi := { dst := some 13, op := Op.load 3 (Operand.tmp 12), type := 3, pos := "ref.go:14", after := #[{ on := 7, ground := Ground.data }], guard := none }) (v := ?v8) rfl (by kernel_rfl) (by kernel_rfl) (by kernel_rfl) (fun _ _ _ h => h) (Or.inl ⟨by rfl, ?h8⟩) hH0 ?r8
  case h8 => intro w' hSw; (try dsimp only at hSw); go_simp; (try with_reducible rfl)
  simp only [Act.put, List.setIfInBounds_toArray, List.set_cons_zero, List.set_cons_succ]
  refine wpAnyH_ready (rs := [4]) (by kernel_rfl) (by simp) ?_
  refine AllReadyH.cons (o := { dst := some 9, op := Op.call { callee := Callee.value (Operand.func 32), args := #[Operand.tmp 6, Operand.tmp 8], argTypes := #[3, 3] }, type := 3, pos := "ref.go:14", after := #[{ on := 1, ground := Ground.data }, { on := 3, ground := Ground.data }], guard := none }) rfl (fun K hK => ?_) AllReadyH.nil
  go_simp
  refine (H1.out _).mono ?_
  rintro e w3 ⟨rfl, hb⟩
  have hH1 := hH0.keep hb
  have k1 := HR.out.below (w := w0.drew) hb HR.out.lt
  clear hb HR
  go_wp2_with fail
  refine hK.out _ _ hH1 (fun hH1 => ?_)
  clear hK K
  refine wpAnyH_ready (rs := [9]) (by kernel_rfl) (by simp) ?_
  refine AllReadyH.cons (o := { dst := some 14, op := Op.call { callee := Callee.value (Operand.func 32), args := #[Operand.tmp 11, Operand.tmp 13], argTypes := #[3, 3] }, type := 3, pos := "ref.go:14", after := #[{ on := 6, ground := Ground.data }, { on := 8, ground := Ground.data }, { on := 4, ground := Ground.chain }], guard := none }) rfl (fun K hK => ?_) AllReadyH.nil
  go_simp
  refine (H2.out _).mono ?_
  rintro e w4 ⟨rfl, hb⟩
  have hH2 := hH1.keep hb
  have m1 := k1.below hb k1.lt
  clear hb k1
  go_wp2_with fail
  refine hK.out _ _ hH2 (fun hH2 => ?_)
  clear hK K
  refine wpAnyH_take (i := 10) (oi := { dst := some 15, op := Op.build 23 #[(0, Operand.tmp 9), (1, Operand.tmp 14)], type := 23, pos := "ref.go:14", after := #[{ on := 4, ground := Ground.data }, { on := 9, ground := Ground.data }], guard := none }) (v := ?v10) rfl (by kernel_rfl) (by kernel_rfl) (by kernel_rfl) (fun _ _ _ h => h) (Or.inl ⟨by rfl, ?h10⟩) hH2 ?r10
  case h10 => intro w' hSw; (try dsimp only at hSw); go_simp; (try with_reducible rfl)
  simp only [Act.put, List.setIfInBounds_toArray, List.set_cons_zero, List.set_cons_succ]
  refine wpAnyH_ready (rs := [11]) (by kernel_rfl) (by simp) ?_
  refine AllReadyH.cons (o := { dst := none, op := Op.store 23 (Operand.tmp 4) (Operand.tmp 15), type := 0, pos := "ref.go:14", after := #[{ on := 10, ground := Ground.data }, { on := 9, ground := Ground.chain }, { on := 0, ground := Ground.phase }, { on := 1, ground := Ground.phase }, { on := 2, ground := Ground.phase }, { on := 3, ground := Ground.phase }, { on := 4, ground := Ground.phase }, { on := 5, ground := Ground.phase }, { on := 6, ground := Ground.phase }, { on := 7, ground := Ground.phase }, { on := 8, ground := Ground.phase }, { on := 9, ground := Ground.phase }, { on := 10, ground := Ground.phase }], guard := none }) rfl (fun K hK => ?_) AllReadyH.nil
  rw [if_pos (by rfl)]
  refine wp_store_row 23 (.tmp 4) (.tmp 15) rfl (g + 1 + 1) #[.int .i64 p, .int .i64 q] rfl rfl 23 #[.int .i64 0, .int .i64 0] m1 info23 rfl (pairR_one p q) ?_
  have hH3 := hH2.setRow (show g ≠ g + 1 + 1 by omega) (show g + 1 ≠ g + 1 + 1 by omega) (show w.heap.size ≤ g + 1 + 1 by have := HG.out; omega) #[.int .i64 p, .int .i64 q]
  refine hK.out _ _ hH3 (fun hH3 => ?_)
  clear hK K
  refine wpAnyH_done (by kernel_rfl) ?_ _
  have n1 := m1.setRow_ #[.int .i64 p, .int .i64 q]
  have HN := Lib.hid (And.intro n1 hH3.below)
  generalize w4.setRow (g + 1 + 1) #[.int .i64 p, .int .i64 q] = w5 at *
  clear n1 hH0 hH1 hH2 hH3 m1
  go_wp2_with fail
  exact bodyPost_ret (results_cell_row rfl _ _ (g + 1 + 1) 23 _ (0, 0) _ rfl HN.out.1 Try.underlying23 rfl info23) rfl ⟨rfl, HN.out.2⟩

set_option maxRecDepth 100000 in
set_option maxHeartbeats 1000000 in
theorem rvsub_c (x y u v : Int) (w : World) (hx : I64 x) (hy : I64 y) (hu : I64 u) (hv : I64 v) :
    Calls Try.prog 14 #[vecV x y, vecV u v] w fun e w' => e = .returned (vecV (subF x u) (subF y v)) ∧ Below w.heap.size w w' := by
  have H1 := Lib.hid (fun w => grow (rsub_c x u w hx.1 hx.2 hu.1 hu.2))
  have H2 := Lib.hid (fun w => grow (rsub_c y v w hy.1 hy.2 hv.1 hv.2))
  clear hx hy hu hv
  generalize subF x u = p at *
  generalize subF y v = q at *
  go_enter Try.func14, Try.ntmps14
  go_upto_region 1 with (fail)
  have hs : Boxes w ((((w.alloc (.cells #[.int .i64 x, .int .i64 y] 23)).alloc (.cells #[.int .i64 u, .int .i64 v] 23)).alloc (.cells #[.int .i64 0, .int .i64 0] 23))) w.heap.size (w.heap.size + 1) x y u v := (Boxes.start w x y u v).keep ((Below.refl _ _).alloc (Nat.le_refl _) _)
  have hr := Blk.new ((w.alloc (.cells #[.int .i64 x, .int .i64 y] 23)).alloc (.cells #[.int .i64 u, .int .i64 v] 23)) 23 #[.int .i64 0, .int .i64 0]
  rw [show ((w.alloc (.cells #[.int .i64 x, .int .i64 y] 23)).alloc (.cells #[.int .i64 u, .int .i64 v] 23)).heap.size = w.heap.size + 1 + 1 by simp] at hr
  obtain ⟨w0, hw0⟩ : ∃ w0, w0 = (((w.alloc (.cells #[.int .i64 x, .int .i64 y] 23)).alloc (.cells #[.int .i64 u, .int .i64 v] 23)).alloc (.cells #[.int .i64 0, .int .i64 0] 23)) := ⟨_, rfl⟩
  rw [← hw0] at hs hr ⊢
  clear hw0
  obtain ⟨g, hg⟩ : ∃ g, g = w.heap.size := ⟨_, rfl⟩
  rw [← hg] at hs hr ⊢
  have HG := Lib.hid (show w.heap.size ≤ g by omega)
  have HR := Lib.hid hr
  have HS := Lib.hid hs
  clear hs hr hg
  refine wp_region_held_drew (S := fun w1 => Boxes w w1 g (g + 1) x y u v) (by kernel_rfl) HS.out.drew (fun hH0 => ?_)
  refine wpAnyH_take (i := 0) (oi := { dst := some 5, op := Op.fieldAddr 23 (Operand.tmp 2) 0, type := 0, pos := "ref.go:19", after := #[], guard := none }) (v := ?v0) rfl (by kernel_rfl) (by kernel_rfl) (by kernel_rfl) (fun _ _ _ h => h) (Or.inl ⟨by rfl, ?h0⟩) hH0 ?r0
  case h0 => intro w' hSw; (try dsimp only at hSw); go_simp; (try with_reducible rfl)
  simp only [Act.put, List.setIfInBounds_toArray, List.set_cons_zero, List.set_cons_succ]
  refine wpAnyH_take (i := 1) (oi := { dst := some 6, op := Op.load 3 (Operand.tmp 5), type := 3, pos := "ref.go:19", after := #[{ on := 0, ground := Ground.data }], guard := none }) (v := ?v1) rfl (by kernel_rfl) (by kernel_rfl) (by kernel_rfl) (fun _ _ _ h => h) (Or.inl ⟨by rfl, ?h1⟩) hH0 ?r1
  case h1 => intro w' hSw; (try dsimp only at hSw); go_simp; (try with_reducible rfl)
  simp only [Act.put, List.setIfInBounds_toArray, List.set_cons_zero, List.set_cons_succ]
  refine wpAnyH_take (i := 2) (oi := { dst := some 7, op := Op.fieldAddr 23 (Operand.tmp 3) 0, type := 0, pos := "ref.go:19", after := #[], guard := none }) (v := ?v2) rfl (by kernel_rfl) (by kernel_rfl) (by kernel_rfl) (fun _ _ _ h => h) (Or.inl ⟨by rfl, ?h2⟩) hH0 ?r2
  case h2 => intro w' hSw; (try dsimp only at hSw); go_simp; (try with_reducible rfl)
  simp only [Act.put, List.setIfInBounds_toArray, List.set_cons_zero, List.set_cons_succ]
  refine wpAnyH_take (i := 3) (oi := { dst := some 8, op := Op.load 3 (Operand.tmp 7), type := 3, pos := "ref.go:19", after := #[{ on := 2, ground := Ground.data }], guard := none }) (v := ?v3) rfl (by kernel_rfl) (by kernel_rfl) (by kernel_rfl) (fun _ _ _ h => h) (Or.inl ⟨by rfl, ?h3⟩) hH0 ?r3
  case h3 => intro w' hSw; (try dsimp only at hSw); go_simp; (try with_reducible rfl)
  simp only [Act.put, List.setIfInBounds_toArray, List.set_cons_zero, List.set_cons_succ]
  refine wpAnyH_take (i := 5) (oi := { dst := some 10, op := Op.fieldAddr 23 (Operand.tmp 2) 1, type := 0, pos := "ref.go:19", after := #[], guard := none }) (v := ?v5) rfl (by kernel_rfl) (by kernel_rfl) (by kernel_rfl) (fun _ _ _ h => h) (Or.inl ⟨by rfl, ?h5⟩) hH0 ?r5
  case h5 => intro w' hSw; (try dsimp only at hSw); go_simp; (try with_reducible rfl)
  simp only [Act.put, List.setIfInBounds_toArray, List.set_cons_zero, List.set_cons_succ]
  refine wpAnyH_take (i := 6) (oi := { dst := some 11, op := Op.load 3 (Operand.tmp 10), type := 3, pos := "ref.go:19", after := #[{ on := 5, ground := Ground.data }], guard := none }) (v := ?v6) rfl (by kernel_rfl) (by kernel_rfl) (by kernel_rfl) (fun _ _ _ h => h) (Or.inl ⟨by rfl, ?h6⟩) hH0 ?r6
  case h6 => intro w' hSw; (try dsimp only at hSw); go_simp; (try with_reducible rfl)
  simp only [Act.put, List.setIfInBounds_toArray, List.set_cons_zero, List.set_cons_succ]
  refine wpAnyH_take (i := 7) (oi := { dst := some 12, op := Op.fieldAddr 23 (Operand.tmp 3) 1, type := 0, pos := "ref.go:19", after := #[], guard := none }) (v := ?v7) rfl (by kernel_rfl) (by kernel_rfl) (by kernel_rfl) (fun _ _ _ h => h) (Or.inl ⟨by rfl, ?h7⟩) hH0 ?r7
  case h7 => intro w' hSw; (try dsimp only at hSw); go_simp; (try with_reducible rfl)
  simp only [Act.put, List.setIfInBounds_toArray, List.set_cons_zero, List.set_cons_succ]
  refine wpAnyH_take (i := 8) (oi := { dst := some 13, op := Op.load 3 (Operand.tmp 12), type := 3, pos := "ref.go:19", after := #[{ on := 7, ground := Ground.data }], guard := none }) (v := ?v8) rfl (by kernel_rfl) (by kernel_rfl) (by kernel_rfl) (fun _ _ _ h => h) (Or.inl ⟨by rfl, ?h8⟩) hH0 ?r8
  case h8 => intro w' hSw; (try dsimp only at hSw); go_simp; (try with_reducible rfl)
  simp only [Act.put, List.setIfInBounds_toArray, List.set_cons_zero, List.set_cons_succ]
  refine wpAnyH_ready (rs := [4]) (by kernel_rfl) (by simp) ?_
  refine AllReadyH.cons (o := { dst := some 9, op := Op.call { callee := Callee.value (Operand.func 34), args := #[Operand.tmp 6, Operand.tmp 8], argTypes := #[3, 3] }, type := 3, pos := "ref.go:19", after := #[{ on := 1, ground := Ground.data }, { on := 3, ground := Ground.data }], guard := none }) rfl (fun K hK => ?_) AllReadyH.nil
  go_simp
  refine (H1.out _).mono ?_
  rintro e w3 ⟨rfl, hb⟩
  have hH1 := hH0.keep hb
  have k1 := HR.out.below (w := w0.drew) hb HR.out.lt
  clear hb HR
  go_wp2_with fail
  refine hK.out _ _ hH1 (fun hH1 => ?_)
  clear hK K
  refine wpAnyH_ready (rs := [9]) (by kernel_rfl) (by simp) ?_
  refine AllReadyH.cons (o := { dst := some 14, op := Op.call { callee := Callee.value (Operand.func 34), args := #[Operand.tmp 11, Operand.tmp 13], argTypes := #[3, 3] }, type := 3, pos := "ref.go:19", after := #[{ on := 6, ground := Ground.data }, { on := 8, ground := Ground.data }, { on := 4, ground := Ground.chain }], guard := none }) rfl (fun K hK => ?_) AllReadyH.nil
  go_simp
  refine (H2.out _).mono ?_
  rintro e w4 ⟨rfl, hb⟩
  have hH2 := hH1.keep hb
  have m1 := k1.below hb k1.lt
  clear hb k1
  go_wp2_with fail
  refine hK.out _ _ hH2 (fun hH2 => ?_)
  clear hK K
  refine wpAnyH_take (i := 10) (oi := { dst := some 15, op := Op.build 23 #[(0, Operand.tmp 9), (1, Operand.tmp 14)], type := 23, pos := "ref.go:19", after := #[{ on := 4, ground := Ground.data }, { on := 9, ground := Ground.data }], guard := none }) (v := ?v10) rfl (by kernel_rfl) (by kernel_rfl) (by kernel_rfl) (fun _ _ _ h => h) (Or.inl ⟨by rfl, ?h10⟩) hH2 ?r10
  case h10 => intro w' hSw; (try dsimp only at hSw); go_simp; (try with_reducible rfl)
  simp only [Act.put, List.setIfInBounds_toArray, List.set_cons_zero, List.set_cons_succ]
  refine wpAnyH_ready (rs := [11]) (by kernel_rfl) (by simp) ?_
  refine AllReadyH.cons (o := { dst := none, op := Op.store 23 (Operand.tmp 4) (Operand.tmp 15), type := 0, pos := "ref.go:19", after := #[{ on := 10, ground := Ground.data }, { on := 9, ground := Ground.chain }, { on := 0, ground := Ground.phase }, { on := 1, ground := Ground.phase }, { on := 2, ground := Ground.phase }, { on := 3, ground := Ground.phase }, { on := 4, ground := Ground.phase }, { on := 5, ground := Ground.phase }, { on := 6, ground := Ground.phase }, { on := 7, ground := Ground.phase }, { on := 8, ground := Ground.phase }, { on := 9, ground := Ground.phase }, { on := 10, ground := Ground.phase }], guard := none }) rfl (fun K hK => ?_) AllReadyH.nil
  rw [if_pos (by rfl)]
  refine wp_store_row 23 (.tmp 4) (.tmp 15) rfl (g + 1 + 1) #[.int .i64 p, .int .i64 q] rfl rfl 23 #[.int .i64 0, .int .i64 0] m1 info23 rfl (pairR_one p q) ?_
  have hH3 := hH2.setRow (show g ≠ g + 1 + 1 by omega) (show g + 1 ≠ g + 1 + 1 by omega) (show w.heap.size ≤ g + 1 + 1 by have := HG.out; omega) #[.int .i64 p, .int .i64 q]
  refine hK.out _ _ hH3 (fun hH3 => ?_)
  clear hK K
  refine wpAnyH_done (by kernel_rfl) ?_ _
  have n1 := m1.setRow_ #[.int .i64 p, .int .i64 q]
  have HN := Lib.hid (And.intro n1 hH3.below)
  generalize w4.setRow (g + 1 + 1) #[.int .i64 p, .int .i64 q] = w5 at *
  clear n1 hH0 hH1 hH2 hH3 m1
  go_wp2_with fail
  exact bodyPost_ret (results_cell_row rfl _ _ (g + 1 + 1) 23 _ (0, 0) _ rfl HN.out.1 Try.underlying23 rfl info23) rfl ⟨rfl, HN.out.2⟩

set_option maxRecDepth 100000 in
set_option maxHeartbeats 1000000 in
theorem rvmean_c (x y u v : Int) (w : World) (hx : I64 x) (hy : I64 y) (hu : I64 u) (hv : I64 v) :
    Calls Try.prog 24 #[vecV x y, vecV u v] w fun e w' => e = .returned (vecV (midF x u) (midF y v)) ∧ Below w.heap.size w w' := by
  have H1 := Lib.hid (fun w => grow (half_c x u w hx hu))
  have H2 := Lib.hid (fun w => grow (half_c y v w hy hv))
  clear hx hy hu hv
  generalize midF x u = p at *
  generalize midF y v = q at *
  go_enter Try.func24, Try.ntmps24
  go_upto_region 1 with (fail)
  have hs : Boxes w ((((w.alloc (.cells #[.int .i64 x, .int .i64 y] 23)).alloc (.cells #[.int .i64 u, .int .i64 v] 23)).alloc (.cells #[.int .i64 0, .int .i64 0] 23))) w.heap.size (w.heap.size + 1) x y u v := (Boxes.start w x y u v).keep ((Below.refl _ _).alloc (Nat.le_refl _) _)
  have hr := Blk.new ((w.alloc (.cells #[.int .i64 x, .int .i64 y] 23)).alloc (.cells #[.int .i64 u, .int .i64 v] 23)) 23 #[.int .i64 0, .int .i64 0]
  rw [show ((w.alloc (.cells #[.int .i64 x, .int .i64 y] 23)).alloc (.cells #[.int .i64 u, .int .i64 v] 23)).heap.size = w.heap.size + 1 + 1 by simp] at hr
  obtain ⟨w0, hw0⟩ : ∃ w0, w0 = (((w.alloc (.cells #[.int .i64 x, .int .i64 y] 23)).alloc (.cells #[.int .i64 u, .int .i64 v] 23)).alloc (.cells #[.int .i64 0, .int .i64 0] 23)) := ⟨_, rfl⟩
  rw [← hw0] at hs hr ⊢
  clear hw0
  obtain ⟨g, hg⟩ : ∃ g, g = w.heap.size := ⟨_, rfl⟩
  rw [← hg] at hs hr ⊢
  have HG := Lib.hid (show w.heap.size ≤ g by omega)
  have HR := Lib.hid hr
  have HS := Lib.hid hs
  clear hs hr hg
  refine wp_region_held_drew (S := fun w1 => Boxes w w1 g (g + 1) x y u v) (by kernel_rfl) HS.out.drew (fun hH0 => ?_)
  refine wpAnyH_take (i := 0) (oi := { dst := some 5, op := Op.fieldAddr 23 (Operand.tmp 2) 0, type := 0, pos := "ref.go:96", after := #[], guard := none }) (v := ?v0) rfl (by kernel_rfl) (by kernel_rfl) (by kernel_rfl) (fun _ _ _ h => h) (Or.inl ⟨by rfl, ?h0⟩) hH0 ?r0
  case h0 => intro w' hSw; (try dsimp only at hSw); go_simp; (try with_reducible rfl)
  simp only [Act.put, List.setIfInBounds_toArray, List.set_cons_zero, List.set_cons_succ]
  refine wpAnyH_take (i := 1) (oi := { dst := some 6, op := Op.load 3 (Operand.tmp 5), type := 3, pos := "ref.go:96", after := #[{ on := 0, ground := Ground.data }], guard := none }) (v := ?v1) rfl (by kernel_rfl) (by kernel_rfl) (by kernel_rfl) (fun _ _ _ h => h) (Or.inl ⟨by rfl, ?h1⟩) hH0 ?r1
  case h1 => intro w' hSw; (try dsimp only at hSw); go_simp; (try with_reducible rfl)
  simp only [Act.put, List.setIfInBounds_toArray, List.set_cons_zero, List.set_cons_succ]
  refine wpAnyH_take (i := 2) (oi := { dst := some 7, op := Op.fieldAddr 23 (Operand.tmp 3) 0, type := 0, pos := "ref.go:96", after := #[], guard := none }) (v := ?v2) rfl (by kernel_rfl) (by kernel_rfl) (by kernel_rfl) (fun _ _ _ h => h) (Or.inl ⟨by rfl, ?h2⟩) hH0 ?r2
  case h2 => intro w' hSw; (try dsimp only at hSw); go_simp; (try with_reducible rfl)
  simp only [Act.put, List.setIfInBounds_toArray, List.set_cons_zero, List.set_cons_succ]
  refine wpAnyH_take (i := 3) (oi := { dst := some 8, op := Op.load 3 (Operand.tmp 7), type := 3, pos := "ref.go:96", after := #[{ on := 2, ground := Ground.data }], guard := none }) (v := ?v3) rfl (by kernel_rfl) (by kernel_rfl) (by kernel_rfl) (fun _ _ _ h => h) (Or.inl ⟨by rfl, ?h3⟩) hH0 ?r3
  case h3 => intro w' hSw; (try dsimp only at hSw); go_simp; (try with_reducible rfl)
  simp only [Act.put, List.setIfInBounds_toArray, List.set_cons_zero, List.set_cons_succ]
  refine wpAnyH_take (i := 5) (oi := { dst := some 10, op := Op.fieldAddr 23 (Operand.tmp 2) 1, type := 0, pos := "ref.go:96", after := #[], guard := none }) (v := ?v5) rfl (by kernel_rfl) (by kernel_rfl) (by kernel_rfl) (fun _ _ _ h => h) (Or.inl ⟨by rfl, ?h5⟩) hH0 ?r5
  case h5 => intro w' hSw; (try dsimp only at hSw); go_simp; (try with_reducible rfl)
  simp only [Act.put, List.setIfInBounds_toArray, List.set_cons_zero, List.set_cons_succ]
  refine wpAnyH_take (i := 6) (oi := { dst := some 11, op := Op.load 3 (Operand.tmp 10), type := 3, pos := "ref.go:96", after := #[{ on := 5, ground := Ground.data }], guard := none }) (v := ?v6) rfl (by kernel_rfl) (by kernel_rfl) (by kernel_rfl) (fun _ _ _ h => h) (Or.inl ⟨by rfl, ?h6⟩) hH0 ?r6
  case h6 => intro w' hSw; (try dsimp only at hSw); go_simp; (try with_reducible rfl)
  simp only [Act.put, List.setIfInBounds_toArray, List.set_cons_zero, List.set_cons_succ]
  refine wpAnyH_take (i := 7) (oi := { dst := some 12, op := Op.fieldAddr 23 (Operand.tmp 3) 1, type := 0, pos := "ref.go:96", after := #[], guard := none }) (v := ?v7) rfl (by kernel_rfl) (by kernel_rfl) (by kernel_rfl) (fun _ _ _ h => h) (Or.inl ⟨by rfl, ?h7⟩) hH0 ?r7
  case h7 => intro w' hSw; (try dsimp only at hSw); go_simp; (try with_reducible rfl)
  simp only [Act.put, List.setIfInBounds_toArray, List.set_cons_zero, List.set_cons_succ]
  refine wpAnyH_take (i := 8) (oi := { dst := some 13, op := Op.load 3 (Operand.tmp 12), type := 3, pos := "ref.go:96", after := #[{ on := 7, ground := Ground.data }], guard := none }) (v := ?v8) rfl (by kernel_rfl) (by kernel_rfl) (by kernel_rfl) (fun _ _ _ h => h) (Or.inl ⟨by rfl, ?h8⟩) hH0 ?r8
  case h8 => intro w' hSw; (try dsimp only at hSw); go_simp; (try with_reducible rfl)
  simp only [Act.put, List.setIfInBounds_toArray, List.set_cons_zero, List.set_cons_succ]
  refine wpAnyH_ready (rs := [4]) (by kernel_rfl) (by simp) ?_
  refine AllReadyH.cons (o := { dst := some 9, op := Op.call { callee := Callee.value (Operand.func 50), args := #[Operand.tmp 6, Operand.tmp 8], argTypes := #[3, 3] }, type := 3, pos := "ref.go:96", after := #[{ on := 1, ground := Ground.data }, { on := 3, ground := Ground.data }], guard := none }) rfl (fun K hK => ?_) AllReadyH.nil
  go_simp
  refine (H1.out _).mono ?_
  rintro e w3 ⟨rfl, hb⟩
  have hH1 := hH0.keep hb
  have k1 := HR.out.below (w := w0.drew) hb HR.out.lt
  clear hb HR
  go_wp2_with fail
  refine hK.out _ _ hH1 (fun hH1 => ?_)
  clear hK K
  refine wpAnyH_ready (rs := [9]) (by kernel_rfl) (by simp) ?_
  refine AllReadyH.cons (o := { dst := some 14, op := Op.call { callee := Callee.value (Operand.func 50), args := #[Operand.tmp 11, Operand.tmp 13], argTypes := #[3, 3] }, type := 3, pos := "ref.go:96", after := #[{ on := 6, ground := Ground.data }, { on := 8, ground := Ground.data }, { on := 4, ground := Ground.chain }], guard := none }) rfl (fun K hK => ?_) AllReadyH.nil
  go_simp
  refine (H2.out _).mono ?_
  rintro e w4 ⟨rfl, hb⟩
  have hH2 := hH1.keep hb
  have m1 := k1.below hb k1.lt
  clear hb k1
  go_wp2_with fail
  refine hK.out _ _ hH2 (fun hH2 => ?_)
  clear hK K
  refine wpAnyH_take (i := 10) (oi := { dst := some 15, op := Op.build 23 #[(0, Operand.tmp 9), (1, Operand.tmp 14)], type := 23, pos := "ref.go:96", after := #[{ on := 4, ground := Ground.data }, { on := 9, ground := Ground.data }], guard := none }) (v := ?v10) rfl (by kernel_rfl) (by kernel_rfl) (by kernel_rfl) (fun _ _ _ h => h) (Or.inl ⟨by rfl, ?h10⟩) hH2 ?r10
  case h10 => intro w' hSw; (try dsimp only at hSw); go_simp; (try with_reducible rfl)
  simp only [Act.put, List.setIfInBounds_toArray, List.set_cons_zero, List.set_cons_succ]
  refine wpAnyH_ready (rs := [11]) (by kernel_rfl) (by simp) ?_
  refine AllReadyH.cons (o := { dst := none, op := Op.store 23 (Operand.tmp 4) (Operand.tmp 15), type := 0, pos := "ref.go:96", after := #[{ on := 10, ground := Ground.data }, { on := 9, ground := Ground.chain }, { on := 0, ground := Ground.phase }, { on := 1, ground := Ground.phase }, { on := 2, ground := Ground.phase }, { on := 3, ground := Ground.phase }, { on := 4, ground := Ground.phase }, { on := 5, ground := Ground.phase }, { on := 6, ground := Ground.phase }, { on := 7, ground := Ground.phase }, { on := 8, ground := Ground.phase }, { on := 9, ground := Ground.phase }, { on := 10, ground := Ground.phase }], guard := none }) rfl (fun K hK => ?_) AllReadyH.nil
  rw [if_pos (by rfl)]
  refine wp_store_row 23 (.tmp 4) (.tmp 15) rfl (g + 1 + 1) #[.int .i64 p, .int .i64 q] rfl rfl 23 #[.int .i64 0, .int .i64 0] m1 info23 rfl (pairR_one p q) ?_
  have hH3 := hH2.setRow (show g ≠ g + 1 + 1 by omega) (show g + 1 ≠ g + 1 + 1 by omega) (show w.heap.size ≤ g + 1 + 1 by have := HG.out; omega) #[.int .i64 p, .int .i64 q]
  refine hK.out _ _ hH3 (fun hH3 => ?_)
  clear hK K
  refine wpAnyH_done (by kernel_rfl) ?_ _
  have n1 := m1.setRow_ #[.int .i64 p, .int .i64 q]
  have HN := Lib.hid (And.intro n1 hH3.below)
  generalize w4.setRow (g + 1 + 1) #[.int .i64 p, .int .i64 q] = w5 at *
  clear n1 hH0 hH1 hH2 hH3 m1
  go_wp2_with fail
  exact bodyPost_ret (results_cell_row rfl _ _ (g + 1 + 1) 23 _ (0, 0) _ rfl HN.out.1 Try.underlying23 rfl info23) rfl ⟨rfl, HN.out.2⟩

set_option maxRecDepth 100000 in
set_option maxHeartbeats 1000000 in
theorem rvscale_c (x y k : Int) (w : World) (hx : I64 x) (hy : I64 y) (hk : I64 k) :
    Calls Try.prog 16 #[vecV x y, .int .i64 k] w fun e w' => e = .returned (vecV (mulF x k) (mulF y k)) ∧ Below w.heap.size w w' := by
  have H1 := Lib.hid (fun w => rmul_c x k w hx.1 hx.2 hk.1 hk.2)
  have H2 := Lib.hid (fun w => rmul_c y k w hy.1 hy.2 hk.1 hk.2)
  clear hx hy hk
  generalize mulF x k = p at *
  generalize mulF y k = q at *
  go_enter Try.func16, Try.ntmps16
  go_upto_region 1 with (fail)
  have hs : Box1 w (((w.alloc (.cells #[.int .i64 x, .int .i64 y] 23)).alloc (.cells #[.int .i64 0, .int .i64 0] 23))) w.heap.size x y := (Box1.start w x y).keep ((Below.refl _ _).alloc (Nat.le_refl _) _)
  have hr := Blk.new (w.alloc (.cells #[.int .i64 x, .int .i64 y] 23)) 23 #[.int .i64 0, .int .i64 0]
  rw [show (w.alloc (.cells #[.int .i64 x, .int .i64 y] 23)).heap.size = w.heap.size + 1 by simp] at hr
  obtain ⟨w0, hw0⟩ : ∃ w0, w0 = ((w.alloc (.cells #[.int .i64 x, .int .i64 y] 23)).alloc (.cells #[.int .i64 0, .int .i64 0] 23)) := ⟨_, rfl⟩
  rw [← hw0] at hs hr ⊢
  clear hw0
  obtain ⟨g, hg⟩ : ∃ g, g = w.heap.size := ⟨_, rfl⟩
  rw [← hg] at hs hr ⊢
  have HG := Lib.hid (show w.heap.size ≤ g by omega)
  have HR := Lib.hid hr
  have HS := Lib.hid hs
  clear hs hr hg
  refine wp_region_held_drew (S := fun w1 => Box1 w w1 g x y) (by kernel_rfl) HS.out.drew (fun hH0 => ?_)
  refine wpAnyH_take (i := 0) (oi := { dst := some 5, op := Op.fieldAddr 23 (Operand.tmp 2) 0, type := 0, pos := "ref.go:24", after := #[], guard := none }) (v := ?v0) rfl (by kernel_rfl) (by kernel_rfl) (by kernel_rfl) (fun _ _ _ h => h) (Or.inl ⟨by rfl, ?h0⟩) hH0 ?r0
  case h0 => intro w' hSw; (try dsimp only at hSw); go_simp; (try with_reducible rfl)
  simp only [Act.put, List.setIfInBounds_toArray, List.set_cons_zero, List.set_cons_succ]
  refine wpAnyH_take (i := 1) (oi := { dst := some 6, op := Op.load 3 (Operand.tmp 5), type := 3, pos := "ref.go:24", after := #[{ on := 0, ground := Ground.data }], guard := none }) (v := ?v1) rfl (by kernel_rfl) (by kernel_rfl) (by kernel_rfl) (fun _ _ _ h => h) (Or.inl ⟨by rfl, ?h1⟩) hH0 ?r1
  case h1 => intro w' hSw; (try dsimp only at hSw); go_simp; (try with_reducible rfl)
  simp only [Act.put, List.setIfInBounds_toArray, List.set_cons_zero, List.set_cons_succ]
  refine wpAnyH_take (i := 2) (oi := { dst := some 7, op := Op.move (Operand.tmp 1), type := 3, pos := "ref.go:24", after := #[], guard := none }) (v := ?v2) rfl (by kernel_rfl) (by kernel_rfl) (by kernel_rfl) (fun _ _ _ h => h) (Or.inl ⟨by rfl, ?h2⟩) hH0 ?r2
  case h2 => intro w' hSw; (try dsimp only at hSw); go_simp; (try with_reducible rfl)
  simp only [Act.put, List.setIfInBounds_toArray, List.set_cons_zero, List.set_cons_succ]
  refine wpAnyH_take (i := 4) (oi := { dst := some 9, op := Op.fieldAddr 23 (Operand.tmp 2) 1, type := 0, pos := "ref.go:24", after := #[], guard := none }) (v := ?v4) rfl (by kernel_rfl) (by kernel_rfl) (by kernel_rfl) (fun _ _ _ h => h) (Or.inl ⟨by rfl, ?h4⟩) hH0 ?r4
  case h4 => intro w' hSw; (try dsimp only at hSw); go_simp; (try with_reducible rfl)
  simp only [Act.put, List.setIfInBounds_toArray, List.set_cons_zero, List.set_cons_succ]
  refine wpAnyH_take (i := 5) (oi := { dst := some 10, op := Op.load 3 (Operand.tmp 9), type := 3, pos := "ref.go:24", after := #[{ on := 4, ground := Ground.data }], guard := none }) (v := ?v5) rfl (by kernel_rfl) (by kernel_rfl) (by kernel_rfl) (fun _ _ _ h => h) (Or.inl ⟨by rfl, ?h5⟩) hH0 ?r5
  case h5 => intro w' hSw; (try dsimp only at hSw); go_simp; (try with_reducible rfl)
  simp only [Act.put, List.setIfInBounds_toArray, List.set_cons_zero, List.set_cons_succ]
  refine wpAnyH_take (i := 6) (oi := { dst := some 11, op := Op.move (Operand.tmp 1), type := 3, pos := "ref.go:24", after := #[], guard := none }) (v := ?v6) rfl (by kernel_rfl) (by kernel_rfl) (by kernel_rfl) (fun _ _ _ h => h) (Or.inl ⟨by rfl, ?h6⟩) hH0 ?r6
  case h6 => intro w' hSw; (try dsimp only at hSw); go_simp; (try with_reducible rfl)
  simp only [Act.put, List.setIfInBounds_toArray, List.set_cons_zero, List.set_cons_succ]
  refine wpAnyH_ready (rs := [3]) (by kernel_rfl) (by simp) ?_
  refine AllReadyH.cons (o := { dst := some 8, op := Op.call { callee := Callee.value (Operand.func 37), args := #[Operand.tmp 6, Operand.tmp 7], argTypes := #[3, 3] }, type := 3, pos := "ref.go:24", after := #[{ on := 1, ground := Ground.data }, { on := 2, ground := Ground.data }], guard := none }) rfl (fun K hK => ?_) AllReadyH.nil
  go_simp
  refine (H1.out _).mono ?_
  rintro e w3 ⟨rfl, hb⟩
  have hH1 := hH0.keep hb
  have k1 := HR.out.below (w := w0.drew) hb HR.out.lt
  clear hb HR
  go_wp2_with fail
  refine hK.out _ _ hH1 (fun hH1 => ?_)
  clear hK K
  refine wpAnyH_ready (rs := [7]) (by kernel_rfl) (by simp) ?_
  refine AllReadyH.cons (o := { dst := some 12, op := Op.call { callee := Callee.value (Operand.func 37), args := #[Operand.tmp 10, Operand.tmp 11], argTypes := #[3, 3] }, type := 3, pos := "ref.go:24", after := #[{ on := 5, ground := Ground.data }, { on := 6, ground := Ground.data }, { on := 3, ground := Ground.chain }], guard := none }) rfl (fun K hK => ?_) AllReadyH.nil
  go_simp
  refine (H2.out _).mono ?_
  rintro e w4 ⟨rfl, hb⟩
  have hH2 := hH1.keep hb
  have m1 := k1.below hb k1.lt
  clear hb k1
  go_wp2_with fail
  refine hK.out _ _ hH2 (fun hH2 => ?_)
  clear hK K
  refine wpAnyH_take (i := 8) (oi := { dst := some 13, op := Op.build 23 #[(0, Operand.tmp 8), (1, Operand.tmp 12)], type := 23, pos := "ref.go:24", after := #[{ on := 3, ground := Ground.data }, { on := 7, ground := Ground.data }], guard := none }) (v := ?v8) rfl (by kernel_rfl) (by kernel_rfl) (by kernel_rfl) (fun _ _ _ h => h) (Or.inl ⟨by rfl, ?h8⟩) hH2 ?r8
  case h8 => intro w' hSw; (try dsimp only at hSw); go_simp; (try with_reducible rfl)
  simp only [Act.put, List.setIfInBounds_toArray, List.set_cons_zero, List.set_cons_succ]
  refine wpAnyH_ready (rs := [9]) (by kernel_rfl) (by simp) ?_
  refine AllReadyH.cons (o := { dst := none, op := Op.store 23 (Operand.tmp 4) (Operand.tmp 13), type := 0, pos := "ref.go:24", after := #[{ on := 8, ground := Ground.data }, { on := 7, ground := Ground.chain }, { on := 0, ground := Ground.phase }, { on := 1, ground := Ground.phase }, { on := 2, ground := Ground.phase }, { on := 3, ground := Ground.phase }, { on := 4, ground := Ground.phase }, { on := 5, ground := Ground.phase }, { on := 6, ground := Ground.phase }, { on := 7, ground := Ground.phase }, { on := 8, ground := Ground.phase }], guard := none }) rfl (fun K hK => ?_) AllReadyH.nil
  rw [if_pos (by rfl)]
  refine wp_store_row 23 (.tmp 4) (.tmp 13) rfl (g + 1) #[.int .i64 p, .int .i64 q] rfl rfl 23 #[.int .i64 0, .int .i64 0] m1 info23 rfl (pairR_one p q) ?_
  have hH3 := hH2.setRow (show g ≠ g + 1 by omega) (show w.heap.size ≤ g + 1 by have := HG.out; omega) #[.int .i64 p, .int .i64 q]
  refine hK.out _ _ hH3 (fun hH3 => ?_)
  clear hK K
  refine wpAnyH_done (by kernel_rfl) ?_ _
  have n1 := m1.setRow_ #[.int .i64 p, .int .i64 q]
  have HN := Lib.hid (And.intro n1 hH3.below)
  generalize w4.setRow (g + 1) #[.int .i64 p, .int .i64 q] = w5 at *
  clear n1 hH0 hH1 hH2 hH3 m1
  go_wp2_with fail
  exact bodyPost_ret (results_cell_row rfl _ _ (g + 1) 23 _ (0, 0) _ rfl HN.out.1 Try.underlying23 rfl info23) rfl ⟨rfl, HN.out.2⟩

set_option maxRecDepth 100000 in
set_option maxHeartbeats 1000000 in
theorem rvclamp_c (x y k : Int) (w : World) (hk : I64 k) (h : 0 ≤ k) :
    Calls Try.prog 10 #[vecV x y, .int .i64 k] w fun e w' => e = .returned (.tuple #[vecV (clampF x k) (clampF y k), .int .i64 0]) ∧ Below w.heap.size w w' := by
  have H1 := Lib.hid (fun w => grow (rclamp1_c x k w hk h))
  have H2 := Lib.hid (fun w => grow (rclamp1_c y k w hk h))
  have hd : decide (k < 0) = false := decide_eq_false (by omega)
  clear hk h
  generalize clampF x k = p at *
  generalize clampF y k = q at *
  go_enter Try.func10, Try.ntmps10
  go_upto_region 3 with (fail)
  have hs : Box1 w (((w.alloc (.cells #[.int .i64 x, .int .i64 y] 23)).alloc (.cells #[.int .i64 0, .int .i64 0] 23))) w.heap.size x y := (Box1.start w x y).keep ((Below.refl _ _).alloc (Nat.le_refl _) _)
  have hr := Blk.new (w.alloc (.cells #[.int .i64 x, .int .i64 y] 23)) 23 #[.int .i64 0, .int .i64 0]
  rw [show (w.alloc (.cells #[.int .i64 x, .int .i64 y] 23)).heap.size = w.heap.size + 1 by simp] at hr
  obtain ⟨w0, hw0⟩ : ∃ w0, w0 = ((w.alloc (.cells #[.int .i64 x, .int .i64 y] 23)).alloc (.cells #[.int .i64 0, .int .i64 0] 23)) := ⟨_, rfl⟩
  rw [← hw0] at hs hr ⊢
  clear hw0
  obtain ⟨g, hg⟩ : ∃ g, g = w.heap.size := ⟨_, rfl⟩
  rw [← hg] at hs hr ⊢
  have HG := Lib.hid (show w.heap.size ≤ g by omega)
  have HR := Lib.hid hr
  have HS := Lib.hid hs
  clear hs hr hg
  refine wp_region_held_drew (S := fun w1 => Box1 w w1 g x y) (by kernel_rfl) HS.out.drew (fun hH0 => ?_)
  refine wpAnyH_take (i := 0) (oi := { dst := some 9, op := Op.fieldAddr 23 (Operand.tmp 2) 0, type := 0, pos := "ref.go:72", after := #[], guard := none }) (v := ?v0) rfl (by kernel_rfl) (by kernel_rfl) (by kernel_rfl) (fun _ _ _ h => h) (Or.inl ⟨by rfl, ?h0⟩) hH0 ?r0
  case h0 => intro w' hSw; (try dsimp only at hSw); go_simp; (try with_reducible rfl)
  simp only [Act.put, List.setIfInBounds_toArray, List.set_cons_zero, List.set_cons_succ]
  refine wpAnyH_take (i := 1) (oi := { dst := some 10, op := Op.load 3 (Operand.tmp 9), type := 3, pos := "ref.go:72", after := #[{ on := 0, ground := Ground.data }], guard := none }) (v := ?v1) rfl (by kernel_rfl) (by kernel_rfl) (by kernel_rfl) (fun _ _ _ h => h) (Or.inl ⟨by rfl, ?h1⟩) hH0 ?r1
  case h1 => intro w' hSw; (try dsimp only at hSw); go_simp; (try with_reducible rfl)
  simp only [Act.put, List.setIfInBounds_toArray, List.set_cons_zero, List.set_cons_succ]
  refine wpAnyH_take (i := 2) (oi := { dst := some 11, op := Op.move (Operand.tmp 1), type := 3, pos := "ref.go:72", after := #[], guard := none }) (v := ?v2) rfl (by kernel_rfl) (by kernel_rfl) (by kernel_rfl) (fun _ _ _ h => h) (Or.inl ⟨by rfl, ?h2⟩) hH0 ?r2
  case h2 => intro w' hSw; (try dsimp only at hSw); go_simp; (try with_reducible rfl)
  simp only [Act.put, List.setIfInBounds_toArray, List.set_cons_zero, List.set_cons_succ]
  refine wpAnyH_take (i := 4) (oi := { dst := some 13, op := Op.fieldAddr 23 (Operand.tmp 2) 1, type := 0, pos := "ref.go:72", after := #[], guard := none }) (v := ?v4) rfl (by kernel_rfl) (by kernel_rfl) (by kernel_rfl) (fun _ _ _ h => h) (Or.inl ⟨by rfl, ?h4⟩) hH0 ?r4
  case h4 => intro w' hSw; (try dsimp only at hSw); go_simp; (try with_reducible rfl)
  simp only [Act.put, List.setIfInBounds_toArray, List.set_cons_zero, List.set_cons_succ]
  refine wpAnyH_take (i := 5) (oi := { dst := some 14, op := Op.load 3 (Operand.tmp 13), type := 3, pos := "ref.go:72", after := #[{ on := 4, ground := Ground.data }], guard := none }) (v := ?v5) rfl (by kernel_rfl) (by kernel_rfl) (by kernel_rfl) (fun _ _ _ h => h) (Or.inl ⟨by rfl, ?h5⟩) hH0 ?r5
  case h5 => intro w' hSw; (try dsimp only at hSw); go_simp; (try with_reducible rfl)
  simp only [Act.put, List.setIfInBounds_toArray, List.set_cons_zero, List.set_cons_succ]
  refine wpAnyH_take (i := 6) (oi := { dst := some 15, op := Op.move (Operand.tmp 1), type := 3, pos := "ref.go:72", after := #[], guard := none }) (v := ?v6) rfl (by kernel_rfl) (by kernel_rfl) (by kernel_rfl) (fun _ _ _ h => h) (Or.inl ⟨by rfl, ?h6⟩) hH0 ?r6
  case h6 => intro w' hSw; (try dsimp only at hSw); go_simp; (try with_reducible rfl)
  simp only [Act.put, List.setIfInBounds_toArray, List.set_cons_zero, List.set_cons_succ]
  refine wpAnyH_ready (rs := [3]) (by kernel_rfl) (by simp) ?_
  refine AllReadyH.cons (o := { dst := some 12, op := Op.call { callee := Callee.value (Operand.func 30), args := #[Operand.tmp 10, Operand.tmp 11], argTypes := #[3, 3] }, type := 3, pos := "ref.go:72", after := #[{ on := 1, ground := Ground.data }, { on := 2, ground := Ground.data }], guard := none }) rfl (fun K hK => ?_) AllReadyH.nil
  go_simp
  refine (H1.out _).mono ?_
  rintro e w3 ⟨rfl, hb⟩
  have hH1 := hH0.keep hb
  have k1 := HR.out.below (w := w0.drew) hb HR.out.lt
  clear hb HR
  go_wp2_with fail
  refine hK.out _ _ hH1 (fun hH1 => ?_)
  clear hK K
  refine wpAnyH_ready (rs := [7]) (by kernel_rfl) (by simp) ?_
  refine AllReadyH.cons (o := { dst := some 16, op := Op.call { callee := Callee.value (Operand.func 30), args := #[Operand.tmp 14, Operand.tmp 15], argTypes := #[3, 3] }, type := 3, pos := "ref.go:72", after := #[{ on := 5, ground := Ground.data }, { on := 6, ground := Ground.data }, { on := 3, ground := Ground.chain }], guard := none }) rfl (fun K hK => ?_) AllReadyH.nil
  go_simp
  refine (H2.out _).mono ?_
  rintro e w4 ⟨rfl, hb⟩
  have hH2 := hH1.keep hb
  have m1 := k1.below hb k1.lt
  clear hb k1
  go_wp2_with fail
  refine hK.out _ _ hH2 (fun hH2 => ?_)
  clear hK K
  refine wpAnyH_take (i := 8) (oi := { dst := some 17, op := Op.build 23 #[(0, Operand.tmp 12), (1, Operand.tmp 16)], type := 23, pos := "ref.go:72", after := #[{ on := 3, ground := Ground.data }, { on := 7, ground := Ground.data }], guard := none }) (v := ?v8) rfl (by kernel_rfl) (by kernel_rfl) (by kernel_rfl) (fun _ _ _ h => h) (Or.inl ⟨by rfl, ?h8⟩) hH2 ?r8
  case h8 => intro w' hSw; (try dsimp only at hSw); go_simp; (try with_reducible rfl)
  simp only [Act.put, List.setIfInBounds_toArray, List.set_cons_zero, List.set_cons_succ]
  refine wpAnyH_ready (rs := [9]) (by kernel_rfl) (by simp) ?_
  refine AllReadyH.cons (o := { dst := none, op := Op.store 23 (Operand.tmp 4) (Operand.tmp 17), type := 0, pos := "ref.go:72", after := #[{ on := 8, ground := Ground.data }, { on := 7, ground := Ground.chain }, { on := 0, ground := Ground.phase }, { on := 1, ground := Ground.phase }, { on := 2, ground := Ground.phase }, { on := 3, ground := Ground.phase }, { on := 4, ground := Ground.phase }, { on := 5, ground := Ground.phase }, { on := 6, ground := Ground.phase }, { on := 7, ground := Ground.phase }, { on := 8, ground := Ground.phase }], guard := none }) rfl (fun K hK => ?_) AllReadyH.nil
  rw [if_pos (by rfl)]
  refine wp_store_row 23 (.tmp 4) (.tmp 17) rfl (g + 1) #[.int .i64 p, .int .i64 q] rfl rfl 23 #[.int .i64 0, .int .i64 0] m1 info23 rfl (pairR_one p q) ?_
  have hH3 := hH2.setRow (show g ≠ g + 1 by omega) (show w.heap.size ≤ g + 1 by have := HG.out; omega) #[.int .i64 p, .int .i64 q]
  refine hK.out _ _ hH3 (fun hH3 => ?_)
  clear hK K
  refine wpAnyH_take (i := 10) (oi := { dst := some 5, op := Op.assign (Operand.const (Value.int IntKind.i64 0)), type := 25, pos := "ref.go:72", after := #[{ on := 9, ground := Ground.chain }, { on := 0, ground := Ground.phase }, { on := 1, ground := Ground.phase }, { on := 2, ground := Ground.phase }, { on := 3, ground := Ground.phase }, { on := 4, ground := Ground.phase }, { on := 5, ground := Ground.phase }, { on := 6, ground := Ground.phase }, { on := 7, ground := Ground.phase }, { on := 8, ground := Ground.phase }, { on := 9, ground := Ground.phase }], guard := none }) (v := ?v10) rfl (by kernel_rfl) (by kernel_rfl) (by kernel_rfl) (fun _ _ _ h => h) (Or.inl ⟨by rfl, ?h10⟩) hH3 ?r10
  case h10 => intro w' hSw; (try dsimp only at hSw); go_simp; (try with_reducible rfl)
  simp only [Act.put, List.setIfInBounds_toArray, List.set_cons_zero, List.set_cons_succ]
  refine wpAnyH_done (by kernel_rfl) ?_ _
  have n1 := m1.setRow_ #[.int .i64 p, .int .i64 q]
  have HN := Lib.hid (And.intro n1 hH3.below)
  generalize w4.setRow (g + 1) #[.int .i64 p, .int .i64 q] = w5 at *
  clear n1 hH0 hH1 hH2 hH3 m1
  go_wp2_with fail
  obtain ⟨n1, n2⟩ := HN.out
  have c1 : w5.cell? ⟨g + 1, 0, none⟩ = some (.int .i64 p) := n1.cell 0
  have c2 : w5.cell? ⟨g + 1, 1, none⟩ = some (.int .i64 q) := n1.cell 1
  exact bodyPost_ret (v := .tuple #[vecV p q, .int .i64 0]) (by simp [results, Try.results10, go_sem, c1, c2]) rfl ⟨rfl, n2⟩

theorem rvclamp_neg (x y k : Int) (w : World) (h : k < 0) :
    Calls Try.prog 10 #[vecV x y, .int .i64 k] w fun e w' => e = .returned (.tuple #[vecV 0 0, .int .i64 1]) ∧ Below w.heap.size w w' := by
  have HB := Lib.hid (bel2 w)
  go_enter Try.func10, Try.ntmps10
  go_wp2_with fail
  exact bodyPost_ret (v := .tuple #[vecV 0 0, .int .i64 1]) (by simp [results, Try.results10, go_sem]) rfl ⟨rfl, HB.out _ _⟩
end Go.Proofs.Ytefaagacgoohjaa

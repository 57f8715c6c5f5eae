/- The contracts of gapsFrom and of the closure that it answers. (By tools/gengap.py.) -/
import Derived.Test.YtnffflcfncffpaaBLeaf
import Derived.Deep.RegionHeld3
import Derived.Deep.DeepCutAuto
namespace Go.Proofs.Ytnffflcfncffpaa
open Go.RowKit

theorem gapsFrom_c (x y r : Int) (w : World) :
    Calls Try.prog 28 #[boxV x y r] w fun e w' => (∃ g1 g2, e = .returned (.func (.func 41) #[] #[.pointer (some ⟨g1, 0, none⟩), .pointer (some ⟨g2, 0, none⟩)]) ∧ w.heap.size ≤ g1 ∧ w.heap.size ≤ g2 ∧ Blk w' g1 39 #[.int .i64 x, .int .i64 y] ∧ Blk w' g2 25 #[.int .i64 x, .int .i64 y, .int .i64 r]) ∧ Below w.heap.size w w' := by
  have HA := Lib.hid (fun w => axes_c x y w)
  have HB := Lib.hid (fun (o : Obj) => (Below.refl w.heap.size w).alloc (Nat.le_refl _) o)
  go_enter Try.func28, Try.ntmps28
  go_wp2_with fail
  refine (HA.out _).mono ?_
  rintro e w1 ⟨rfl, hb⟩
  have hk := last_blk hb
  have HB := Lib.hid (vbt (HB.out _) hb)
  have HK := Lib.hid hk
  clear hb hk
  go_wp2_with fail
  go_ret
  exact ⟨⟨_, _, rfl, HB.out.size, Nat.le_refl _, Blk.new _ _ _, HK.out.alloc _⟩, HB.out.alloc HB.out.size _⟩

/-- What the closure's memory holds. -/
structure CS (w w2 : World) (g1 g2 gt gg : Nat) (x y r u v s p q : Int) : Prop where
  a : Blk w2 g1 39 #[.int .i64 x, .int .i64 y]
  b : Blk w2 g2 25 #[.int .i64 x, .int .i64 y, .int .i64 r]
  c : Blk w2 gt 39 #[.int .i64 u, .int .i64 v]
  d : Blk w2 gg 39 #[.int .i64 p, .int .i64 q]
  e : Blk w2 w.heap.size 25 #[.int .i64 u, .int .i64 v, .int .i64 s]
  f : Blk w2 (w.heap.size + 1) 39 #[.int .i64 0, .int .i64 0]
  bel : Below w.heap.size w w2
  l1 : g1 < w.heap.size
  l2 : g2 < w.heap.size
  l3 : w.heap.size + 1 < gt
  l4 : gt < gg

section
variable {w w2 : World} {g1 g2 gt gg : Nat} {x y r u v s p q : Int}
theorem CS.drew (h : CS w w2 g1 g2 gt gg x y r u v s p q) : CS w w2.drew g1 g2 gt gg x y r u v s p q := ⟨h.a, h.b, h.c, h.d, h.e, h.f, h.bel.drew, h.l1, h.l2, h.l3, h.l4⟩
theorem CS.set0 (h : CS w w2 g1 g2 gt gg x y r u v s p q) (n : Int) : CS w (w2.setCell ⟨gg, 0, none⟩ (.int .i64 n)) g1 g2 gt gg x y r u v s n q := by
  have := h.l1; have := h.l2; have := h.l3; have := h.l4
  exact ⟨h.a.far (by simp; omega) _, h.b.far (by simp; omega) _, h.c.far (by simp; omega) _, h.d.set_ 0 _, h.e.far (by simp; omega) _, h.f.far (by simp; omega) _, h.bel.setCell (by simp; omega) _, h.l1, h.l2, h.l3, h.l4⟩
theorem CS.set1 (h : CS w w2 g1 g2 gt gg x y r u v s p q) (n : Int) : CS w (w2.setCell ⟨gg, 1, none⟩ (.int .i64 n)) g1 g2 gt gg x y r u v s p n := by
  have := h.l1; have := h.l2; have := h.l3; have := h.l4
  exact ⟨h.a.far (by simp; omega) _, h.b.far (by simp; omega) _, h.c.far (by simp; omega) _, h.d.set_ 1 _, h.e.far (by simp; omega) _, h.f.far (by simp; omega) _, h.bel.setCell (by simp; omega) _, h.l1, h.l2, h.l3, h.l4⟩
end

theorem CS.start {w w1 : World} {g1 g2 : Nat} {x y r u v s : Int} (h1 : Blk w g1 39 #[.int .i64 x, .int .i64 y]) (h2 : Blk w g2 25 #[.int .i64 x, .int .i64 y, .int .i64 r])
    (hb : Below ((w.alloc (.cells #[.int .i64 u, .int .i64 v, .int .i64 s] 25)).alloc (.cells #[.int .i64 0, .int .i64 0] 39)).heap.size ((w.alloc (.cells #[.int .i64 u, .int .i64 v, .int .i64 s] 25)).alloc (.cells #[.int .i64 0, .int .i64 0] 39)) w1) :
    CS w ((w1.alloc (.cells #[.int .i64 u, .int .i64 v] 39)).alloc (.cells #[.int .i64 0, .int .i64 0] 39)) g1 g2 w1.heap.size (w1.heap.size + 1) x y r u v s 0 0 := by
  have hs : ((w.alloc (.cells #[.int .i64 u, .int .i64 v, .int .i64 s] 25)).alloc (.cells #[.int .i64 0, .int .i64 0] 39)).heap.size = w.heap.size + 1 + 1 := by simp
  have hw := vbt (bel2 w _ _) hb
  have ha := (hb.size)
  rw [hs] at ha
  have hd := Blk.new (w1.alloc (.cells #[.int .i64 u, .int .i64 v] 39)) 39 #[.int .i64 0, .int .i64 0]
  rw [show (w1.alloc (.cells #[.int .i64 u, .int .i64 v] 39)).heap.size = w1.heap.size + 1 by simp] at hd
  have he := (((Blk.new w 25 #[.int .i64 u, .int .i64 v, .int .i64 s]).alloc (.cells #[.int .i64 0, .int .i64 0] 39)).below hb (by simp; omega))
  have hf := (Blk.new (w.alloc (.cells #[.int .i64 u, .int .i64 v, .int .i64 s] 25)) 39 #[.int .i64 0, .int .i64 0]).below hb (by simp)
  rw [show (w.alloc (.cells #[.int .i64 u, .int .i64 v, .int .i64 s] 25)).heap.size = w.heap.size + 1 by simp] at hf
  exact ⟨((h1.below hw h1.lt).alloc _).alloc _, ((h2.below hw h2.lt).alloc _).alloc _, (Blk.new _ _ _).alloc _, hd, (he.alloc _).alloc _, (hf.alloc _).alloc _, (hw.alloc hw.size _).alloc (by simp; omega) _, h1.lt, h2.lt, by omega, by omega⟩

set_option maxRecDepth 100000 in
set_option maxHeartbeats 1000000 in
theorem gaps1_c (x y r u v s : Int) (g1 g2 : Nat) (w : World) (h1 : Blk w g1 39 #[.int .i64 x, .int .i64 y]) (h2 : Blk w g2 25 #[.int .i64 x, .int .i64 y, .int .i64 r])
    (hr : 1 ≤ r ∧ r ≤ 1099511627776) (hs : 1 ≤ s ∧ s ≤ 1099511627776) (hx : (u - x).natAbs ≤ 4611686018427387904) (hy : (v - y).natAbs ≤ 4611686018427387904) :
    Calls Try.prog 41 #[boxV u v s, .pointer (some ⟨g1, 0, none⟩), .pointer (some ⟨g2, 0, none⟩)] w fun e w' => e = .returned (vecV (((u - x).natAbs : Int) - r - s) (((v - y).natAbs : Int) - r - s)) ∧ Below w.heap.size w w' := by
  have HA := Lib.hid (fun w => axes_c u v w)
  have HS0 := Lib.hid (fun w => bsize_c (u - x) w (by omega))
  have HS1 := Lib.hid (fun w => bsize_c (v - y) w (by omega))
  have q0 : IntKind.i64.wrap (u - x) = u - x := IntWalk.i64_in _ (by omega)
  have q1 : IntKind.i64.wrap (v - y) = v - y := IntWalk.i64_in _ (by omega)
  have q2 : IntKind.i64.wrap (((u - x).natAbs : Int) - r) = ((u - x).natAbs : Int) - r := IntWalk.i64_in _ (by omega)
  have q3 : IntKind.i64.wrap (((v - y).natAbs : Int) - r) = ((v - y).natAbs : Int) - r := IntWalk.i64_in _ (by omega)
  have q4 : IntKind.i64.wrap (((u - x).natAbs : Int) - r - s) = ((u - x).natAbs : Int) - r - s := IntWalk.i64_in _ (by omega)
  have q5 : IntKind.i64.wrap (((v - y).natAbs : Int) - r - s) = ((v - y).natAbs : Int) - r - s := IntWalk.i64_in _ (by omega)
  have H1 := Lib.hid h1
  have H2 := Lib.hid h2
  clear h1 h2 hr hs hx hy
  obtain ⟨m, hm⟩ : ∃ m : Int, m = ((u - x).natAbs : Int) := ⟨_, rfl⟩
  obtain ⟨n, hn⟩ : ∃ n : Int, n = ((v - y).natAbs : Int) := ⟨_, rfl⟩
  rw [← hm] at HS0 q2 q4
  rw [← hn] at HS1 q3 q5
  rw [← hm, ← hn]
  clear hm hn
  go_enter Try.func41, Try.ntmps41
  go_wp2_with fail
  refine (HA.out _).mono ?_
  rintro e w1 ⟨rfl, hb⟩
  have HB := Lib.hid (CS.start H1.out H2.out hb)
  clear hb H1 H2 HA
  go_wp2_with fail
  refine wp_loop_rounds 3 ?_
  rw [rounds_succ]
  go_upto_region 6 with (fail)
  obtain ⟨w2, hw2⟩ : ∃ w2, w2 = (w1.alloc (.cells #[.int .i64 u, .int .i64 v] 39)).alloc (.cells #[.int .i64 0, .int .i64 0] 39) := ⟨_, rfl⟩
  rw [← hw2] at HB ⊢
  clear hw2
  obtain ⟨gt, hgt⟩ : ∃ gt, gt = w1.heap.size := ⟨_, rfl⟩
  rw [← hgt] at HB ⊢
  clear hgt
  obtain ⟨gg, hgg⟩ : ∃ gg, gg = gt + 1 := ⟨_, rfl⟩
  rw [← hgg] at HB ⊢
  clear hgg w1
  have HC0 := Lib.hid HB.out.drew
  clear HB
  refine wp_region_held_drew (S := fun w1 => w1.cell? ⟨gt, 0, none⟩ = some (.int .i64 u) ∧ w1.cell? ⟨g1, 0, none⟩ = some (.int .i64 x) ∧ w1.cell? ⟨g2, 2, none⟩ = some (.int .i64 r) ∧ w1.cell? ⟨w.heap.size, 2, none⟩ = some (.int .i64 s)) (by kernel_rfl) ⟨HC0.out.c.cell 0, HC0.out.a.cell 0, HC0.out.b.cell 2, HC0.out.e.cell 2⟩ (fun hH0 => ?_)
  refine wpAnyH_take (i := 0) (oi := { dst := some 14, op := Op.move (Operand.tmp 7), type := 3, pos := "box.go:111", after := #[], guard := none }) (v := ?v0a) rfl (by kernel_rfl) (by kernel_rfl) (by kernel_rfl) (fun _ _ _ h => h) (Or.inl ⟨by rfl, ?h0a⟩) hH0 ?r0a
  case h0a => intro w' hSw; (try dsimp only at hSw); go_simp; (try with_reducible rfl)
  simp only [Act.put, List.setIfInBounds_toArray, List.set_cons_zero, List.set_cons_succ]
  refine wpAnyH_take (i := 1) (oi := { dst := some 15, op := Op.move (Operand.tmp 7), type := 3, pos := "box.go:111", after := #[], guard := none }) (v := ?v1a) rfl (by kernel_rfl) (by kernel_rfl) (by kernel_rfl) (fun _ _ _ h => h) (Or.inl ⟨by rfl, ?h1a⟩) hH0 ?r1a
  case h1a => intro w' hSw; (try dsimp only at hSw); go_simp; (try with_reducible rfl)
  simp only [Act.put, List.setIfInBounds_toArray, List.set_cons_zero, List.set_cons_succ]
  refine wpAnyH_take (i := 2) (oi := { dst := some 16, op := Op.indexAddr 39 (Operand.tmp 5) (Operand.tmp 15), type := 0, pos := "box.go:111", after := #[{ on := 1, ground := Ground.data }], guard := none }) (v := ?v2a) rfl (by kernel_rfl) (by kernel_rfl) (by kernel_rfl) (fun _ _ _ h => h) (Or.inl ⟨by rfl, ?h2a⟩) hH0 ?r2a
  case h2a => intro w' hSw; (try dsimp only at hSw); go_simp; (try with_reducible rfl)
  simp only [Act.put, List.setIfInBounds_toArray, List.set_cons_zero, List.set_cons_succ]
  refine wpAnyH_take (i := 3) (oi := { dst := some 17, op := Op.load 3 (Operand.tmp 16), type := 3, pos := "box.go:111", after := #[{ on := 2, ground := Ground.data }], guard := none }) (v := ?v3a) rfl (by kernel_rfl) (by kernel_rfl) (by kernel_rfl) (fun _ _ _ h => h) (Or.inl ⟨by rfl, ?h3a⟩) hH0 ?r3a
  case h3a => intro w' hSw; (try dsimp only at hSw); go_simp; (try with_reducible rfl)
  simp only [Act.put, List.setIfInBounds_toArray, List.set_cons_zero, List.set_cons_succ]
  refine wpAnyH_take (i := 4) (oi := { dst := some 18, op := Op.move (Operand.tmp 7), type := 3, pos := "box.go:111", after := #[], guard := none }) (v := ?v4a) rfl (by kernel_rfl) (by kernel_rfl) (by kernel_rfl) (fun _ _ _ h => h) (Or.inl ⟨by rfl, ?h4a⟩) hH0 ?r4a
  case h4a => intro w' hSw; (try dsimp only at hSw); go_simp; (try with_reducible rfl)
  simp only [Act.put, List.setIfInBounds_toArray, List.set_cons_zero, List.set_cons_succ]
  refine wpAnyH_take (i := 5) (oi := { dst := some 19, op := Op.indexAddr 39 (Operand.tmp 1) (Operand.tmp 18), type := 0, pos := "box.go:111", after := #[{ on := 4, ground := Ground.data }], guard := none }) (v := ?v5a) rfl (by kernel_rfl) (by kernel_rfl) (by kernel_rfl) (fun _ _ _ h => h) (Or.inl ⟨by rfl, ?h5a⟩) hH0 ?r5a
  case h5a => intro w' hSw; (try dsimp only at hSw); go_simp; (try with_reducible rfl)
  simp only [Act.put, List.setIfInBounds_toArray, List.set_cons_zero, List.set_cons_succ]
  refine wpAnyH_take (i := 6) (oi := { dst := some 20, op := Op.load 3 (Operand.tmp 19), type := 3, pos := "box.go:111", after := #[{ on := 5, ground := Ground.data }], guard := none }) (v := ?v6a) rfl (by kernel_rfl) (by kernel_rfl) (by kernel_rfl) (fun _ _ _ h => h) (Or.inl ⟨by rfl, ?h6a⟩) hH0 ?r6a
  case h6a => intro w' hSw; (try dsimp only at hSw); go_simp; (try with_reducible rfl)
  simp only [Act.put, List.setIfInBounds_toArray, List.set_cons_zero, List.set_cons_succ]
  refine wpAnyH_take (i := 7) (oi := { dst := some 21, op := Op.binOp BinOp.sub 3 (Operand.tmp 17) (Operand.tmp 20) 3, type := 3, pos := "box.go:111", after := #[{ on := 3, ground := Ground.data }, { on := 6, ground := Ground.data }], guard := none }) (v := ?v7a) rfl (by kernel_rfl) (by kernel_rfl) (by kernel_rfl) (fun _ _ _ h => h) (Or.inl ⟨by rfl, ?h7a⟩) hH0 ?r7a
  case h7a => intro w' hSw; (try dsimp only at hSw); go_simp; (try with_reducible rfl)
  simp only [Act.put, List.setIfInBounds_toArray, List.set_cons_zero, List.set_cons_succ]
  refine wpAnyH_take (i := 9) (oi := { dst := some 23, op := Op.fieldAddr 25 (Operand.tmp 2) 1, type := 0, pos := "box.go:111", after := #[], guard := none }) (v := ?v9a) rfl (by kernel_rfl) (by kernel_rfl) (by kernel_rfl) (fun _ _ _ h => h) (Or.inl ⟨by rfl, ?h9a⟩) hH0 ?r9a
  case h9a => intro w' hSw; (try dsimp only at hSw); go_simp; (try with_reducible rfl)
  simp only [Act.put, List.setIfInBounds_toArray, List.set_cons_zero, List.set_cons_succ]
  refine wpAnyH_take (i := 10) (oi := { dst := some 24, op := Op.load 3 (Operand.tmp 23), type := 3, pos := "box.go:111", after := #[{ on := 9, ground := Ground.data }], guard := none }) (v := ?v10a) rfl (by kernel_rfl) (by kernel_rfl) (by kernel_rfl) (fun _ _ _ h => h) (Or.inl ⟨by rfl, ?h10a⟩) hH0 ?r10a
  case h10a => intro w' hSw; (try dsimp only at hSw); go_simp; (try with_reducible rfl)
  simp only [Act.put, List.setIfInBounds_toArray, List.set_cons_zero, List.set_cons_succ]
  refine wpAnyH_take (i := 12) (oi := { dst := some 26, op := Op.fieldAddr 25 (Operand.tmp 3) 1, type := 0, pos := "box.go:111", after := #[], guard := none }) (v := ?v12a) rfl (by kernel_rfl) (by kernel_rfl) (by kernel_rfl) (fun _ _ _ h => h) (Or.inl ⟨by rfl, ?h12a⟩) hH0 ?r12a
  case h12a => intro w' hSw; (try dsimp only at hSw); go_simp; (try with_reducible rfl)
  simp only [Act.put, List.setIfInBounds_toArray, List.set_cons_zero, List.set_cons_succ]
  refine wpAnyH_take (i := 13) (oi := { dst := some 27, op := Op.load 3 (Operand.tmp 26), type := 3, pos := "box.go:111", after := #[{ on := 12, ground := Ground.data }], guard := none }) (v := ?v13a) rfl (by kernel_rfl) (by kernel_rfl) (by kernel_rfl) (fun _ _ _ h => h) (Or.inl ⟨by rfl, ?h13a⟩) hH0 ?r13a
  case h13a => intro w' hSw; (try dsimp only at hSw); go_simp; (try with_reducible rfl)
  simp only [Act.put, List.setIfInBounds_toArray, List.set_cons_zero, List.set_cons_succ]
  refine wpAnyH_ready (rs := [8]) (by kernel_rfl) (by simp) ?_
  refine AllReadyH.cons (o := { dst := some 22, op := Op.call { callee := Callee.value (Operand.func 42), args := #[Operand.tmp 21], argTypes := #[3] }, type := 3, pos := "box.go:111", after := #[{ on := 7, ground := Ground.data }], guard := none }) rfl (fun K hK => ?_) AllReadyH.nil
  go_simp
  refine (HS0.out _).mono ?_
  rintro e w3 ⟨rfl, rfl⟩
  go_wp2_with fail
  refine hK.out _ _ hH0 (fun hH1 => ?_)
  clear hK K
  refine wpAnyH_take (i := 11) (oi := { dst := some 25, op := Op.binOp BinOp.sub 3 (Operand.tmp 22) (Operand.tmp 24) 3, type := 3, pos := "box.go:111", after := #[{ on := 8, ground := Ground.data }, { on := 10, ground := Ground.data }], guard := none }) (v := ?v11a) rfl (by kernel_rfl) (by kernel_rfl) (by kernel_rfl) (fun _ _ _ h => h) (Or.inl ⟨by rfl, ?h11a⟩) hH1 ?r11a
  case h11a => intro w' hSw; (try dsimp only at hSw); go_simp; (try with_reducible rfl)
  simp only [Act.put, List.setIfInBounds_toArray, List.set_cons_zero, List.set_cons_succ]
  refine wpAnyH_take (i := 14) (oi := { dst := some 28, op := Op.binOp BinOp.sub 3 (Operand.tmp 25) (Operand.tmp 27) 3, type := 3, pos := "box.go:111", after := #[{ on := 11, ground := Ground.data }, { on := 13, ground := Ground.data }], guard := none }) (v := ?v14a) rfl (by kernel_rfl) (by kernel_rfl) (by kernel_rfl) (fun _ _ _ h => h) (Or.inl ⟨by rfl, ?h14a⟩) hH1 ?r14a
  case h14a => intro w' hSw; (try dsimp only at hSw); go_simp; (try with_reducible rfl)
  simp only [Act.put, List.setIfInBounds_toArray, List.set_cons_zero, List.set_cons_succ]
  refine wpAnyH_take (i := 15) (oi := { dst := some 29, op := Op.indexAddr 39 (Operand.tmp 6) (Operand.tmp 14), type := 0, pos := "box.go:111", after := #[{ on := 0, ground := Ground.data }, { on := 0, ground := Ground.phase }, { on := 1, ground := Ground.phase }, { on := 2, ground := Ground.phase }, { on := 3, ground := Ground.phase }, { on := 4, ground := Ground.phase }, { on := 5, ground := Ground.phase }, { on := 6, ground := Ground.phase }, { on := 7, ground := Ground.phase }, { on := 8, ground := Ground.phase }, { on := 9, ground := Ground.phase }, { on := 10, ground := Ground.phase }, { on := 11, ground := Ground.phase }, { on := 12, ground := Ground.phase }, { on := 13, ground := Ground.phase }, { on := 14, ground := Ground.phase }], guard := none }) (v := ?v15a) rfl (by kernel_rfl) (by kernel_rfl) (by kernel_rfl) (fun _ _ _ h => h) (Or.inl ⟨by rfl, ?h15a⟩) hH1 ?r15a
  case h15a => intro w' hSw; (try dsimp only at hSw); go_simp; (try with_reducible rfl)
  simp only [Act.put, List.setIfInBounds_toArray, List.set_cons_zero, List.set_cons_succ]
  refine wpAnyH_ready (rs := [16]) (by kernel_rfl) (by simp) ?_
  refine AllReadyH.cons (o := { dst := none, op := Op.store 3 (Operand.tmp 29) (Operand.tmp 28), type := 0, pos := "box.go:111", after := #[{ on := 15, ground := Ground.data }, { on := 14, ground := Ground.data }, { on := 8, ground := Ground.chain }, { on := 0, ground := Ground.phase }, { on := 1, ground := Ground.phase }, { on := 2, ground := Ground.phase }, { on := 3, ground := Ground.phase }, { on := 4, ground := Ground.phase }, { on := 5, ground := Ground.phase }, { on := 6, ground := Ground.phase }, { on := 7, ground := Ground.phase }, { on := 8, ground := Ground.phase }, { on := 9, ground := Ground.phase }, { on := 10, ground := Ground.phase }, { on := 11, ground := Ground.phase }, { on := 12, ground := Ground.phase }, { on := 13, ground := Ground.phase }, { on := 14, ground := Ground.phase }], guard := none }) rfl (fun K hK => ?_) AllReadyH.nil
  have c0 := HC0.out.d.cell 0
  have z0 := HC0.out.d.frozen 0
  have HD0 := Lib.hid (HC0.out.set0 (m - r - s))
  go_simp
  go_wp2_with fail
  refine hK.out _ _ ⟨HD0.out.c.cell 0, HD0.out.a.cell 0, HD0.out.b.cell 2, HD0.out.e.cell 2⟩ (fun hH2 => ?_)
  clear hK K hH0 hH1 hH2 c0 z0 HC0
  refine wpAnyH_done (by kernel_rfl) ?_ _
  obtain ⟨w4, hw⟩ : ∃ wx, wx = (w2.setCell ⟨gg, 0, none⟩ (.int .i64 (m - r - s))).drew := ⟨_, rfl⟩
  have HB : Hid (CS w w4 g1 g2 gt gg x y r u v s (m - r - s) 0) := by rw [hw]; exact HD0
  rw [show World.drew (w2.setCell ⟨gg, 0, none⟩ (.int .i64 (m - r - s))) = w4 from hw.symm]
  clear HD0 hw
  go_wp2_with fail
  rw [rounds_succ]
  go_upto_region 6 with (fail)
  have HC1 := Lib.hid HB.out.drew
  clear HB
  refine wp_region_held_drew (S := fun w1 => w1.cell? ⟨gt, 1, none⟩ = some (.int .i64 v) ∧ w1.cell? ⟨g1, 1, none⟩ = some (.int .i64 y) ∧ w1.cell? ⟨g2, 2, none⟩ = some (.int .i64 r) ∧ w1.cell? ⟨w.heap.size, 2, none⟩ = some (.int .i64 s)) (by kernel_rfl) ⟨HC1.out.c.cell 1, HC1.out.a.cell 1, HC1.out.b.cell 2, HC1.out.e.cell 2⟩ (fun hH0 => ?_)
  refine wpAnyH_take (i := 0) (oi := { dst := some 14, op := Op.move (Operand.tmp 7), type := 3, pos := "box.go:111", after := #[], guard := none }) (v := ?v0b) rfl (by kernel_rfl) (by kernel_rfl) (by kernel_rfl) (fun _ _ _ h => h) (Or.inl ⟨by rfl, ?h0b⟩) hH0 ?r0b
  case h0b => intro w' hSw; (try dsimp only at hSw); go_simp; (try with_reducible rfl)
  simp only [Act.put, List.setIfInBounds_toArray, List.set_cons_zero, List.set_cons_succ]
  refine wpAnyH_take (i := 1) (oi := { dst := some 15, op := Op.move (Operand.tmp 7), type := 3, pos := "box.go:111", after := #[], guard := none }) (v := ?v1b) rfl (by kernel_rfl) (by kernel_rfl) (by kernel_rfl) (fun _ _ _ h => h) (Or.inl ⟨by rfl, ?h1b⟩) hH0 ?r1b
  case h1b => intro w' hSw; (try dsimp only at hSw); go_simp; (try with_reducible rfl)
  simp only [Act.put, List.setIfInBounds_toArray, List.set_cons_zero, List.set_cons_succ]
  refine wpAnyH_take (i := 2) (oi := { dst := some 16, op := Op.indexAddr 39 (Operand.tmp 5) (Operand.tmp 15), type := 0, pos := "box.go:111", after := #[{ on := 1, ground := Ground.data }], guard := none }) (v := ?v2b) rfl (by kernel_rfl) (by kernel_rfl) (by kernel_rfl) (fun _ _ _ h => h) (Or.inl ⟨by rfl, ?h2b⟩) hH0 ?r2b
  case h2b => intro w' hSw; (try dsimp only at hSw); go_simp; (try with_reducible rfl)
  simp only [Act.put, List.setIfInBounds_toArray, List.set_cons_zero, List.set_cons_succ]
  refine wpAnyH_take (i := 3) (oi := { dst := some 17, op := Op.load 3 (Operand.tmp 16), type := 3, pos := "box.go:111", after := #[{ on := 2, ground := Ground.data }], guard := none }) (v := ?v3b) rfl (by kernel_rfl) (by kernel_rfl) (by kernel_rfl) (fun _ _ _ h => h) (Or.inl ⟨by rfl, ?h3b⟩) hH0 ?r3b
  case h3b => intro w' hSw; (try dsimp only at hSw); go_simp; (try with_reducible rfl)
  simp only [Act.put, List.setIfInBounds_toArray, List.set_cons_zero, List.set_cons_succ]
  refine wpAnyH_take (i := 4) (oi := { dst := some 18, op := Op.move (Operand.tmp 7), type := 3, pos := "box.go:111", after := #[], guard := none }) (v := ?v4b) rfl (by kernel_rfl) (by kernel_rfl) (by kernel_rfl) (fun _ _ _ h => h) (Or.inl ⟨by rfl, ?h4b⟩) hH0 ?r4b
  case h4b => intro w' hSw; (try dsimp only at hSw); go_simp; (try with_reducible rfl)
  simp only [Act.put, List.setIfInBounds_toArray, List.set_cons_zero, List.set_cons_succ]
  refine wpAnyH_take (i := 5) (oi := { dst := some 19, op := Op.indexAddr 39 (Operand.tmp 1) (Operand.tmp 18), type := 0, pos := "box.go:111", after := #[{ on := 4, ground := Ground.data }], guard := none }) (v := ?v5b) rfl (by kernel_rfl) (by kernel_rfl) (by kernel_rfl) (fun _ _ _ h => h) (Or.inl ⟨by rfl, ?h5b⟩) hH0 ?r5b
  case h5b => intro w' hSw; (try dsimp only at hSw); go_simp; (try with_reducible rfl)
  simp only [Act.put, List.setIfInBounds_toArray, List.set_cons_zero, List.set_cons_succ]
  refine wpAnyH_take (i := 6) (oi := { dst := some 20, op := Op.load 3 (Operand.tmp 19), type := 3, pos := "box.go:111", after := #[{ on := 5, ground := Ground.data }], guard := none }) (v := ?v6b) rfl (by kernel_rfl) (by kernel_rfl) (by kernel_rfl) (fun _ _ _ h => h) (Or.inl ⟨by rfl, ?h6b⟩) hH0 ?r6b
  case h6b => intro w' hSw; (try dsimp only at hSw); go_simp; (try with_reducible rfl)
  simp only [Act.put, List.setIfInBounds_toArray, List.set_cons_zero, List.set_cons_succ]
  refine wpAnyH_take (i := 7) (oi := { dst := some 21, op := Op.binOp BinOp.sub 3 (Operand.tmp 17) (Operand.tmp 20) 3, type := 3, pos := "box.go:111", after := #[{ on := 3, ground := Ground.data }, { on := 6, ground := Ground.data }], guard := none }) (v := ?v7b) rfl (by kernel_rfl) (by kernel_rfl) (by kernel_rfl) (fun _ _ _ h => h) (Or.inl ⟨by rfl, ?h7b⟩) hH0 ?r7b
  case h7b => intro w' hSw; (try dsimp only at hSw); go_simp; (try with_reducible rfl)
  simp only [Act.put, List.setIfInBounds_toArray, List.set_cons_zero, List.set_cons_succ]
  refine wpAnyH_take (i := 9) (oi := { dst := some 23, op := Op.fieldAddr 25 (Operand.tmp 2) 1, type := 0, pos := "box.go:111", after := #[], guard := none }) (v := ?v9b) rfl (by kernel_rfl) (by kernel_rfl) (by kernel_rfl) (fun _ _ _ h => h) (Or.inl ⟨by rfl, ?h9b⟩) hH0 ?r9b
  case h9b => intro w' hSw; (try dsimp only at hSw); go_simp; (try with_reducible rfl)
  simp only [Act.put, List.setIfInBounds_toArray, List.set_cons_zero, List.set_cons_succ]
  refine wpAnyH_take (i := 10) (oi := { dst := some 24, op := Op.load 3 (Operand.tmp 23), type := 3, pos := "box.go:111", after := #[{ on := 9, ground := Ground.data }], guard := none }) (v := ?v10b) rfl (by kernel_rfl) (by kernel_rfl) (by kernel_rfl) (fun _ _ _ h => h) (Or.inl ⟨by rfl, ?h10b⟩) hH0 ?r10b
  case h10b => intro w' hSw; (try dsimp only at hSw); go_simp; (try with_reducible rfl)
  simp only [Act.put, List.setIfInBounds_toArray, List.set_cons_zero, List.set_cons_succ]
  refine wpAnyH_take (i := 12) (oi := { dst := some 26, op := Op.fieldAddr 25 (Operand.tmp 3) 1, type := 0, pos := "box.go:111", after := #[], guard := none }) (v := ?v12b) rfl (by kernel_rfl) (by kernel_rfl) (by kernel_rfl) (fun _ _ _ h => h) (Or.inl ⟨by rfl, ?h12b⟩) hH0 ?r12b
  case h12b => intro w' hSw; (try dsimp only at hSw); go_simp; (try with_reducible rfl)
  simp only [Act.put, List.setIfInBounds_toArray, List.set_cons_zero, List.set_cons_succ]
  refine wpAnyH_take (i := 13) (oi := { dst := some 27, op := Op.load 3 (Operand.tmp 26), type := 3, pos := "box.go:111", after := #[{ on := 12, ground := Ground.data }], guard := none }) (v := ?v13b) rfl (by kernel_rfl) (by kernel_rfl) (by kernel_rfl) (fun _ _ _ h => h) (Or.inl ⟨by rfl, ?h13b⟩) hH0 ?r13b
  case h13b => intro w' hSw; (try dsimp only at hSw); go_simp; (try with_reducible rfl)
  simp only [Act.put, List.setIfInBounds_toArray, List.set_cons_zero, List.set_cons_succ]
  refine wpAnyH_ready (rs := [8]) (by kernel_rfl) (by simp) ?_
  refine AllReadyH.cons (o := { dst := some 22, op := Op.call { callee := Callee.value (Operand.func 42), args := #[Operand.tmp 21], argTypes := #[3] }, type := 3, pos := "box.go:111", after := #[{ on := 7, ground := Ground.data }], guard := none }) rfl (fun K hK => ?_) AllReadyH.nil
  go_simp
  refine (HS1.out _).mono ?_
  rintro e w3 ⟨rfl, rfl⟩
  go_wp2_with fail
  refine hK.out _ _ hH0 (fun hH1 => ?_)
  clear hK K
  refine wpAnyH_take (i := 11) (oi := { dst := some 25, op := Op.binOp BinOp.sub 3 (Operand.tmp 22) (Operand.tmp 24) 3, type := 3, pos := "box.go:111", after := #[{ on := 8, ground := Ground.data }, { on := 10, ground := Ground.data }], guard := none }) (v := ?v11b) rfl (by kernel_rfl) (by kernel_rfl) (by kernel_rfl) (fun _ _ _ h => h) (Or.inl ⟨by rfl, ?h11b⟩) hH1 ?r11b
  case h11b => intro w' hSw; (try dsimp only at hSw); go_simp; (try with_reducible rfl)
  simp only [Act.put, List.setIfInBounds_toArray, List.set_cons_zero, List.set_cons_succ]
  refine wpAnyH_take (i := 14) (oi := { dst := some 28, op := Op.binOp BinOp.sub 3 (Operand.tmp 25) (Operand.tmp 27) 3, type := 3, pos := "box.go:111", after := #[{ on := 11, ground := Ground.data }, { on := 13, ground := Ground.data }], guard := none }) (v := ?v14b) rfl (by kernel_rfl) (by kernel_rfl) (by kernel_rfl) (fun _ _ _ h => h) (Or.inl ⟨by rfl, ?h14b⟩) hH1 ?r14b
  case h14b => intro w' hSw; (try dsimp only at hSw); go_simp; (try with_reducible rfl)
  simp only [Act.put, List.setIfInBounds_toArray, List.set_cons_zero, List.set_cons_succ]
  refine wpAnyH_take (i := 15) (oi := { dst := some 29, op := Op.indexAddr 39 (Operand.tmp 6) (Operand.tmp 14), type := 0, pos := "box.go:111", after := #[{ on := 0, ground := Ground.data }, { on := 0, ground := Ground.phase }, { on := 1, ground := Ground.phase }, { on := 2, ground := Ground.phase }, { on := 3, ground := Ground.phase }, { on := 4, ground := Ground.phase }, { on := 5, ground := Ground.phase }, { on := 6, ground := Ground.phase }, { on := 7, ground := Ground.phase }, { on := 8, ground := Ground.phase }, { on := 9, ground := Ground.phase }, { on := 10, ground := Ground.phase }, { on := 11, ground := Ground.phase }, { on := 12, ground := Ground.phase }, { on := 13, ground := Ground.phase }, { on := 14, ground := Ground.phase }], guard := none }) (v := ?v15b) rfl (by kernel_rfl) (by kernel_rfl) (by kernel_rfl) (fun _ _ _ h => h) (Or.inl ⟨by rfl, ?h15b⟩) hH1 ?r15b
  case h15b => intro w' hSw; (try dsimp only at hSw); go_simp; (try with_reducible rfl)
  simp only [Act.put, List.setIfInBounds_toArray, List.set_cons_zero, List.set_cons_succ]
  refine wpAnyH_ready (rs := [16]) (by kernel_rfl) (by simp) ?_
  refine AllReadyH.cons (o := { dst := none, op := Op.store 3 (Operand.tmp 29) (Operand.tmp 28), type := 0, pos := "box.go:111", after := #[{ on := 15, ground := Ground.data }, { on := 14, ground := Ground.data }, { on := 8, ground := Ground.chain }, { on := 0, ground := Ground.phase }, { on := 1, ground := Ground.phase }, { on := 2, ground := Ground.phase }, { on := 3, ground := Ground.phase }, { on := 4, ground := Ground.phase }, { on := 5, ground := Ground.phase }, { on := 6, ground := Ground.phase }, { on := 7, ground := Ground.phase }, { on := 8, ground := Ground.phase }, { on := 9, ground := Ground.phase }, { on := 10, ground := Ground.phase }, { on := 11, ground := Ground.phase }, { on := 12, ground := Ground.phase }, { on := 13, ground := Ground.phase }, { on := 14, ground := Ground.phase }], guard := none }) rfl (fun K hK => ?_) AllReadyH.nil
  have c1 := HC1.out.d.cell 1
  have z1 := HC1.out.d.frozen 1
  have HD1 := Lib.hid (HC1.out.set1 (n - r - s))
  go_simp
  go_wp2_with fail
  refine hK.out _ _ ⟨HD1.out.c.cell 1, HD1.out.a.cell 1, HD1.out.b.cell 2, HD1.out.e.cell 2⟩ (fun hH2 => ?_)
  clear hK K hH0 hH1 hH2 c1 z1 HC1
  refine wpAnyH_done (by kernel_rfl) ?_ _
  obtain ⟨w5, hw⟩ : ∃ wx, wx = (w4.setCell ⟨gg, 1, none⟩ (.int .i64 (n - r - s))).drew := ⟨_, rfl⟩
  have HB : Hid (CS w w5 g1 g2 gt gg x y r u v s (m - r - s) (n - r - s)) := by rw [hw]; exact HD1
  rw [show World.drew (w4.setCell ⟨gg, 1, none⟩ (.int .i64 (n - r - s))) = w5 from hw.symm]
  clear HD1 hw
  go_wp2_with fail
  rw [rounds_succ]
  have c0 := HB.out.d.cell 0
  have c1 := HB.out.d.cell 1
  have c2 := HB.out.f.cell 0
  have c3 := HB.out.f.cell 1
  have z2 := HB.out.f.frozen 0
  have z3 := HB.out.f.frozen 1
  have HE := Lib.hid (pair_set (p := .int .i64 (m - r - s)) (q := .int .i64 (n - r - s)) HB.out.f HB.out.bel (by omega))
  clear HB
  go_wp2_with fail
  exact bodyPost_ret (results_cell_row rfl _ _ (w.heap.size + 1) 39 _ (0, 0) _ rfl HE.out.1 Try.underlying39 rfl (by kernel_rfl)) rfl ⟨rfl, HE.out.2⟩
end Go.Proofs.Ytnffflcfncffpaa

/- The contract of Gap. (By tools/gengap2.py.) -/
import Derived.Test.YtnffflcfncffpaaBGap
namespace Go.Proofs.Ytnffflcfncffpaa
open Go.RowKit
/-- The gap along an axis. -/
def gapF (x u r s : Int) : Int := ((u - x).natAbs : Int) - r - s

/-- The cells of a box. -/
abbrev boxR (x y r : Int) : Array Value := #[.int .i64 x, .int .i64 y, .int .i64 r]
theorem two_blk {w w1 : World} {a b : Array Value} {t t' : TypeId} (hb : Below ((w.alloc (.cells a t)).alloc (.cells b t')).heap.size ((w.alloc (.cells a t)).alloc (.cells b t')) w1) :
    Blk w1 w.heap.size t a ∧ Blk w1 (w.heap.size + 1) t' b ∧ Below w.heap.size w w1 := by
  have h2 := (Blk.new (w.alloc (.cells a t)) t' b).below hb (by simp)
  rw [show (w.alloc (.cells a t)).heap.size = w.heap.size + 1 by simp] at h2
  exact ⟨((Blk.new w t a).alloc (.cells b t')).below hb (by simp; omega), h2, vbt (bel2 w _ _) hb⟩


theorem Blk.setRow {w : World} {g h : Nat} {t : TypeId} {cs : Array Value} (k : Blk w g t cs) (hne : g ≠ h) (rs : Array Value) : Blk (w.setRow h rs) g t cs := (setRow_other w h g rs hne).trans k
theorem Blk.setRow_ {w : World} {g : Nat} {t : TypeId} {cs : Array Value} (k : Blk w g t cs) (rs : Array Value) : Blk (w.setRow g rs) g t rs := setRow_heap w g cs rs t (0, 0) k
theorem bsr {B : Nat} {w w' : World} (h : Below B w w') {g : Nat} (hg : B ≤ g) (rs : Array Value) : Below B w (w'.setRow g rs) :=
  ⟨h.os, h.tape, h.output, by rw [setRow_size]; exact h.size, fun i hi => (setRow_other w' g i rs (by omega)).trans (h.block i hi)⟩

/-- Two boxes that lie in blocks of their own. -/
abbrev BX (w : World) (g : Nat) (x y r u v s : Int) (w1 : World) : Prop := w1.cell? ⟨g, 0, none⟩ = some (.int .i64 x) ∧ w1.cell? ⟨g, 1, none⟩ = some (.int .i64 y) ∧ w1.cell? ⟨g, 2, none⟩ = some (.int .i64 r) ∧ w1.cell? ⟨g + 1, 0, none⟩ = some (.int .i64 u) ∧ w1.cell? ⟨g + 1, 1, none⟩ = some (.int .i64 v) ∧ w1.cell? ⟨g + 1, 2, none⟩ = some (.int .i64 s) ∧ Blk w1 g 25 (boxR x y r) ∧ Blk w1 (g + 1) 25 (boxR u v s) ∧ Below w.heap.size w w1
section
variable {w w1 w2 : World} {g : Nat} {x y r u v s : Int}
theorem BX.make (h : Blk w1 g 25 (boxR x y r)) (k : Blk w1 (g + 1) 25 (boxR u v s)) (b : Below w.heap.size w w1) : BX w g x y r u v s w1 := ⟨h.cell 0, h.cell 1, h.cell 2, k.cell 0, k.cell 1, k.cell 2, h, k, b⟩
theorem BX.keep (h : BX w g x y r u v s w1) (hb : Below w1.heap.size w1 w2) : BX w g x y r u v s w2 := by
  obtain ⟨_, _, _, _, _, _, h1, h2, h3⟩ := h
  exact BX.make (h1.below hb h1.lt) (h2.below hb h2.lt) (vbt h3 hb)
theorem BX.set (h : BX w g x y r u v s w1) {k : Nat} (hk : g + 1 < k) (hw : w.heap.size ≤ k) (rs : Array Value) : BX w g x y r u v s (w1.setRow k rs) := by
  obtain ⟨_, _, _, _, _, _, h1, h2, h3⟩ := h
  exact BX.make (h1.setRow (by omega) rs) (h2.setRow (by omega) rs) (bsr h3 hw rs)
theorem BX.lt (h : BX w g x y r u v s w1) : g + 1 < w1.heap.size := h.2.2.2.2.2.2.2.1.lt
theorem BX.bel (h : BX w g x y r u v s w1) : Below w.heap.size w w1 := h.2.2.2.2.2.2.2.2
end
theorem bel1 (w : World) (o : Obj) : Below w.heap.size w (w.alloc o) := (Below.refl _ _).alloc (Nat.le_refl _) _
/-- The cells of a pair. -/
abbrev pairR (p q : Int) : Array Value := #[.int .i64 p, .int .i64 q]
theorem pairR_one (p q : Int) : (pairR p q).all (·.oneCell') = true := by simp [pairR, Value.oneCell']
theorem info39 : (Try.prog.info? 39).map (·.size) = some 2 := by kernel_rfl

theorem gap_bad (x y r u v s : Int) (w : World) (hx : I64 x) (hy : I64 y) (hu : I64 u) (hv : I64 v) (hb : (rightB x y r && rightB u v s) = false) :
    Calls Try.prog 12 #[boxV x y r, boxV u v s] w fun e w' => e = .returned (.tuple #[.int .i64 0, .int .i64 0, .int .i64 60]) ∧ Below w.heap.size w w' := by
  have H1 := Lib.hid (fun w => right_c x y r w hx hy)
  have H2 := Lib.hid (fun w => right_c u v s w hu hv)
  clear hx hy hu hv
  unfold errR at *
  by_cases h1 : rightB x y r = true
  · rw [h1, Bool.true_and] at hb
    rw [h1, if_pos rfl] at H1
    rw [hb, if_neg (by simp)] at H2
    clear h1 hb
    go_enter Try.func12, Try.ntmps12
    go_wp2_with fail
    refine (H1.out _).mono ?_
    rintro e w1 ⟨rfl, hb⟩
    obtain ⟨k1, k2, hb⟩ := two_blk hb
    have c0 := k2.cell 0
    have c1 := k2.cell 1
    have c2 := k2.cell 2
    have HB := Lib.hid hb
    clear hb k1 k2
    go_wp2_with fail
    refine (H2.out _).mono ?_
    rintro e w2 ⟨rfl, hb⟩
    have HB := Lib.hid (vbt HB.out hb)
    clear hb c0 c1 c2
    go_wp2_with fail
    exact bodyPost_ret (v := .tuple #[.int .i64 0, .int .i64 0, .int .i64 60]) (by simp [results, Try.results12, go_sem]) rfl ⟨rfl, HB.out⟩
  · rw [if_neg h1] at H1
    clear h1 hb
    go_enter Try.func12, Try.ntmps12
    go_wp2_with fail
    refine (H1.out _).mono ?_
    rintro e w1 ⟨rfl, hb⟩
    have HB := Lib.hid (vbt (bel2 w _ _) hb)
    clear hb
    go_wp2_with fail
    exact bodyPost_ret (v := .tuple #[.int .i64 0, .int .i64 0, .int .i64 60]) (by simp [results, Try.results12, go_sem]) rfl ⟨rfl, HB.out⟩

set_option maxRecDepth 100000 in
set_option maxHeartbeats 1000000 in
theorem gap_ok (x y r u v s : Int) (w : World) (h1 : rightB x y r = true) (h2 : rightB u v s = true) :
    Calls Try.prog 12 #[boxV x y r, boxV u v s] w fun e w' => e = .returned (.tuple #[.int .i64 (gapF x u r s), .int .i64 (gapF y v r s), .int .i64 0]) ∧ Below w.heap.size w w' := by
  have s1 := rightB_spec.1 h1
  have s2 := rightB_spec.1 h2
  have H1 := Lib.hid (fun w => right_c x y r w (by unfold I64; omega) (by unfold I64; omega))
  have H2 := Lib.hid (fun w => right_c u v s w (by unfold I64; omega) (by unfold I64; omega))
  have H3 := Lib.hid (fun w => gapsFrom_c x y r w)
  have H4 := Lib.hid (fun g1 g2 w k1 k2 => gaps1_c x y r u v s g1 g2 w k1 k2 (by omega) (by omega) (by omega) (by omega))
  unfold gapF
  unfold errR at *
  rw [h1, if_pos rfl] at H1
  rw [h2, if_pos rfl] at H2
  clear h1 h2 s1 s2
  generalize ((u - x).natAbs : Int) - r - s = p at *
  generalize ((v - y).natAbs : Int) - r - s = q at *
  go_enter Try.func12, Try.ntmps12
  go_wp2_with fail
  refine (H1.out _).mono ?_
  rintro e w1 ⟨rfl, hb⟩
  obtain ⟨k1, k2, hb⟩ := two_blk hb
  have c0 := k2.cell 0
  have c1 := k2.cell 1
  have c2 := k2.cell 2
  have HB := Lib.hid hb
  have HK := Lib.hid k1
  have HL := Lib.hid k2
  clear hb k1 k2
  go_wp2_with fail
  refine (H2.out _).mono ?_
  rintro e w2 ⟨rfl, hb⟩
  have HB := Lib.hid (vbt HB.out hb)
  have HK := Lib.hid (HK.out.below hb HK.out.lt)
  have HL := Lib.hid (HL.out.below hb HL.out.lt)
  clear hb c0 c1 c2
  go_upto_region 3 with (fail)
  go_cut [7] (fun s7 wx => ∃ g, s7 = .pointer (some ⟨g, 0, none⟩) ∧ Blk wx g 39 #[.int .i64 p, .int .i64 q] ∧ Below w.heap.size w wx)
  case first =>
    clear H1 H2
    refine wp_region_held_drew (S := BX w w.heap.size x y r u v s) (by kernel_rfl) (BX.make HK.out HL.out HB.out.drew) (fun hH0 => ?_)
    refine wpAnyH_take (i := 0) (oi := { dst := some 16, op := Op.load 25 (Operand.tmp 2), type := 25, pos := "box.go:43", after := #[], guard := none }) (v := ?v0) rfl (by kernel_rfl) (by kernel_rfl) (by kernel_rfl) (fun _ _ _ h => h) (Or.inl ⟨by rfl, ?h0⟩) hH0 ?r0
    case h0 => intro w' hSw; (try dsimp only at hSw); go_simp; (try with_reducible rfl)
    simp only [Act.put, List.setIfInBounds_toArray, List.set_cons_zero, List.set_cons_succ]
    refine wpAnyH_take (i := 2) (oi := { dst := some 18, op := Op.load 25 (Operand.tmp 3), type := 25, pos := "box.go:43", after := #[], guard := none }) (v := ?v2) rfl (by kernel_rfl) (by kernel_rfl) (by kernel_rfl) (fun _ _ _ h => h) (Or.inl ⟨by rfl, ?h2⟩) hH0 ?r2
    case h2 => intro w' hSw; (try dsimp only at hSw); go_simp; (try with_reducible rfl)
    simp only [Act.put, List.setIfInBounds_toArray, List.set_cons_zero, List.set_cons_succ]
    refine wpAnyH_ready (rs := [1, 4]) (by kernel_rfl) (by simp) ?_
    refine AllReadyH.cons (o := { dst := some 17, op := Op.call { callee := Callee.value (Operand.func 28), args := #[Operand.tmp 16], argTypes := #[25] }, type := 47, pos := "box.go:43", after := #[{ on := 0, ground := Ground.data }], guard := none }) rfl (fun K hK => ?_) (AllReadyH.cons (o := { dst := some 7, op := Op.alloc 39, type := 0, pos := "box.go:43", after := #[], guard := none }) rfl (fun K hK => ?_) AllReadyH.nil)
    · go_simp
      refine (H3.out _).mono ?_
      rintro e wa ⟨⟨g1, g2, rfl, m1, m2, kg1, kg2⟩, hb⟩
      have hH1 := BX.keep hH0 hb
      have KG1 := Lib.hid kg1
      have KG2 := Lib.hid kg2
      clear hb m1 m2 kg1 kg2
      go_wp2_with fail
      refine hK.out _ _ hH1 (fun hH1 => ?_)
      clear hK K
      refine wpAnyH_ready (rs := [3, 4]) (by kernel_rfl) (by simp) ?_
      refine AllReadyH.cons (o := { dst := some 19, op := Op.call { callee := Callee.value (Operand.tmp 17), args := #[Operand.tmp 18], argTypes := #[25] }, type := 39, pos := "box.go:43", after := #[{ on := 1, ground := Ground.data }, { on := 2, ground := Ground.data }, { on := 1, ground := Ground.chain }], guard := none }) rfl (fun K hK => ?_) (AllReadyH.cons (o := { dst := some 7, op := Op.alloc 39, type := 0, pos := "box.go:43", after := #[], guard := none }) rfl (fun K hK => ?_) AllReadyH.nil)
      · go_simp
        refine (H4.out _ _ _ KG1.out KG2.out).mono ?_
        rintro e wb ⟨rfl, hb⟩
        have hH2 := BX.keep hH1 hb
        clear hb
        go_wp2_with fail
        refine hK.out _ _ hH2 (fun hH2 => ?_)
        clear hK K
        refine wpAnyH_ready (rs := [4]) (by kernel_rfl) (by simp) ?_
        refine AllReadyH.cons (o := { dst := some 7, op := Op.alloc 39, type := 0, pos := "box.go:43", after := #[], guard := none }) rfl (fun K hK => ?_) AllReadyH.nil
        · have KA := Lib.hid (Blk.new wb 39 (pairR 0 0))
          have LA := Lib.hid (hH2.lt)
          have MA := Lib.hid (hH2.bel.size)
          go_simp
          go_wp2_with fail
          refine hK.out _ _ (BX.keep hH2 (bel1 _ _)) (fun hH3 => ?_)
          clear hK K
          have KG1 := Lib.hid (KG1.out.alloc (.cells (pairR 0 0) 39))
          have KG2 := Lib.hid (KG2.out.alloc (.cells (pairR 0 0) 39))
          refine wpAnyH_ready (rs := [5]) (by kernel_rfl) (by simp) ?_
          refine AllReadyH.cons (o := { dst := none, op := Op.store 39 (Operand.tmp 7) (Operand.tmp 19), type := 0, pos := "box.go:43", after := #[{ on := 4, ground := Ground.data }, { on := 3, ground := Ground.data }, { on := 3, ground := Ground.chain }, { on := 0, ground := Ground.phase }, { on := 1, ground := Ground.phase }, { on := 2, ground := Ground.phase }, { on := 3, ground := Ground.phase }, { on := 4, ground := Ground.phase }], guard := none }) rfl (fun K hK => ?_) AllReadyH.nil
          rw [if_pos (by rfl)]
          refine wp_store_row 39 (.tmp 7) (.tmp 19) rfl wb.heap.size (pairR p q) rfl rfl 39 (pairR 0 0) KA.out info39 rfl (pairR_one ..) ?_
          refine hK.out _ _ (BX.set hH3 LA.out MA.out _) (fun hHz => ?_)
          clear hK K
          refine wpAnyH_done (by kernel_rfl) ?_ _
          go_wp2_with fail
          go_meet
          exact ⟨wb.heap.size, rfl, KA.out.setRow_ _, hHz.bel⟩
      · have KA := Lib.hid (Blk.new wa 39 (pairR 0 0))
        have LA := Lib.hid (hH1.lt)
        have MA := Lib.hid (hH1.bel.size)
        go_simp
        go_wp2_with fail
        refine hK.out _ _ (BX.keep hH1 (bel1 _ _)) (fun hH5 => ?_)
        clear hK K
        have KG1 := Lib.hid (KG1.out.alloc (.cells (pairR 0 0) 39))
        have KG2 := Lib.hid (KG2.out.alloc (.cells (pairR 0 0) 39))
        refine wpAnyH_ready (rs := [3]) (by kernel_rfl) (by simp) ?_
        refine AllReadyH.cons (o := { dst := some 19, op := Op.call { callee := Callee.value (Operand.tmp 17), args := #[Operand.tmp 18], argTypes := #[25] }, type := 39, pos := "box.go:43", after := #[{ on := 1, ground := Ground.data }, { on := 2, ground := Ground.data }, { on := 1, ground := Ground.chain }], guard := none }) rfl (fun K hK => ?_) AllReadyH.nil
        · go_simp
          refine (H4.out _ _ _ KG1.out KG2.out).mono ?_
          rintro e wb ⟨rfl, hb⟩
          have hH6 := BX.keep hH5 hb
          have KA := Lib.hid (KA.out.below hb KA.out.lt)
          clear hb
          go_wp2_with fail
          refine hK.out _ _ hH6 (fun hH6 => ?_)
          clear hK K
          refine wpAnyH_ready (rs := [5]) (by kernel_rfl) (by simp) ?_
          refine AllReadyH.cons (o := { dst := none, op := Op.store 39 (Operand.tmp 7) (Operand.tmp 19), type := 0, pos := "box.go:43", after := #[{ on := 4, ground := Ground.data }, { on := 3, ground := Ground.data }, { on := 3, ground := Ground.chain }, { on := 0, ground := Ground.phase }, { on := 1, ground := Ground.phase }, { on := 2, ground := Ground.phase }, { on := 3, ground := Ground.phase }, { on := 4, ground := Ground.phase }], guard := none }) rfl (fun K hK => ?_) AllReadyH.nil
          rw [if_pos (by rfl)]
          refine wp_store_row 39 (.tmp 7) (.tmp 19) rfl wa.heap.size (pairR p q) rfl rfl 39 (pairR 0 0) KA.out info39 rfl (pairR_one ..) ?_
          refine hK.out _ _ (BX.set hH6 LA.out MA.out _) (fun hHz => ?_)
          clear hK K
          refine wpAnyH_done (by kernel_rfl) ?_ _
          go_wp2_with fail
          go_meet
          exact ⟨wa.heap.size, rfl, KA.out.setRow_ _, hHz.bel⟩
    · have KA := Lib.hid (Blk.new w2.drew 39 (pairR 0 0))
      have LA := Lib.hid (hH0.lt)
      have MA := Lib.hid (hH0.bel.size)
      go_simp
      go_wp2_with fail
      refine hK.out _ _ (BX.keep hH0 (bel1 _ _)) (fun hH8 => ?_)
      clear hK K
      refine wpAnyH_ready (rs := [1]) (by kernel_rfl) (by simp) ?_
      refine AllReadyH.cons (o := { dst := some 17, op := Op.call { callee := Callee.value (Operand.func 28), args := #[Operand.tmp 16], argTypes := #[25] }, type := 47, pos := "box.go:43", after := #[{ on := 0, ground := Ground.data }], guard := none }) rfl (fun K hK => ?_) AllReadyH.nil
      · go_simp
        refine (H3.out _).mono ?_
        rintro e wa ⟨⟨g1, g2, rfl, m1, m2, kg1, kg2⟩, hb⟩
        have hH9 := BX.keep hH8 hb
        have KG1 := Lib.hid kg1
        have KG2 := Lib.hid kg2
        have KA := Lib.hid (KA.out.below hb KA.out.lt)
        clear hb m1 m2 kg1 kg2
        go_wp2_with fail
        refine hK.out _ _ hH9 (fun hH9 => ?_)
        clear hK K
        refine wpAnyH_ready (rs := [3]) (by kernel_rfl) (by simp) ?_
        refine AllReadyH.cons (o := { dst := some 19, op := Op.call { callee := Callee.value (Operand.tmp 17), args := #[Operand.tmp 18], argTypes := #[25] }, type := 39, pos := "box.go:43", after := #[{ on := 1, ground := Ground.data }, { on := 2, ground := Ground.data }, { on := 1, ground := Ground.chain }], guard := none }) rfl (fun K hK => ?_) AllReadyH.nil
        · go_simp
          refine (H4.out _ _ _ KG1.out KG2.out).mono ?_
          rintro e wb ⟨rfl, hb⟩
          have hH10 := BX.keep hH9 hb
          have KA := Lib.hid (KA.out.below hb KA.out.lt)
          clear hb
          go_wp2_with fail
          refine hK.out _ _ hH10 (fun hH10 => ?_)
          clear hK K
          refine wpAnyH_ready (rs := [5]) (by kernel_rfl) (by simp) ?_
          refine AllReadyH.cons (o := { dst := none, op := Op.store 39 (Operand.tmp 7) (Operand.tmp 19), type := 0, pos := "box.go:43", after := #[{ on := 4, ground := Ground.data }, { on := 3, ground := Ground.data }, { on := 3, ground := Ground.chain }, { on := 0, ground := Ground.phase }, { on := 1, ground := Ground.phase }, { on := 2, ground := Ground.phase }, { on := 3, ground := Ground.phase }, { on := 4, ground := Ground.phase }], guard := none }) rfl (fun K hK => ?_) AllReadyH.nil
          rw [if_pos (by rfl)]
          refine wp_store_row 39 (.tmp 7) (.tmp 19) rfl w2.drew.heap.size (pairR p q) rfl rfl 39 (pairR 0 0) KA.out info39 rfl (pairR_one ..) ?_
          refine hK.out _ _ (BX.set hH10 LA.out MA.out _) (fun hHz => ?_)
          clear hK K
          refine wpAnyH_done (by kernel_rfl) ?_ _
          go_wp2_with fail
          go_meet
          exact ⟨w2.drew.heap.size, rfl, KA.out.setRow_ _, hHz.bel⟩
  case rest =>
    obtain ⟨g, rfl, hk, hb⟩ := hcut
    have c0 := hk.cell 0
    have c1 := hk.cell 1
    have HB := Lib.hid hb
    clear hk hb
    go_upto_region 4 with (fail)
    go_quiet (fail)
    go_wp2_with fail
    exact bodyPost_ret (v := .tuple #[.int .i64 p, .int .i64 q, .int .i64 0]) (by simp [results, Try.results12, go_sem]) rfl ⟨rfl, below_draw HB.out _⟩
end Go.Proofs.Ytnffflcfncffpaa

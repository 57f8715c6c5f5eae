/- The contract of next. -/
import Derived.Test.YtkekidgakmhicaaRun
import Derived.Deep.RegionHeld3
import Derived.Deep.DeepCutAuto
namespace Go.Proofs.Ytkekidgakmhicaa
open Go.RowKit
attribute [local go_sem] run_store_complex

theorem num_one : Num 4607182418800017408 1 := by
  have := num_of_int 1 (by decide)
  rwa [show floatOfInt .f64 1 = 4607182418800017408 by decide] at this

abbrev rowS (a b : Nat) (n : Int) (c d : Nat) (l : Int) : Array Value := #[.complex .f64 a b, .int .i64 n, .complex .f64 c d, .int .i64 l]

theorem makeN {w w1 : World} {g g' a b c d : Nat} {n l : Int} {zs : Array Value} (h : Blk w1 g 38 (rowS a b n c d l)) (hz : Blk w1 g' 38 zs) (hb : Below w.heap.size w w1) :
    w1.cell? ⟨g, 0, none⟩ = some (.complex .f64 a b) ∧ w1.cell? ⟨g, 1, none⟩ = some (.int .i64 n) ∧ w1.cell? ⟨g, 2, none⟩ = some (.complex .f64 c d) ∧ w1.cell? ⟨g, 3, none⟩ = some (.int .i64 l) ∧ Blk w1 g 38 (rowS a b n c d l) ∧ Blk w1 g' 38 zs ∧ Below w.heap.size w w1 :=
  ⟨h.cell 0, h.cell 1, h.cell 2, h.cell 3, h, hz, hb⟩
theorem keepN {w w1 w2 : World} {g g' a b c d : Nat} {n l : Int} {zs : Array Value} (h : w1.cell? ⟨g, 0, none⟩ = some (.complex .f64 a b) ∧ w1.cell? ⟨g, 1, none⟩ = some (.int .i64 n) ∧ w1.cell? ⟨g, 2, none⟩ = some (.complex .f64 c d) ∧ w1.cell? ⟨g, 3, none⟩ = some (.int .i64 l) ∧ Blk w1 g 38 (rowS a b n c d l) ∧ Blk w1 g' 38 zs ∧ Below w.heap.size w w1) (hb : Below w1.heap.size w1 w2) :
    w2.cell? ⟨g, 0, none⟩ = some (.complex .f64 a b) ∧ w2.cell? ⟨g, 1, none⟩ = some (.int .i64 n) ∧ w2.cell? ⟨g, 2, none⟩ = some (.complex .f64 c d) ∧ w2.cell? ⟨g, 3, none⟩ = some (.int .i64 l) ∧ Blk w2 g 38 (rowS a b n c d l) ∧ Blk w2 g' 38 zs ∧ Below w.heap.size w w2 :=
  makeN (h.2.2.2.2.1.below hb h.2.2.2.2.1.lt) (h.2.2.2.2.2.1.below hb h.2.2.2.2.2.1.lt) (bt h.2.2.2.2.2.2 hb)

theorem Blk.setRow {w : World} {g h : Nat} {t : TypeId} {cs : Array Value} (k : Blk w g t cs) (hne : g ≠ h) (rs : Array Value) : Blk (w.setRow h rs) g t cs := (setRow_other w h g rs hne).trans k
theorem Blk.setRow_ {w : World} {g : Nat} {t : TypeId} {cs : Array Value} (k : Blk w g t cs) (rs : Array Value) : Blk (w.setRow g rs) g t rs := setRow_heap w g cs rs t (0, 0) k
theorem bsr {B : Nat} {w w' : World} (h : Below B w w') {g : Nat} (hg : B ≤ g) (rs : Array Value) : Below B w (w'.setRow g rs) :=
  ⟨h.os, h.tape, h.output, by rw [setRow_size]; exact h.size, fun i hi => (setRow_other w' g i rs (by omega)).trans (h.block i hi)⟩
theorem rowS_one (a b : Nat) (n : Int) (c d : Nat) (l : Int) : (rowS a b n c d l).all (·.oneCell') = true := by simp [rowS, Value.oneCell']
theorem info38 : (Try.prog.info? 38).map (·.size) = some 4 := by kernel_rfl

set_option maxRecDepth 100000 in
set_option maxHeartbeats 1000000 in
theorem next_c {a b c d : Nat} {x y u v : Int} (n l : Nat) (h : Cx a b x y) (k : Cx c d u v) (hx : x.natAbs ≤ 1048576) (hy : y.natAbs ≤ 1048576) (hu : u.natAbs ≤ 1) (hv : v.natAbs ≤ 1) (hl : l ≤ 1048576) (hn : n ≤ 1048576) :
    ∃ p q r z, Cx p q (x + u * l) (y + v * l) ∧ Cx r z (-v) u ∧ ∀ w : World, Calls Try.prog 13 #[runV a b (n : Int) c d (l : Int)] w fun e w' => e = .returned (runV p q ((n + l : Nat) : Int) r z ((if v = 0 then l else l + 1 : Nat) : Int)) ∧ Below w.heap.size w w' := by
  obtain ⟨p, q, hpq, hc⟩ := cell_run (n : Int) (l : Int) l h k hx hy hu hv hl
  obtain ⟨r, z, e1, n1⟩ := cx_mul k ⟨num_zero, num_one⟩ (by omega) (by omega) (by omega) (by omega)
  rw [show u * 0 - v * 1 = -v by omega, show u * 1 + v * 0 = u by omega] at n1
  refine ⟨p, q, r, z, hpq, n1, fun w => ?_⟩
  have m1 : ∀ w : World, (binOp .mul 23 (.complex .f64 c d) (.complex .f64 0 4607182418800017408)).run Try.prog w = .ok (.complex .f64 r z) w := fun w => run_complex_mul w 23 c d _ _ r z e1
  have m2 : (FloatKind.f64.format.order d 0 != some .eq) = !decide (v = 0) := by rw [bne, num_eq k.im num_zero]
  have m3 : IntKind.i64.wrap ((n : Int) + (l : Int)) = ((n + l : Nat) : Int) := by rw [IntWalk.i64_in _ (by omega)]; push_cast; rfl
  have HC := Lib.hid hc
  generalize n + l = nl at *
  obtain ⟨l2, hl2⟩ : ∃ l2 : Nat, l2 = if v = 0 then l else l + 1 := ⟨_, rfl⟩
  rw [← hl2]
  have HL2 := Lib.hid hl2
  clear hl2
  have hl' : l ≤ 1048576 := hl
  clear hc hpq e1 n1 h k hx hy hu hv hl hn
  go_enter Try.func13, Try.ntmps13
  go_upto_region 1 with (fail)
  have hk0 := (Blk.new w 38 (rowS a b (n : Int) c d (l : Int))).alloc (.cells (rowS 0 0 0 0 0 0) 38)
  have hz0 := Blk.new (w.alloc (.cells (rowS a b (n : Int) c d (l : Int)) 38)) 38 (rowS 0 0 0 0 0 0)
  have hb0 := below2 w (.cells (rowS a b (n : Int) c d (l : Int)) 38) (.cells (rowS 0 0 0 0 0 0) 38)
  have hsz : (w.alloc (.cells (rowS a b (n : Int) c d (l : Int)) 38)).heap.size = w.heap.size + 1 := by simp
  rw [hsz] at hz0
  obtain ⟨w2, hw2⟩ : ∃ w2, w2 = (w.alloc (.cells (rowS a b (n : Int) c d (l : Int)) 38)).alloc (.cells (rowS 0 0 0 0 0 0) 38) := ⟨_, rfl⟩
  rw [← hw2] at hk0 hz0 hb0 ⊢
  clear hw2 hsz
  have HG := Lib.hid (Nat.le_refl w.heap.size)
  obtain ⟨g, hg⟩ : ∃ g, g = w.heap.size := ⟨_, rfl⟩
  have HB := Lib.hid hb0
  rw [← hg] at hk0 hz0 ⊢
  have HK := Lib.hid hk0
  have HZ := Lib.hid hz0
  have HG := Lib.hid (show w.heap.size ≤ g by omega)
  clear hk0 hz0 hb0 hg
  go_cut [3] (fun s3 wx => ∃ g3, s3 = .pointer (some ⟨g3, 0, none⟩) ∧ g + 1 < g3 ∧ Blk wx g 38 (rowS a b (n : Int) c d (l : Int)) ∧ Blk wx (g + 1) 38 (rowS 0 0 0 0 0 0) ∧ Blk wx g3 38 (rowS p q (nl : Int) r z (l : Int)) ∧ Below w.heap.size w wx)
  case first =>
    refine wp_region_held_drew (S := fun w1 => w1.cell? ⟨g, 0, none⟩ = some (.complex .f64 a b) ∧ w1.cell? ⟨g, 1, none⟩ = some (.int .i64 (n : Int)) ∧ w1.cell? ⟨g, 2, none⟩ = some (.complex .f64 c d) ∧ w1.cell? ⟨g, 3, none⟩ = some (.int .i64 (l : Int)) ∧ Blk w1 g 38 (rowS a b (n : Int) c d (l : Int)) ∧ Blk w1 (g + 1) 38 (rowS 0 0 0 0 0 0) ∧ Below w.heap.size w w1) (by kernel_rfl) (makeN HK.out HZ.out HB.out.drew) (fun hH0 => ?_)
    refine wpAnyH_take (i := 0) (oi := { dst := some 4, op := Op.load 38 (Operand.tmp 1), type := 38, pos := "lattice.go:136", after := #[], guard := none }) (v := ?v0) rfl (by kernel_rfl) (by kernel_rfl) (by kernel_rfl) (fun _ _ _ h => h) (Or.inl ⟨by rfl, ?h0⟩) hH0 ?r0
    case h0 => intro w' hSw; (try dsimp only at hSw); go_simp; (try with_reducible rfl)
    simp only [Act.put, List.setIfInBounds_toArray, List.set_cons_zero, List.set_cons_succ]
    refine wpAnyH_take (i := 1) (oi := { dst := some 5, op := Op.fieldAddr 38 (Operand.tmp 1) 3, type := 0, pos := "lattice.go:136", after := #[], guard := none }) (v := ?v1) rfl (by kernel_rfl) (by kernel_rfl) (by kernel_rfl) (fun _ _ _ h => h) (Or.inl ⟨by rfl, ?h1⟩) hH0 ?r1
    case h1 => intro w' hSw; (try dsimp only at hSw); go_simp; (try with_reducible rfl)
    simp only [Act.put, List.setIfInBounds_toArray, List.set_cons_zero, List.set_cons_succ]
    refine wpAnyH_take (i := 2) (oi := { dst := some 6, op := Op.load 3 (Operand.tmp 5), type := 3, pos := "lattice.go:136", after := #[{ on := 1, ground := Ground.data }], guard := none }) (v := ?v2) rfl (by kernel_rfl) (by kernel_rfl) (by kernel_rfl) (fun _ _ _ h => h) (Or.inl ⟨by rfl, ?h2⟩) hH0 ?r2
    case h2 => intro w' hSw; (try dsimp only at hSw); go_simp; (try with_reducible rfl)
    simp only [Act.put, List.setIfInBounds_toArray, List.set_cons_zero, List.set_cons_succ]
    refine wpAnyH_take (i := 4) (oi := { dst := some 8, op := Op.fieldAddr 38 (Operand.tmp 1) 1, type := 0, pos := "lattice.go:136", after := #[], guard := none }) (v := ?v4) rfl (by kernel_rfl) (by kernel_rfl) (by kernel_rfl) (fun _ _ _ h => h) (Or.inl ⟨by rfl, ?h4⟩) hH0 ?r4
    case h4 => intro w' hSw; (try dsimp only at hSw); go_simp; (try with_reducible rfl)
    simp only [Act.put, List.setIfInBounds_toArray, List.set_cons_zero, List.set_cons_succ]
    refine wpAnyH_take (i := 5) (oi := { dst := some 9, op := Op.load 3 (Operand.tmp 8), type := 3, pos := "lattice.go:136", after := #[{ on := 4, ground := Ground.data }], guard := none }) (v := ?v5) rfl (by kernel_rfl) (by kernel_rfl) (by kernel_rfl) (fun _ _ _ h => h) (Or.inl ⟨by rfl, ?h5⟩) hH0 ?r5
    case h5 => intro w' hSw; (try dsimp only at hSw); go_simp; (try with_reducible rfl)
    simp only [Act.put, List.setIfInBounds_toArray, List.set_cons_zero, List.set_cons_succ]
    refine wpAnyH_take (i := 6) (oi := { dst := some 10, op := Op.fieldAddr 38 (Operand.tmp 1) 3, type := 0, pos := "lattice.go:136", after := #[], guard := none }) (v := ?v6) rfl (by kernel_rfl) (by kernel_rfl) (by kernel_rfl) (fun _ _ _ h => h) (Or.inl ⟨by rfl, ?h6⟩) hH0 ?r6
    case h6 => intro w' hSw; (try dsimp only at hSw); go_simp; (try with_reducible rfl)
    simp only [Act.put, List.setIfInBounds_toArray, List.set_cons_zero, List.set_cons_succ]
    refine wpAnyH_take (i := 7) (oi := { dst := some 11, op := Op.load 3 (Operand.tmp 10), type := 3, pos := "lattice.go:136", after := #[{ on := 6, ground := Ground.data }], guard := none }) (v := ?v7) rfl (by kernel_rfl) (by kernel_rfl) (by kernel_rfl) (fun _ _ _ h => h) (Or.inl ⟨by rfl, ?h7⟩) hH0 ?r7
    case h7 => intro w' hSw; (try dsimp only at hSw); go_simp; (try with_reducible rfl)
    simp only [Act.put, List.setIfInBounds_toArray, List.set_cons_zero, List.set_cons_succ]
    refine wpAnyH_take (i := 8) (oi := { dst := some 12, op := Op.binOp BinOp.add 3 (Operand.tmp 9) (Operand.tmp 11) 3, type := 3, pos := "lattice.go:136", after := #[{ on := 5, ground := Ground.data }, { on := 7, ground := Ground.data }], guard := none }) (v := ?v8) rfl (by kernel_rfl) (by kernel_rfl) (by kernel_rfl) (fun _ _ _ h => h) (Or.inl ⟨by rfl, ?h8⟩) hH0 ?r8
    case h8 => intro w' hSw; (try dsimp only at hSw); go_simp; (try with_reducible rfl)
    simp only [Act.put, List.setIfInBounds_toArray, List.set_cons_zero, List.set_cons_succ]
    refine wpAnyH_take (i := 9) (oi := { dst := some 13, op := Op.fieldAddr 38 (Operand.tmp 1) 2, type := 0, pos := "lattice.go:136", after := #[], guard := none }) (v := ?v9) rfl (by kernel_rfl) (by kernel_rfl) (by kernel_rfl) (fun _ _ _ h => h) (Or.inl ⟨by rfl, ?h9⟩) hH0 ?r9
    case h9 => intro w' hSw; (try dsimp only at hSw); go_simp; (try with_reducible rfl)
    simp only [Act.put, List.setIfInBounds_toArray, List.set_cons_zero, List.set_cons_succ]
    refine wpAnyH_take (i := 10) (oi := { dst := some 14, op := Op.load 23 (Operand.tmp 13), type := 23, pos := "lattice.go:136", after := #[{ on := 9, ground := Ground.data }], guard := none }) (v := ?v10) rfl (by kernel_rfl) (by kernel_rfl) (by kernel_rfl) (fun _ _ _ h => h) (Or.inl ⟨by rfl, ?h10⟩) hH0 ?r10
    case h10 => intro w' hSw; (try dsimp only at hSw); go_simp; (try with_reducible rfl)
    simp only [Act.put, List.setIfInBounds_toArray, List.set_cons_zero, List.set_cons_succ]
    refine wpAnyH_take (i := 11) (oi := { dst := some 15, op := Op.binOp BinOp.mul 23 (Operand.tmp 14) (Operand.const (Value.complex FloatKind.f64 0 4607182418800017408)) 23, type := 23, pos := "lattice.go:136", after := #[{ on := 10, ground := Ground.data }], guard := none }) (v := ?v11) rfl (by kernel_rfl) (by kernel_rfl) (by kernel_rfl) (fun _ _ _ h => h) (Or.inl ⟨by rfl, ?h11⟩) hH0 ?r11
    case h11 => intro w' hSw; (try dsimp only at hSw); go_simp; (try with_reducible rfl)
    simp only [Act.put, List.setIfInBounds_toArray, List.set_cons_zero, List.set_cons_succ]
    refine wpAnyH_take (i := 12) (oi := { dst := some 16, op := Op.fieldAddr 38 (Operand.tmp 1) 3, type := 0, pos := "lattice.go:136", after := #[], guard := none }) (v := ?v12) rfl (by kernel_rfl) (by kernel_rfl) (by kernel_rfl) (fun _ _ _ h => h) (Or.inl ⟨by rfl, ?h12⟩) hH0 ?r12
    case h12 => intro w' hSw; (try dsimp only at hSw); go_simp; (try with_reducible rfl)
    simp only [Act.put, List.setIfInBounds_toArray, List.set_cons_zero, List.set_cons_succ]
    refine wpAnyH_take (i := 13) (oi := { dst := some 17, op := Op.load 3 (Operand.tmp 16), type := 3, pos := "lattice.go:136", after := #[{ on := 12, ground := Ground.data }], guard := none }) (v := ?v13) rfl (by kernel_rfl) (by kernel_rfl) (by kernel_rfl) (fun _ _ _ h => h) (Or.inl ⟨by rfl, ?h13⟩) hH0 ?r13
    case h13 => intro w' hSw; (try dsimp only at hSw); go_simp; (try with_reducible rfl)
    simp only [Act.put, List.setIfInBounds_toArray, List.set_cons_zero, List.set_cons_succ]
    refine wpAnyH_ready (rs := [3, 15]) (by kernel_rfl) (by simp) ?_
    refine AllReadyH.cons (o := { dst := some 7, op := Op.call { callee := Callee.value (Operand.func 14), args := #[Operand.tmp 4, Operand.tmp 6], argTypes := #[38, 3] }, type := 23, pos := "lattice.go:136", after := #[{ on := 0, ground := Ground.data }, { on := 2, ground := Ground.data }], guard := none }) rfl (fun K hK => ?_) (AllReadyH.cons (o := { dst := some 3, op := Op.alloc 38, type := 0, pos := "lattice.go:136", after := #[], guard := none }) rfl (fun K hK => ?_) AllReadyH.nil)
    · go_simp
      refine (HC.out _).mono ?_
      rintro e w3 ⟨rfl, hb⟩
      have hH1 := keepN hH0 hb
      clear hb
      go_wp2_with fail
      refine hK.out _ _ hH1 (fun hH1 => ?_)
      clear hK K
      refine wpAnyH_take (i := 14) (oi := { dst := some 18, op := Op.build 38 #[(0, Operand.tmp 7), (1, Operand.tmp 12), (2, Operand.tmp 15), (3, Operand.tmp 17)], type := 38, pos := "lattice.go:136", after := #[{ on := 3, ground := Ground.data }, { on := 8, ground := Ground.data }, { on := 11, ground := Ground.data }, { on := 13, ground := Ground.data }], guard := none }) (v := ?v14) rfl (by kernel_rfl) (by kernel_rfl) (by kernel_rfl) (fun _ _ _ h => h) (Or.inl ⟨by rfl, ?h14⟩) hH1 ?r14
      case h14 => intro w' hSw; (try dsimp only at hSw); go_simp; (try with_reducible rfl)
      simp only [Act.put, List.setIfInBounds_toArray, List.set_cons_zero, List.set_cons_succ]
      refine wpAnyH_ready (rs := [15]) (by kernel_rfl) (by simp) ?_
      refine AllReadyH.cons (o := { dst := some 3, op := Op.alloc 38, type := 0, pos := "lattice.go:136", after := #[], guard := none }) rfl (fun K hK => ?_) AllReadyH.nil
      go_simp
      go_wp2_with fail
      refine hK.out _ _ (keepN hH1 (below1 _ _)) (fun hH2 => ?_)
      clear hK K
      refine wpAnyH_ready (rs := [16]) (by kernel_rfl) (by simp) ?_
      refine AllReadyH.cons (o := { dst := none, op := Op.store 38 (Operand.tmp 3) (Operand.tmp 18), type := 0, pos := "lattice.go:136", after := #[{ on := 15, ground := Ground.data }, { on := 14, ground := Ground.data }, { on := 3, ground := Ground.chain }, { on := 0, ground := Ground.phase }, { on := 1, ground := Ground.phase }, { on := 2, ground := Ground.phase }, { on := 3, ground := Ground.phase }, { on := 4, ground := Ground.phase }, { on := 5, ground := Ground.phase }, { on := 6, ground := Ground.phase }, { on := 7, ground := Ground.phase }, { on := 8, ground := Ground.phase }, { on := 9, ground := Ground.phase }, { on := 10, ground := Ground.phase }, { on := 11, ground := Ground.phase }, { on := 12, ground := Ground.phase }, { on := 13, ground := Ground.phase }, { on := 14, ground := Ground.phase }, { on := 15, ground := Ground.phase }], guard := none }) rfl (fun K hK => ?_) AllReadyH.nil
      go_simp
      go_wp2_with fail
      refine hK.out _ _ (keepN hH1 (below1 _ _)) (fun hH3 => ?_)
      clear hK K
      refine wpAnyH_done (by kernel_rfl) ?_ _
      go_wp2_with fail
      go_meet
      exact ⟨w3.heap.size, rfl, hH1.2.2.2.2.2.1.lt, hH3.2.2.2.2.1, hH3.2.2.2.2.2.1, Blk.new _ _ _, hH3.2.2.2.2.2.2⟩
    · go_simp
      go_wp2_with fail
      refine hK.out _ _ (keepN hH0 (below1 _ _)) (fun hH1 => ?_)
      clear hK K
      refine wpAnyH_ready (rs := [3]) (by kernel_rfl) (by simp) ?_
      refine AllReadyH.cons (o := { dst := some 7, op := Op.call { callee := Callee.value (Operand.func 14), args := #[Operand.tmp 4, Operand.tmp 6], argTypes := #[38, 3] }, type := 23, pos := "lattice.go:136", after := #[{ on := 0, ground := Ground.data }, { on := 2, ground := Ground.data }], guard := none }) rfl (fun K hK => ?_) AllReadyH.nil
      go_simp
      refine (HC.out _).mono ?_
      rintro e w3 ⟨rfl, hb⟩
      have hH2 := keepN hH1 hb
      have hg3 := (Blk.new w2.drew 38 (rowS 0 0 0 0 0 0)).below hb (Blk.lt (Blk.new _ _ _))
      clear hb
      go_wp2_with fail
      refine hK.out _ _ hH2 (fun hH2 => ?_)
      clear hK K
      refine wpAnyH_take (i := 14) (oi := { dst := some 18, op := Op.build 38 #[(0, Operand.tmp 7), (1, Operand.tmp 12), (2, Operand.tmp 15), (3, Operand.tmp 17)], type := 38, pos := "lattice.go:136", after := #[{ on := 3, ground := Ground.data }, { on := 8, ground := Ground.data }, { on := 11, ground := Ground.data }, { on := 13, ground := Ground.data }], guard := none }) (v := ?v14b) rfl (by kernel_rfl) (by kernel_rfl) (by kernel_rfl) (fun _ _ _ h => h) (Or.inl ⟨by rfl, ?h14b⟩) hH2 ?r14b
      case h14b => intro w' hSw; (try dsimp only at hSw); go_simp; (try with_reducible rfl)
      simp only [Act.put, List.setIfInBounds_toArray, List.set_cons_zero, List.set_cons_succ]
      refine wpAnyH_ready (rs := [16]) (by kernel_rfl) (by simp) ?_
      refine AllReadyH.cons (o := { dst := none, op := Op.store 38 (Operand.tmp 3) (Operand.tmp 18), type := 0, pos := "lattice.go:136", after := #[{ on := 15, ground := Ground.data }, { on := 14, ground := Ground.data }, { on := 3, ground := Ground.chain }, { on := 0, ground := Ground.phase }, { on := 1, ground := Ground.phase }, { on := 2, ground := Ground.phase }, { on := 3, ground := Ground.phase }, { on := 4, ground := Ground.phase }, { on := 5, ground := Ground.phase }, { on := 6, ground := Ground.phase }, { on := 7, ground := Ground.phase }, { on := 8, ground := Ground.phase }, { on := 9, ground := Ground.phase }, { on := 10, ground := Ground.phase }, { on := 11, ground := Ground.phase }, { on := 12, ground := Ground.phase }, { on := 13, ground := Ground.phase }, { on := 14, ground := Ground.phase }, { on := 15, ground := Ground.phase }], guard := none }) rfl (fun K hK => ?_) AllReadyH.nil
      rw [if_pos (by rfl)]
      refine wp_store_row 38 (.tmp 3) (.tmp 18) rfl w2.heap.size (rowS p q (nl : Int) r z (l : Int)) rfl rfl 38 (rowS 0 0 0 0 0 0) hg3 info38 rfl (rowS_one ..) ?_
      have hne : g + 1 < w2.heap.size := HZ.out.lt
      refine hK.out _ _ (makeN (hH2.2.2.2.2.1.setRow (by omega) _) (hH2.2.2.2.2.2.1.setRow (by omega) _) (bsr hH2.2.2.2.2.2.2 HB.out.size _)) (fun hH3 => ?_)
      clear hK K
      refine wpAnyH_done (by kernel_rfl) ?_ _
      go_wp2_with fail
      go_meet
      exact ⟨w2.heap.size, rfl, hne, hH3.2.2.2.2.1, hH3.2.2.2.2.2.1, hg3.setRow_ _, hH3.2.2.2.2.2.2⟩
  case rest =>
    obtain ⟨g3, rfl, hlt, hk, hz, h3, hb⟩ := hcut
    have hc2 := hk.cell 2
    have HZ3 := Lib.hid hz
    have H3 := Lib.hid h3
    have HB3 := Lib.hid hb
    by_cases hv0 : v = 0
    · have m4 : (FloatKind.f64.format.order d 0 != some .eq) = false := by rw [m2, decide_eq_true hv0]; rfl
      have HV0 := Lib.hid hv0
      clear m2 m3 m1 hk hz h3 hb hlt hv0 HK HZ HB
      go_upto_region 4 with (fail)
      refine wp_region_lit ?_
      refine wpList_load_row rfl 38 (.tmp 3) rfl g3 rfl 38 (rowS p q (nl : Int) r z (l : Int)) (0, 0) _ H3.out Try.underlying38 rfl info38 ?_
      refine wpList_store_row rfl 38 (.tmp 2) (.tmp 27) rfl (g + 1) (rowS p q (nl : Int) r z (l : Int)) rfl rfl 38 (rowS 0 0 0 0 0 0) HZ3.out info38 rfl (rowS_one ..) ?_
      go_wp2_with fail
      refine bodyPost_ret (results_cell_row rfl _ _ (g + 1) 38 (rowS p q (nl : Int) r z (l : Int)) (0, 0) _ rfl (setRow_heap _ _ _ _ _ _ HZ3.out) Try.underlying38 rfl info38) rfl ?_
      exact ⟨by rw [HL2.out, if_pos HV0.out], bsr HB3.out (Nat.le_succ_of_le HG.out) _⟩
    · have m4 : (FloatKind.f64.format.order d 0 != some .eq) = true := by rw [m2, decide_eq_false hv0]; rfl
      have HV0 := Lib.hid hv0
      have hc3 := h3.cell 3
      have hf3 := h3.frozen 3
      have HL := Lib.hid hlt
      clear m2 m3 m1 hk hz h3 hb hlt hv0 HK HZ HB
      go_upto_region 4 with (fail)
      have h4 := (H3.out.set_ 3 (.int .i64 ((l + 1 : Nat) : Int)))
      have hz4 := HZ3.out.far (p := ⟨g3, 3, none⟩) (by have := HL.out; simp; omega) (.int .i64 ((l + 1 : Nat) : Int))
      have hb4 : Below w.heap.size w (wc.setCell ⟨g3, 3, none⟩ (.int .i64 ((l + 1 : Nat) : Int))) := HB3.out.setCell (by have := HL.out; have := HG.out; simp; omega) _
      have ec : (l : Int) + 1 = ((l + 1 : Nat) : Int) := by push_cast; rfl
      rw [ec]
      generalize wc.setCell ⟨g3, 3, none⟩ (.int .i64 ((l + 1 : Nat) : Int)) = w5 at *
      have h5 : Blk w5 g3 38 (rowS p q (nl : Int) r z ((l + 1 : Nat) : Int)) := h4
      have H5 := Lib.hid h5
      have HZ4 := Lib.hid hz4
      have HB4 := Lib.hid hb4
      obtain ⟨ll, hll⟩ : ∃ ll : Int, ll = ((l + 1 : Nat) : Int) := ⟨_, rfl⟩
      rw [← hll] at H5 ⊢
      have HLL := Lib.hid hll
      clear hll
      clear h4 h5 hz4 hb4 ec hc3 hf3 hc2 hl'
      refine wp_region_lit ?_
      refine wpList_load_row rfl 38 (.tmp 3) rfl g3 rfl 38 (rowS p q (nl : Int) r z ll) (0, 0) _ H5.out Try.underlying38 rfl info38 ?_
      refine wpList_store_row rfl 38 (.tmp 2) (.tmp 27) rfl (g + 1) (rowS p q (nl : Int) r z ll) rfl rfl 38 (rowS 0 0 0 0 0 0) HZ4.out info38 rfl (rowS_one ..) ?_
      go_wp2_with fail
      refine bodyPost_ret (results_cell_row rfl _ _ (g + 1) 38 (rowS p q (nl : Int) r z ll) (0, 0) _ rfl (setRow_heap _ _ _ _ _ _ HZ4.out) Try.underlying38 rfl info38) rfl ?_
      exact ⟨by rw [HL2.out, if_neg HV0.out, HLL.out], bsr HB4.out (Nat.le_succ_of_le HG.out) _⟩
end Go.Proofs.Ytkekidgakmhicaa

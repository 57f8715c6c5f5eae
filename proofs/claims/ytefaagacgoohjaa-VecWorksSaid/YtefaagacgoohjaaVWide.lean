/- The contract of each at square, and of Long's sum. -/
import Derived.Test.YtefaagacgoohjaaVFun
import Derived.Deep.RegionHeld3
import Derived.Deep.DeepCutAuto
namespace Go.Proofs.Ytefaagacgoohjaa
open Go.RowKit

theorem Blk.setRow {w : World} {g h : Nat} {t : TypeId} {cs : Array Value} (k : Blk w g t cs) (hne : g ≠ h) (rs : Array Value) : Blk (w.setRow h rs) g t cs := (setRow_other w h g rs hne).trans k
theorem Blk.setRow_ {w : World} {g : Nat} {t : TypeId} {cs : Array Value} (k : Blk w g t cs) (rs : Array Value) : Blk (w.setRow g rs) g t rs := setRow_heap w g cs rs t (0, 0) k
theorem bsr {B : Nat} {w w' : World} (h : Below B w w') {g : Nat} (hg : B ≤ g) (rs : Array Value) : Below B w (w'.setRow g rs) :=
  ⟨h.os, h.tape, h.output, by rw [setRow_size]; exact h.size, fun i hi => (setRow_other w' g i rs (by omega)).trans (h.block i hi)⟩
/-- The cells of a number of 128 bits. -/
abbrev wideR (n : Nat) : Array Value := #[.int .u64 ((n / 18446744073709551616 : Nat) : Int), .int .u64 ((n % 18446744073709551616 : Nat) : Int)]
theorem wideR_one (n : Nat) : (wideR n).all (·.oneCell') = true := by simp [wideR, Value.oneCell']

theorem keepE {w w1 w2 : World} {g : Nat} {x y : Int} (h : w1.cell? ⟨g, 0, none⟩ = some (.int .i64 x) ∧ w1.cell? ⟨g, 1, none⟩ = some (.int .i64 y) ∧ Blk w1 g 23 #[.int .i64 x, .int .i64 y] ∧ Below w.heap.size w w1) (hb : Below w1.heap.size w1 w2) :
    w2.cell? ⟨g, 0, none⟩ = some (.int .i64 x) ∧ w2.cell? ⟨g, 1, none⟩ = some (.int .i64 y) ∧ Blk w2 g 23 #[.int .i64 x, .int .i64 y] ∧ Below w.heap.size w w2 :=
  have k := h.2.2.1.below hb h.2.2.1.lt
  ⟨k.cell 0, k.cell 1, k, vbt h.2.2.2 hb⟩
theorem keepS_ {w w1 : World} {g g' : Nat} {x y : Int} (h : w1.cell? ⟨g, 0, none⟩ = some (.int .i64 x) ∧ w1.cell? ⟨g, 1, none⟩ = some (.int .i64 y) ∧ Blk w1 g 23 #[.int .i64 x, .int .i64 y] ∧ Below w.heap.size w w1) (hne : g ≠ g') (hg : w.heap.size ≤ g') (rs : Array Value) :
    (w1.setRow g' rs).cell? ⟨g, 0, none⟩ = some (.int .i64 x) ∧ (w1.setRow g' rs).cell? ⟨g, 1, none⟩ = some (.int .i64 y) ∧ Blk (w1.setRow g' rs) g 23 #[.int .i64 x, .int .i64 y] ∧ Below w.heap.size w (w1.setRow g' rs) :=
  have k := h.2.2.1.setRow hne rs
  ⟨k.cell 0, k.cell 1, k, bsr h.2.2.2 hg rs⟩

set_option maxRecDepth 100000 in
set_option maxHeartbeats 1000000 in
theorem eachw_c (x y : Int) (w : World) (hx : I64 x) (hy : I64 y) :
    Calls Try.prog 38 #[vecV x y, .func (.func 39) #[] #[]] w fun e w' => e = .returned (.tuple #[wideV (x.natAbs * x.natAbs), wideV (y.natAbs * y.natAbs)]) ∧ Below w.heap.size w w' := by
  have H1 := Lib.hid (fun w => square_c x w hx)
  have H2 := Lib.hid (fun w => square_c y w hy)
  clear hx hy
  generalize x.natAbs * x.natAbs = p at *
  generalize y.natAbs * y.natAbs = q at *
  go_enter Try.func38, Try.ntmps38
  go_upto_region 1 with (fail)
  have hk0 := ((Blk.new w 23 #[.int .i64 x, .int .i64 y]).alloc (.cells #[.int .u64 0, .int .u64 0] 43)).alloc (.cells #[.int .u64 0, .int .u64 0] 43)
  have hk1 := (Blk.new (w.alloc (.cells #[.int .i64 x, .int .i64 y] 23)) 43 #[.int .u64 0, .int .u64 0]).alloc (.cells #[.int .u64 0, .int .u64 0] 43)
  have hk2 := Blk.new ((w.alloc (.cells #[.int .i64 x, .int .i64 y] 23)).alloc (.cells #[.int .u64 0, .int .u64 0] 43)) 43 #[.int .u64 0, .int .u64 0]
  have hb0 := bel3 w (.cells #[.int .i64 x, .int .i64 y] 23) (.cells #[.int .u64 0, .int .u64 0] 43) (.cells #[.int .u64 0, .int .u64 0] 43)
  rw [show (w.alloc (.cells #[.int .i64 x, .int .i64 y] 23)).heap.size = w.heap.size + 1 by simp] at hk1
  rw [show ((w.alloc (.cells #[.int .i64 x, .int .i64 y] 23)).alloc (.cells #[.int .u64 0, .int .u64 0] 43)).heap.size = w.heap.size + 1 + 1 by simp] at hk2
  obtain ⟨w0, hw0⟩ : ∃ w0, w0 = ((w.alloc (.cells #[.int .i64 x, .int .i64 y] 23)).alloc (.cells #[.int .u64 0, .int .u64 0] 43)).alloc (.cells #[.int .u64 0, .int .u64 0] 43) := ⟨_, rfl⟩
  rw [← hw0] at hk0 hk1 hk2 hb0 ⊢
  clear hw0
  obtain ⟨g, hg⟩ : ∃ g, g = w.heap.size := ⟨_, rfl⟩
  rw [← hg] at hk0 hk1 hk2 ⊢
  have HG := Lib.hid (show w.heap.size ≤ g by omega)
  have HK1 := Lib.hid hk1
  have HK2 := Lib.hid hk2
  have HS := Lib.hid (show w0.cell? ⟨g, 0, none⟩ = some (.int .i64 x) ∧ w0.cell? ⟨g, 1, none⟩ = some (.int .i64 y) ∧ Blk w0 g 23 #[.int .i64 x, .int .i64 y] ∧ Below w.heap.size w w0 from ⟨hk0.cell 0, hk0.cell 1, hk0, hb0⟩)
  clear hk0 hk1 hk2 hb0 hg
  refine wp_region_held_drew (S := fun w1 => w1.cell? ⟨g, 0, none⟩ = some (.int .i64 x) ∧ w1.cell? ⟨g, 1, none⟩ = some (.int .i64 y) ∧ Blk w1 g 23 #[.int .i64 x, .int .i64 y] ∧ Below w.heap.size w w1) (by kernel_rfl) (show _ ∧ _ ∧ _ ∧ _ from ⟨HS.out.1, HS.out.2.1, HS.out.2.2.1, HS.out.2.2.2.drew⟩) (fun hH0 => ?_)
  refine wpAnyH_take (i := 0) (oi := { dst := some 6, op := Op.move (Operand.tmp 1), type := 46, pos := "vec.go:78", after := #[], guard := none }) (v := ?v0) rfl (by kernel_rfl) (by kernel_rfl) (by kernel_rfl) (fun _ _ _ h => h) (Or.inl ⟨by rfl, ?h0⟩) hH0 ?r0
  case h0 => intro w' hSw; (try dsimp only at hSw); go_simp; (try with_reducible rfl)
  simp only [Act.put, List.setIfInBounds_toArray, List.set_cons_zero, List.set_cons_succ]
  refine wpAnyH_take (i := 1) (oi := { dst := some 7, op := Op.fieldAddr 23 (Operand.tmp 2) 0, type := 0, pos := "vec.go:78", after := #[], guard := none }) (v := ?v1) rfl (by kernel_rfl) (by kernel_rfl) (by kernel_rfl) (fun _ _ _ h => h) (Or.inl ⟨by rfl, ?h1⟩) hH0 ?r1
  case h1 => intro w' hSw; (try dsimp only at hSw); go_simp; (try with_reducible rfl)
  simp only [Act.put, List.setIfInBounds_toArray, List.set_cons_zero, List.set_cons_succ]
  refine wpAnyH_take (i := 2) (oi := { dst := some 8, op := Op.load 3 (Operand.tmp 7), type := 3, pos := "vec.go:78", after := #[{ on := 1, ground := Ground.data }], guard := none }) (v := ?v2) rfl (by kernel_rfl) (by kernel_rfl) (by kernel_rfl) (fun _ _ _ h => h) (Or.inl ⟨by rfl, ?h2⟩) hH0 ?r2
  case h2 => intro w' hSw; (try dsimp only at hSw); go_simp; (try with_reducible rfl)
  simp only [Act.put, List.setIfInBounds_toArray, List.set_cons_zero, List.set_cons_succ]
  refine wpAnyH_take (i := 4) (oi := { dst := some 10, op := Op.move (Operand.tmp 1), type := 46, pos := "vec.go:78", after := #[], guard := none }) (v := ?v4) rfl (by kernel_rfl) (by kernel_rfl) (by kernel_rfl) (fun _ _ _ h => h) (Or.inl ⟨by rfl, ?h4⟩) hH0 ?r4
  case h4 => intro w' hSw; (try dsimp only at hSw); go_simp; (try with_reducible rfl)
  simp only [Act.put, List.setIfInBounds_toArray, List.set_cons_zero, List.set_cons_succ]
  refine wpAnyH_take (i := 5) (oi := { dst := some 11, op := Op.fieldAddr 23 (Operand.tmp 2) 1, type := 0, pos := "vec.go:78", after := #[], guard := none }) (v := ?v5) rfl (by kernel_rfl) (by kernel_rfl) (by kernel_rfl) (fun _ _ _ h => h) (Or.inl ⟨by rfl, ?h5⟩) hH0 ?r5
  case h5 => intro w' hSw; (try dsimp only at hSw); go_simp; (try with_reducible rfl)
  simp only [Act.put, List.setIfInBounds_toArray, List.set_cons_zero, List.set_cons_succ]
  refine wpAnyH_take (i := 6) (oi := { dst := some 12, op := Op.load 3 (Operand.tmp 11), type := 3, pos := "vec.go:78", after := #[{ on := 5, ground := Ground.data }], guard := none }) (v := ?v6) rfl (by kernel_rfl) (by kernel_rfl) (by kernel_rfl) (fun _ _ _ h => h) (Or.inl ⟨by rfl, ?h6⟩) hH0 ?r6
  case h6 => intro w' hSw; (try dsimp only at hSw); go_simp; (try with_reducible rfl)
  simp only [Act.put, List.setIfInBounds_toArray, List.set_cons_zero, List.set_cons_succ]
  refine wpAnyH_ready (rs := [3]) (by kernel_rfl) (by simp) ?_
  refine AllReadyH.cons (o := { dst := some 9, op := Op.call { callee := Callee.value (Operand.tmp 6), args := #[Operand.tmp 8], argTypes := #[3] }, type := 43, pos := "vec.go:78", after := #[{ on := 0, ground := Ground.data }, { on := 2, ground := Ground.data }], guard := none }) rfl (fun K hK => ?_) AllReadyH.nil
  go_simp
  refine (H1.out _).mono ?_
  rintro e w3 ⟨rfl, hb⟩
  have hH1 := keepE hH0 hb
  have k1 := HK1.out.below (w := w0.drew) hb HK1.out.lt
  have k2 := HK2.out.below (w := w0.drew) hb HK2.out.lt
  clear hb HK1 HK2
  go_wp2_with fail
  refine hK.out _ _ hH1 (fun hH1 => ?_)
  clear hK K
  refine wpAnyH_ready (rs := [7]) (by kernel_rfl) (by simp) ?_
  refine AllReadyH.cons (o := { dst := some 13, op := Op.call { callee := Callee.value (Operand.tmp 10), args := #[Operand.tmp 12], argTypes := #[3] }, type := 43, pos := "vec.go:78", after := #[{ on := 4, ground := Ground.data }, { on := 6, ground := Ground.data }, { on := 3, ground := Ground.chain }], guard := none }) rfl (fun K hK => ?_) AllReadyH.nil
  go_simp
  refine (H2.out _).mono ?_
  rintro e w4 ⟨rfl, hb⟩
  have hH2 := keepE hH1 hb
  have m1 := k1.below hb k1.lt
  have m2 := k2.below hb k2.lt
  clear hb k1 k2
  go_wp2_with fail
  refine hK.out _ _ hH2 (fun hH2 => ?_)
  clear hK K
  refine wpAnyH_ready (rs := [8]) (by kernel_rfl) (by simp) ?_
  refine AllReadyH.cons (o := { dst := none, op := Op.store 43 (Operand.tmp 4) (Operand.tmp 9), type := 0, pos := "vec.go:78", after := #[{ on := 3, ground := Ground.data }, { on := 7, ground := Ground.chain }, { on := 0, ground := Ground.phase }, { on := 1, ground := Ground.phase }, { on := 2, ground := Ground.phase }, { on := 3, ground := Ground.phase }, { on := 4, ground := Ground.textOnly Departure.lateStores }, { on := 5, ground := Ground.textOnly Departure.lateStores }, { on := 6, ground := Ground.textOnly Departure.lateStores }, { on := 7, ground := Ground.textOnly Departure.lateStoresUnsure }], guard := none }) rfl (fun K hK => ?_) AllReadyH.nil
  rw [if_pos (by rfl)]
  refine wp_store_row 43 (.tmp 4) (.tmp 9) rfl (g + 1) (wideR p) rfl rfl 43 #[.int .u64 0, .int .u64 0] m1 info43 rfl (wideR_one p) ?_
  have hH3 : _ ∧ _ ∧ _ ∧ _ := keepS_ hH2 (show g ≠ g + 1 by omega) (Nat.le_succ_of_le HG.out) (wideR p)
  refine hK.out _ _ hH3 (fun hH3 => ?_)
  clear hK K
  refine wpAnyH_ready (rs := [9]) (by kernel_rfl) (by simp) ?_
  refine AllReadyH.cons (o := { dst := none, op := Op.store 43 (Operand.tmp 5) (Operand.tmp 13), type := 0, pos := "vec.go:78", after := #[{ on := 7, ground := Ground.data }, { on := 8, ground := Ground.chain }, { on := 0, ground := Ground.phase }, { on := 1, ground := Ground.phase }, { on := 2, ground := Ground.phase }, { on := 3, ground := Ground.phase }, { on := 4, ground := Ground.phase }, { on := 5, ground := Ground.phase }, { on := 6, ground := Ground.phase }, { on := 7, ground := Ground.phase }, { on := 8, ground := Ground.phase }], guard := none }) rfl (fun K hK => ?_) AllReadyH.nil
  rw [if_pos (by rfl)]
  refine wp_store_row 43 (.tmp 5) (.tmp 13) rfl (g + 1 + 1) (wideR q) rfl rfl 43 #[.int .u64 0, .int .u64 0] (m2.setRow (by omega) _) info43 rfl (wideR_one q) ?_
  have hH4 : _ ∧ _ ∧ _ ∧ _ := keepS_ hH3 (show g ≠ g + 1 + 1 by omega) (Nat.le_succ_of_le (Nat.le_succ_of_le HG.out)) (wideR q)
  refine hK.out _ _ hH4 (fun hH4 => ?_)
  clear hK K
  refine wpAnyH_done (by kernel_rfl) ?_ _
  have n1 := (m1.setRow_ (wideR p)).setRow (show g + 1 ≠ g + 1 + 1 by omega) (wideR q)
  have n2 := (m2.setRow (show g + 1 + 1 ≠ g + 1 by omega) (wideR p)).setRow_ (wideR q)
  have HN := Lib.hid (And.intro n1 (And.intro n2 hH4))
  generalize (w4.setRow (g + 1) (wideR p)).setRow (g + 1 + 1) (wideR q) = w5 at *
  clear n1 n2 hH0 hH1 hH2 hH3 hH4 m1 m2
  go_wp2_with fail
  obtain ⟨n1, n2, hH4⟩ := HN.out
  have c1 : w5.cell? ⟨g + 1, 0, none⟩ = some (.int .u64 ((p / 18446744073709551616 : Nat) : Int)) := n1.cell 0
  have c2 : w5.cell? ⟨g + 1, 1, none⟩ = some (.int .u64 ((p % 18446744073709551616 : Nat) : Int)) := n1.cell 1
  have c3 : w5.cell? ⟨g + 1 + 1, 0, none⟩ = some (.int .u64 ((q / 18446744073709551616 : Nat) : Int)) := n2.cell 0
  have c4 : w5.cell? ⟨g + 1 + 1, 1, none⟩ = some (.int .u64 ((q % 18446744073709551616 : Nat) : Int)) := n2.cell 1
  exact bodyPost_ret (v := .tuple #[wideV p, wideV q]) (by simp [results, Try.results38, go_sem, c1, c2, c3, c4]) rfl ⟨rfl, hH4.2.2.2⟩
end Go.Proofs.Ytefaagacgoohjaa

/- The contracts of the runs' functions: firstRun, cell, along, holds, next. -/
import Derived.Test.YtkekidgakmhicaaFar
import Derived.Test.YtkekidgakmhicaaSp
import Derived.Test.YtkekidgakmhicaaMem
import Derived.LoopN
import Derived.Deep.QuietTactic
import Derived.BigQuiet
import Derived.Deep.RegionWith
namespace Go.Proofs.Ytkekidgakmhicaa
open Go.RowKit

/-- A run. -/
abbrev runV (a b : Nat) (n : Int) (c d : Nat) (l : Int) : Value := .agg #[.complex .f64 a b, .int .i64 n, .complex .f64 c d, .int .i64 l]

theorem run_store_complex (P : Program) (w : World) (a : Addr) (m : Mode) (k : FloatKind) (x y : Nat) : (store a (.complex k x y) m).run P w = stored P w a (.complex k x y) m := run_store P w a _ m rfl
attribute [local go_sem] run_store_complex

theorem below1 (w : World) (o1 : Obj) : Below w.heap.size w (w.alloc o1) := (Below.refl _ _).alloc (Nat.le_refl _) _
theorem below2 (w : World) (o1 o2 : Obj) : Below w.heap.size w ((w.alloc o1).alloc o2) := ((Below.refl _ _).alloc (Nat.le_refl _) _).alloc (by simp) _

theorem bt {w w1 w2 : World} (h : Below w.heap.size w w1) (k : Below w1.heap.size w1 w2) : Below w.heap.size w w2 := h.trans (k.mono h.size)

set_option maxRecDepth 100000 in
set_option maxHeartbeats 1000000 in
theorem first_c (w : World) : Calls Try.prog 12 #[] w fun e w' => e = .returned (runV 0 0 0 4607182418800017408 0 1) ∧ Below w.heap.size w w' := by
  go_enter Try.func12, Try.ntmps12
  go_wp2_with fail
  exact bodyPost_ret (v := runV 0 0 0 4607182418800017408 0 1) (by simp [results, Try.results12, go_sem]) rfl ⟨rfl, below1 _ _⟩

set_option maxRecDepth 100000 in
set_option maxHeartbeats 1000000 in
theorem cell_run {a b c d : Nat} {x y u v : Int} (n l : Int) (i : Nat) (h : Cx a b x y) (k : Cx c d u v) (hx : x.natAbs ≤ 1048576) (hy : y.natAbs ≤ 1048576) (hu : u.natAbs ≤ 1) (hv : v.natAbs ≤ 1) (hi : i ≤ 1048576) :
    ∃ p q, Cx p q (x + u * i) (y + v * i) ∧ ∀ w : World, Calls Try.prog 14 #[runV a b n c d l, .int .i64 (i : Int)] w fun e w' => e = .returned (.complex .f64 p q) ∧ Below w.heap.size w w' := by
  have hui : (u * i).natAbs ≤ 1048576 := by rw [Int.natAbs_mul]; exact Nat.le_trans (Nat.mul_le_mul hu (by omega : (i : Int).natAbs ≤ 1048576)) (by decide)
  have hvi : (v * i).natAbs ≤ 1048576 := by rw [Int.natAbs_mul]; exact Nat.le_trans (Nat.mul_le_mul hv (by omega : (i : Int).natAbs ≤ 1048576)) (by decide)
  obtain ⟨p, q, e1, n1⟩ := cx_mul k ⟨num_of_int i (by omega), num_zero⟩ (by omega) (by omega) (by omega) (by omega)
  rw [show u * (i : Int) - v * 0 = u * i by omega, show u * 0 + v * (i : Int) = v * i by omega] at n1
  obtain ⟨r, s, e2, n2⟩ := cx_add h n1 (by omega) (by omega)
  refine ⟨r, s, n2, fun w => ?_⟩
  have m1 : ∀ w : World, (binOp .mul 23 (.complex .f64 c d) (.complex .f64 (floatOfInt .f64 (i : Int)) 0)).run Try.prog w = .ok (.complex .f64 p q) w := fun w => run_complex_mul w 23 c d _ 0 p q e1
  have m2 : ∀ w : World, (binOp .add 23 (.complex .f64 a b) (.complex .f64 p q)).run Try.prog w = .ok (.complex .f64 r s) w := fun w => run_complex_sum w .add (.inl rfl) 23 .f64 a b p q r s e2
  clear e1 e2 n1 n2 h k hx hy hu hv hi hui hvi
  go_enter Try.func14, Try.ntmps14
  go_wp2_with fail
  go_ret
  exact ⟨rfl, below1 _ _⟩

set_option maxRecDepth 100000 in
set_option maxHeartbeats 1000000 in
theorem along_c {a b c d p q : Nat} {x y u v s t : Int} (n l : Int) (h : Cx a b x y) (k : Cx c d u v) (g : Cx p q s t) (hx : x.natAbs ≤ 1048576) (hy : y.natAbs ≤ 1048576) (hu : u.natAbs ≤ 1) (hv : v.natAbs ≤ 1) (hs : s.natAbs ≤ 1048576) (ht : t.natAbs ≤ 1048576) :
    ∃ r z, Cx r z ((s - x) * u + (t - y) * v) ((t - y) * u - (s - x) * v) ∧ ∀ w : World, Calls Try.prog 17 #[runV a b n c d l, .complex .f64 p q] w fun e w' => e = .returned (.complex .f64 r z) ∧ Below w.heap.size w w' := by
  have small : ∀ {i j : Int}, i.natAbs ≤ 2097152 → j.natAbs ≤ 1 → (i * j).natAbs < 4503599627370496 := by
    intro i j hi hj
    rw [Int.natAbs_mul]; exact Nat.lt_of_le_of_lt (Nat.mul_le_mul hi hj) (by decide)
  obtain ⟨p1, q1, e1, n1⟩ := cx_sub g h (by omega) (by omega)
  obtain ⟨r, z, e2, n2⟩ := cx_mul n1 ⟨k.re, num_neg k.im⟩ (small (by omega) (by omega)) (small (by omega) (by omega)) (small (by omega) (by omega)) (small (by omega) (by omega))
  refine ⟨r, z, by rw [show (s - x) * u + (t - y) * v = (s - x) * u - (t - y) * -v by rw [Int.mul_neg]; omega, show (t - y) * u - (s - x) * v = (s - x) * -v + (t - y) * u by rw [Int.mul_neg]; omega]; exact n2, fun w => ?_⟩
  have m1 : ∀ w : World, (binOp .sub 23 (.complex .f64 p q) (.complex .f64 a b)).run Try.prog w = .ok (.complex .f64 p1 q1) w := fun w => run_complex_sum w .sub (.inr rfl) 23 .f64 p q a b p1 q1 e1
  have m2 : ∀ w : World, (binOp .mul 23 (.complex .f64 p1 q1) (.complex .f64 c (Op.negFloat .f64 d))).run Try.prog w = .ok (.complex .f64 r z) w := fun w => run_complex_mul w 23 p1 q1 _ _ r z e2
  clear e1 e2 n1 n2 h k g hx hy hu hv hs ht small
  go_enter Try.func17, Try.ntmps17
  go_wp2_with fail
  go_quiet ((go_at_call 23; exact Calls.quiet_of_same ((conj_c _ _ _).mono fun _ _ q => ⟨q.1, q.2.symm⟩)))
  go_wp2_with fail
  go_ret
  exact ⟨rfl, below_drewN (below1 _ _) _⟩

set_option maxRecDepth 100000 in
set_option maxHeartbeats 1000000 in
theorem holds_c {a b c d p q : Nat} {x y u v s t : Int} (n : Int) (l : Nat) (h : Cx a b x y) (k : Cx c d u v) (g : Cx p q s t) (hx : x.natAbs ≤ 1048576) (hy : y.natAbs ≤ 1048576) (hu : u.natAbs ≤ 1) (hv : v.natAbs ≤ 1) (hs : s.natAbs ≤ 1048576) (ht : t.natAbs ≤ 1048576) (hl : l ≤ 1048576) (w : World) :
    Calls Try.prog 16 #[runV a b n c d (l : Int), .complex .f64 p q] w fun e w' => e = .returned (.bool (decide ((t - y) * u - (s - x) * v = 0) && (decide (0 ≤ (s - x) * u + (t - y) * v) && decide ((s - x) * u + (t - y) * v ≤ (l : Int))))) ∧ Below w.heap.size w w' := by
  obtain ⟨r, z, hn, hc⟩ := along_c n (l : Int) h k g hx hy hu hv hs ht
  have e1 := num_eq hn.im num_zero
  have e2 := num_ge hn.re num_zero
  have e3 := num_le hn.re (num_of_int (l : Int) (by omega))
  generalize decide ((t - y) * u - (s - x) * v = 0) = B1 at *
  generalize decide (0 ≤ (s - x) * u + (t - y) * v) = B2 at *
  generalize decide ((s - x) * u + (t - y) * v ≤ (l : Int)) = B3 at *
  have HC := Lib.hid hc
  clear h k g hx hy hu hv hs ht hl hn hc
  cases B1 <;> cases B2 <;> cases B3
  all_goals
    go_enter Try.func16, Try.ntmps16
    go_wp2_with fail
    refine (HC.out _).mono ?_
    rintro e w' ⟨rfl, hb⟩
    have hk := (Blk.new w 38 #[.complex .f64 a b, .int .i64 n, .complex .f64 c d, .int .i64 (l : Int)]).below hb (Blk.lt (Blk.new w 38 _))
    have hc3 := hk.cell 3
    have HB := Lib.hid (bt (below1 _ _) hb)
    clear hb hk
    go_wp2_with fail
    go_ret
    exact ⟨rfl, HB.out⟩
end Go.Proofs.Ytkekidgakmhicaa

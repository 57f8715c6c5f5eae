/- The contracts of box's leaves: within, axes, size, along, Right. -/
import Derived.Test.YtnffflcfncffpaaVFun
namespace Go.Proofs.Ytnffflcfncffpaa
open Go.RowKit

/-- A box. -/
abbrev boxV (x y r : Int) : Value := .agg #[.int .i64 x, .int .i64 y, .int .i64 r]
/-- May that be a part of a middle, or a way? -/
def inB (n : Int) : Bool := decide (-1152921504606846976 ≤ n ∧ n ≤ 1152921504606846976)
/-- May that be a box? -/
def rightB (x y r : Int) : Bool := decide (1 ≤ r ∧ r ≤ 1099511627776) && (inB x && inB y)
/-- The error's number. -/
def errR (x y r : Int) : Int := if rightB x y r then 0 else 60

theorem within_c (x y : Int) (w : World) (hx : I64 x) (hy : I64 y) :
    Calls Try.prog 33 #[vecV x y] w fun e w' => e = .returned (.bool (inB x && inB y)) ∧ Below w.heap.size w w' := by
  have z : I64 0 := by unfold I64; omega
  have e1 : nearF x 0 1152921504606846976 = inB x := by unfold nearF inB; exact decide_eq_decide.2 (by omega)
  have e2 : nearF y 0 1152921504606846976 = inB y := by unfold nearF inB; exact decide_eq_decide.2 (by omega)
  have HC := Lib.hid (fun w => vnear_c x y 0 0 1152921504606846976 w hx hy z z (by unfold I64; omega) (by omega))
  rw [e1, e2] at HC
  clear e1 e2 hx hy z
  have HB := Lib.hid (fun (o : Obj) => (Below.refl w.heap.size w).alloc (Nat.le_refl _) o)
  go_enter Try.func33, Try.ntmps33
  go_wp2_with fail
  refine (HC.out _).mono ?_
  rintro e w1 ⟨rfl, hb⟩
  have HB := Lib.hid (vbt (HB.out _) hb)
  clear hb
  go_wp2_with fail
  go_ret
  exact ⟨rfl, HB.out⟩

theorem axes_c (x y : Int) (w : World) :
    Calls Try.prog 37 #[vecV x y] w fun e w' => e = .returned (vecV x y) ∧ Below w.heap.size w w' := by
  have HB := Lib.hid (bel2 w)
  go_enter Try.func37, Try.ntmps37
  go_wp2_with fail
  exact bodyPost_ret (v := vecV x y) (by simp [results, Try.results37, go_sem]) rfl ⟨rfl, HB.out _ _⟩

theorem bsize_c (n : Int) (w : World) (hn : -9223372036854775807 ≤ n ∧ n < 9223372036854775808) :
    Calls Try.prog 42 #[.int .i64 n] w fun e w' => e = .returned (.int .i64 (n.natAbs : Int)) ∧ w = w' := by
  obtain ⟨k, hk⟩ : ∃ k, (if n < -n then -n else n) = k := ⟨_, rfl⟩
  have e1 : wrap64 (-n) = -n := IntWalk.wrap64_in _ (by omega)
  have e0 : (n.natAbs : Int) = k := by rw [← hk]; split <;> omega
  rw [e0]
  clear hn e0
  go_enter Try.func42, Try.ntmps42
  go_wp2_with fail
  go_ret
  exact ⟨rfl, rfl⟩

theorem along0_c (d : Int) (w : World) :
    Calls Try.prog 35 #[.int .i64 0, .int .i64 d] w fun e w' => e = .returned (vecV d 0) ∧ Below w.heap.size w w' := by
  have HB := Lib.hid (bel2 w)
  go_enter Try.func35, Try.ntmps35
  go_wp2_with fail
  exact bodyPost_ret (v := vecV d 0) (by simp [results, Try.results35, go_sem]) rfl ⟨rfl, HB.out _ _⟩

theorem along1_c (d : Int) (w : World) :
    Calls Try.prog 35 #[.int .i64 1, .int .i64 d] w fun e w' => e = .returned (vecV 0 d) ∧ Below w.heap.size w w' := by
  have HB := Lib.hid (bel2 w)
  go_enter Try.func35, Try.ntmps35
  go_wp2_with fail
  exact bodyPost_ret (v := vecV 0 d) (by simp [results, Try.results35, go_sem]) rfl ⟨rfl, HB.out _ _⟩

theorem right_c (x y r : Int) (w : World) (hx : I64 x) (hy : I64 y) :
    Calls Try.prog 19 #[boxV x y r] w fun e w' => e = .returned (.int .i64 (errR x y r)) ∧ Below w.heap.size w w' := by
  have HC := Lib.hid (fun w => within_c x y w hx hy)
  have HB := Lib.hid (fun (o : Obj) => (Below.refl w.heap.size w).alloc (Nat.le_refl _) o)
  clear hx hy
  unfold errR rightB
  generalize (inB x && inB y) = q at *
  by_cases h1 : r < 1
  · rw [decide_eq_false (show ¬ (1 ≤ r ∧ r ≤ 1099511627776) by omega), Bool.false_and, if_neg (by simp)]
    go_enter Try.func19, Try.ntmps19
    go_wp2_with fail
    go_ret
    exact ⟨rfl, HB.out _⟩
  by_cases h2 : 1099511627776 < r
  · have d1 : decide (r < 1) = false := decide_eq_false h1
    rw [decide_eq_false (show ¬ (1 ≤ r ∧ r ≤ 1099511627776) by omega), Bool.false_and, if_neg (by simp)]
    clear h1
    go_enter Try.func19, Try.ntmps19
    go_wp2_with fail
    go_ret
    exact ⟨rfl, HB.out _⟩
  have d1 : decide (r < 1) = false := decide_eq_false h1
  have d2 : decide (1099511627776 < r) = false := decide_eq_false h2
  rw [decide_eq_true (show (1 ≤ r ∧ r ≤ 1099511627776) by omega), Bool.true_and]
  clear h1 h2
  go_enter Try.func19, Try.ntmps19
  go_wp2_with fail
  refine (HC.out _).mono ?_
  rintro e w1 ⟨rfl, hb⟩
  have HB := Lib.hid (vbt (HB.out _) hb)
  clear hb
  cases q
  all_goals
    go_wp2_with fail
    go_ret
    exact ⟨rfl, HB.out⟩

theorem rightB_spec {x y r : Int} : rightB x y r = true ↔ ((1 ≤ r ∧ r ≤ 1099511627776) ∧ (-1152921504606846976 ≤ x ∧ x ≤ 1152921504606846976) ∧ (-1152921504606846976 ≤ y ∧ y ≤ 1152921504606846976)) := by
  unfold rightB inB; simp only [Bool.and_eq_true, decide_eq_true_eq]

end Go.Proofs.Ytnffflcfncffpaa

/- The contracts of Gap, Meet and Holds, for every box. -/
import Derived.Test.YtnffflcfncffpaaBGap2
namespace Go.Proofs.Ytnffflcfncffpaa
open Go.RowKit

/-- The error's number, from whether all is right. -/
def errB (ok : Bool) : Int := if ok then 0 else 60
/-- The number that is told if all is right. -/
def numB (ok : Bool) (n : Int) : Int := if ok then n else 0
/-- Are both right? -/
def okB (x y r u v s : Int) : Bool := rightB x y r && rightB u v s
/-- Do two boxes overlap? -/
def meetB (x y r u v s : Int) : Bool := okB x y r u v s && (decide (gapF x u r s < 0) && decide (gapF y v r s < 0))
/-- Does a box hold a point? -/
def holdB (x y r u v : Int) : Bool := rightB x y r && (nearF x u r && nearF y v r)

theorem gap_c (x y r u v s : Int) (w : World) (hx : I64 x) (hy : I64 y) (hu : I64 u) (hv : I64 v) :
    Calls Try.prog 12 #[boxV x y r, boxV u v s] w fun e w' => e = .returned (.tuple #[.int .i64 (numB (okB x y r u v s) (gapF x u r s)), .int .i64 (numB (okB x y r u v s) (gapF y v r s)), .int .i64 (errB (okB x y r u v s))]) ∧ Below w.heap.size w w' := by
  cases h : okB x y r u v s with
  | false => exact gap_bad x y r u v s w hx hy hu hv h
  | true =>
    unfold okB at h
    rw [Bool.and_eq_true] at h
    exact gap_ok x y r u v s w h.1 h.2

theorem meet_c (x y r u v s : Int) (w : World) (hx : I64 x) (hy : I64 y) (hu : I64 u) (hv : I64 v) :
    Calls Try.prog 14 #[boxV x y r, boxV u v s] w fun e w' => e = .returned (.tuple #[.bool (meetB x y r u v s), .int .i64 (errB (okB x y r u v s))]) ∧ Below w.heap.size w w' := by
  have H1 := Lib.hid (fun w => gap_c x y r u v s w hx hy hu hv)
  clear hx hy hu hv
  unfold meetB
  generalize okB x y r u v s = ok at *
  generalize gapF x u r s = p at *
  generalize gapF y v r s = q at *
  unfold numB errB at *
  go_enter Try.func14, Try.ntmps14
  go_wp2_with fail
  refine (H1.out _).mono ?_
  rintro e w1 ⟨rfl, hb⟩
  have HB := Lib.hid (vbt (bel2 w _ _) hb)
  clear hb
  cases ok
  · simp only [Bool.false_eq_true, if_false]
    go_wp2_with fail
    go_ret2
    exact ⟨rfl, HB.out⟩
  · simp only [if_true]
    by_cases hp : p < 0
    · have d1 : decide (p < 0) = true := decide_eq_true hp
      clear hp
      go_wp2_with fail
      go_ret2
      exact ⟨by simp, HB.out⟩
    · have d1 : decide (p < 0) = false := decide_eq_false hp
      clear hp
      go_wp2_with fail
      go_ret2
      exact ⟨by simp, HB.out⟩

theorem holds_c (x y r u v : Int) (w : World) (hx : I64 x) (hy : I64 y) (hu : I64 u) (hv : I64 v) :
    Calls Try.prog 16 #[boxV x y r, vecV u v] w fun e w' => e = .returned (.tuple #[.bool (holdB x y r u v), .int .i64 (errB (rightB x y r))]) ∧ Below w.heap.size w w' := by
  have H1 := Lib.hid (fun w => right_c x y r w hx hy)
  unfold holdB
  unfold errR at *
  by_cases h1 : rightB x y r = true
  · have s1 := rightB_spec.1 h1
    have H2 := Lib.hid (fun w => vnear_c x y u v r w hx hy hu hv (by unfold I64; omega) (by omega))
    clear hx hy hu hv s1
    rw [h1] at H1 ⊢
    rw [if_pos rfl] at H1
    rw [Bool.true_and]
    generalize (nearF x u r && nearF y v r) = p at *
    clear h1
    go_enter Try.func16, Try.ntmps16
    go_wp2_with fail
    refine (H1.out _).mono ?_
    rintro e w1 ⟨rfl, hb⟩
    obtain ⟨k1, k2, hb⟩ := two_blk hb
    have c0 := k1.cell 0
    have c1 := k1.cell 1
    have c2 := k1.cell 2
    have c3 := k2.cell 0
    have c4 := k2.cell 1
    have HB := Lib.hid hb
    clear hb k1 k2
    go_wp2_with fail
    refine (H2.out _).mono ?_
    rintro e w1 ⟨rfl, hb⟩
    have HB := Lib.hid (vbt HB.out hb)
    clear hb c0 c1 c2 c3 c4
    go_wp2_with fail
    go_ret2
    exact ⟨rfl, HB.out⟩
  · rw [if_neg h1] at H1
    rw [Bool.not_eq_true] at h1
    rw [h1, Bool.false_and]
    clear hx hy hu hv h1
    go_enter Try.func16, Try.ntmps16
    go_wp2_with fail
    refine (H1.out _).mono ?_
    rintro e w1 ⟨rfl, hb⟩
    have HB := Lib.hid (vbt (bel2 w _ _) hb)
    clear hb
    go_wp2_with fail
    go_ret2
    exact ⟨rfl, HB.out⟩
end Go.Proofs.Ytnffflcfncffpaa

/- The walk of FixRoots: a root is the one. -/
import Derived.Test.YtebabgonffbdhaaDoorAwake
namespace Go.Proofs.YtebabgonffbdhaaDoor
open Go.RowKit

theorem mul_sq (n : Nat) : mulF (n : Int) (n : Int) = sat ((n * n / 4294967296 : Nat) : Int) := by
  unfold mulF
  have : dif (n : Int) (n : Int) = false := by simp [dif]
  rw [this, Int.natAbs_natCast]
  rfl
theorem rt_low {a n : Nat} (h : IsRt (a * 4294967296) n) (ha : a < 9223372036854775808) : mulF (n : Int) (n : Int) ≤ (a : Int) := by
  rw [mul_sq]
  have h1 := h.1
  generalize n * n = x at *
  rw [sat_id (by omega) (by omega)]
  omega
theorem rt_high {a n : Nat} (h : IsRt (a * 4294967296) n) (ha : a < 9223372036854775808) : (a : Int) ≤ mulF ((n : Int) + 1) ((n : Int) + 1) := by
  rw [show (n : Int) + 1 = ((n + 1 : Nat) : Int) by push_cast; rfl, mul_sq]
  have h1 := h.2
  generalize (n + 1) * (n + 1) = x at *
  unfold sat
  split
  · omega
  · split <;> omega

set_option maxHeartbeats 1000000 in
set_option maxRecDepth 100000 in
theorem roots_walk (a : Int) (w : World) (ht : Tab w) (h1 : -9223372036854775808 ≤ a) (h2 : a < 9223372036854775808) :
    Calls Tryd.prog 6 #[.int .i64 a] w fun e w' => e = .returned (.bool true) ∧ Below w.heap.size w w' := by
  have HT := Lib.hid ht
  clear ht
  by_cases hneg : a < 0
  · have hd : decide (a < 0) = true := decide_eq_true hneg
    go_enter Tryd.func6, Tryd.ntmps6
    go_wp2_with fail
    refine (awake_c w HT.out).mono ?_
    rintro e w1 ⟨rfl, hb⟩
    have HB := Lib.hid hb
    clear hb
    go_wp2_with fail
    refine (sqrt_neg a w1 hneg).mono ?_
    rintro e w2 ⟨rfl, rfl⟩
    go_wp2_with fail
    go_ret
    exact ⟨rfl, HB.out⟩
  · obtain ⟨m, rfl⟩ : ∃ m : Nat, a = (m : Int) := ⟨a.toNat, by omega⟩
    have hm : m < 9223372036854775808 := by omega
    have HM := Lib.hid hm
    clear hneg h1 h2 hm
    go_enter Tryd.func6, Tryd.ntmps6
    go_wp2_with fail
    refine (awake_c w HT.out).mono ?_
    rintro e w1 ⟨rfl, hb⟩
    have HB := Lib.hid hb
    clear hb
    go_wp2_with fail
    refine (sqrt_c m w1 HM.out).mono ?_
    rintro e w2 ⟨⟨n, hn, hl, rfl⟩, rfl⟩
    have r1 := rt_low hn HM.out
    have r2 := rt_high hn HM.out
    have hl' : (n : Int) < 281474976710656 := by omega
    have d1 : decide (mulF (n : Int) (n : Int) ≤ (m : Int)) = true := decide_eq_true r1
    have d2 : decide ((m : Int) ≤ mulF ((n : Int) + 1) ((n : Int) + 1)) = true := decide_eq_true r2
    clear hn r1 r2 hl
    go_wp2_with (go_at_call 20; refine (mul_c _ _ _ (by omega) (by omega) (by omega) (by omega)).mono ?_; rintro e w2 ⟨rfl, rfl⟩)
    go_ret
    exact ⟨rfl, HB.out⟩
end Go.Proofs.YtebabgonffbdhaaDoor

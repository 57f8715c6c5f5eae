/- The walk of FixOrder: reckoning keeps the order. -/
import Derived.Test.YtebabgonffbdhaaDoorAwake
import Derived.Deep.DeepCutAuto
namespace Go.Proofs.YtebabgonffbdhaaDoor
open Go.RowKit

theorem mul_up {x y c : Int} (h : x ≤ y) (hc : 0 ≤ c) : mulF x c ≤ mulF y c := by
  rw [mulF_eq, mulF_eq]
  exact sat_mono (tq_mono (Int.mul_le_mul_of_nonneg_right h hc))
theorem mul_down {x y c : Int} (h : x ≤ y) (hc : c < 0) : mulF y c ≤ mulF x c := by
  rw [mulF_eq, mulF_eq]
  exact sat_mono (tq_mono (Int.mul_le_mul_of_nonpos_right h (by omega)))
theorem mul_turn (a b : Int) : mulF a b = mulF b a := by rw [mulF_eq, mulF_eq, Int.mul_comm]
theorem add_turn (a b : Int) : addF a b = addF b a := by unfold addF; rw [Int.add_comm]
theorem mul_one_ {a : Int} (h1 : -9223372036854775808 ≤ a) (h2 : a < 9223372036854775808) : mulF a 4294967296 = a := by
  rw [mulF_eq]
  have : tq (a * 4294967296) = a := by unfold tq; split <;> omega
  rw [this, sat_id h1 h2]
theorem mul_zero_ (a : Int) : mulF a 0 = 0 := by rw [mulF_eq, Int.mul_zero]; rfl
theorem div_one_ {a : Int} (h1 : -9223372036854775808 ≤ a) (h2 : a < 9223372036854775808) : divF a 4294967296 = a := by
  unfold divF
  have : sg (dif a 4294967296) (a.natAbs * 4294967296 / (4294967296 : Int).natAbs) = a := by
    rw [show (4294967296 : Int).natAbs = 4294967296 from rfl, Nat.mul_div_cancel _ (by omega)]
    unfold sg dif
    by_cases h : a < 0
    · simp [h]; omega
    · simp [h]; omega
  rw [this, sat_id h1 h2]
theorem back_ {a b : Int} (h1 : -9223372036854775808 ≤ a) (h2 : a < 9223372036854775808) (k1 : addF a b ≠ 9223372036854775807) (k2 : addF a b ≠ -9223372036854775808) : subF (addF a b) b = a := by
  unfold addF sat at *
  split at k1
  · omega
  · split at k1
    · omega
    · unfold subF
      rw [if_neg (by omega), if_neg (by omega), sat_id (by omega) (by omega)]
      omega
theorem addF_range (a b : Int) : -9223372036854775808 ≤ addF a b ∧ addF a b < 9223372036854775808 := sat_range _

set_option maxHeartbeats 2000000 in
set_option maxRecDepth 100000 in
theorem order_walk (a b c : Int) (w : World) (ht : Tab w) (h1 : -9223372036854775808 ≤ a) (h2 : a < 9223372036854775808) (h3 : -9223372036854775808 ≤ b) (h4 : b < 9223372036854775808) (h5 : -9223372036854775808 ≤ c) (h6 : c < 9223372036854775808) :
    Calls Tryd.prog 5 #[.int .i64 a, .int .i64 b, .int .i64 c] w fun e w' => e = .returned (.bool true) ∧ Below w.heap.size w w' := by
  have HT := Lib.hid ht
  clear ht
  go_enter Tryd.func5, Tryd.ntmps5
  go_wp2_with fail
  refine (awake_c w HT.out).mono ?_
  rintro e w1 ⟨rfl, hb⟩
  have HB := Lib.hid hb
  clear hb
  have l1 : min a b ≤ max a b := by omega
  have l2 : -9223372036854775808 ≤ min a b := by omega
  have l3 : max a b < 9223372036854775808 := by omega
  go_upto_region 4 with (fail)
  generalize min a b = lo at *
  generalize max a b = hi at *
  have AW : (-9223372036854775808 ≤ lo ∧ lo < 9223372036854775808) ∧ (-9223372036854775808 ≤ hi ∧ hi < 9223372036854775808) := by omega
  obtain ⟨⟨l4, l5⟩, l6, l7⟩ := AW
  go_cut [10] (fun s10 wx => s10 = .bool true ∧ w1 = wx)
  case first =>
    have d1 : decide (addF lo c ≤ addF hi c) = true := decide_eq_true (sat_mono (by omega))
    have d2 : decide (subF lo c ≤ subF hi c) = true := decide_eq_true (sat_mono (by omega))
    have d3 : decide (subF c hi ≤ subF c lo) = true := decide_eq_true (sat_mono (by omega))
    clear l1 l2 l3
    go_wp2_with (first | (go_at_call 16; refine (add_c _ _ _ ‹_› ‹_› ‹_› ‹_›).mono ?_; rintro e w2 ⟨rfl, rfl⟩) | (go_at_call 18; refine (sub_c _ _ _ ‹_› ‹_› ‹_› ‹_›).mono ?_; rintro e w2 ⟨rfl, rfl⟩))
    go_meet
    exact ⟨rfl, rfl⟩
  case rest =>
    obtain ⟨rfl, rfl⟩ := hcut
    go_upto_region 5 with (fail)
    go_cut [11] (fun s11 wx => s11 = .bool true ∧ w1 = wx)
    case first =>
      by_cases hc : c < 0
      · have d1 : decide (mulF hi c ≤ mulF lo c) = true := decide_eq_true (mul_down l1 hc)
        have d0 : decide (c < 0) = true := decide_eq_true hc
        clear l1 l2 l3
        go_wp2_with (go_at_call 20; refine (mul_c _ _ _ ‹_› ‹_› ‹_› ‹_›).mono ?_; rintro e w2 ⟨rfl, rfl⟩)
        go_meet
        exact ⟨rfl, rfl⟩
      · have d1 : decide (mulF lo c ≤ mulF hi c) = true := decide_eq_true (mul_up l1 (by omega))
        have d0 : decide (c < 0) = false := decide_eq_false hc
        have d3 : decide (0 ≤ c) = true := decide_eq_true (by omega)
        clear l1 l2 l3
        go_wp2_with (go_at_call 20; refine (mul_c _ _ _ ‹_› ‹_› ‹_› ‹_›).mono ?_; rintro e w2 ⟨rfl, rfl⟩)
        go_meet
        exact ⟨rfl, rfl⟩
    case rest =>
      obtain ⟨rfl, rfl⟩ := hcut
      clear l1 l2 l3 l4 l5 l6 l7
      go_upto_region 6 with (fail)
      go_cut [12] (fun s12 wx => s12 = .bool true ∧ w1 = wx)
      case first =>
        have d1 : (addF a b == addF b a) = true := by rw [add_turn]; simp
        have d2 : (mulF a b == mulF b a) = true := by rw [mul_turn]; simp
        go_wp2_with (first | (go_at_call 16; refine (add_c _ _ _ ‹_› ‹_› ‹_› ‹_›).mono ?_; rintro e w2 ⟨rfl, rfl⟩) | (go_at_call 20; refine (mul_c _ _ _ ‹_› ‹_› ‹_› ‹_›).mono ?_; rintro e w2 ⟨rfl, rfl⟩))
        go_meet
        exact ⟨rfl, rfl⟩
      case rest =>
        obtain ⟨rfl, rfl⟩ := hcut
        go_upto_region 7 with (fail)
        go_cut [13] (fun s13 wx => s13 = .bool true ∧ w1 = wx)
        case first =>
          have c1 := add_c a 0 w1 h1 h2 (by decide) (by decide)
          have c2 := sub_c a 0 w1 h1 h2 (by decide) (by decide)
          have c3 := mul_c a 4294967296 w1 h1 h2 (by decide) (by decide)
          have c4 := mul_c a 0 w1 h1 h2 (by decide) (by decide)
          rw [show addF a 0 = a by unfold addF; rw [Int.add_zero, sat_id h1 h2]] at c1
          rw [show subF a 0 = a by unfold subF; rw [Int.sub_zero, sat_id h1 h2]] at c2
          rw [mul_one_ h1 h2] at c3
          rw [mul_zero_] at c4
          have C1 := Lib.hid c1
          have C2 := Lib.hid c2
          have C3 := Lib.hid c3
          have C4 := Lib.hid c4
          clear c1 c2 c3 c4
          go_wp2_with (first | (go_at_call 16; refine C1.out.mono ?_; rintro e w2 ⟨rfl, rfl⟩) | (go_at_call 18; refine C2.out.mono ?_; rintro e w2 ⟨rfl, rfl⟩) | (go_at_call 20; first | ((with_reducible refine C3.out.mono ?_); rintro e w2 ⟨rfl, rfl⟩) | ((with_reducible refine C4.out.mono ?_); rintro e w2 ⟨rfl, rfl⟩)))
          go_meet
          exact ⟨rfl, rfl⟩
        case rest =>
          obtain ⟨rfl, rfl⟩ := hcut
          have cd := div_c a 4294967296 w1 h1 h2 (by decide) (by decide) (by decide)
          rw [div_one_ h1 h2] at cd
          have CD := Lib.hid cd
          have bk := back_ (a := a) (b := b) h1 h2
          have ar := addF_range a b
          have CA := Lib.hid (fun v => add_c a b v h1 h2 h3 h4)
          have CS := Lib.hid (fun v => sub_c (addF a b) b v ar.1 ar.2 h3 h4)
          generalize addF a b = S at *
          clear cd
          go_upto_region 9 with (go_at_call 12; refine CD.out.mono ?_; rintro e w2 ⟨rfl, k, rfl⟩)
          generalize hw5 : w1.drewN _ = w5
          have hb5 : Below w.heap.size w w5 := by rw [← hw5]; exact below_draw HB.out _
          have HB5 := Lib.hid hb5
          clear hw5 hb5 CD
          go_upto_region 10 with (go_at_call 16; refine (CA.out _).mono ?_; rintro e w2 ⟨rfl, rfl⟩)
          go_cut [17] (fun s17 wx => s17 = .bool true ∧ w5 = wx)
          case first =>
            by_cases k1 : S = 9223372036854775807
            · subst k1
              go_wp2_with fail
              go_meet
              exact ⟨rfl, rfl⟩
            by_cases k2 : S = -9223372036854775808
            · subst k2
              go_wp2_with fail
              go_meet
              exact ⟨rfl, rfl⟩
            rw [bk k1 k2] at CS
            have d1 : (S == 9223372036854775807) = false := by simpa using k1
            have d2 : (S == -9223372036854775808) = false := by simpa using k2
            clear bk k1 k2 ar
            go_wp2_with (go_at_call 18; refine (CS.out _).mono ?_; rintro e w2 ⟨rfl, rfl⟩)
            go_meet
            exact ⟨rfl, rfl⟩
          case rest =>
            obtain ⟨rfl, rfl⟩ := hcut
            clear bk ar
            go_wp2_with fail
            go_ret
            exact ⟨rfl, HB5.out⟩
end Go.Proofs.YtebabgonffbdhaaDoor

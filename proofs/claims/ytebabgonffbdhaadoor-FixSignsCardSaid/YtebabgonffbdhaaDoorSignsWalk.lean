/- The walk of FixSigns: signs come out of products and quotients. -/
import Derived.Test.YtebabgonffbdhaaDoorAwake
import Derived.Deep.DeepCutAuto
namespace Go.Proofs.YtebabgonffbdhaaDoor
open Go.RowKit

theorem sat_neg {x : Int} (h1 : sat x ≠ 9223372036854775807) (h2 : sat x ≠ -9223372036854775808) : sat (-x) = -sat x := by
  unfold sat at *
  split at h1
  · omega
  · split at h1
    · omega
    · rw [if_neg (by omega), if_neg (by omega), if_neg (by omega), if_neg (by omega)]

theorem mul_signs {a b : Int} (h1 : mulF a b ≠ 9223372036854775807) (h2 : mulF a b ≠ -9223372036854775808) :
    mulF (-a) b = -mulF a b ∧ mulF a (-b) = -mulF a b ∧ mulF (-a) (-b) = mulF a b := by
  rw [mulF_eq, mulF_eq, mulF_eq, mulF_eq]
  rw [mulF_eq] at h1 h2
  rw [Int.neg_mul, Int.mul_neg, Int.neg_mul_neg, tq_neg]
  exact ⟨sat_neg h1 h2, sat_neg h1 h2, rfl⟩

theorem sg_not (d : Bool) (n : Nat) : sg (!d) n = -sg d n := by cases d <;> simp [sg]

theorem div_neg_left (a b : Int) : divF (-a) b = sat (-sg (dif a b) (a.natAbs * 4294967296 / b.natAbs)) := by
  unfold divF
  rw [Int.natAbs_neg]
  by_cases ha : a = 0
  · subst ha; simp [sg]
  · have : dif (-a) b = !dif a b := by
      unfold dif
      by_cases h1 : a < 0 <;> by_cases h2 : b < 0
      all_goals (simp [h1, h2]; omega)
    rw [this, sg_not]
theorem div_neg_right (a b : Int) (hb : b ≠ 0) : divF a (-b) = sat (-sg (dif a b) (a.natAbs * 4294967296 / b.natAbs)) := by
  unfold divF
  rw [Int.natAbs_neg]
  have : dif a (-b) = !dif a b := by
    unfold dif
    by_cases h1 : a < 0 <;> by_cases h2 : b < 0
    all_goals (simp [h1, h2]; omega)
  rw [this, sg_not]
theorem div_signs {a b : Int} (hb : b ≠ 0) (h1 : divF a b ≠ 9223372036854775807) (h2 : divF a b ≠ -9223372036854775808) : divF (-a) b = -divF a b ∧ divF a (-b) = -divF a b := by
  rw [div_neg_left a b, div_neg_right a b hb]
  unfold divF at *
  exact ⟨sat_neg h1 h2, sat_neg h1 h2⟩
theorem sub_add (a b : Int) : subF a b = addF a (-b) := by unfold subF addF; rw [Int.sub_eq_add_neg]
theorem divF_range (a b : Int) : -9223372036854775808 ≤ divF a b ∧ divF a b < 9223372036854775808 := sat_range _
theorem mulF_range (a b : Int) : -9223372036854775808 ≤ mulF a b ∧ mulF a b < 9223372036854775808 := sat_range _

set_option maxHeartbeats 1000000 in
set_option maxRecDepth 100000 in
theorem signs_walk (a b : Int) (w : World) (ht : Tab w) (h1 : -9223372036854775808 ≤ a) (h2 : a < 9223372036854775808) (h3 : -9223372036854775808 ≤ b) (h4 : b < 9223372036854775808) :
    Calls Tryd.prog 9 #[.int .i64 a, .int .i64 b] w fun e w' => e = .returned (.bool true) ∧ Below w.heap.size w w' := by
  have HT := Lib.hid ht
  clear ht
  go_enter Tryd.func9, Tryd.ntmps9
  go_wp2_with fail
  refine (awake_c w HT.out).mono ?_
  rintro e w1 ⟨rfl, hb⟩
  have HB := Lib.hid hb
  clear hb
  by_cases ca : a = -9223372036854775808
  · subst ca
    go_wp2_with fail
    go_ret
    exact ⟨rfl, HB.out⟩
  have ca' : (a == -9223372036854775808) = false := by simpa using ca
  by_cases cb : b = -9223372036854775808
  · subst cb
    go_wp2_with fail
    go_ret
    exact ⟨rfl, HB.out⟩
  have cb' : (b == -9223372036854775808) = false := by simpa using cb
  have a1 : -9223372036854775807 ≤ a := by omega
  have b1 : -9223372036854775807 ≤ b := by omega
  have ms := mul_signs (a := a) (b := b)
  have mr := mulF_range a b
  have CM := Lib.hid (mul_c a b w1 h1 h2 h3 h4)
  have C1 := Lib.hid (mul_c (-a) b w1 (by omega) (by omega) h3 h4)
  have C2 := Lib.hid (mul_c a (-b) w1 h1 h2 (by omega) (by omega))
  have C3 := Lib.hid (mul_c (-a) (-b) w1 (by omega) (by omega) (by omega) (by omega))
  clear ca cb
  go_upto_region 4 with (fail)
  generalize mulF a b = m at *
  go_upto_region 5 with (go_at_call 20; refine CM.out.mono ?_; rintro e w2 ⟨rfl, rfl⟩)
  go_cut [60] (fun s60 wx => s60 = .bool false ∧ w1 = wx)
  case first =>
    by_cases c1 : m = 9223372036854775807
    · subst c1
      go_wp2_with fail
      go_meet
      exact ⟨rfl, rfl⟩
    by_cases c2 : m = -9223372036854775808
    · subst c2
      go_wp2_with fail
      go_meet
      exact ⟨rfl, rfl⟩
    obtain ⟨m1, m2, m3⟩ := ms c1 c2
    have d1 : (m != 9223372036854775807) = true := by simpa using c1
    have d2 : (m != -9223372036854775808) = true := by simpa using c2
    have r1 : -9223372036854775807 ≤ m := by omega
    have r2 : m ≤ 9223372036854775807 := by omega
    rw [m1] at C1
    rw [m2] at C2
    rw [m3] at C3
    clear ms m1 m2 m3 c1 c2 mr
    go_wp2_with (go_at_call 20; first | ((with_reducible refine C1.out.mono ?_); rintro e w2 ⟨rfl, rfl⟩) | ((with_reducible refine C2.out.mono ?_); rintro e w2 ⟨rfl, rfl⟩) | ((with_reducible refine C3.out.mono ?_); rintro e w2 ⟨rfl, rfl⟩))
    go_meet
    exact ⟨rfl, rfl⟩
  case rest =>
    obtain ⟨rfl, rfl⟩ := hcut
    clear ms mr CM C1 C2 C3
    have E1 := Lib.hid (fun v => sub_c a b v h1 h2 h3 h4)
    have E2 := Lib.hid (fun v => add_c a (-b) v h1 h2 (by omega) (by omega))
    have hsa := sub_add a b
    rw [hsa] at E1
    generalize addF a (-b) = z at *
    clear hsa
    by_cases hb0 : b = 0
    · subst hb0
      have D1 := Lib.hid (fun v => div_zero a v)
      have D2 := Lib.hid (fun v => div_zero (-a) v)
      go_upto_region 10 with (go_at_call 12; first | ((with_reducible refine (D1.out _).mono ?_); rintro e w2 ⟨rfl, k, rfl⟩) | ((with_reducible refine (D2.out _).mono ?_); rintro e w2 ⟨rfl, k, rfl⟩))
      rw [Int.neg_zero] at E2
      go_wp2_with (first | (go_at_call 18; refine (E1.out _).mono ?_; rintro e w2 ⟨rfl, rfl⟩) | (go_at_call 16; refine (E2.out _).mono ?_; rintro e w2 ⟨rfl, rfl⟩))
      go_ret
      exact ⟨rfl, below_draw HB.out _⟩
    · have ds := div_signs (a := a) (b := b) hb0
      have dr := divF_range a b
      have D1 := Lib.hid (fun v => div_c a b v h1 h2 h3 h4 hb0)
      have D2 := Lib.hid (fun v => div_c (-a) b v (by omega) (by omega) h3 h4 hb0)
      have D3 := Lib.hid (fun v => div_c a (-b) v h1 h2 (by omega) (by omega) (by omega))
      generalize divF a b = q at *
      generalize divF (-a) b = r at *
      generalize divF a (-b) = s at *
      have hbb : (b == 0) = false := by simpa using hb0
      clear hb0
      go_upto_region 10 with (go_at_call 12; first | ((with_reducible refine (D1.out _).mono ?_); rintro e w2 ⟨rfl, k, rfl⟩) | ((with_reducible refine (D2.out _).mono ?_); rintro e w2 ⟨rfl, k, rfl⟩) | ((with_reducible refine (D3.out _).mono ?_); rintro e w2 ⟨rfl, k, rfl⟩))
      go_upto_region 12 with (fail)
      generalize hw5 : w1.drewN _ = w5
      have hb5 : Below w.heap.size w w5 := by rw [← hw5]; exact below_draw HB.out _
      have HB5 := Lib.hid hb5
      clear hw5 hb5 D1 D2 D3
      go_cut [106] (fun s106 wx => s106 = .bool false ∧ w5 = wx)
      case first =>
        by_cases c1 : q = 9223372036854775807
        · subst c1
          go_wp2_with fail
          go_meet
          exact ⟨rfl, rfl⟩
        by_cases c2 : q = -9223372036854775808
        · subst c2
          go_wp2_with fail
          go_meet
          exact ⟨rfl, rfl⟩
        obtain ⟨q1, q2⟩ := ds c1 c2
        have d1 : (q != 9223372036854775807) = true := by simpa using c1
        have d2 : (q != -9223372036854775808) = true := by simpa using c2
        have r1 : -9223372036854775807 ≤ q := by omega
        have r2 : q ≤ 9223372036854775807 := by omega
        subst q1 q2
        clear ds c1 c2 dr
        go_wp2_with fail
        go_meet
        exact ⟨rfl, rfl⟩
      case rest =>
        obtain ⟨rfl, rfl⟩ := hcut
        clear ds dr
        go_wp2_with (first | (go_at_call 18; refine (E1.out _).mono ?_; rintro e w2 ⟨rfl, rfl⟩) | (go_at_call 16; refine (E2.out _).mono ?_; rintro e w2 ⟨rfl, rfl⟩))
        go_ret
        exact ⟨rfl, HB5.out⟩
end Go.Proofs.YtebabgonffbdhaaDoor

/- The contract of the library's Div64: the quotient of 128 bits by 64, and the rest. -/
import Derived.Test.YtebabgonffbdhaaDoorDivP
import Derived.Test.YtebabgonffbdhaaDoorSm
import Derived.Test.YtebabgonffbdhaaDoorShelf
import Derived.Laws.Bits64b
import Derived.Deep.DeepCutAuto
import Derived.Deep.CutBlock
import Derived.Deep.QuietTactic
import Derived.BigQuiet
namespace Go.Proofs.YtebabgonffbdhaaDoor
open Go.RowKit

theorem div64_0 (lo y : Nat) (w : World) (h1 : lo < 18446744073709551616) (h2 : 0 < y) (h3 : y < 18446744073709551616) :
    Calls Tryd.prog 33 #[.int .u64 0, .int .u64 (lo : Int), .int .u64 (y : Int)] w fun e w' => e = .returned (.tuple #[.int .u64 ((lo / y : Nat) : Int), .int .u64 ((lo % y : Nat) : Int)]) ∧ ∃ n, w' = w.drewN n := by
  have hb : ((y : Int) == 0) = false := by simp; omega
  have hc : decide ((y : Int) ≤ 0) = false := by simp; omega
  have hy0 : (0 : Int) < (y : Int) := by omega
  have hyn : ¬ y = 0 := by omega
  have hle : lo / y ≤ lo := Nat.div_le_self _ _
  obtain ⟨q, hq⟩ : ∃ q, q = lo / y := ⟨_, rfl⟩
  rw [← hq] at hle ⊢
  have eq : (lo : Int) / (y : Int) = (q : Int) := by rw [hq]; push_cast; rfl
  clear hq
  go_enter Tryd.func33, Tryd.ntmps33
  go_wp2_with fail
  go_quiet (fail)
  go_wp2_with fail
  go_ret2
  exact ⟨rfl, _, rfl⟩

theorem and_low (Y : Nat) (h : Y < 18446744073709551616) : bits .and .u64 (Y : Int) 4294967295 = ((Y % 4294967296 : Nat) : Int) := by
  have h := bits_and_u64_nat Y 4294967295 h (by omega)
  rw [show Y &&& 4294967295 = Y % 4294967296 from Nat.and_two_pow_sub_one_eq_mod Y 32] at h
  exact h

/-- The numerator, shifted. -/
theorem shift_plain (hi lo y P R : Nat) (hP : 0 < P) (hR : 0 < R) (hPR : R * P = 18446744073709551616) (h1 : lo < 18446744073709551616) (h2 : hi < y) :
    lo / R < P ∧ hi * P + lo / R < y * P ∧ (hi * 18446744073709551616 + lo) * P = (hi * P + lo / R) * 18446744073709551616 + lo * P % 18446744073709551616 := by
  have hlo : lo / R < P := by
    rw [Nat.div_lt_iff_lt_mul hR, Nat.mul_comm, hPR]
    exact h1
  have hle : (hi + 1) * P ≤ y * P := Nat.mul_le_mul_right _ h2
  rw [Nat.add_mul, Nat.one_mul] at hle
  refine ⟨hlo, by omega, ?_⟩
  have hd : lo * P / 18446744073709551616 = lo / R := by
    rw [← hPR, Nat.mul_div_mul_right _ _ hP]
  have := Nat.div_add_mod (lo * P) 18446744073709551616
  rw [hd] at this
  rw [Nat.add_mul, Nat.mul_right_comm hi 18446744073709551616, Nat.add_mul]
  omega

theorem shift_num (hi lo y s : Nat) (hs : s ≤ 63) (h1 : lo < 18446744073709551616) (h2 : hi < y) (h3 : y * 2 ^ s < 18446744073709551616) :
    bits .or .u64 (IntKind.u64.wrap ((hi : Int) * 2 ^ s)) ((lo : Int) / 2 ^ (64 - s)) = ((hi * 2 ^ s + lo / 2 ^ (64 - s) : Nat) : Int) ∧ IntKind.u64.wrap ((lo : Int) * 2 ^ s) = ((lo * 2 ^ s % 18446744073709551616 : Nat) : Int) ∧ hi * 2 ^ s + lo / 2 ^ (64 - s) < y * 2 ^ s ∧
    (hi * 18446744073709551616 + lo) * 2 ^ s = (hi * 2 ^ s + lo / 2 ^ (64 - s)) * 18446744073709551616 + lo * 2 ^ s % 18446744073709551616 ∧ IntKind.u64.wrap ((y : Int) * 2 ^ s) = ((y * 2 ^ s : Nat) : Int) := by
  have e64 : (2 : Int) ^ 64 = 18446744073709551616 := by decide
  have n64 : (2 : Nat) ^ 64 = 18446744073709551616 := by decide
  have iP : (2 : Int) ^ s = ((2 ^ s : Nat) : Int) := by push_cast; rfl
  have iR : (2 : Int) ^ (64 - s) = ((2 ^ (64 - s) : Nat) : Int) := by push_cast; rfl
  have hPR : 2 ^ (64 - s) * 2 ^ s = 18446744073709551616 := by rw [← Nat.pow_add, show 64 - s + s = 64 by omega, n64]
  have hP := Nat.two_pow_pos s
  have hR := Nat.two_pow_pos (64 - s)
  have hj : ∀ x z : Int, 0 ≤ x → x % 2 ^ s = 0 → x < 2 ^ 64 → 0 ≤ z → z < 2 ^ s → z < 2 ^ 64 → bits .or .u64 x z = x + z :=
    bits_join .u64 64 (by decide) (fun n h0 h1 => by rw [e64] at h1; rw [IntKind.wrap_u64]; omega) s
  rw [iP, e64] at hj
  rw [iP, iR]
  generalize 2 ^ s = P at *
  generalize 2 ^ (64 - s) = R at *
  obtain ⟨ha, hb, hc⟩ := shift_plain hi lo y P R hP hR hPR h1 h2
  have m1 : (hi : Int) * (P : Int) = ((hi * P : Nat) : Int) := by push_cast; rfl
  have m2 : (lo : Int) * (P : Int) = ((lo * P : Nat) : Int) := by push_cast; rfl
  have m3 : (y : Int) * (P : Int) = ((y * P : Nat) : Int) := by push_cast; rfl
  have m4 : (lo : Int) / (R : Int) = ((lo / R : Nat) : Int) := by push_cast; rfl
  have hle : hi * P ≤ y * P := Nat.mul_le_mul_right _ (by omega)
  have hz : ((hi * P : Nat) : Int) % (P : Int) = 0 := by push_cast; exact Int.mul_emod_left _ _
  rw [m1, m2, m3, m4]
  generalize hi * P = A at *
  generalize lo * P = C at *
  generalize y * P = E at *
  generalize lo / R = F at *
  have hw : IntKind.u64.wrap (A : Int) = (A : Int) := by rw [IntKind.wrap_u64]; omega
  refine ⟨?_, by rw [IntKind.wrap_u64]; omega, hb, hc, by rw [IntKind.wrap_u64]; omega⟩
  rw [hw, hj _ _ (by omega) hz (by omega) (by omega) (by omega) (by omega)]
  omega

set_option maxRecDepth 100000 in
set_option maxHeartbeats 1000000 in
theorem div64_c (hi lo y : Nat) (w : World) (h0 : 0 < hi) (h1 : lo < 18446744073709551616) (h2 : hi < y) (h3 : y < 18446744073709551616) :
    Calls Tryd.prog 33 #[.int .u64 (hi : Int), .int .u64 (lo : Int), .int .u64 (y : Int)] w fun e w' => e = .returned (.tuple #[.int .u64 (((hi * 18446744073709551616 + lo) / y : Nat) : Int), .int .u64 (((hi * 18446744073709551616 + lo) % y : Nat) : Int)]) ∧ w = w' := by
  have hb : ((y : Int) == 0) = false := by simp; omega
  have hc : decide (y ≤ hi) = false := by simp; omega
  have hd : ((hi : Int) == 0) = false := by simp; omega
  obtain ⟨s, hs, es, hn1, hn2⟩ := norm_of y (by omega) h3
  have cz := Tryd.bits_LeadingZeros64 (y : Int) w (by omega) (by omega)
  rw [Int.toNat_natCast, es] at cz
  have HC := Lib.hid cz
  clear cz es
  obtain ⟨e2, e3, hU, hnum, e1⟩ := shift_num hi lo y s hs h1 h2 hn2
  have hdiv : (hi * 18446744073709551616 + lo) / y = (hi * 18446744073709551616 + lo) * 2 ^ s / (y * 2 ^ s) := (Nat.mul_div_mul_right _ _ (Nat.two_pow_pos _)).symm
  have hmod : (hi * 18446744073709551616 + lo) % y * 2 ^ s = (hi * 18446744073709551616 + lo) * 2 ^ s % (y * 2 ^ s) := (Nat.mul_mod_mul_right _ _ _).symm
  rw [hnum] at hdiv hmod
  have hV : lo * 2 ^ s % 18446744073709551616 < 18446744073709551616 := Nat.mod_lt _ (by omega)
  generalize hi * 2 ^ s + lo / 2 ^ (64 - s) = U at e2 hU hdiv hmod
  generalize lo * 2 ^ s % 18446744073709551616 = V at e3 hV hdiv hmod
  generalize y * 2 ^ s = Y at e1 hn1 hn2 hU hdiv hmod
  clear hnum
  obtain ⟨y1, hy1⟩ : ∃ y1, y1 = Y / 4294967296 := ⟨_, rfl⟩
  obtain ⟨y0, hy0⟩ : ∃ y0, y0 = Y % 4294967296 := ⟨_, rfl⟩
  obtain ⟨v1, hv1⟩ : ∃ v1, v1 = V / 4294967296 := ⟨_, rfl⟩
  obtain ⟨v0, hv0⟩ : ∃ v0, v0 = V % 4294967296 := ⟨_, rfl⟩
  have hYY : Y = y1 * 4294967296 + y0 := by omega
  have hVV : V = v1 * 4294967296 + v0 := by omega
  have D1 : Dv y1 y0 U v1 := ⟨by omega, by omega, by omega, by omega, by omega⟩
  have e4 : (Y : Int) / 4294967296 = (y1 : Int) := by omega
  have e5 : bits .and .u64 (Y : Int) 4294967295 = (y0 : Int) := by rw [and_low Y hn2, hy0]
  have e6 : (V : Int) / 4294967296 = (v1 : Int) := by omega
  have e7 : bits .and .u64 (V : Int) 4294967295 = (v0 : Int) := by rw [and_low V hV, hv0]
  have b1 : y1 < 4294967296 := D1.h2
  have b2 : y0 < 4294967296 := D1.h3
  have b3 : v1 < 4294967296 := D1.h5
  have b4 : v0 < 4294967296 := by omega
  have b5 : (2147483648 : Int) ≤ (y1 : Int) := by have := D1.h1; omega
  have HYY := Lib.hid hYY
  have HVV := Lib.hid hVV
  have HDI := Lib.hid hdiv
  have HMO := Lib.hid hmod
  have HD1 := Lib.hid D1
  have HU := Lib.hid hU
  clear hy1 hy0 hv1 hv0 hYY hVV hdiv hmod D1 hU
  go_enter Tryd.func33, Tryd.ntmps33
  go_upto_region 15 with (go_at_call 48; refine HC.out.mono ?_; rintro e w' ⟨rfl, rfl⟩)
  clear e1 e2 e3 e4 e5 e6 e7
  obtain ⟨q, hq⟩ : ∃ q, q = U / y1 := ⟨_, rfl⟩
  obtain ⟨r, hr⟩ : ∃ r, r = U % y1 := ⟨_, rfl⟩
  obtain ⟨m, hm⟩ : ∃ m, m = q * y1 := ⟨_, rfl⟩
  have hUU : U = m + r := by rw [hm, hq, hr, Nat.mul_comm]; exact (Nat.div_add_mod _ _).symm
  have hU2 : U < 18446744073709551616 := by have := HU.out; omega
  have e8 : (U : Int) / (y1 : Int) = (q : Int) := by rw [hq]; push_cast; rfl
  have e9 : IntKind.u64.wrap ((q : Int) * (y1 : Int)) = (m : Int) := by
    rw [show (q : Int) * (y1 : Int) = ((q * y1 : Nat) : Int) by push_cast; rfl, ← hm, IntKind.wrap_u64]; omega
  have e10 : (U : Int) - (m : Int) = (r : Int) := by omega
  have b6 : (m : Int) ≤ (U : Int) := by omega
  have b7 : r < y1 := by rw [hr]; exact Nat.mod_lt _ (by omega)
  have b8 : q ≤ 4294967297 := by rw [hq]; exact guess_le HD1.out
  have HQ := Lib.hid (show dq y1 y0 U v1 ≤ q by rw [hq]; exact dq_guess HD1.out)
  have HM := Lib.hid (show U = q * y1 + r by rw [← hm]; exact hUU)
  clear hq hr hm hUU
  go_upto_block 0 with (fail)
  clear e8 e9 e10 b6
  have b9 := dq_lt HD1.out
  go_cut [15, 16] (fun s15 s16 wx => s15 = .int .u64 ((dq y1 y0 U v1 : Nat) : Int) ∧ (∃ x : Nat, s16 = .int .u64 (x : Int)) ∧ w' = wx)
  case first =>
    have HT := Lib.hid (fun qh rh h => dq_test (qh := qh) (rh := rh) HD1.out h)
    have HB := Lib.hid (fun qh rh h => dq_break (qh := qh) (rh := rh) HD1.out h)
    generalize dq y1 y0 U v1 = q1 at *
    go_wp2_with fail
    go_loop [15, 16] (fun s15 s16 => ∃ qh rh : Nat, s15 = .int .u64 (qh : Int) ∧ s16 = .int .u64 (rh : Int) ∧ U = qh * y1 + rh ∧ rh < 4294967296 ∧ q1 ≤ qh ∧ qh ≤ 4294967297) (fun _ s16 => 4294967296 - (intOf s16).toNat)
    case atStart => exact ⟨q, r, rfl, rfl, HM.out, by omega, HQ.out, b8⟩
    case round =>
      obtain ⟨qh, rh, rfl, rfl, hu, hr, hq, hq2⟩ := hrel
      have hu2 := Lib.hid hu
      have ht := HT.out qh rh hu
      by_cases hlt : q1 < qh
      · have hge : 1 ≤ qh := by omega
        have hdec : U = (qh - 1) * y1 + (rh + y1) := by
          obtain ⟨k, rfl⟩ : ∃ k, qh = k + 1 := ⟨qh - 1, by omega⟩
          rw [hu, Nat.add_mul, Nat.add_sub_cancel]
          omega
        have HDEC := Lib.hid hdec
        have hval : ∃ P : Nat, IntKind.u64.wrap ((qh : Int) * (y0 : Int)) = (P : Int) ∧ (qh < 4294967296 → 4294967296 * rh + v1 < P) := by
          refine ⟨qh * y0 % 18446744073709551616, by rw [show (qh : Int) * (y0 : Int) = ((qh * y0 : Nat) : Int) by push_cast; rfl, IntKind.wrap_u64]; omega, fun hc => ?_⟩
          have : qh * y0 ≤ 4294967295 * 4294967295 := Nat.mul_le_mul (by omega) (by omega)
          have := ht.2 hlt
          rw [Nat.mod_eq_of_lt (by omega)]
          exact this
        obtain ⟨P, e11, hP⟩ := hval
        have HP := Lib.hid hP
        clear hu ht hdec hP
        by_cases hbr : rh + y1 < 4294967296
        · have hbi : decide (4294967296 ≤ (rh : Int) + (y1 : Int)) = false := decide_eq_false (by omega)
          have HBR := Lib.hid hbr
          clear hbr
          by_cases hbig : qh < 4294967296
          · have hlti : 4294967296 * (rh : Int) + (v1 : Int) < (P : Int) := by have := HP.out hbig; omega
            have hbigi : (qh : Int) < 4294967296 := by omega
            go_wp2_with fail
            go_round
            case rel => exact ⟨qh - 1, rh + y1, by go_num, by go_num, HDEC.out, HBR.out, by omega, by omega⟩
            case measure => simp [intOf]; omega
          · have hbigi : (4294967296 : Int) ≤ (qh : Int) := by omega
            go_wp2_with fail
            go_round
            case rel => exact ⟨qh - 1, rh + y1, by go_num, by go_num, HDEC.out, HBR.out, by omega, by omega⟩
            case measure => simp [intOf]; omega
        · have hbi : 4294967296 ≤ (rh : Int) + (y1 : Int) := by omega
          have hfin : qh - 1 = q1 := by have := HB.out (qh - 1) (rh + y1) HDEC.out (by omega) (by omega); omega
          have HFI := Lib.hid hfin
          clear hfin
          by_cases hbig : qh < 4294967296
          · have hlti : 4294967296 * (rh : Int) + (v1 : Int) < (P : Int) := by have := HP.out hbig; omega
            have hbigi : (qh : Int) < 4294967296 := by omega
            go_wp2_with fail
            go_meet
            exact ⟨by rw [← HFI.out]; go_num, ⟨rh + y1, by go_num⟩, rfl⟩
          · have hbigi : (4294967296 : Int) ≤ (qh : Int) := by omega
            go_wp2_with fail
            go_meet
            exact ⟨by rw [← HFI.out]; go_num, ⟨rh + y1, by go_num⟩, rfl⟩
      · obtain rfl : qh = q1 := by omega
        have hbb : decide ((4294967296 : Int) ≤ (qh : Int)) = false := decide_eq_false (by omega)
        have hle : qh * y0 ≤ 4294967296 * rh + v1 := Nat.le_of_not_lt fun h => hlt (ht.1 h)
        obtain ⟨P, hP⟩ : ∃ P, P = qh * y0 := ⟨_, rfl⟩
        have e11 : IntKind.u64.wrap ((qh : Int) * (y0 : Int)) = (P : Int) := by
          rw [show (qh : Int) * (y0 : Int) = ((qh * y0 : Nat) : Int) by push_cast; rfl, IntKind.wrap_u64]; omega
        obtain ⟨L, hL⟩ : ∃ L, L = 4294967296 * rh + v1 := ⟨_, rfl⟩
        have e12 : 4294967296 * (rh : Int) + (v1 : Int) = (L : Int) := by omega
        have hlti : decide (L < P) = false := decide_eq_false (by omega)
        clear hu ht hlt hle hP hq hq2 hL b9
        go_wp2_with fail
        go_meet
        exact ⟨rfl, ⟨rh, rfl⟩, rfl⟩
  case rest =>
    obtain ⟨rfl, ⟨x, rfl⟩, rfl⟩ := hcut
    obtain ⟨hn, hle1⟩ := dq_rest (y1 := y1) (y0 := y0) (u := U) (v := v1)
    rw [← HYY.out] at hn hle1
    obtain ⟨q1, hq1⟩ : ∃ q1, q1 = dq y1 y0 U v1 := ⟨_, rfl⟩
    rw [← hq1] at hn hle1 b9 ⊢
    have hY0 : 0 < Y := by omega
    have hn1Y : (U * 4294967296 + v1) % Y < Y := Nat.mod_lt _ hY0
    obtain ⟨n1, hn1'⟩ : ∃ n1, n1 = (U * 4294967296 + v1) % Y := ⟨_, rfl⟩
    rw [← hn1'] at hn hn1Y
    obtain ⟨M, hM⟩ : ∃ M, M = q1 * Y := ⟨_, rfl⟩
    rw [← hM] at hn hle1
    obtain ⟨A1, hA1⟩ : ∃ A1, A1 = U * 4294967296 % 18446744073709551616 := ⟨_, rfl⟩
    obtain ⟨A2, hA2⟩ : ∃ A2, A2 = (U * 4294967296 + v1) % 18446744073709551616 := ⟨_, rfl⟩
    obtain ⟨A3, hA3⟩ : ∃ A3, A3 = M % 18446744073709551616 := ⟨_, rfl⟩
    have e13 : IntKind.u64.wrap ((U : Int) * 4294967296) = (A1 : Int) := by rw [IntKind.wrap_u64]; omega
    have e14 : IntKind.u64.wrap ((A1 : Int) + (v1 : Int)) = (A2 : Int) := by rw [IntKind.wrap_u64]; omega
    have e15 : IntKind.u64.wrap ((q1 : Int) * (Y : Int)) = (A3 : Int) := by
      rw [show (q1 : Int) * (Y : Int) = ((q1 * Y : Nat) : Int) by push_cast; rfl, ← hM, IntKind.wrap_u64]; omega
    have e16 : IntKind.u64.wrap ((A2 : Int) - (A3 : Int)) = (n1 : Int) := by rw [IntKind.wrap_u64]; omega
    have D2 : Dv y1 y0 n1 v0 := ⟨HD1.out.h1, HD1.out.h2, HD1.out.h3, by rw [← HYY.out]; exact hn1Y, b4⟩
    have HD2 := Lib.hid D2
    obtain ⟨q', hq'⟩ : ∃ q, q = n1 / y1 := ⟨_, rfl⟩
    obtain ⟨r', hr'⟩ : ∃ r, r = n1 % y1 := ⟨_, rfl⟩
    obtain ⟨m', hm'⟩ : ∃ m, m = q' * y1 := ⟨_, rfl⟩
    have hUU : n1 = m' + r' := by rw [hm', hq', hr', Nat.mul_comm]; exact (Nat.div_add_mod _ _).symm
    have e8 : (n1 : Int) / (y1 : Int) = (q' : Int) := by rw [hq']; push_cast; rfl
    have e9 : IntKind.u64.wrap ((q' : Int) * (y1 : Int)) = (m' : Int) := by
      rw [show (q' : Int) * (y1 : Int) = ((q' * y1 : Nat) : Int) by push_cast; rfl, ← hm', IntKind.wrap_u64]; omega
    have e10 : (n1 : Int) - (m' : Int) = (r' : Int) := by omega
    have c6 : (m' : Int) ≤ (n1 : Int) := by omega
    have c7 : r' < y1 := by rw [hr']; exact Nat.mod_lt _ (by omega)
    have c8 : q' ≤ 4294967297 := by rw [hq']; exact guess_le D2
    have HQ2 := Lib.hid (show dq y1 y0 n1 v0 ≤ q' by rw [hq']; exact dq_guess D2)
    have HM2 := Lib.hid (show n1 = q' * y1 + r' by rw [← hm']; exact hUU)
    have HN1 := Lib.hid hn1'
    have HQ1 := Lib.hid hq1
    have HB9 := Lib.hid b9
    have HNY := Lib.hid hn1Y
    have hn64 : (n1 : Int) < 18446744073709551616 := by omega
    clear hq' hr' hm' hUU hn hle1 hM hn1' hq1 b9 D2 hA1 hA2 hA3 hn1Y
    go_upto_block 2 with (fail)
    clear e8 e9 e10 e13 e14 e15 e16 c6
    have b9 := dq_lt HD2.out
    go_cut [18, 16] (fun s18 s16 wx => s18 = .int .u64 ((dq y1 y0 n1 v0 : Nat) : Int) ∧ (∃ x : Nat, s16 = .int .u64 (x : Int)) ∧ w' = wx)
    case first =>
      have HT := Lib.hid (fun qh rh h => dq_test (qh := qh) (rh := rh) HD2.out h)
      have HB := Lib.hid (fun qh rh h => dq_break (qh := qh) (rh := rh) HD2.out h)
      generalize dq y1 y0 n1 v0 = q0 at *
      go_wp2_with fail
      go_loop [18, 16] (fun s18 s16 => ∃ qh rh : Nat, s18 = .int .u64 (qh : Int) ∧ s16 = .int .u64 (rh : Int) ∧ n1 = qh * y1 + rh ∧ rh < 4294967296 ∧ q0 ≤ qh ∧ qh ≤ 4294967297) (fun _ s16 => 4294967296 - (intOf s16).toNat)
      case atStart => exact ⟨q', r', rfl, rfl, HM2.out, by omega, HQ2.out, c8⟩
      case round =>
        obtain ⟨qh, rh, rfl, rfl, hu, hr, hq, hq2⟩ := hrel
        have hu2 := Lib.hid hu
        have ht := HT.out qh rh hu
        by_cases hlt : q0 < qh
        · have hge : 1 ≤ qh := by omega
          have hdec : n1 = (qh - 1) * y1 + (rh + y1) := by
            obtain ⟨k, rfl⟩ : ∃ k, qh = k + 1 := ⟨qh - 1, by omega⟩
            rw [hu, Nat.add_mul, Nat.add_sub_cancel]
            omega
          have HDEC := Lib.hid hdec
          have hval : ∃ P : Nat, IntKind.u64.wrap ((qh : Int) * (y0 : Int)) = (P : Int) ∧ (qh < 4294967296 → 4294967296 * rh + v0 < P) := by
            refine ⟨qh * y0 % 18446744073709551616, by rw [show (qh : Int) * (y0 : Int) = ((qh * y0 : Nat) : Int) by push_cast; rfl, IntKind.wrap_u64]; omega, fun hc => ?_⟩
            have : qh * y0 ≤ 4294967295 * 4294967295 := Nat.mul_le_mul (by omega) (by omega)
            have := ht.2 hlt
            rw [Nat.mod_eq_of_lt (by omega)]
            exact this
          obtain ⟨P, e11, hP⟩ := hval
          have HP := Lib.hid hP
          clear hu ht hdec hP
          by_cases hbr : rh + y1 < 4294967296
          · have hbi : decide (4294967296 ≤ (rh : Int) + (y1 : Int)) = false := decide_eq_false (by omega)
            have HBR := Lib.hid hbr
            clear hbr
            by_cases hbig : qh < 4294967296
            · have hlti : 4294967296 * (rh : Int) + (v0 : Int) < (P : Int) := by have := HP.out hbig; omega
              have hbigi : (qh : Int) < 4294967296 := by omega
              go_wp2_with fail
              go_round
              case rel => exact ⟨qh - 1, rh + y1, by go_num, by go_num, HDEC.out, HBR.out, by omega, by omega⟩
              case measure => simp [intOf]; omega
            · have hbigi : (4294967296 : Int) ≤ (qh : Int) := by omega
              go_wp2_with fail
              go_round
              case rel => exact ⟨qh - 1, rh + y1, by go_num, by go_num, HDEC.out, HBR.out, by omega, by omega⟩
              case measure => simp [intOf]; omega
          · have hbi : 4294967296 ≤ (rh : Int) + (y1 : Int) := by omega
            have hfin : qh - 1 = q0 := by have := HB.out (qh - 1) (rh + y1) HDEC.out (by omega) (by omega); omega
            have HFI := Lib.hid hfin
            clear hfin
            by_cases hbig : qh < 4294967296
            · have hlti : 4294967296 * (rh : Int) + (v0 : Int) < (P : Int) := by have := HP.out hbig; omega
              have hbigi : (qh : Int) < 4294967296 := by omega
              go_wp2_with fail
              go_meet
              exact ⟨by rw [← HFI.out]; go_num, ⟨rh + y1, by go_num⟩, rfl⟩
            · have hbigi : (4294967296 : Int) ≤ (qh : Int) := by omega
              go_wp2_with fail
              go_meet
              exact ⟨by rw [← HFI.out]; go_num, ⟨rh + y1, by go_num⟩, rfl⟩
        · obtain rfl : qh = q0 := by omega
          have hbb : decide ((4294967296 : Int) ≤ (qh : Int)) = false := decide_eq_false (by omega)
          have hle : qh * y0 ≤ 4294967296 * rh + v0 := Nat.le_of_not_lt fun h => hlt (ht.1 h)
          obtain ⟨P, hP⟩ : ∃ P, P = qh * y0 := ⟨_, rfl⟩
          have e11 : IntKind.u64.wrap ((qh : Int) * (y0 : Int)) = (P : Int) := by
            rw [show (qh : Int) * (y0 : Int) = ((qh * y0 : Nat) : Int) by push_cast; rfl, IntKind.wrap_u64]; omega
          obtain ⟨L, hL⟩ : ∃ L, L = 4294967296 * rh + v0 := ⟨_, rfl⟩
          have e12 : 4294967296 * (rh : Int) + (v0 : Int) = (L : Int) := by omega
          have hlti : decide (L < P) = false := decide_eq_false (by omega)
          clear hu ht hlt hle hP hq hq2 hL b9
          go_wp2_with fail
          go_meet
          exact ⟨rfl, ⟨rh, rfl⟩, rfl⟩
    case rest =>
      obtain ⟨rfl, ⟨x2, rfl⟩, rfl⟩ := hcut
      obtain ⟨hn, hle1⟩ := dq_rest (y1 := y1) (y0 := y0) (u := n1) (v := v0)
      rw [← HYY.out] at hn hle1
      have hq0' : dq y1 y0 n1 v0 = (n1 * 4294967296 + v0) / Y := by rw [HYY.out]; rfl
      have hq1' : q1 = (U * 4294967296 + v1) / Y := by rw [HQ1.out, HYY.out]; rfl
      obtain ⟨q0, hq0⟩ : ∃ q0, q0 = dq y1 y0 n1 v0 := ⟨_, rfl⟩
      rw [← hq0] at hn hle1 b9 hq0' ⊢
      have hY0 : 0 < Y := by omega
      have hn2Y : (n1 * 4294967296 + v0) % Y < Y := Nat.mod_lt _ hY0
      obtain ⟨n2, hn2'⟩ : ∃ n2, n2 = (n1 * 4294967296 + v0) % Y := ⟨_, rfl⟩
      rw [← hn2'] at hn hn2Y
      obtain ⟨M, hM⟩ : ∃ M, M = q0 * Y := ⟨_, rfl⟩
      rw [← hM] at hn hle1
      obtain ⟨A1, hA1⟩ : ∃ A1, A1 = n1 * 4294967296 % 18446744073709551616 := ⟨_, rfl⟩
      obtain ⟨A2, hA2⟩ : ∃ A2, A2 = (n1 * 4294967296 + v0) % 18446744073709551616 := ⟨_, rfl⟩
      obtain ⟨A3, hA3⟩ : ∃ A3, A3 = M % 18446744073709551616 := ⟨_, rfl⟩
      have e13 : IntKind.u64.wrap ((n1 : Int) * 4294967296) = (A1 : Int) := by rw [IntKind.wrap_u64]; omega
      have e14 : IntKind.u64.wrap ((A1 : Int) + (v0 : Int)) = (A2 : Int) := by rw [IntKind.wrap_u64]; omega
      have e15 : IntKind.u64.wrap ((q0 : Int) * (Y : Int)) = (A3 : Int) := by
        rw [show (q0 : Int) * (Y : Int) = ((q0 * Y : Nat) : Int) by push_cast; rfl, ← hM, IntKind.wrap_u64]; omega
      have e16 : IntKind.u64.wrap ((A2 : Int) - (A3 : Int)) = (n2 : Int) := by rw [IntKind.wrap_u64]; omega
      obtain ⟨t1, t2⟩ := two_digits 4294967296 Y U v1 v0 hY0
      rw [← HN1.out, ← hq1', ← hq0'] at t1
      rw [← HN1.out, ← hn2'] at t2
      rw [show 4294967296 * 4294967296 = 18446744073709551616 from rfl, Nat.add_assoc, ← HVV.out] at t1 t2
      have f1 := HDI.out
      have f2 := HMO.out
      rw [t1] at f1
      rw [t2] at f2
      have f3 : (hi * 18446744073709551616 + lo) % y = n2 / 2 ^ s := by rw [← f2, Nat.mul_div_cancel _ (Nat.two_pow_pos s)]
      have F1 := Lib.hid f1
      have F3 := Lib.hid f3
      have HB9' := HB9.out
      have c1 : (q1 : Int) < 4294967296 := by omega
      have c2 : (q0 : Int) < 4294967296 := by omega
      have c3 : (n2 : Int) < 18446744073709551616 := by omega
      clear hn hle1 hq0' hq1' hq0 b9 hY0 hn2Y hn2' hM hA1 hA2 hA3 t1 t2 f1 f2 f3 HB9'
      go_wp2_with fail
      rw [F1.out, F3.out]
      go_ret2
      exact ⟨by go_num, rfl⟩
end Go.Proofs.YtebabgonffbdhaaDoor

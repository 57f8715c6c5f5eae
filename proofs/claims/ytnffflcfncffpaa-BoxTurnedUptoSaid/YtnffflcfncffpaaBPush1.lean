/- The contract of push along the axis 1. (BPush1 by tools/genpush.py.) -/
import Derived.Test.YtnffflcfncffpaaBPushD
namespace Go.Proofs.Ytnffflcfncffpaa
open Go.RowKit

set_option maxRecDepth 100000 in
set_option maxHeartbeats 1000000 in
theorem push1_c (a : Bx) (d : Int) (A : Option Addr) (n c : Nat) (L : List Bx) (w : World) (ha : a.wide) (hd : -1152921504606846976 ≤ d ∧ d ≤ 1152921504606846976) (hn : n ≤ 281474976710656) (hL : RBox w w.heap.size A n L) (hall : allB L = true) :
    Calls Try.prog 36 #[boxV a.x a.y a.r, .int .i64 1, .int .i64 d, .slice A n c] w fun e w' => e = .returned (.tuple #[.int .i64 (if d < 0 then -(stF 1 a d L n).1 else (stF 1 a d L n).1), .int .i64 (stF 1 a d L n).2]) ∧ Below w.heap.size w w' := by
  have HG := Lib.hid (fun w => gapsFrom_c a.x a.y a.r w)
  have HA := Lib.hid (fun w => axes_c a.x a.y w)
  have HZ := Lib.hid (fun w => bsize_c d w (by omega))
  have HD := Lib.hid hd
  have HW := Lib.hid ha
  have HL := Lib.hid hL
  have HN := Lib.hid hn
  have HALL := Lib.hid hall
  have HI := Lib.hid (stF_in 1 a d L n)
  have hn' : n < 9223372036854775808 := by omega
  clear ha hd hn hL hall
  go_enter Try.func36, Try.ntmps36
  go_wp2_with fail
  refine (HG.out _).mono ?_
  rintro e w1 ⟨⟨g1, g2, rfl, m1, m2, k1, k2⟩, hb⟩
  have hk := last_blk hb
  have c0 := hk.cell 0
  have c1 := hk.cell 1
  have HB := Lib.hid (vbt (bel1 w _) hb)
  have K1 := Lib.hid k1
  have K2 := Lib.hid k2
  clear hk hb m1 m2 k1 k2 HG
  go_wp2_with fail
  refine (HA.out _).mono ?_
  rintro e w2 ⟨rfl, hb⟩
  have HB := Lib.hid (vbt HB.out hb)
  have K1 := Lib.hid (K1.out.below hb K1.out.lt)
  have K2 := Lib.hid (K2.out.below hb K2.out.lt)
  clear hb c0 c1
  go_wp2_with fail
  refine (HZ.out _).mono ?_
  rintro e w3 ⟨rfl, rfl⟩
  have HS := Lib.hid (PS.mk (w := w) (x := a.x) (y := a.y) (r := a.r) (K1.out.alloc (.cells #[.int .i64 a.x, .int .i64 a.y] 39)) (K2.out.alloc (.cells #[.int .i64 a.x, .int .i64 a.y] 39)) (Blk.new w2 39 #[.int .i64 a.x, .int .i64 a.y]) (vbt HB.out (bel1 _ _)))
  clear K1 K2 HB
  generalize w2.heap.size = gf at *
  generalize w2.alloc (.cells #[.int .i64 a.x, .int .i64 a.y] 39) = w3 at *
  go_wp2_with fail
  go_loopg [12, 13, 27] n (fun gg s12 s13 s27 wr => ∃ k : Nat, k + gg = n ∧ s27 = .int .i64 (k : Int) ∧ s12 = .int .i64 (stF 1 a d L k).1 ∧ s13 = .int .i64 (stF 1 a d L k).2 ∧ PS w wr g1 g2 gf a.x a.y a.r)
  case atStart => exact ⟨0, by omega, rfl, rfl, rfl, HS.out⟩
  case round =>
    obtain ⟨k, hk, rfl, rfl, rfl, hs⟩ := hrel
    clear HS w3 w2
    have HS := Lib.hid hs
    clear hs
    cases gk with
    | zero =>
      obtain rfl : k = n := by omega
      clear hk
      by_cases hd0 : d < 0
      · have HI2 := HI.out
        have e1 : wrap64 (-(stF 1 a d L k).1) = -(stF 1 a d L k).1 := IntWalk.wrap64_in _ (by have := HD.out; omega)
        clear HI2
        go_wp2_with fail
        go_ret2
        exact ⟨by simp, HS.out.bel⟩
      · have d1 : decide (d < 0) = false := decide_eq_false hd0
        go_wp2_with fail
        go_ret2
        exact ⟨by simp, HS.out.bel⟩
    | succ gk =>
      have hkn : k < n := by omega
      obtain ⟨b, o, rfl, hlt, hc⟩ := (HL.out.since HS.out.bel).2.2 (by omega)
      obtain ⟨c0, c1, c2⟩ := hc k hkn
      have hr := allB_iff.1 HALL.out k (by rw [HL.out.1]; exact hkn)
      have hs := rightB_spec.1 hr
      have H4 := Lib.hid (fun w k1 k2 => gaps1_c a.x a.y a.r (Bx.at L k).x (Bx.at L k).y (Bx.at L k).r g1 g2 w k1 k2 (by have := HW.out; unfold Bx.wide at this; omega) (by omega) (by have := HW.out; unfold Bx.wide at this; omega) (by have := HW.out; unfold Bx.wide at this; omega))
      have HY := Lib.hid (@stF_yes 1 a d L k)
      have HNO := Lib.hid (@stF_no 1 a d L k)
      have HF := Lib.hid (@stF_far 1 a d L k)
      unfold inW gapA Bx.pc gapF at HY HNO HF
      simp only [Nat.sub_self, if_true, Nat.one_ne_zero, if_false] at HY HNO HF
      clear hc hlt hr hs
      generalize Bx.at L k = bb at *
      obtain ⟨u, v, s⟩ := bb
      dsimp only at *
      obtain ⟨p, hp⟩ : ∃ p : Int, p = ((u - a.x).natAbs : Int) - a.r - s := ⟨_, rfl⟩
      obtain ⟨q, hq⟩ : ∃ q : Int, q = ((v - a.y).natAbs : Int) - a.r - s := ⟨_, rfl⟩
      rw [← hp] at HY HNO H4
      rw [← hq] at HY HNO HF H4
      have HA2 := Lib.hid (fun w => axes_c u v w)
      clear hp hq HI HW HN
      generalize hst : stF 1 a d L k = st at *
      obtain ⟨way, who⟩ := st
      dsimp only at *
      go_wp2_with fail
      refine (H4.out _ (HS.out.a.alloc _) (HS.out.b.alloc _)).mono ?_
      rintro e w4 ⟨rfl, hb⟩
      have HS := Lib.hid (HS.out.below (vbt (bel1 wr _) hb))
      have hkb := last_blk hb
      have HKB := Lib.hid hkb
      clear hb c0 c1 c2 hkb
      go_upto_region 8 with (fail)
      have HP := Lib.hid (P8.make (HS.out.below (bel1 w4 (.cells #[.int .i64 p, .int .i64 q] 39))) (HKB.out.alloc (.cells #[.int .i64 p, .int .i64 q] 39)) (Blk.new w4 39 #[.int .i64 p, .int .i64 q]))
      generalize w4.heap.size = gp at *
      generalize wr.heap.size = gb at *
      generalize w4.alloc (.cells #[.int .i64 p, .int .i64 q] 39) = w5 at *
      clear HS HKB
      go_cut [17] from 35 to 59 (fun s17 wx => s17 = .bool (decide (0 ≤ q) && (decide (p < 0) && (decide (a.y < v) == decide (0 < d)))) ∧ P8 w g1 g2 gf gb gp a.x a.y a.r u v s p q wx)
      case first =>
        obtain ⟨c0, c1, c2, c3, c4, c5, _⟩ := HP.out
        by_cases h1 : 0 ≤ q
        · have d1 : decide (0 ≤ q) = true := decide_eq_true h1
          by_cases h2 : p < 0
          · have d2 : decide (p < 0) = true := decide_eq_true h2
            clear h1 h2 c0 c1 c2 c3 c4 c5
            have i0 := idx1 u v
            have wq : IntKind.i64.wrap (1 - 1) = 0 := by decide
            have wq2 : IntKind.i64.wrap 0 = 0 := by decide
            have HP0 : Hid (P8 w g1 g2 gf gb gp a.x a.y a.r u v s p q w5.drew) := Lib.hid HP.out.drew
            go_region_held3 (P8 w g1 g2 gf gb gp a.x a.y a.r u v s p q) (first | exact HP0.out | assumption) (first | (go_at_call 37; refine (HA2.out _).mono ?_; rintro e w6 ⟨rfl, hb⟩; have hS6 := P8.keep (by assumption) hb; clear hb))
            go_wp2_with fail
            go_meet
            exact ⟨by rw [d1, d2]; simp, by assumption⟩
          · have d2 : decide (p < 0) = false := decide_eq_false h2
            clear h1 h2
            go_quiet (fail)
            go_wp2_with fail
            go_meet
            exact ⟨by rw [d1, d2]; simp, P8.keep HP.out (below_draw (Below.refl _ _) _)⟩
        · have d1 : decide (0 ≤ q) = false := decide_eq_false h1
          clear h1
          go_quiet (fail)
          go_wp2_with fail
          go_meet
          exact ⟨by rw [d1]; simp, P8.keep HP.out (below_draw (Below.refl _ _) _)⟩
      case rest =>
        obtain ⟨rfl, hP⟩ := hcut
        have c4 := hP.2.2.2.2.1
        have c5 := hP.2.2.2.2.2.1
        have HP := Lib.hid hP.2.2.2.2.2.2.2.2
        clear hP
        generalize (decide (0 ≤ q) && (decide (p < 0) && (decide (a.y < v) == decide (0 < d)))) = B at *
        cases B
        · have HX := Lib.hid (HNO.out rfl)
          clear HNO HY HF
          go_wp2_with fail
          go_roundg gk
          case measure => omega
          case rel => exact ⟨k + 1, by omega, by push_cast; rfl, by rw [HX.out], by rw [HX.out], HP.out⟩
        · by_cases hw : q < way
          · have HX := Lib.hid (HY.out rfl hw)
            have d3 : decide (q < way) = true := decide_eq_true hw
            clear HNO HY HF hw
            go_wp2_with fail
            go_roundg gk
            case measure => omega
            case rel => exact ⟨k + 1, by omega, by push_cast; rfl, by rw [HX.out], by rw [HX.out], HP.out⟩
          · have HX := Lib.hid (HF.out (by omega))
            have d3 : decide (q < way) = false := decide_eq_false hw
            clear HNO HY HF hw
            go_wp2_with fail
            go_roundg gk
            case measure => omega
            case rel => exact ⟨k + 1, by omega, by push_cast; rfl, by rw [HX.out], by rw [HX.out], HP.out⟩
end Go.Proofs.Ytnffflcfncffpaa

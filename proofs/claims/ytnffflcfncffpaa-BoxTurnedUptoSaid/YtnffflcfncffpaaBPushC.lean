/- The contract of Push. -/
import Derived.Test.YtnffflcfncffpaaBPush0
import Derived.Test.YtnffflcfncffpaaBPush1
namespace Go.Proofs.Ytnffflcfncffpaa
open Go.RowKit

/-- How far a goes along an axis. -/
def wayF (ax : Nat) (a : Bx) (d : Int) (L : List Bx) : Int := if d < 0 then -(stF ax a d L L.length).1 else (stF ax a d L L.length).1
/-- Who stops it. -/
def whoF (ax : Nat) (a : Bx) (d : Int) (L : List Bx) : Int := (stF ax a d L L.length).2
/-- Push's error. -/
def errP (ax : Int) (a : Bx) (d : Int) (L : List Bx) : Int := if allB L && a.right then (if decide (0 ≤ ax ∧ ax ≤ 1) && inB d then 0 else 1) else 60
/-- Push's first answer. -/
def pWay (ax : Int) (a : Bx) (d : Int) (L : List Bx) : Int := if errP ax a d L = 0 then wayF ax.toNat a d L else 0
/-- Push's second answer. -/
def pWho (ax : Int) (a : Bx) (d : Int) (L : List Bx) : Int := if errP ax a d L = 0 then whoF ax.toNat a d L else 0

theorem inB_zero : inB 0 = true := by decide
theorem inB_spec {n : Int} : inB n = true ↔ (-1152921504606846976 ≤ n ∧ n ≤ 1152921504606846976) := by unfold inB; exact decide_eq_true_iff
theorem right_wide {a : Bx} (h : a.right = true) : a.wide := by
  have := rightB_spec.1 h
  unfold Bx.wide
  omega

theorem Push_c (a : Bx) (ax d : Int) (A : Option Addr) (n c : Nat) (L : List Bx) (w : World) (hx : I64 a.x) (hy : I64 a.y) (hd : I64 d) (hn : n ≤ 281474976710656) (hL : RBox w w.heap.size A n L) :
    Calls Try.prog 21 #[boxV a.x a.y a.r, .int .i64 ax, .int .i64 d, .slice A n c] w fun e w' => e = .returned (.tuple #[.int .i64 (pWay ax a d L), .int .i64 (pWho ax a d L), .int .i64 (errP ax a d L)]) ∧ Below w.heap.size w w' := by
  have HR := Lib.hid (fun w hL => allRight_c a.x a.y a.r A n c L w hx hy hn hL)
  have HLEN := Lib.hid hL.1
  have HL := Lib.hid hL
  have HD := Lib.hid hd
  have HN := Lib.hid hn
  clear hx hy hL hd hn
  by_cases hok : (allB L && rightB a.x a.y a.r) = true
  · rw [hok] at HR
    have hok' := hok
    rw [Bool.and_eq_true] at hok'
    have HA := Lib.hid hok'
    by_cases h0 : ax < 0
    · have e1 : errP ax a d L = 1 := by
        unfold errP Bx.right
        rw [if_pos hok, decide_eq_false (by omega), if_neg (by simp)]
      unfold pWay pWho
      rw [e1]
      clear e1 hok hok'
      go_enter Try.func21, Try.ntmps21
      go_wp2_with fail
      refine (HR.out _ (HL.out.since (bel1 _ _))).mono ?_
      rintro e w1 ⟨rfl, hb⟩
      have HB := Lib.hid (vbt (bel1 _ _) hb)
      clear hb
      unfold errB
      rw [if_pos rfl]
      go_wp2_with fail
      exact bodyPost_ret (v := .tuple #[.int .i64 0, .int .i64 0, .int .i64 1]) (by simp [results, Try.results21, go_sem]) rfl ⟨rfl, HB.out⟩
    by_cases h1 : 1 < ax
    · have e1 : errP ax a d L = 1 := by
        unfold errP Bx.right
        rw [if_pos hok, decide_eq_false (by omega), if_neg (by simp)]
      unfold pWay pWho
      rw [e1]
      have d0 : decide (ax < 0) = false := decide_eq_false h0
      clear e1 hok hok' h0
      go_enter Try.func21, Try.ntmps21
      go_wp2_with fail
      refine (HR.out _ (HL.out.since (bel1 _ _))).mono ?_
      rintro e w1 ⟨rfl, hb⟩
      have HB := Lib.hid (vbt (bel1 _ _) hb)
      clear hb
      unfold errB
      rw [if_pos rfl]
      go_wp2_with fail
      exact bodyPost_ret (v := .tuple #[.int .i64 0, .int .i64 0, .int .i64 1]) (by simp [results, Try.results21, go_sem]) rfl ⟨rfl, HB.out⟩
    have hcase : ax = 0 ∨ ax = 1 := by omega
    rcases hcase with rfl | rfl
    · by_cases hin : inB d = true
      · have e1 : errP 0 a d L = 0 := by
          unfold errP Bx.right
          rw [if_pos hok, decide_eq_true (by omega), Bool.true_and, if_pos hin]
        unfold pWay pWho
        rw [e1, if_pos rfl, if_pos rfl]
        have HIN := Lib.hid hin
        clear e1 hok hok' h0 h1 hin
        go_enter Try.func21, Try.ntmps21
        go_wp2_with fail
        refine (HR.out _ (HL.out.since (bel1 _ _))).mono ?_
        rintro e w1 ⟨rfl, hb⟩
        have HK := Lib.hid (last_blk hb)
        have HB := Lib.hid (vbt (bel1 _ _) hb)
        clear hb
        unfold errB
        rw [if_pos rfl]
        go_wp2_with fail
        refine (along0_c d _).mono ?_
        rintro e w2 ⟨rfl, hb⟩
        have HK := Lib.hid (HK.out.below hb HK.out.lt)
        have HB := Lib.hid (vbt HB.out hb)
        clear hb
        go_wp2_with fail
        refine (within_c d 0 _ HD.out (by unfold I64; omega)).mono ?_
        rintro e w3 ⟨rfl, hb⟩
        have HK := Lib.hid (HK.out.below hb HK.out.lt)
        have HB := Lib.hid (vbt HB.out hb)
        clear hb
        rw [inB_zero, Bool.and_true, HIN.out]
        have HP := Lib.hid (push0_c a d A n c L w3 (right_wide HA.out.2) (inB_spec.1 HIN.out) HN.out (HL.out.since HB.out) HA.out.1)
        obtain ⟨pw, hpw⟩ : ∃ pw, pw = (if d < 0 then -(stF 0 a d L n).1 else (stF 0 a d L n).1) := ⟨_, rfl⟩
        obtain ⟨qw, hqw⟩ : ∃ qw, qw = (stF 0 a d L n).2 := ⟨_, rfl⟩
        rw [← hpw, ← hqw] at HP
        have E1 : Hid (wayF 0 a d L = pw) := Lib.hid (by unfold wayF; rw [HLEN.out, hpw])
        have E2 : Hid (whoF 0 a d L = qw) := Lib.hid (by unfold whoF; rw [HLEN.out, hqw])
        have c0 := HK.out.cell 0
        have c1 := HK.out.cell 1
        have c2 := HK.out.cell 2
        clear hpw hqw
        go_wp2_with fail
        refine HP.out.mono ?_
        rintro e w4 ⟨rfl, hb⟩
        have HB := Lib.hid (vbt HB.out hb)
        clear hb c0 c1 c2 HP
        go_wp2_with fail
        exact bodyPost_ret (v := .tuple #[.int .i64 pw, .int .i64 qw, .int .i64 0]) (by simp [results, Try.results21, go_sem]) rfl ⟨by rw [← E1.out, ← E2.out]; rfl, HB.out⟩
      · have e1 : errP 0 a d L = 1 := by
          unfold errP Bx.right
          rw [if_pos hok, decide_eq_true (by omega), Bool.true_and, if_neg hin]
        unfold pWay pWho
        rw [e1]
        have HIN := Lib.hid ((Bool.not_eq_true _).mp hin)
        clear e1 hok hok' h0 h1 hin
        go_enter Try.func21, Try.ntmps21
        go_wp2_with fail
        refine (HR.out _ (HL.out.since (bel1 _ _))).mono ?_
        rintro e w1 ⟨rfl, hb⟩
        have HK := Lib.hid (last_blk hb)
        have HB := Lib.hid (vbt (bel1 _ _) hb)
        clear hb
        unfold errB
        rw [if_pos rfl]
        go_wp2_with fail
        refine (along0_c d _).mono ?_
        rintro e w2 ⟨rfl, hb⟩
        have HK := Lib.hid (HK.out.below hb HK.out.lt)
        have HB := Lib.hid (vbt HB.out hb)
        clear hb
        go_wp2_with fail
        refine (within_c d 0 _ HD.out (by unfold I64; omega)).mono ?_
        rintro e w3 ⟨rfl, hb⟩
        have HK := Lib.hid (HK.out.below hb HK.out.lt)
        have HB := Lib.hid (vbt HB.out hb)
        clear hb
        rw [inB_zero, Bool.and_true, HIN.out]
        go_wp2_with fail
        exact bodyPost_ret (v := .tuple #[.int .i64 0, .int .i64 0, .int .i64 1]) (by simp [results, Try.results21, go_sem]) rfl ⟨rfl, HB.out⟩
    · by_cases hin : inB d = true
      · have e1 : errP 1 a d L = 0 := by
          unfold errP Bx.right
          rw [if_pos hok, decide_eq_true (by omega), Bool.true_and, if_pos hin]
        unfold pWay pWho
        rw [e1, if_pos rfl, if_pos rfl]
        have HIN := Lib.hid hin
        clear e1 hok hok' h0 h1 hin
        go_enter Try.func21, Try.ntmps21
        go_wp2_with fail
        refine (HR.out _ (HL.out.since (bel1 _ _))).mono ?_
        rintro e w1 ⟨rfl, hb⟩
        have HK := Lib.hid (last_blk hb)
        have HB := Lib.hid (vbt (bel1 _ _) hb)
        clear hb
        unfold errB
        rw [if_pos rfl]
        go_wp2_with fail
        refine (along1_c d _).mono ?_
        rintro e w2 ⟨rfl, hb⟩
        have HK := Lib.hid (HK.out.below hb HK.out.lt)
        have HB := Lib.hid (vbt HB.out hb)
        clear hb
        go_wp2_with fail
        refine (within_c 0 d _ (by unfold I64; omega) HD.out).mono ?_
        rintro e w3 ⟨rfl, hb⟩
        have HK := Lib.hid (HK.out.below hb HK.out.lt)
        have HB := Lib.hid (vbt HB.out hb)
        clear hb
        rw [inB_zero, Bool.true_and, HIN.out]
        have HP := Lib.hid (push1_c a d A n c L w3 (right_wide HA.out.2) (inB_spec.1 HIN.out) HN.out (HL.out.since HB.out) HA.out.1)
        obtain ⟨pw, hpw⟩ : ∃ pw, pw = (if d < 0 then -(stF 1 a d L n).1 else (stF 1 a d L n).1) := ⟨_, rfl⟩
        obtain ⟨qw, hqw⟩ : ∃ qw, qw = (stF 1 a d L n).2 := ⟨_, rfl⟩
        rw [← hpw, ← hqw] at HP
        have E1 : Hid (wayF 1 a d L = pw) := Lib.hid (by unfold wayF; rw [HLEN.out, hpw])
        have E2 : Hid (whoF 1 a d L = qw) := Lib.hid (by unfold whoF; rw [HLEN.out, hqw])
        have c0 := HK.out.cell 0
        have c1 := HK.out.cell 1
        have c2 := HK.out.cell 2
        clear hpw hqw
        go_wp2_with fail
        refine HP.out.mono ?_
        rintro e w4 ⟨rfl, hb⟩
        have HB := Lib.hid (vbt HB.out hb)
        clear hb c0 c1 c2 HP
        go_wp2_with fail
        exact bodyPost_ret (v := .tuple #[.int .i64 pw, .int .i64 qw, .int .i64 0]) (by simp [results, Try.results21, go_sem]) rfl ⟨by rw [← E1.out, ← E2.out]; rfl, HB.out⟩
      · have e1 : errP 1 a d L = 1 := by
          unfold errP Bx.right
          rw [if_pos hok, decide_eq_true (by omega), Bool.true_and, if_neg hin]
        unfold pWay pWho
        rw [e1]
        have HIN := Lib.hid ((Bool.not_eq_true _).mp hin)
        clear e1 hok hok' h0 h1 hin
        go_enter Try.func21, Try.ntmps21
        go_wp2_with fail
        refine (HR.out _ (HL.out.since (bel1 _ _))).mono ?_
        rintro e w1 ⟨rfl, hb⟩
        have HK := Lib.hid (last_blk hb)
        have HB := Lib.hid (vbt (bel1 _ _) hb)
        clear hb
        unfold errB
        rw [if_pos rfl]
        go_wp2_with fail
        refine (along1_c d _).mono ?_
        rintro e w2 ⟨rfl, hb⟩
        have HK := Lib.hid (HK.out.below hb HK.out.lt)
        have HB := Lib.hid (vbt HB.out hb)
        clear hb
        go_wp2_with fail
        refine (within_c 0 d _ (by unfold I64; omega) HD.out).mono ?_
        rintro e w3 ⟨rfl, hb⟩
        have HK := Lib.hid (HK.out.below hb HK.out.lt)
        have HB := Lib.hid (vbt HB.out hb)
        clear hb
        rw [inB_zero, Bool.true_and, HIN.out]
        go_wp2_with fail
        exact bodyPost_ret (v := .tuple #[.int .i64 0, .int .i64 0, .int .i64 1]) (by simp [results, Try.results21, go_sem]) rfl ⟨rfl, HB.out⟩
  · have e1 : errP ax a d L = 60 := by
      unfold errP Bx.right
      rw [if_neg hok]
    unfold pWay pWho
    rw [e1]
    rw [Bool.not_eq_true] at hok
    rw [hok] at HR
    clear e1 hok
    go_enter Try.func21, Try.ntmps21
    go_wp2_with fail
    refine (HR.out _ (HL.out.since (bel1 _ _))).mono ?_
    rintro e w1 ⟨rfl, hb⟩
    have HB := Lib.hid (vbt (bel1 _ _) hb)
    clear hb
    unfold errB
    rw [if_neg (by simp)]
    go_wp2_with fail
    exact bodyPost_ret (v := .tuple #[.int .i64 0, .int .i64 0, .int .i64 60]) (by simp [results, Try.results21, go_sem]) rfl ⟨rfl, HB.out⟩
end Go.Proofs.Ytnffflcfncffpaa

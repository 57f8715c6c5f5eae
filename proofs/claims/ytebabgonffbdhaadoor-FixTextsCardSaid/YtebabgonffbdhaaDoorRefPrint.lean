/- The reference's Print: the same text. -/
import Derived.Test.YtebabgonffbdhaaDoorRow
import Derived.Test.YtebabgonffbdhaaDoorRefSm
import Derived.Deep.DeepCutAuto
namespace Go.Proofs.YtebabgonffbdhaaDoor
open Go.RowKit

/-- The digits behind the point, as the reference makes them: at least one. -/
theorem frac_step (f : Nat) : frac f = (48 + f * 10 / 4294967296) :: frd 31 (f * 10 % 4294967296) := by
  unfold frac
  by_cases h : f = 0
  · subst h; rfl
  · rw [if_neg h, frd_step h]

set_option maxRecDepth 100000 in
set_option maxHeartbeats 4000000 in
theorem rprint_c (a : Int) (w : World) (h1 : -9223372036854775808 ≤ a) (h2 : a < 9223372036854775808) :
    Calls Tryd.prog 29 #[.int .i64 a] w fun e w' => e = .returned (.string (strOf (printF a))) ∧ Below w.heap.size w w' := by
  have ha : a.natAbs ≤ 9223372036854775808 := by omega
  go_enter Tryd.func29, Tryd.ntmps29
  go_wp2_with fail
  refine (of_any a w h1 h2).mono ?_
  rintro e w1 ⟨⟨d0, d1, d2, d3, rfl, dd_, vd⟩, hb1⟩
  have HB1 := Lib.hid hb1
  obtain ⟨p0, p1, p2, p3, _⟩ := dd_
  obtain ⟨v1, q1⟩ : ∃ v, v = d3 * 65536 + d2 := ⟨_, rfl⟩
  obtain ⟨v2, q2⟩ : ∃ v, v = v1 * 65536 + d1 := ⟨_, rfl⟩
  obtain ⟨v3, q3⟩ : ∃ v, v = v2 * 65536 + d0 := ⟨_, rfl⟩
  have hv3 : v3 = a.natAbs := by rw [← vd]; unfold vl8; omega
  obtain ⟨f, hf⟩ : ∃ f, f = v3 % 4294967296 := ⟨_, rfl⟩
  obtain ⟨u, hu⟩ : ∃ u, u = v3 / 4294967296 := ⟨_, rfl⟩
  have HP := Lib.hid (show printF a = minus a ++ dd u ++ [46] ++ frac f by rw [hf, hu, hv3]; rfl)
  have e1 : (d3 : Int) * 65536 + (d2 : Int) = (v1 : Int) := by omega
  have e2 : (v1 : Int) * 65536 + (d1 : Int) = (v2 : Int) := by omega
  have e3 : (v2 : Int) * 65536 + (d0 : Int) = (v3 : Int) := by omega
  have e4 : (v3 : Int) / 4294967296 = (u : Int) := by omega
  have e5 : (v3 : Int) % 4294967296 = (f : Int) := by omega
  have t0 : (d0 : Int) < 65536 := by omega
  have t1 : (d1 : Int) < 65536 := by omega
  have t2 : (d2 : Int) < 65536 := by omega
  have t3 : (d3 : Int) < 65536 := by omega
  have tv1 : (v1 : Int) < 4294967296 := by omega
  have tv2 : (v2 : Int) < 281474976710656 := by omega
  have tv3 : (v3 : Int) < 18446744073709551616 := by omega
  have HU := Lib.hid (show u < 4294967296 by omega)
  have HF := Lib.hid (show f < 4294967296 by omega)
  have hneg : (decide (a < 0) = true ∧ a < 0) ∨ (decide (a < 0) = false ∧ ¬ a < 0) := by
    by_cases h : a < 0
    · exact .inl ⟨decide_eq_true h, h⟩
    · exact .inr ⟨decide_eq_false h, h⟩
  clear hb1 vd p0 p1 p2 p3 q1 q2 q3 hv3 hf hu ha
  generalize decide (a < 0) = neg at *
  go_upto_if 13 with (fail)
  go_cut [4] (fun s4 wx => s4 = .string (strOf (minus a)) ∧ w1.alloc (.cells #[.bool neg, .int .i64 (d0 : Int), .int .i64 (d1 : Int), .int .i64 (d2 : Int), .int .i64 (d3 : Int), .int .i64 0, .int .i64 0, .int .i64 0, .int .i64 0] 47) = wx)
  case first =>
    rcases hneg with ⟨rfl, hn⟩ | ⟨rfl, hn⟩
    · have HN := Lib.hid (minus_neg hn)
      clear hn
      go_wp2_with fail
      go_meet
      exact ⟨by rw [HN.out]; rfl, rfl⟩
    · have HN := Lib.hid (minus_pos (a := a) (by omega))
      clear hn
      go_wp2_with fail
      go_meet
      exact ⟨by rw [HN.out]; rfl, rfl⟩
  case rest =>
    obtain ⟨rfl, rfl⟩ := hcut
    clear hneg
    go_wp2_with fail
    refine wp_loop_rounds 5 ?_
    rw [rounds_succ]
    go_wp2_with fail
    rw [rounds_succ]
    go_wp2_with fail
    rw [rounds_succ]
    go_wp2_with fail
    rw [rounds_succ]
    go_wp2_with fail
    rw [rounds_succ]
    go_upto_region 10 with (fail)
    have hb2 : Below w.heap.size w (w1.alloc (.cells #[.bool neg, .int .i64 (d0 : Int), .int .i64 (d1 : Int), .int .i64 (d2 : Int), .int .i64 (d3 : Int), .int .i64 0, .int .i64 0, .int .i64 0, .int .i64 0] 47)) := HB1.out.alloc HB1.out.size _
    generalize w1.alloc (.cells _ 47) = w2 at hb2 ⊢
    have HB2 := Lib.hid hb2
    clear hb2 HB1 e1 e2 e3 t0 t1 t2 t3 tv1 tv2
    go_wp2_with fail
    refine (dec_c u w2 HU.out).mono ?_
    rintro e w3 ⟨rfl, hb3⟩
    have HB3 := Lib.hid (bt HB2.out hb3)
    have hlu : (dd u).length ≤ 20 := by rw [dd_len]; exact Nat.le_trans (nDigits_le 9 u (by have := HU.out; omega)) (by omega)
    have hlm : (minus a).length ≤ 1 := by unfold minus; split <;> simp
    have c1 : strOf (minus a) ++ strOf (dd u) = strOf (minus a ++ dd u) := strOf_append _ _
    have c2 : strOf (minus a ++ dd u) ++ (⟨#[46]⟩ : ByteArray) = strOf (minus a ++ dd u ++ [46]) := strOf_append _ [46]
    have z1 : (9223372036854775807 < (strOf (minus a)).size + (strOf (dd u)).size) = False := by rw [strOf_size, strOf_size]; simp; omega
    have z2 : (9223372036854775807 < (strOf (minus a ++ dd u)).size + 1) = False := by rw [strOf_size, List.length_append]; simp; omega
    have z3 : (9223372036854775807 < (strOf (minus a ++ dd u)).size + (⟨#[46]⟩ : ByteArray).size) = False := by rw [strOf_size, List.length_append]; simp [ByteArray.size]; omega
    have h256 : ∀ c ∈ minus a ++ dd u ++ [46], c < 256 := by
      intro c hc
      rcases List.mem_append.1 hc with hc | hc
      · rcases List.mem_append.1 hc with hc | hc
        · unfold minus at hc
          split at hc
          · simp at hc; omega
          · cases hc
        · have := dd_dig _ c hc; omega
      · simp at hc; omega
    obtain ⟨v4, w4, hcv, hR⟩ := RB.make w w3 (minus a ++ dd u ++ [46]) HB3.out (by simp; omega) h256
    have HR := Lib.hid hR
    have hL : (minus a ++ dd u ++ [46]).length ≤ 22 := by simp; omega
    generalize minus a ++ dd u ++ [46] = L at *
    clear hb3 hlu hlm h256 hR
    obtain ⟨g4, cap4, _, _, hv4, _⟩ := HR.out.row
    subst hv4
    go_wp2_with fail
    rw [e5]
    have hW := Few.all HF.out
    have HW := Lib.hid hW
    have HFS := Lib.hid (frac_step f)
    clear e4 e5 c1 c2 z1 z2 z3 hcv hW tv3
    go_loopg [7, 8, 9] 32 (fun gg s7 s8 s9 wr => ∃ (j x : Nat) (m : List Nat), gg + j = 32 ∧ 1 ≤ gg ∧ s9 = .int .i64 (j : Int) ∧ s8 = .int .u64 (x : Int) ∧ RB w s7 (L ++ m) wr ∧ Few gg x ∧ m.length = j ∧ m ++ ((48 + x * 10 / 4294967296) :: frd (gg - 1) (x * 10 % 4294967296)) = frac f)
    case atStart => exact ⟨0, f, [], rfl, by omega, rfl, rfl, by rw [List.append_nil]; exact HR.out, HW.out, rfl, by rw [HFS.out]; rfl⟩
    case round =>
      obtain ⟨j, x, m, hj, hg1, rfl, rfl, hRB, hfew, hml, hmf⟩ := hrel
      cases gk with
      | zero => omega
      | succ gk =>
        have hln : (L ++ m).length ≤ 54 := by rw [List.length_append]; omega
        obtain ⟨l6, hl6⟩ : ∃ l6, l6 = L ++ m := ⟨_, rfl⟩
        rw [← hl6] at hRB hln
        have hx := hfew.2.1
        obtain ⟨q, hq⟩ : ∃ q, q = x * 10 / 4294967296 := ⟨_, rfl⟩
        obtain ⟨r, hr⟩ : ∃ r, r = x * 10 % 4294967296 := ⟨_, rfl⟩
        obtain ⟨y, hy⟩ : ∃ y, y = x * 10 := ⟨_, rfl⟩
        have hnx := hfew.next
        rw [← hr] at hnx
        rw [← hq, ← hr, Nat.add_sub_cancel] at hmf
        have e0 : IntKind.u64.wrap ((x : Int) * 10) = (y : Int) := by rw [IntKind.wrap_u64]; omega
        have e1 : (y : Int) / 4294967296 = (q : Int) := by omega
        have e2 : (y : Int) % 4294967296 = (r : Int) := by omega
        have hq10 : q < 10 := by omega
        have hj32 : decide ((j : Int) < 32) = true := decide_eq_true (by omega)
        have hji : (j : Int) < 32 := by omega
        have HL6 := Lib.hid hl6
        have HMF := Lib.hid hmf
        have HNX := Lib.hid hnx
        have HRB := Lib.hid hRB
        have HML := Lib.hid hml
        have HJ := Lib.hid hj
        obtain ⟨g5, cap5, _, _, hv5, _⟩ := hRB.row
        subst hv5
        clear hl6 hmf hnx hRB hml hfew hx hq hr hy hg1 hj
        go_wp2_with (at_builtin; refine wpList_app (c := 48 + q) rfl (.tmp 41) (.tmp 46) rfl rfl rfl HRB.out (by omega) ?_)
        intro v7 w7 hR7
        have hcv7 := hR7.conv
        have HR7 := Lib.hid hR7
        clear hR7
        by_cases hr0 : r = 0
        · subst hr0
          have hd : ((y : Int) % 4294967296 == 0) = true := by rw [e2]; rfl
          go_wp2_with fail
          go_ret
          refine ⟨?_, HR7.out.below⟩
          have hmf := HMF.out
          rw [frd_zero] at hmf
          rw [HP.out, ← hmf, ← List.append_assoc, ← HL6.out]
          rfl
        · have hd : ((y : Int) % 4294967296 == 0) = false := by rw [e2]; simp; omega
          cases gk with
          | zero => exact absurd HNX.out.none_ hr0
          | succ gk =>
            have hmf := HMF.out
            rw [frd_step hr0] at hmf
            have HM2 := Lib.hid hmf
            clear hr0 hmf
            go_wp2_with fail
            go_roundg (gk + 1)
            case measure => omega
            case rel =>
              refine ⟨j + 1, r, m ++ [48 + q], by have := HJ.out; omega, by omega, by go_num, by rw [e2], ?_, HNX.out, ?_, ?_⟩
              · rw [← List.append_assoc, ← HL6.out]; exact HR7.out
              · rw [List.length_append, HML.out]; rfl
              · rw [List.append_assoc, Nat.add_sub_cancel]; exact HM2.out
end Go.Proofs.YtebabgonffbdhaaDoor

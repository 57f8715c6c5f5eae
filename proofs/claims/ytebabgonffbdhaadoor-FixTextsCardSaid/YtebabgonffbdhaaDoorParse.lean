/- The contract of Parse. -/
import Derived.Test.YtebabgonffbdhaaDoorPars
import Derived.ScopeJumps
import Derived.Deep.DeepCutAuto
namespace Go.Proofs.YtebabgonffbdhaaDoor
/-- As Q; by a goto to label l: J l. -/
def jumps (J : Nat → Act → World → Prop) (Q : Exit → Act → World → Prop) : Exit → Act → World → Prop
  | .goto l, a, w => J l a w
  | e, a, w => Q e a w

/-- A scope that is left by gotos forward, each to code that jumps no more. -/
theorem wp_scope_fwd {P : Program} {a : Act} {w : World} {Q : Exit → Act → World → Prop} {c : Code} (J : Nat → Act → World → Prop) (first : c.wp P (jumps J Q) a w)
    (pass : ∀ l a w, J l a w → ∃ rest, findLabel c l = some rest ∧ rest.wp P (Exit.noGoto Q) a w) : (Code.scope c).wp P Q a w := by
  intro b k cs
  obtain ⟨e, a₁, w₁, hq, harr⟩ := first b (.inScope c :: k) cs
  cases e with
  | normal => exact ⟨.normal, a₁, w₁, hq, .head step_scope (Steps.trans harr (.one step_inScope))⟩
  | exit id => exact ⟨.exit id, a₁, w₁, hq, fun k' hk => .head step_scope (harr k' (by simp [exitTo, hk]))⟩
  | goto l' =>
    obtain ⟨rest, hf, hw⟩ := pass l' a₁ w₁ hq
    have hg : gotoIn l' (.inScope c :: k) = some (.code rest :: .inScope c :: k) := by simp [gotoIn, hf]
    obtain ⟨e₂, a₂, w₂, hq₂, harr₂⟩ := hw b (.inScope c :: k) cs
    cases e₂ with
    | normal => exact ⟨.normal, a₂, w₂, hq₂, .of_steps (.head step_scope (harr _ hg)) (Steps.trans harr₂ (.one step_inScope))⟩
    | exit id => exact ⟨.exit id, a₂, w₂, hq₂, .of_steps (.head step_scope (harr _ hg)) (fun k' hk => harr₂ k' (by simp [exitTo, hk]))⟩
    | goto l2 => exact absurd hq₂ (by simp [Exit.noGoto])
    | ret => exact ⟨_, a₂, w₂, hq₂, .of_steps (.head step_scope (harr _ hg)) harr₂⟩
    | panic ch => exact ⟨_, a₂, w₂, hq₂, .of_steps (.head step_scope (harr _ hg)) harr₂⟩
    | outgrown => exact ⟨_, a₂, w₂, hq₂, .of_steps (.head step_scope (harr _ hg)) harr₂⟩
  | ret => exact ⟨_, a₁, w₁, hq, .of_steps (.one step_scope) harr⟩
  | panic ch => exact ⟨_, a₁, w₁, hq, .of_steps (.one step_scope) harr⟩
  | outgrown => exact ⟨_, a₁, w₁, hq, .of_steps (.one step_scope) harr⟩
open Go.RowKit

/-- The number that a text denotes. -/
def parseF (l : List Nat) : Option Nat :=
  if ld l < 1 ∨ 10 < ld l then none
  else if l.getD 0 0 = 48 ∧ 1 < ld l then none
  else if ld l = l.length ∨ l.getD (ld l) 0 ≠ 46 then none
  else if (l.drop (ld l + 1)).length < 1 ∨ 32 < (l.drop (ld l + 1)).length then none
  else if ld (l.drop (ld l + 1)) < (l.drop (ld l + 1)).length then none
  else if 2147483647 < wn (l.take (ld l)) then none
  else some (wn (l.take (ld l)) * 4294967296 + fnn (l.drop (ld l + 1)))

/-- What Parse answers. -/
def pval : Option Nat → Value
  | none => .tuple #[.int .i64 0, .int .i64 20]
  | some x => .tuple #[.int .i64 (x : Int), .int .i64 0]

/-- Where a goto leads: the error. -/
def ParseTo (w : World) (s : ByteArray) (l : Nat) (a' : Act) (w' : World) : Prop :=
  l = 0 ∧ parseF (cs s) = none ∧ w = w' ∧
  ∃ u0 u1 u2 u3 u4 u5 u6 u7 u8 u9 u10 u11 u12 u13 u14 u15 u16 u17 u18 u19 u20 u21 u22 u23 u24 u25 u26 u27 u28 u29 u30 u31 u32 u33 u34 u35 u36 u37 u38 u39 u40 u41 u42 u43 u44 u45 u46 u47 u48 u49 u50 u51 u52 u53 u54 u55 u56 u57 u58 u59 : Value, a' = { tmps := #[u0, u1, u2, u3, u4, u5, u6, u7, u8, u9, u10, u11, u12, u13, u14, u15, u16, u17, u18, u19, u20, u21, u22, u23, u24, u25, u26, u27, u28, u29, u30, u31, u32, u33, u34, u35, u36, u37, u38, u39, u40, u41, u42, u43, u44, u45, u46, u47, u48, u49, u50, u51, u52, u53, u54, u55, u56, u57, u58, u59], defers := [] }
theorem ParseTo.of {w : World} {s : ByteArray} {u0 u1 u2 u3 u4 u5 u6 u7 u8 u9 u10 u11 u12 u13 u14 u15 u16 u17 u18 u19 u20 u21 u22 u23 u24 u25 u26 u27 u28 u29 u30 u31 u32 u33 u34 u35 u36 u37 u38 u39 u40 u41 u42 u43 u44 u45 u46 u47 u48 u49 u50 u51 u52 u53 u54 u55 u56 u57 u58 u59 : Value} (h : parseF (cs s) = none) :
    ParseTo w s 0 { tmps := #[u0, u1, u2, u3, u4, u5, u6, u7, u8, u9, u10, u11, u12, u13, u14, u15, u16, u17, u18, u19, u20, u21, u22, u23, u24, u25, u26, u27, u28, u29, u30, u31, u32, u33, u34, u35, u36, u37, u38, u39, u40, u41, u42, u43, u44, u45, u46, u47, u48, u49, u50, u51, u52, u53, u54, u55, u56, u57, u58, u59], defers := [] } w := ⟨rfl, h, rfl, u0, u1, u2, u3, u4, u5, u6, u7, u8, u9, u10, u11, u12, u13, u14, u15, u16, u17, u18, u19, u20, u21, u22, u23, u24, u25, u26, u27, u28, u29, u30, u31, u32, u33, u34, u35, u36, u37, u38, u39, u40, u41, u42, u43, u44, u45, u46, u47, u48, u49, u50, u51, u52, u53, u54, u55, u56, u57, u58, u59, rfl⟩

theorem cs_extract (s : ByteArray) (i j : Nat) : cs (s.extract i j) = ((cs s).take j).drop i := by
  rw [List.drop_take]
  simp [cs, ByteArray.data_extract, List.map_take, List.map_drop]

set_option maxRecDepth 100000 in
set_option maxHeartbeats 1000000 in
theorem parse_c (s : ByteArray) (w : World) (hs : s.size ≤ maxLen) : Calls Tryd.prog 26 #[.string s] w fun e w' => e = .returned (pval (parseF (cs s))) ∧ w = w' := by
  have CL := Lib.hid (lead_c s w hs)
  obtain ⟨n, hn⟩ : ∃ n, n = ld (cs s) := ⟨_, rfl⟩
  rw [← hn] at CL
  have HN := Lib.hid hn
  have hns : n ≤ s.size := by rw [hn, ← cs_length]; exact ld_le _
  have hs63 : s.size < 9223372036854775808 := by unfold maxLen at hs; omega
  clear hn hs
  go_enter Tryd.func26, Tryd.ntmps26
  go_wp2_with fail
  refine wp_scope_fwd (ParseTo w s) ?_ ?_
  · by_cases h1 : n < 1
    · have hp : parseF (cs s) = none := by unfold parseF; rw [← HN.out, if_pos (.inl h1)]
      have HP := Lib.hid hp
      have d1 : (n : Int) < 1 := by omega
      clear hp h1
      go_wp2_with (go_at_call 42; refine CL.out.mono ?_; rintro e w' ⟨rfl, rfl⟩)
      go_step3
      simp only [Exit.then, jumps]
      exact ParseTo.of HP.out
    have i1 : (1 : Int) ≤ (n : Int) := by omega
    by_cases h2 : 10 < n
    · have hp : parseF (cs s) = none := by unfold parseF; rw [← HN.out, if_pos (.inr h2)]
      have HP := Lib.hid hp
      have d1 : (10 : Int) < (n : Int) := by omega
      clear hp h1 h2
      go_wp2_with (go_at_call 42; refine CL.out.mono ?_; rintro e w' ⟨rfl, rfl⟩)
      go_step3
      simp only [Exit.then, jumps]
      exact ParseTo.of HP.out
    have i2 : (n : Int) ≤ 10 := by omega
    have hs0 : 0 < s.size := by omega
    have hg0 := cs_get s 0 hs0
    by_cases h3 : s[0].toNat = 48 ∧ 1 < n
    · have hp : parseF (cs s) = none := by unfold parseF; rw [← HN.out, if_neg (by omega), if_pos ⟨hg0.trans h3.1, h3.2⟩]
      have HP := Lib.hid hp
      have d1 : (1 : Int) < (n : Int) := by omega
      have d2 : ((s[0].toNat : Int) == 48) = true := by simp; omega
      clear hp h1 h2 h3 hg0
      go_wp2_with (go_at_call 42; refine CL.out.mono ?_; rintro e w' ⟨rfl, rfl⟩)
      go_step3
      simp only [Exit.then, jumps]
      exact ParseTo.of HP.out
    go_upto_region 4 with (go_at_call 42; refine CL.out.mono ?_; rintro e w' ⟨rfl, rfl⟩)
    go_cut [21] (fun s21 wx => s21 = .bool false ∧ w = wx)
    case first =>
      by_cases h4 : s[0].toNat = 48
      · have d1 : decide ((1 : Int) < (n : Int)) = false := decide_eq_false (by omega)
        have d2 : ((s[0].toNat : Int) == 48) = true := by simp; omega
        clear h1 h2 h3 h4 hg0
        go_wp2_with fail
        go_meet
        exact ⟨rfl, rfl⟩
      · have d2 : ((s[0].toNat : Int) == 48) = false := by simp; omega
        clear h1 h2 h3 h4 hg0
        go_wp2_with fail
        go_meet
        exact ⟨rfl, rfl⟩
    case rest =>
      obtain ⟨rfl, rfl⟩ := hcut
      have A1 := Lib.hid (show ¬ (n < 1 ∨ 10 < n) by omega)
      have A3 := Lib.hid (show ¬ ((cs s).getD 0 0 = 48 ∧ 1 < n) by rw [hg0]; exact h3)
      clear h1 h2 h3 hg0 hs0
      by_cases h5 : n = s.size
      · have HP := Lib.hid (show parseF (cs s) = none by unfold parseF; rw [← HN.out, if_neg A1.out, if_neg A3.out, if_pos (.inl (h5.trans (cs_length s).symm))])
        subst h5
        go_wp2_with fail
        go_step3
        simp only [Exit.then, jumps]
        exact ParseTo.of HP.out
      have hlt : n < s.size := by omega
      have d5 : ((n : Int) == (s.size : Int)) = false := by simp; omega
      have hgn := cs_get s n hlt
      by_cases h6 : s[n].toNat = 46
      case neg =>
        have HP := Lib.hid (show parseF (cs s) = none by unfold parseF; rw [← HN.out, if_neg A1.out, if_neg A3.out, if_pos (.inr (by rw [hgn]; exact h6))])
        have d6 : ((s[n].toNat : Int) != 46) = true := by simp; omega
        clear h5 h6 hgn
        go_wp2_with fail
        go_step3
        simp only [Exit.then, jumps]
        exact ParseTo.of HP.out
      have A6 := Lib.hid (show ¬ (n = (cs s).length ∨ (cs s).getD n 0 ≠ 46) by rw [hgn, cs_length]; omega)
      have d6 : ((s[n].toNat : Int) != 46) = false := by simp; omega
      have hex : cs (s.extract (n + 1) s.size) = (cs s).drop (n + 1) := by rw [cs_extract, List.take_of_length_le (by rw [cs_length]; omega)]
      have hfs : (s.extract (n + 1) s.size).size = s.size - (n + 1) := by simp
      go_upto_region 7 with (fail)
      have HEX := Lib.hid hex
      generalize s.extract (n + 1) s.size = f at *
      have hf63 : f.size ≤ maxLen := by unfold maxLen; omega
      have CF := Lib.hid (lead_c f w hf63)
      have hfl : (cs f).length = f.size := cs_length f
      have hfi : f.size < 9223372036854775808 := by omega
      clear hex hfs h5 h6 hgn hf63 d5 d6
      have hnone7 : f.size < 1 ∨ 32 < f.size → parseF (cs s) = none := by
        intro h
        unfold parseF
        rw [← HN.out, if_neg A1.out, if_neg A3.out, if_neg A6.out, ← HEX.out, hfl, if_pos h]
      have HN7 := Lib.hid hnone7
      clear hnone7
      by_cases h7 : f.size < 1
      · have HP := Lib.hid (HN7.out (.inl h7))
        have d7 : (f.size : Int) < 1 := by omega
        clear h7 hfl
        go_wp2_with fail
        go_step3
        simp only [Exit.then, jumps]
        exact ParseTo.of HP.out
      have i7 : (1 : Int) ≤ (f.size : Int) := by omega
      by_cases h8 : 32 < f.size
      · have HP := Lib.hid (HN7.out (.inr h8))
        have d8 : (32 : Int) < (f.size : Int) := by omega
        clear h7 h8 hfl
        go_wp2_with fail
        go_step3
        simp only [Exit.then, jumps]
        exact ParseTo.of HP.out
      have i8 : (f.size : Int) ≤ 32 := by omega
      have A8 := Lib.hid (show ¬ ((cs f).length < 1 ∨ 32 < (cs f).length) by omega)
      have hld := ld_le (cs f)
      rw [hfl] at hld
      have HFL := Lib.hid hfl
      clear h7 h8 HN7 hfl
      by_cases h9 : ld (cs f) < f.size
      · have HP := Lib.hid (show parseF (cs s) = none by unfold parseF; rw [← HN.out, if_neg A1.out, if_neg A3.out, if_neg A6.out, ← HEX.out, if_neg A8.out, if_pos (by rw [HFL.out]; exact h9)])
        have d9 : decide (ld (cs f) < f.size) = true := decide_eq_true h9
        clear h9 hld
        go_wp2_with (go_at_call 42; refine CF.out.mono ?_; rintro e w' ⟨rfl, rfl⟩)
        go_step3
        simp only [Exit.then, jumps]
        exact ParseTo.of HP.out
      have hall : allD (cs f) := (allD_iff _).1 (by rw [HFL.out]; omega)
      have A9 := Lib.hid (show ¬ ld (cs f) < (cs f).length by rw [HFL.out]; exact h9)
      have d9 : decide (ld (cs f) < f.size) = false := decide_eq_false h9
      have hfrl := fnn_lt _ hall
      have CN := Lib.hid (fract_c f w (by omega) hall)
      have hex0 : cs (s.extract 0 n) = (cs s).take n := by rw [cs_extract]; rfl
      have htl := take_ld (cs s)
      rw [← HN.out, ← hex0] at htl
      have hes : (s.extract 0 n).size = n := by simp; omega
      have CW := Lib.hid (whole_c (s.extract 0 n) w (by omega) htl)
      have HX0 := Lib.hid hex0
      clear h9 hld hall hex0 htl hes
      go_upto_region 10 with (first | (go_at_call 42; refine CF.out.mono ?_; rintro e w' ⟨rfl, rfl⟩) | (go_at_call 43; refine CW.out.mono ?_; rintro e w' ⟨rfl, rfl⟩))
      generalize s.extract 0 n = p at *
      by_cases h10 : 2147483647 < wn (cs p)
      · have HP := Lib.hid (show parseF (cs s) = none by unfold parseF; rw [← HN.out, if_neg A1.out, if_neg A3.out, if_neg A6.out, ← HEX.out, if_neg A8.out, if_neg A9.out, ← HX0.out, if_pos h10])
        have d10 : (2147483647 : Int) < (wn (cs p) : Int) := by omega
        clear h10
        go_wp2_with fail
        go_step3
        simp only [Exit.then, jumps]
        exact ParseTo.of HP.out
      have HP := Lib.hid (show parseF (cs s) = some (wn (cs p) * 4294967296 + fnn (cs f)) by unfold parseF; rw [← HN.out, if_neg A1.out, if_neg A3.out, if_neg A6.out, ← HEX.out, if_neg A8.out, if_neg A9.out, ← HX0.out, if_neg h10])
      have d10 : decide ((2147483647 : Int) < (wn (cs p) : Int)) = false := decide_eq_false (by omega)
      have hff : fromF (wn (cs p) : Int) = ((wn (cs p) * 4294967296 : Nat) : Int) := by unfold fromF; rw [sat_id (by omega) (by omega)]; omega
      have cfr := from_c (wn (cs p) : Int) w (by omega) (by omega)
      rw [hff] at cfr
      obtain ⟨X, hX⟩ : ∃ X, X = wn (cs p) * 4294967296 := ⟨_, rfl⟩
      obtain ⟨Z, hZ⟩ : ∃ Z, Z = X + fnn (cs f) := ⟨_, rfl⟩
      rw [← hX] at cfr
      have CFr := Lib.hid cfr
      have HP' := Lib.hid (show parseF (cs s) = some Z by rw [HP.out, hZ, hX])
      have e11 : wrap64 (Z : Int) = (Z : Int) := IntWalk.wrap64_in _ (by omega)
      have e12 : (X : Int) + (fnn (cs f) : Int) = (Z : Int) := by omega
      clear h10 hff hfrl hX hZ cfr HP
      go_upto_region 11 with (fail)
      clear d10
      go_wp2_with (first | (go_at_call 22; refine CFr.out.mono ?_; rintro e w' ⟨rfl, rfl⟩) | (go_at_call 44; refine CN.out.mono ?_; rintro e w' ⟨rfl, rfl⟩))
      simp only [jumps]
      rw [e11]
      go_ret2
      exact ⟨by rw [HP'.out]; rfl, rfl⟩
  · intro l a' w' ⟨hl, hp, hw, u0, u1, u2, u3, u4, u5, u6, u7, u8, u9, u10, u11, u12, u13, u14, u15, u16, u17, u18, u19, u20, u21, u22, u23, u24, u25, u26, u27, u28, u29, u30, u31, u32, u33, u34, u35, u36, u37, u38, u39, u40, u41, u42, u43, u44, u45, u46, u47, u48, u49, u50, u51, u52, u53, u54, u55, u56, u57, u58, u59, ha⟩
    subst hl hw ha
    refine ⟨_, rfl, ?_⟩
    go_wp2_with fail
    rw [Exit.noGoto_ret]
    go_ret2
    exact ⟨by rw [hp]; rfl, rfl⟩
end Go.Proofs.YtebabgonffbdhaaDoor

/- The contract of Owned: any number of slices may be written over without touching each other. -/
import Derived.Test.YtebdjahcahgafaaDoorOwned

namespace Go.Proofs.YtebdjahcahgafaaDoor
open Go.RowKit

theorem addr0 (r j : Nat) : (⟨r, 0, none⟩ : Addr).add j = ⟨r, j, none⟩ := by unfold Addr.add; split <;> simp_all
def vals (V : Nat → Value) (n : Nat) : List Value := (List.range n).map V
theorem vals_at (V : Nat → Value) {n j : Nat} (h : j < n) : (vals V n)[j]? = some (V j) := by simp [vals, h]

/-- In the midst of Owned: row i holds cs, the others what they held; the texts are kept at v. -/
structure OwN (w : World) (V : Nat → Value) (A : Nat → Option Addr) (F : Nat → List Nat) (n : Nat) (vl : Value) (T : List Value) (v : Value) (i : Nat) (cs : List Nat) (wr : World) : Prop where
  own : wr.ownsRow w.heap.size 9 1 v n T
  hd : wr.ownsRow 0 30 1 vl n (vals V n)
  me : At wr (A i) cs
  others : ∀ j, j < n → j ≠ i → At wr (A j) (F j)
  fr : Fr (fun k => ∃ j, j < n ∧ ∃ a, A j = some a ∧ k = a.block) w wr

section
variable {w wr : World} {V : Nat → Value} {A : Nat → Option Addr} {F : Nat → List Nat} {n : Nat} {vl : Value} {T : List Value} {v : Value} {i : Nat} {cs : List Nat}
theorem OwN.cell (S : OwN w V A F n vl T v i cs wr) {h : Nat} (hv : vl.ownBlock = some h) (j : Nat) (hj : j < n) : wr.cell? ⟨h, j, none⟩ = some (V j) := by
  have := S.hd.cells (g := h) hv j (V j) (vals_at V hj)
  rw [addr0] at this
  exact this
theorem OwN.draw (S : OwN w V A F n vl T v i cs wr) (m : Nat) : OwN w V A F n vl T v i cs (wr.drewN m) :=
  ⟨S.own, S.hd, S.me, S.others, S.fr.trans (Fr.drewN (S := fun _ => False) wr m) (fun _ _ h => h.elim)⟩
theorem OwN.store (S : OwN w V A F n vl T v i cs wr) (hi : i < n) (hG : ∀ a b, a < n → b < n → a ≠ b → ∀ p q, A a = some p → A b = some q → p.block ≠ q.block) {g : Nat} (hg : A i = some ⟨g, 0, none⟩) (k y : Nat) : OwN w V A F n vl T v i (cs.set k y) (wr.setCell ⟨g, k, none⟩ (.int .u8 (y : Int))) := by
  obtain ⟨g', e, hk⟩ := S.me.2 _ hg
  injection e with e
  subst e
  refine ⟨?_, ownsRow_fr (S := fun t => t = g) S.hd (Fr.set (S := fun t => t = g) wr (p := ⟨g, k, none⟩) rfl _) (fun t ht e => own_ne_blk S.hd hk (by decide) (e ▸ ht)), ?_, fun j hj hne => ?_, S.fr.trans (Fr.set (S := fun k => k = g) wr (p := ⟨g, k, none⟩) rfl _) (fun t _ e => ⟨i, hi, _, hg, e⟩)⟩
  · exact ownsRow_fr (S := fun t => t = g) S.own (Fr.set (S := fun t => t = g) wr (p := ⟨g, k, none⟩) rfl _) (fun t ht e => own_ne_blk S.own hk (by decide) (e ▸ ht))
  · refine ⟨(fun e => by rw [hg] at e; cases e), fun a e => ?_⟩
    rw [hg] at e
    injection e with e
    refine ⟨g, e.symm, ?_⟩
    have := hk.set_ k (.int .u8 (y : Int))
    rw [U8s_set]
    simp only [List.setIfInBounds_toArray] at this
    exact this
  · obtain ⟨h1, h2⟩ := S.others j hj hne
    refine ⟨h1, fun a e => ?_⟩
    obtain ⟨g2, e2, hk2⟩ := h2 a e
    exact ⟨g2, e2, hk2.far (p := ⟨g, k, none⟩) (by have := hG j i hj hi hne a _ e hg; rw [e2] at this; exact this) _⟩
theorem OwN.turn (S : OwN w V A F n vl T v i (F i) wr) {j : Nat} (hj : j < n) : OwN w V A F n vl T v j (F j) wr :=
  ⟨S.own, S.hd, by
    by_cases e : j = i
    · subst e; exact S.me
    · exact S.others j hj e, fun t ht _ => by
    by_cases e : t = i
    · subst e; exact S.me
    · exact S.others t ht e, S.fr⟩
theorem OwN.all (S : OwN w V A F n vl T v i (F i) wr) (j : Nat) (hj : j < n) : At wr (A j) (F j) := (S.turn hj).me
end

set_option maxHeartbeats 4000000 in
set_option maxRecDepth 100000 in
theorem ownedN_c (h n cl base : Nat) (V : Nat → Value) (B : Nat → List Nat) (A : Nat → Option Addr) (F : Nat → List Nat) (w : World) (hn : n ≤ 10) (hn1 : 1 ≤ n) (hh : w.ownsRow 0 30 1 (.slice (some ⟨h, 0, none⟩) n cl) n (vals V n)) (hf : ∀ j, j < n → FullB w base (V j) (B j) (A j) (F j))
    (hG : ∀ a b, a < n → b < n → a ≠ b → ∀ p q, A a = some p → A b = some q → p.block ≠ q.block) :
    Calls Tryd.prog 14 #[.slice (some ⟨h, 0, none⟩) n cl] w fun e w' => e = .returned (.bool true) ∧ (∀ j, j < n → At w' (A j) (F j)) ∧ Fr (fun k => ∃ j, j < n ∧ ∃ a, A j = some a ∧ k = a.block) w w' := by
  obtain ⟨i0, hi, hz0, hz1, hz2⟩ := info_parts info9
  have HH := Lib.hid hh
  have HF := Lib.hid hf
  have HG := Lib.hid hG
  clear hh hf hG
  go_enter Tryd.func14, Tryd.ntmps14
  go_wp2_with fail
  go_loopg [3, 4] n (fun gg s3 s4 wr => ∃ i : Nat, i + gg = n ∧ s4 = .int .i64 (i : Int) ∧ wr.ownsRow w.heap.size 9 1 s3 i (texts B i) ∧ Below w.heap.size w wr)
  case atStart => exact ⟨0, by omega, rfl, World.ownsRow_nil _ _ _ _, Below.refl _ _⟩
  case round =>
    obtain ⟨i, hig, rfl, hown, hbel⟩ := hrel
    have HO := Lib.hid hown
    have HBe := Lib.hid hbel
    clear hown hbel
    cases gk with
    | zero =>
      have hin : n = i := by omega
      subst hin
      obtain ⟨A3, c3, rfl⟩ := own_slice HO.out
      have S0 : OwN w V A F n (.slice (some ⟨h, 0, none⟩) n cl) (texts B n) (.slice A3 n c3) 0 (F 0) wr := ⟨HO.out, ownsRow_fr (S := fun _ => False) HH.out (Fr.of_below HBe.out) (fun _ _ h => h), ((HF.out 0 (by omega)).below HBe.out).at_, fun j hj _ => ((HF.out j hj).below HBe.out).at_, Fr.of_below HBe.out⟩
      clear HO HBe HH
      go_wp2_with fail
      go_loopg [5, 6, 7, 8, 9] n (fun gg s5 _ _ _ _ wr => ∃ i : Nat, i + gg = n ∧ s5 = .int .i64 (i : Int) ∧ OwN w V A F n (.slice (some ⟨h, 0, none⟩) n cl) (texts B n) (.slice A3 n c3) 0 (F 0) wr)
      case atStart => exact ⟨0, by omega, rfl, S0⟩
      case round =>
        obtain ⟨i, hig, rfl, S⟩ := hrel
        clear S0
        cases gk with
        | zero =>
          have hd : decide (i < n) = false := by simp; omega
          have HS := Lib.hid S
          clear S
          go_wp2_with fail
          go_ret
          exact ⟨rfl, HS.out.all, HS.out.fr⟩
        | succ g1 =>
          have hlt : i < n := by omega
          have hd : decide (i < n) = true := by simp; omega
          have hii : (i : Int) < (n : Int) := by omega
          have SI := S.turn hlt
          have hcell := SI.cell rfl i hlt
          rw [(HF.out i hlt).val] at hcell
          obtain ⟨Ai, hAi⟩ : ∃ Ai, Ai = A i := ⟨_, rfl⟩
          obtain ⟨L, hL⟩ : ∃ L, L = (F i).length := ⟨_, rfl⟩
          obtain ⟨nb, hnb⟩ : ∃ nb, nb = (B i).length := ⟨_, rfl⟩
          rw [← hAi, ← hL, ← hnb] at hcell
          have hsp := spare_cut Ai nb L
          have HAi := Lib.hid hAi
          have HL := Lib.hid hL
          have HMax : Hid (L ≤ maxLen) := by show L ≤ _; rw [hL]; exact (HF.out i hlt).max
          have HByt : Hid (∀ t, (F i).getD t 0 < 256) := fun t => by
            rw [List.getD_eq_getElem?_getD]
            rcases Nat.lt_or_ge t (F i).length with ht | ht
            · rw [List.getElem?_eq_getElem ht]; exact (HF.out i hlt).byte _ (List.getElem_mem ht)
            · rw [List.getElem?_eq_none ht]; decide
          clear S hAi hL hnb
          go_wp2_with fail
          go_quiet (fail)
          go_wp2_with fail
          have SA : OwN w V A F n (.slice (some ⟨h, 0, none⟩) n cl) (texts B n) (.slice A3 n c3) i (mixed (fun t => (F i).getD t 0 ^^^ 255) (fun t => (F i).getD t 0) 0 L) (wr.drewN nq) := by rw [HL.out, mixed_zero]; exact SI.draw nq
          clear SI hcell hsp
          go_loopg [7] L (fun gg s7 wx => ∃ k : Nat, k + gg = L ∧ s7 = .int .i64 (k : Int) ∧ OwN w V A F n (.slice (some ⟨h, 0, none⟩) n cl) (texts B n) (.slice A3 n c3) i (mixed (fun t => (F i).getD t 0 ^^^ 255) (fun t => (F i).getD t 0) k L) wx)
          case atStart => exact ⟨0, by omega, rfl, SA⟩
          case round =>
            obtain ⟨k, hkg, rfl, SK⟩ := hrel
            clear SA
            cases gk with
            | zero =>
              obtain rfl : k = L := by omega
              have hdk : decide (k < k) = false := by simp
              go_wp2_with fail
              go_loopg [8] n (fun gg s8 wx => ∃ t : Nat, t + gg = n ∧ s8 = .int .i64 (t : Int) ∧ OwN w V A F n (.slice (some ⟨h, 0, none⟩) n cl) (texts B n) (.slice A3 n c3) i (mixed (fun t => (F i).getD t 0 ^^^ 255) (fun t => (F i).getD t 0) k k) wx)
              case atStart => exact ⟨0, by omega, rfl, SK⟩
              case round =>
                obtain ⟨t, htg, rfl, ST⟩ := hrel
                clear SK
                cases gk with
                | zero =>
                  have hdt : decide (t < n) = false := by simp; omega
                  rw [mixed_turn] at ST
                  go_wp2_with fail
                  go_loopg [9] k (fun gg s9 wx => ∃ m : Nat, m + gg = k ∧ s9 = .int .i64 (m : Int) ∧ OwN w V A F n (.slice (some ⟨h, 0, none⟩) n cl) (texts B n) (.slice A3 n c3) i (mixed (fun t => (F i).getD t 0) (fun t => (F i).getD t 0 ^^^ 255) m k) wx)
                  case atStart => exact ⟨0, by omega, rfl, ST⟩
                  case round =>
                    obtain ⟨m, hkg3, rfl, SC⟩ := hrel
                    clear ST
                    cases gk with
                    | zero =>
                      obtain rfl : m = k := by omega
                      rw [HL.out, mixed_all] at SC
                      have SD := SC.turn (j := 0) (by omega)
                      have HSD := Lib.hid SD
                      clear SC SD
                      have hdk3 : decide (m < m) = false := by simp
                      go_wp2_with fail
                      go_roundg g1
                      case measure => omega
                      case rel => exact ⟨i + 1, by omega, rfl, HSD.out⟩
                    | succ g4 =>
                      have hkl : m < k := by omega
                      have hdk3 : decide (m < k) = true := by simpa using hkl
                      have hki : (m : Int) < (k : Int) := by omega
                      obtain ⟨g, hga⟩ : ∃ g, Ai = some ⟨g, 0, none⟩ := by
                        cases hA : Ai with
                        | none => have := (HF.out i hlt).void (by rw [← HAi.out]; exact hA); rw [HL.out, this] at hkl; simp at hkl
                        | some a => obtain ⟨g, e, _⟩ := SC.me.2 a (by rw [← HAi.out]; exact hA); exact ⟨g, by rw [e]⟩
                      subst hga
                      have hgi : A i = some ⟨g, 0, none⟩ := HAi.out.symm
                      obtain ⟨g', e', hk'⟩ := SC.me.2 _ hgi
                      injection e' with e'
                      subst e'
                      have hml := mixed_length (fun t => (F i).getD t 0) (fun t => (F i).getD t 0 ^^^ 255) m k
                      have ck : wr.cell? ⟨g, m, none⟩ = some (.int .u8 (((F i).getD m 0 ^^^ 255 : Nat) : Int)) := by
                        rw [hk'.cell]
                        have := U8s_get (mixed (fun t => (F i).getD t 0) (fun t => (F i).getD t 0 ^^^ 255) m k) m (by omega)
                        rw [mixed_get _ _ _ _ _ hkl, if_neg (by omega)] at this
                        simpa using this
                      have fk : wr.frozen? ⟨g, m, none⟩ = false := hk'.frozen m
                      have hx := xor_val ((F i).getD m 0 ^^^ 255) (xor_lt _ (HByt.out m))
                      rw [xor_back] at hx
                      have SN := SC.store hlt HG.out hgi m ((F i).getD m 0)
                      rw [mixed_set (fun t => (F i).getD t 0)] at SN
                      have HSN := Lib.hid SN
                      have hwk : IntKind.i64.wrap ((m : Int) + 1) = (m : Int) + 1 := IntWalk.i64_in _ (by have := HMax.out; unfold maxLen at this; omega)
                      clear SN SC hml hk' hgi
                      generalize hyy : (F i).getD m 0 ^^^ 255 = y at ck hx
                      clear hyy
                      generalize (F i).getD m 0 = z at hx HSN
                      go_wp2_with fail
                      go_roundg g4
                      case measure => omega
                      case rel => exact ⟨m + 1, by omega, rfl, HSN.out⟩
                | succ g3 =>
                  have hlt3 : t < n := by omega
                  have hdt : decide (t < n) = true := by simp; omega
                  have hti : (t : Int) < (n : Int) := by omega
                  by_cases hti2 : t = i
                  · subst hti2
                    have hg : ((t : Int) != (t : Int)) = false := by simp
                    go_wp2_with fail
                    go_quiet (fail)
                    go_wp2_with fail
                    go_roundg g3
                    case measure => omega
                    case rel => exact ⟨t + 1, by omega, rfl, ST.draw nq⟩
                  · have hg : ((t : Int) != (i : Int)) = true := by rw [bne_iff_ne]; omega
                    have hct := ST.cell rfl t hlt3
                    have hcv := fun n => (((HF.out t hlt3).on (ST.others t hlt3 hti2)).sl.draw n).conv
                    obtain ⟨gw, cw, ew, _, _⟩ := ST.own.form (by omega)
                    injection ew with ew1 _ ew2
                    subst ew1 ew2
                    have hcw : wr.cell? ⟨gw, t, none⟩ = some (.string (strOf (B t))) := by
                      rw [ST.own.cellAt t (by omega)]
                      exact texts_at B n t hlt3
                    go_wp2_with fail
                    go_quiet (fail)
                    go_wp2_with fail
                    go_roundg g3
                    case measure => omega
                    case rel => exact ⟨t + 1, by omega, rfl, ST.draw nq⟩
            | succ g2 =>
              have hkl : k < L := by omega
              have hdk : decide (k < L) = true := by simpa using hkl
              have hki : (k : Int) < (L : Int) := by omega
              obtain ⟨g, hga⟩ : ∃ g, Ai = some ⟨g, 0, none⟩ := by
                cases hA : Ai with
                | none => have := (HF.out i hlt).void (by rw [← HAi.out]; exact hA); rw [HL.out, this] at hkl; simp at hkl
                | some a => obtain ⟨g, e, _⟩ := SK.me.2 a (by rw [← HAi.out]; exact hA); exact ⟨g, by rw [e]⟩
              subst hga
              have hgi : A i = some ⟨g, 0, none⟩ := HAi.out.symm
              obtain ⟨g', e', hk'⟩ := SK.me.2 _ hgi
              injection e' with e'
              subst e'
              have hml := mixed_length (fun t => (F i).getD t 0 ^^^ 255) (fun t => (F i).getD t 0) k L
              have ck : wr.cell? ⟨g, k, none⟩ = some (.int .u8 (((F i).getD k 0 : Nat) : Int)) := by
                rw [hk'.cell]
                have := U8s_get (mixed (fun t => (F i).getD t 0 ^^^ 255) (fun t => (F i).getD t 0) k L) k (by omega)
                rw [mixed_get _ _ _ _ _ hkl, if_neg (by omega)] at this
                simpa using this
              have fk : wr.frozen? ⟨g, k, none⟩ = false := hk'.frozen k
              have hx := xor_val ((F i).getD k 0) (HByt.out k)
              have SN := SK.store hlt HG.out hgi k ((F i).getD k 0 ^^^ 255)
              rw [mixed_set (fun t => (F i).getD t 0 ^^^ 255)] at SN
              have HSN := Lib.hid SN
              have hwk : IntKind.i64.wrap ((k : Int) + 1) = (k : Int) + 1 := IntWalk.i64_in _ (by have := HMax.out; unfold maxLen at this; omega)
              clear SN SK hml hk' hgi
              generalize (F i).getD k 0 = y at ck hx HSN
              go_wp2_with fail
              go_roundg g2
              case measure => omega
              case rel => exact ⟨k + 1, by omega, rfl, HSN.out⟩
    | succ gk =>
      have hlt : i < n := by omega
      have hd : decide (i < n) = true := by simp; omega
      have hii : (i : Int) < (n : Int) := by omega
      have hcell : wr.cell? ⟨h, i, none⟩ = some (V i) := by
        have := (ownsRow_fr (S := fun _ => False) HH.out (Fr.of_below HBe.out) (fun _ _ h => h)).cells (g := h) rfl i (V i) (vals_at V hlt)
        rw [addr0] at this
        exact this
      have hcv := ((HF.out i hlt).below HBe.out).sl.conv
      go_wp2_with (at_builtin; refine wpList_append_own_at _ rfl (.tmp 16) (.tmp 22) 67 rfl w.heap.size 9 i0 (.string ByteArray.empty) 1 16 Tryd.underlying67 hi hz0 hz1 hz2 rfl (by decide) _ _ _ rfl (HO.out.alloc _) ⟨wr.heap.size, 0, none⟩ 1 1 [.string (strOf (B i))] rfl rfl (cell_one_new _ _ _) ?c2 ?c3 ?c4 ?c5 ?_)
      case c2 => intro u hu; simp at hu; subst hu; rfl
      case c3 => unfold maxLen; omega
      case c4 => omega
      case c5 => have := HBe.out.size; simp; omega
      intro v4 w4 hown4 hgrow4 _ _
      have HO4 : Hid (w4.ownsRow w.heap.size 9 1 v4 (i + 1) (texts B (i + 1))) := by rw [texts_succ]; exact hown4
      have HB4 := Lib.hid ((HBe.out.alloc HBe.out.size (.cells #[.string (strOf (B i))] 9)).grown hgrow4 (by have := HBe.out.size; simp; omega) (fun k hk => (HO.out.lt k hk).1))
      clear hown4 hgrow4 hcell hcv
      go_wp2_with fail
      go_roundg gk
      case measure => omega
      case rel => exact ⟨i + 1, by omega, rfl, HO4.out, HB4.out⟩

end Go.Proofs.YtebdjahcahgafaaDoor

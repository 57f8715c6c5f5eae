/- The walk of BoxTurned. (By tools/genturned.py.) -/
import Derived.Test.YtnffflcfncffpaaBLent
import Derived.Test.YtnffflcfncffpaaBAwake
import Derived.Test.YtnffflcfncffpaaBMath2
import Derived.Deep.AppendLies
namespace Go.Proofs.Ytnffflcfncffpaa
open Go.RowKit

/-- The boxes turned about, each twice: behind j rounds. -/
def tw (L : List Bx) : Nat → List Bx
  | 0 => []
  | j + 1 => tw L j ++ [Bx.at L (L.length - 1 - j), Bx.at L (L.length - 1 - j)]
theorem tw_len (L : List Bx) (j : Nat) : (tw L j).length = 2 * j := by
  induction j with
  | zero => rfl
  | succ j ih => simp only [tw, List.length_append, ih, List.length_cons, List.length_nil]; omega
theorem tw_at (L : List Bx) (j t : Nat) (h : t < 2 * j) : Bx.at (tw L j) t = Bx.at L (L.length - 1 - t / 2) := by
  induction j with
  | zero => omega
  | succ j ih =>
    have hl := tw_len L j
    have hl1 := tw_len L (j + 1)
    rw [Bx.at_get (by omega)]
    simp only [tw]
    rcases Nat.lt_or_ge t (2 * j) with h' | h'
    · rw [List.getElem_append_left (by omega), ← Bx.at_get, ih h']
    · rw [List.getElem_append_right (by omega)]
      have h2 : t = 2 * j ∨ t = 2 * j + 1 := by omega
      rcases h2 with rfl | rfl
      · have e : 2 * j / 2 = j := by omega
        simp only [hl, Nat.sub_self, List.getElem_cons_zero, e]
      · have e : (2 * j + 1) / 2 = j := by omega
        have e2 : 2 * j + 1 - (tw L j).length = 1 := by omega
        simp only [e2, List.getElem_cons_succ, List.getElem_cons_zero, e]
theorem tw_same (L : List Bx) : Same L (tw L L.length) := by
  have hl := tw_len L L.length
  refine ⟨fun i hi => ⟨2 * (L.length - 1 - i), by omega, ?_⟩, fun j hj => ⟨L.length - 1 - j / 2, by omega, ?_⟩⟩
  · rw [tw_at L L.length _ (by omega)]
    congr 1
    omega
  · rw [tw_at L L.length j (by omega)]

theorem rbox_own {w : World} {B n : Nat} {v : Value} {M : List Bx} (h : w.ownsRow B 25 3 v n (cellsL M)) (hi : ∀ k, k < n → I64 (Bx.at M k).x ∧ I64 (Bx.at M k).y ∧ I64 (Bx.at M k).r) (hn : M.length = n) :
    ∃ A c, v = .slice A n c ∧ RBox w w.heap.size A n M := by
  rcases h.2 with ⟨rfl, h0⟩ | ⟨g, cap, cur, rfl, hb, hg, _⟩
  · subst h0
    exact ⟨none, 0, rfl, hn, hi, fun k => absurd k (by omega)⟩
  · refine ⟨_, _, rfl, hn, hi, fun _ => ⟨g, 0, rfl, (Array.getElem?_eq_some_iff.1 hg).1, fun k hk => ?_⟩⟩
    have hc := h.cells (g := g) rfl
    have hk2 := cellsL_at M k (by omega)
    have ea : ∀ j, (⟨g, 0, none⟩ : Addr).add j = ⟨g, 0 + j, none⟩ := by intro j; unfold Addr.add; split <;> simp_all
    have a0 := hc _ _ hk2.1
    have a1 := hc _ _ hk2.2.1
    have a2 := hc _ _ hk2.2.2
    rw [ea] at a0 a1 a2
    exact ⟨a0, a1, a2⟩

/-- The cells of the box at hand. -/
abbrev TL (b i : Nat) (u v s : Int) (w1 : World) : Prop := w1.cell? ⟨b, i, none⟩ = some (.int .i64 u) ∧ w1.cell? ⟨b, i + 1, none⟩ = some (.int .i64 v) ∧ w1.cell? ⟨b, i + 2, none⟩ = some (.int .i64 s)

set_option maxRecDepth 100000 in
set_option maxHeartbeats 1000000 in
theorem turned_walk (a : Bx) (ax d : Int) (A : Option Addr) (n c : Nat) (L : List Bx) (w : World) (hx : I64 a.x) (hy : I64 a.y) (hd : I64 d) (hn : n ≤ 1048576) (hL : RBox w w.heap.size A n L) :
    Calls Try.prog 10 #[boxV a.x a.y a.r, .int .i64 ax, .int .i64 d, .slice A n c] w fun e w' => e = .returned (.bool true) ∧ Below w.heap.size w w' := by
  have HA := Lib.hid (fun w => awake_c w)
  have C1 := Lib.hid (fun w hL => Push_c a ax d A n c L w hx hy hd (by omega) hL)
  have C2 := Lib.hid (fun B cap w hL => Push_c a ax d B (2 * n) cap (tw L n) w hx hy hd (by omega) hL)
  have hlen := hL.1
  have hsame : Same L (tw L n) := by rw [← hlen]; exact tw_same L
  have HI := Lib.hid (show ∀ k, k < 2 * n → I64 (Bx.at (tw L n) k).x ∧ I64 (Bx.at (tw L n) k).y ∧ I64 (Bx.at (tw L n) k).r from fun k hk => by
    rw [tw_at L n k hk]
    exact hL.2.1 _ (by omega))
  have HW := Lib.hid (hsame.pwho ax a d)
  rw [← hsame.pway ax a d, ← hsame.err ax a d] at C2
  generalize pWay ax a d L = D at *
  generalize errP ax a d L = e0 at *
  generalize pWho ax a d L = o1 at *
  generalize pWho ax a d (tw L n) = o2 at *
  have HL := Lib.hid hL
  have HLEN := Lib.hid hlen
  have HN := Lib.hid hn
  have hn' : n < 9223372036854775808 := by omega
  have i0 : wrap64 ((n : Int) - 1) = (n : Int) - 1 := IntWalk.wrap64_in _ (by omega)
  clear hx hy hd hn hL hlen hsame
  go_enter Try.func10, Try.ntmps10
  go_wp2_with fail
  refine (HA.out _).mono ?_
  rintro e w1 ⟨rfl, hb⟩
  have HK := Lib.hid (last_blk hb)
  have HB := Lib.hid (vbt (bel1 w _) hb)
  clear hb HA
  go_wp2_with fail
  clear i0
  go_loopg [10, 11] n (fun gg s10 s11 wr => ∃ i : Int, i + 1 = (gg : Int) ∧ gg ≤ n ∧ s11 = .int .i64 i ∧ wr.ownsRow w1.heap.size 25 3 s10 (2 * (n - gg)) (cellsL (tw L (n - gg))) ∧ Below w1.heap.size w1 wr)
  case atStart =>
    refine ⟨(n : Int) - 1, by omega, Nat.le_refl _, rfl, ?_, Below.refl _ _⟩
    rw [Nat.sub_self]
    exact ⟨rfl, .inl ⟨rfl, rfl⟩⟩
  case round =>
    obtain ⟨i, hi, hgn, rfl, ho, hb⟩ := hrel
    have HO := Lib.hid ho
    have HB1 := Lib.hid hb
    clear ho hb
    cases gk with
    | zero =>
      obtain rfl : i = -1 := by omega
      have HO2 := HO
      rw [Nat.sub_zero] at HO2
      obtain ⟨B, cap, rfl, hM⟩ := rbox_own HO2.out HI.out (by rw [tw_len])
      have HM := Lib.hid hM
      have HK := Lib.hid (HK.out.below HB1.out HK.out.lt)
      have HB2 := Lib.hid (vbt HB.out HB1.out)
      clear hi hgn hM HO HO2
      have c0 := HK.out.cell 0
      have c1 := HK.out.cell 1
      have c2 := HK.out.cell 2
      go_wp2_with fail
      refine (C1.out _ (HL.out.since HB2.out)).mono ?_
      rintro e w3 ⟨rfl, hb⟩
      have HK := Lib.hid (HK.out.below hb HK.out.lt)
      have HB3 := Lib.hid (vbt HB2.out hb)
      have HM := Lib.hid (HM.out.since hb)
      clear c0 c1 c2 hb
      have c0 := HK.out.cell 0
      have c1 := HK.out.cell 1
      have c2 := HK.out.cell 2
      go_wp2_with fail
      refine (C2.out _ _ _ HM.out).mono ?_
      rintro e w4 ⟨rfl, hb⟩
      have HB4 := Lib.hid (vbt HB3.out hb)
      clear c0 c1 c2 hb
      by_cases h1 : o1 = -1
      · have h2 := HW.out.1 h1
        subst h1
        subst h2
        go_wp2_with fail
        go_ret
        exact ⟨rfl, HB4.out⟩
      · have h2 : ¬ o2 = -1 := fun k => h1 (HW.out.2 k)
        have d1 : (o1 == -1) = false := by simpa using h1
        have d2 : (o2 == -1) = false := by simpa using h2
        clear h1 h2
        go_wp2_with fail
        go_ret
        exact ⟨rfl, HB4.out⟩
    | succ gk =>
      obtain rfl : i = (gk : Int) := by omega
      have hkn : gk < n := by omega
      have hkI : (gk : Int) < (n : Int) := by omega
      have hk0 : (0 : Int) ≤ (gk : Int) := by omega
      obtain ⟨b, o, rfl, hlt, hc⟩ := HL.out.2.2 (by omega)
      have hc := hc gk hkn
      have HLT := Lib.hid hlt
      have HC := Lib.hid hc
      have HSZ := Lib.hid (show w.heap.size ≤ w1.heap.size from HB.out.size)
      have et : tw L (n - gk) = tw L (n - (gk + 1)) ++ [Bx.at L gk, Bx.at L gk] := by
        rw [show n - gk = (n - (gk + 1)) + 1 by omega]
        simp only [tw]
        rw [HLEN.out, show n - 1 - (n - (gk + 1)) = gk by omega]
      have HET := Lib.hid et
      clear hi hlt hc et
      have hTL : ∀ w2, Below w1.heap.size w1 w2 → TL b (o + gk * 3) (Bx.at L gk).x (Bx.at L gk).y (Bx.at L gk).r w2 := by
        intro w2 h2
        have hl1 : b < w1.heap.size := Nat.lt_of_lt_of_le HLT.out HSZ.out
        exact ⟨(h2.cell hl1).trans ((HB.out.cell HLT.out).trans HC.out.1), (h2.cell hl1).trans ((HB.out.cell HLT.out).trans HC.out.2.1), (h2.cell hl1).trans ((HB.out.cell HLT.out).trans HC.out.2.2)⟩
      have HTL := Lib.hid hTL
      clear hTL
      generalize Bx.at L gk = bb at *
      obtain ⟨u, v, s⟩ := bb
      dsimp only at *
      go_upto_region 6 with (fail)
      refine wp_region_held_drew (S := TL b (o + gk * 3) u v s) (by kernel_rfl) (HTL.out _ HB1.out.drew) (fun hH0 => ?_)
      refine wpAnyH_take (i := 0) (oi := { dst := some 26, op := Op.move (Operand.tmp 10), type := 36, pos := "more.go:52", after := #[], guard := none }) (v := ?v0) rfl (by kernel_rfl) (by kernel_rfl) (by kernel_rfl) (fun _ _ _ h => h) (Or.inl ⟨by rfl, ?h0⟩) hH0 ?r0
      case h0 => intro w' hSw; (try dsimp only at hSw); go_simp; (try with_reducible rfl)
      simp only [Act.put, List.setIfInBounds_toArray, List.set_cons_zero, List.set_cons_succ]
      refine wpAnyH_take (i := 1) (oi := { dst := some 27, op := Op.move (Operand.tmp 3), type := 36, pos := "more.go:52", after := #[], guard := none }) (v := ?v1) rfl (by kernel_rfl) (by kernel_rfl) (by kernel_rfl) (fun _ _ _ h => h) (Or.inl ⟨by rfl, ?h1⟩) hH0 ?r1
      case h1 => intro w' hSw; (try dsimp only at hSw); go_simp; (try with_reducible rfl)
      simp only [Act.put, List.setIfInBounds_toArray, List.set_cons_zero, List.set_cons_succ]
      refine wpAnyH_take (i := 2) (oi := { dst := some 28, op := Op.move (Operand.tmp 11), type := 3, pos := "more.go:52", after := #[], guard := none }) (v := ?v2) rfl (by kernel_rfl) (by kernel_rfl) (by kernel_rfl) (fun _ _ _ h => h) (Or.inl ⟨by rfl, ?h2⟩) hH0 ?r2
      case h2 => intro w' hSw; (try dsimp only at hSw); go_simp; (try with_reducible rfl)
      simp only [Act.put, List.setIfInBounds_toArray, List.set_cons_zero, List.set_cons_succ]
      refine wpAnyH_take (i := 3) (oi := { dst := some 29, op := Op.indexAddr 36 (Operand.tmp 27) (Operand.tmp 28), type := 0, pos := "more.go:52", after := #[{ on := 1, ground := Ground.data }, { on := 2, ground := Ground.data }], guard := none }) (v := ?v3) rfl (by kernel_rfl) (by kernel_rfl) (by kernel_rfl) (fun _ _ _ h => h) (Or.inl ⟨by rfl, ?h3⟩) hH0 ?r3
      case h3 => intro w' hSw; (try dsimp only at hSw); go_simp; (try with_reducible rfl)
      simp only [Act.put, List.setIfInBounds_toArray, List.set_cons_zero, List.set_cons_succ]
      refine wpAnyH_take (i := 4) (oi := { dst := some 30, op := Op.load 25 (Operand.tmp 29), type := 25, pos := "more.go:52", after := #[{ on := 3, ground := Ground.data }], guard := none }) (v := ?v4) rfl (by kernel_rfl) (by kernel_rfl) (by kernel_rfl) (fun _ _ _ h => h) (Or.inl ⟨by rfl, ?h4⟩) hH0 ?r4
      case h4 => intro w' hSw; (try dsimp only at hSw); go_simp; (try with_reducible rfl)
      simp only [Act.put, List.setIfInBounds_toArray, List.set_cons_zero, List.set_cons_succ]
      refine wpAnyH_take (i := 5) (oi := { dst := some 31, op := Op.move (Operand.tmp 3), type := 36, pos := "more.go:52", after := #[], guard := none }) (v := ?v5) rfl (by kernel_rfl) (by kernel_rfl) (by kernel_rfl) (fun _ _ _ h => h) (Or.inl ⟨by rfl, ?h5⟩) hH0 ?r5
      case h5 => intro w' hSw; (try dsimp only at hSw); go_simp; (try with_reducible rfl)
      simp only [Act.put, List.setIfInBounds_toArray, List.set_cons_zero, List.set_cons_succ]
      refine wpAnyH_take (i := 6) (oi := { dst := some 32, op := Op.move (Operand.tmp 11), type := 3, pos := "more.go:52", after := #[], guard := none }) (v := ?v6) rfl (by kernel_rfl) (by kernel_rfl) (by kernel_rfl) (fun _ _ _ h => h) (Or.inl ⟨by rfl, ?h6⟩) hH0 ?r6
      case h6 => intro w' hSw; (try dsimp only at hSw); go_simp; (try with_reducible rfl)
      simp only [Act.put, List.setIfInBounds_toArray, List.set_cons_zero, List.set_cons_succ]
      refine wpAnyH_take (i := 7) (oi := { dst := some 33, op := Op.indexAddr 36 (Operand.tmp 31) (Operand.tmp 32), type := 0, pos := "more.go:52", after := #[{ on := 5, ground := Ground.data }, { on := 6, ground := Ground.data }], guard := none }) (v := ?v7) rfl (by kernel_rfl) (by kernel_rfl) (by kernel_rfl) (fun _ _ _ h => h) (Or.inl ⟨by rfl, ?h7⟩) hH0 ?r7
      case h7 => intro w' hSw; (try dsimp only at hSw); go_simp; (try with_reducible rfl)
      simp only [Act.put, List.setIfInBounds_toArray, List.set_cons_zero, List.set_cons_succ]
      refine wpAnyH_take (i := 8) (oi := { dst := some 34, op := Op.load 25 (Operand.tmp 33), type := 25, pos := "more.go:52", after := #[{ on := 7, ground := Ground.data }], guard := none }) (v := ?v8) rfl (by kernel_rfl) (by kernel_rfl) (by kernel_rfl) (fun _ _ _ h => h) (Or.inl ⟨by rfl, ?h8⟩) hH0 ?r8
      case h8 => intro w' hSw; (try dsimp only at hSw); go_simp; (try with_reducible rfl)
      simp only [Act.put, List.setIfInBounds_toArray, List.set_cons_zero, List.set_cons_succ]
      refine wpAnyH_ready (rs := [9]) (by kernel_rfl) (by simp) ?_
      refine AllReadyH.cons (o := { dst := some 35, op := Op.buildSlice 36 2 #[(0, Operand.tmp 30), (1, Operand.tmp 34)], type := 36, pos := "more.go:52", after := #[{ on := 4, ground := Ground.data }, { on := 8, ground := Ground.data }], guard := none }) rfl (fun K hK => ?_) AllReadyH.nil
      go_simp
      go_wp2_with fail
      refine hK.out _ _ (HTL.out _ ((HB1.out.alloc HB1.out.size _).drew)) (fun hH1 => ?_)
      clear hK K
      obtain ⟨ti, hti, htz, hts, htb⟩ := info_parts info25
      refine wpAnyH_ready (rs := [10]) (by kernel_rfl) (by simp) ?_
      refine AllReadyH.cons (o := { dst := some 36, op := Op.call { callee := Callee.builtin Builtin.append, args := #[Operand.tmp 26, Operand.tmp 35], argTypes := #[36, 36] }, type := 36, pos := "more.go:52", after := #[{ on := 0, ground := Ground.data }, { on := 9, ground := Ground.data }], guard := none }) rfl (fun K hK => ?_) AllReadyH.nil
      rw [if_pos (by rfl)]
      refine wp_append_lies _ (.tmp 26) (.tmp 35) 36 rfl w1.heap.size 25 ti _ 3 24 Try.underlying36 hti htz hts htb rfl (by omega) u10 (2 * (n - (gk + 1))) (cellsL (tw L (n - (gk + 1)))) rfl (World.ownsRow.drew (HO.out.alloc _)) ⟨wr.heap.size, 0, none⟩ 2 2 (cellsL [⟨u, v, s⟩, ⟨u, v, s⟩]) rfl rfl (World.news_of_block (Blk.new wr 25 _)) (cellsL_one _) (by omega) (by have := HN.out; unfold maxLen; omega) (by have := HN.out; omega) (by have := HB1.out.size; simp only [World.drew]; simp; omega) _ rfl ?_
      intro g cap w' h2 h3 h4 h5
      have hbw : Below w1.heap.size w1 w' := below_kept HB1.out HB1.out.size (vp := u10) ⟨h3.os, h3.tape, h3.output, h3.size, h3.block⟩ (fun k hk => (HO.out.lt k hk).1)
      rw [← cellsL_append, ← HET.out, show 2 * (n - (gk + 1)) + 2 = 2 * (n - gk) by omega] at h2
      rw [show 2 * (n - (gk + 1)) + 2 = 2 * (n - gk) by omega]
      refine hK.out _ _ (HTL.out _ hbw) (fun hH2 => ?_)
      clear hK K
      have HO2 := Lib.hid h2
      have HB2 := Lib.hid hbw
      clear h2 h3 h4 h5 hbw hti htz hts htb hH0 hH1
      refine wpAnyH_take (i := 11) (oi := { dst := some 10, op := Op.assign (Operand.tmp 36), type := 36, pos := "more.go:52", after := #[{ on := 10, ground := Ground.data }, { on := 10, ground := Ground.chain }, { on := 0, ground := Ground.phase }, { on := 1, ground := Ground.phase }, { on := 2, ground := Ground.phase }, { on := 3, ground := Ground.phase }, { on := 4, ground := Ground.phase }, { on := 5, ground := Ground.phase }, { on := 6, ground := Ground.phase }, { on := 7, ground := Ground.phase }, { on := 8, ground := Ground.phase }, { on := 9, ground := Ground.phase }, { on := 10, ground := Ground.phase }], guard := none }) (v := ?v11) rfl (by kernel_rfl) (by kernel_rfl) (by kernel_rfl) (fun _ _ _ h => h) (Or.inl ⟨by rfl, ?h11⟩) hH2 ?r11
      case h11 => intro w' hSw; (try dsimp only at hSw); go_simp; (try with_reducible rfl)
      simp only [Act.put, List.setIfInBounds_toArray, List.set_cons_zero, List.set_cons_succ]
      refine wpAnyH_done (by kernel_rfl) ?_ _
      clear hH2
      have i1 : wrap64 ((gk : Int) - 1) = (gk : Int) - 1 := IntWalk.wrap64_in _ (by have := HN.out; omega)
      go_wp2_with fail
      go_roundg gk
      case measure => omega
      case rel => exact ⟨(gk : Int) - 1, by omega, by omega, rfl, HO2.out, HB2.out⟩
end Go.Proofs.Ytnffflcfncffpaa

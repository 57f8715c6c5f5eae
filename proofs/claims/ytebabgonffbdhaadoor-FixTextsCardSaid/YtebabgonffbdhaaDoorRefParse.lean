/- The reference's Parse: the same numbers. -/
import Derived.Test.YtebabgonffbdhaaDoorRefDig
import Derived.Test.YtebabgonffbdhaaDoorRPm
import Derived.Test.YtebabgonffbdhaaDoorRefSm
import Derived.Maps.AppendAt
import Derived.Deep.DeepCutAuto
namespace Go.Proofs.YtebabgonffbdhaaDoor
open Go.RowKit

theorem infoI64 : (Tryd.prog.info? 3).map (fun i => (i.zero, i.size, i.bytes)) = some (some (.int .i64 0), 1, 8) := by kernel_rfl
def I64s (bs : List Nat) : List Value := bs.map fun b : Nat => Value.int .i64 (b : Int)
theorem I64s_length (bs : List Nat) : (I64s bs).length = bs.length := by simp [I64s]
theorem I64s_append (a b : List Nat) : I64s (a ++ b) = I64s a ++ I64s b := by simp [I64s]
theorem I64s_get (bs : List Nat) (i : Nat) (h : i < bs.length) : (I64s bs)[i]? = some (.int .i64 ((bs.getD i 0 : Nat) : Int)) := by
  simp [I64s, List.getD, List.getElem?_eq_getElem h]

/-- The numbers r lie in block g, from its beginning on. -/
structure RI (w : World) (g m : Nat) (r : List Nat) (wx : World) : Prop where
  row : ∃ cur : Array Value, Blk wx g 3 cur ∧ cur.toList.take m = I64s r
  len : r.length = m
  new : w.heap.size ≤ g
  below : Below w.heap.size w wx
theorem RI.cell {w wx : World} {g m : Nat} {r : List Nat} (h : RI w g m r wx) (i : Nat) (hi : i < m) : wx.cell? ⟨g, i, none⟩ = some (.int .i64 ((r.getD i 0 : Nat) : Int)) ∧ wx.frozen? ⟨g, i, none⟩ = false := by
  obtain ⟨cur, hb, ht⟩ := h.row
  refine ⟨?_, hb.frozen i⟩
  rw [hb.cell, ← I64s_get r i (by rw [h.len]; exact hi), ← ht, List.getElem?_take, if_pos hi]
  simp
theorem RI.set {w wx : World} {g m : Nat} {r : List Nat} (h : RI w g m r wx) (i x : Nat) (_hi : i < m) : RI w g m (r.set i x) (wx.setCell ⟨g, i, none⟩ (.int .i64 (x : Int))) := by
  obtain ⟨cur, hb, ht⟩ := h.row
  refine ⟨⟨_, hb.set_ i _, ?_⟩, by rw [List.length_set, h.len], h.new, h.below.setCell (by have := h.new; simp; omega) _⟩
  rw [Array.toList_setIfInBounds, List.take_set, ht]
  simp [I64s, List.map_set]
theorem RI.of_own {w wx : World} {v : Value} {m : Nat} {r : List Nat} (h : wx.ownsRow w.heap.size 3 1 v m (I64s r)) (hm : 0 < m) (hl : r.length = m) (hb : Below w.heap.size w wx) : ∃ g cap, v = .slice (some ⟨g, 0, none⟩) m cap ∧ m ≤ cap ∧ RI w g m r wx := by
  rcases h.2 with ⟨_, h0⟩ | ⟨g, cap, cur, rfl, hg, hh, hc, _, hs, ht⟩
  · omega
  · exact ⟨g, cap, rfl, hc, ⟨⟨cur, hh, by simpa using ht⟩, hl, hg, hb⟩⟩

/-- The whole part, and the point behind it, are as they should be. -/
def Ok2 (l : List Nat) (n : Nat) : Prop := 1 ≤ n ∧ n ≤ 10 ∧ ¬ (l.getD 0 0 = 48 ∧ 1 < n) ∧ n < l.length ∧ l.getD n 0 = 46
/-- What is refused. -/
theorem parse_bad2 {l : List Nat} (h : ¬ Ok2 l (ld l)) : parseF l = none := by
  unfold parseF
  have := ld_le l
  split
  · rfl
  split
  · rfl
  split
  · rfl
  rename_i h1 h2 h3
  exfalso
  apply h
  refine ⟨by omega, by omega, h2, by omega, ?_⟩
  exact Classical.byContradiction fun h4 => h3 (.inr h4)
theorem parse_bad5 {l : List Nat} (h : ¬ (1 ≤ ld (l.drop (ld l + 1)) ∧ ld (l.drop (ld l + 1)) ≤ 32 ∧ ld (l.drop (ld l + 1)) = (l.drop (ld l + 1)).length)) : parseF l = none := by
  unfold parseF
  have := ld_le (l.drop (ld l + 1))
  split
  · rfl
  split
  · rfl
  split
  · rfl
  split
  · rfl
  split
  · rfl
  omega
theorem parse_good {l : List Nat} (h : Ok2 l (ld l)) (k : 1 ≤ ld (l.drop (ld l + 1)) ∧ ld (l.drop (ld l + 1)) ≤ 32 ∧ ld (l.drop (ld l + 1)) = (l.drop (ld l + 1)).length) :
    parseF l = if 2147483647 < wn (l.take (ld l)) then none else some (wn (l.take (ld l)) * 4294967296 + fnn (l.drop (ld l + 1))) := by
  obtain ⟨h1, h2, h3, h4, h5⟩ := h
  unfold parseF
  rw [if_neg (by omega), if_neg h3, if_neg (by rw [h5]; omega), if_neg (by omega), if_neg (by omega)]

set_option maxRecDepth 100000 in
set_option maxHeartbeats 4000000 in
theorem rparse_c (s : ByteArray) (w : World) (hs : s.size ≤ maxLen) : Calls Tryd.prog 27 #[.string s] w fun e w' => e = .returned (pval (parseF (cs s))) ∧ Below w.heap.size w w' := by
  have CL := Lib.hid (rdig_c s 0 w hs (Nat.zero_le _))
  rw [List.drop_zero] at CL
  have HSZ := Lib.hid hs
  obtain ⟨n, hn⟩ : ∃ n, n = ld (cs s) := ⟨_, rfl⟩
  rw [← hn] at CL
  have HN := Lib.hid hn
  have hns : n ≤ s.size := by rw [hn, ← cs_length]; exact ld_le _
  have hs63 : s.size < 9223372036854775808 := by unfold maxLen at hs; omega
  clear hn hs
  go_enter Tryd.func27, Tryd.ntmps27
  go_upto_region 2 with (go_at_call 45; refine CL.out.mono ?_; rintro e w' ⟨rfl, rfl⟩)
  go_cut [42] (fun s42 wx => (∃ t : Bool, s42 = .bool t ∧ ((t = true ∧ ¬ Ok2 (cs s) n) ∨ (t = false ∧ Ok2 (cs s) n))) ∧ w = wx)
  case first =>
    by_cases h1 : n < 1
    · have d1 : (n : Int) < 1 := by omega
      have HX := Lib.hid (show ¬ Ok2 (cs s) n from fun h => by have := h.1; omega)
      clear h1
      go_wp2_with fail
      go_meet
      exact ⟨⟨true, rfl, .inl ⟨rfl, HX.out⟩⟩, rfl⟩
    have i1 : (1 : Int) ≤ (n : Int) := by omega
    by_cases h2 : 10 < n
    · have d1 : (10 : Int) < (n : Int) := by omega
      have HX := Lib.hid (show ¬ Ok2 (cs s) n from fun h => by have := h.2.1; omega)
      clear h1 h2
      go_wp2_with fail
      go_meet
      exact ⟨⟨true, rfl, .inl ⟨rfl, HX.out⟩⟩, rfl⟩
    have i2 : (n : Int) ≤ 10 := by omega
    have b1 : decide ((n : Int) < 1) = false := decide_eq_false (by omega)
    have b2 : decide ((10 : Int) < (n : Int)) = false := decide_eq_false (by omega)
    have hs0 : 0 < s.size := by omega
    have hg0 := cs_get s 0 hs0
    by_cases h3 : s[0].toNat = 48 ∧ 1 < n
    · have d1 : (1 : Int) < (n : Int) := by omega
      have d2 : ((s[0].toNat : Int) == 48) = true := by simp; omega
      have HX := Lib.hid (show ¬ Ok2 (cs s) n from fun h => h.2.2.1 ⟨hg0.trans h3.1, h3.2⟩)
      clear h1 h2 h3 hg0
      go_wp2_with fail
      go_meet
      exact ⟨⟨true, rfl, .inl ⟨rfl, HX.out⟩⟩, rfl⟩
    have hor : (decide ((1 : Int) < (n : Int)) = false) ∨ (decide ((1 : Int) < (n : Int)) = true ∧ ((s[0].toNat : Int) == 48) = false) := by
      by_cases k1 : (1 : Int) < (n : Int)
      · exact .inr ⟨decide_eq_true k1, by simp; omega⟩
      · exact .inl (decide_eq_false k1)
    have HO3 := Lib.hid (show ¬ ((cs s).getD 0 0 = 48 ∧ 1 < n) by rw [hg0]; exact h3)
    clear h3 hg0
    by_cases h5 : n = s.size
    · have HX := Lib.hid (show ¬ Ok2 (cs s) n from fun h => by have := h.2.2.2.1; rw [cs_length] at this; omega)
      have d5 : decide (s.size ≤ n) = true := decide_eq_true (by omega)
      clear h1 h2 h5
      rcases hor with ho | ⟨ho, ho2⟩
      all_goals
        go_wp2_with fail
        go_meet
        exact ⟨⟨true, rfl, .inl ⟨rfl, HX.out⟩⟩, rfl⟩
    have hlt : n < s.size := by omega
    have d5 : decide (s.size ≤ n) = false := decide_eq_false (by omega)
    have hgn := cs_get s n hlt
    by_cases h6 : s[n].toNat = 46
    · have d6 : ((s[n].toNat : Int) != 46) = false := by simp; omega
      have HX := Lib.hid (show Ok2 (cs s) n from ⟨by omega, by omega, HO3.out, by rw [cs_length]; exact hlt, by rw [hgn]; exact h6⟩)
      clear h1 h2 h5 h6 hgn
      rcases hor with ho | ⟨ho, ho2⟩
      all_goals
        go_wp2_with fail
        go_meet
        exact ⟨⟨false, rfl, .inr ⟨rfl, HX.out⟩⟩, rfl⟩
    · have d6 : ((s[n].toNat : Int) != 46) = true := by simp; omega
      have HX := Lib.hid (show ¬ Ok2 (cs s) n from fun h => h6 (by rw [← hgn]; exact h.2.2.2.2))
      clear h1 h2 h5 h6 hgn
      rcases hor with ho | ⟨ho, ho2⟩
      all_goals
        go_wp2_with fail
        go_meet
        exact ⟨⟨true, rfl, .inl ⟨rfl, HX.out⟩⟩, rfl⟩
  case rest =>
    obtain ⟨⟨t, rfl, hor⟩, rfl⟩ := hcut
    rcases hor with ⟨rfl, hbad⟩ | ⟨rfl, hok⟩
    · have HP := Lib.hid (show parseF (cs s) = none from parse_bad2 (by rw [← HN.out]; exact hbad))
      clear hbad
      go_wp2_with fail
      go_ret2
      exact ⟨by rw [HP.out]; rfl, Below.refl _ _⟩
    have hlt : n < s.size := by have := hok.2.2.2.1; rwa [cs_length] at this
    have HOK := Lib.hid hok
    have hn10 : n ≤ 10 := hok.2.1
    have CM := Lib.hid (rdig_c s (n + 1) w HSZ.out hlt)
    have hex : ld ((cs s).drop (n + 1)) ≤ s.size - (n + 1) := by have := ld_le ((cs s).drop (n + 1)); rwa [List.length_drop, cs_length] at this
    have HFL := Lib.hid (show ((cs s).drop (n + 1)).length = s.size - (n + 1) by rw [List.length_drop, cs_length])
    obtain ⟨m, hm⟩ : ∃ m, m = ld ((cs s).drop (n + 1)) := ⟨_, rfl⟩
    rw [← hm] at CM hex
    have HM := Lib.hid hm
    clear hok hm
    have e1 : (((n + 1 : Nat) : Nat) : Int) = (n : Int) + 1 := by omega
    rw [e1] at CM
    clear e1
    go_upto_region 5 with (go_at_call 45; refine CM.out.mono ?_; rintro e w' ⟨rfl, rfl⟩)
    go_cut [61] (fun s61 wx => (∃ t : Bool, s61 = .bool t ∧ ((t = true ∧ ¬ (1 ≤ m ∧ m ≤ 32 ∧ n + 1 + m = s.size)) ∨ (t = false ∧ 1 ≤ m ∧ m ≤ 32 ∧ n + 1 + m = s.size))) ∧ w = wx)
    case first =>
      by_cases h1 : m < 1
      · have d1 : (m : Int) < 1 := by omega
        have HX := Lib.hid (show ¬ (1 ≤ m ∧ m ≤ 32 ∧ n + 1 + m = s.size) by omega)
        clear h1
        go_wp2_with fail
        go_meet
        exact ⟨⟨true, rfl, .inl ⟨rfl, HX.out⟩⟩, rfl⟩
      have i1 : (1 : Int) ≤ (m : Int) := by omega
      have b1 : decide ((m : Int) < 1) = false := decide_eq_false (by omega)
      by_cases h2 : 32 < m
      · have d1 : (32 : Int) < (m : Int) := by omega
        have HX := Lib.hid (show ¬ (1 ≤ m ∧ m ≤ 32 ∧ n + 1 + m = s.size) by omega)
        clear h1 h2
        go_wp2_with fail
        go_meet
        exact ⟨⟨true, rfl, .inl ⟨rfl, HX.out⟩⟩, rfl⟩
      have i2 : (m : Int) ≤ 32 := by omega
      have b2 : decide ((32 : Int) < (m : Int)) = false := decide_eq_false (by omega)
      by_cases h3 : n + 1 + m = s.size
      · have d3 : ((n : Int) + 1 + (m : Int) != (s.size : Int)) = false := by simp; omega
        have HX := Lib.hid (show 1 ≤ m ∧ m ≤ 32 ∧ n + 1 + m = s.size by omega)
        clear h1 h2 h3
        go_wp2_with fail
        go_meet
        exact ⟨⟨false, rfl, .inr ⟨rfl, HX.out⟩⟩, rfl⟩
      · have d3 : ((n : Int) + 1 + (m : Int) != (s.size : Int)) = true := by simp; omega
        have HX := Lib.hid (show ¬ (1 ≤ m ∧ m ≤ 32 ∧ n + 1 + m = s.size) by omega)
        clear h1 h2 h3
        go_wp2_with fail
        go_meet
        exact ⟨⟨true, rfl, .inl ⟨rfl, HX.out⟩⟩, rfl⟩
    case rest =>
      obtain ⟨⟨t, rfl, hor⟩, rfl⟩ := hcut
      rcases hor with ⟨rfl, hbad⟩ | ⟨rfl, hm1, hm32, hmn⟩
      · have HP := Lib.hid (show parseF (cs s) = none from parse_bad5 (by rw [← HN.out, ← HM.out, HFL.out]; omega))
        clear hbad
        go_wp2_with fail
        go_ret2
        exact ⟨by rw [HP.out]; rfl, Below.refl _ _⟩
      have hp := parse_good (l := cs s) (by rw [← HN.out]; exact HOK.out) (by rw [← HN.out, ← HM.out, HFL.out]; omega)
      rw [← HN.out] at hp
      have HP := Lib.hid hp
      have htd := take_ld (cs s)
      rw [← HN.out] at htd
      have HTD := Lib.hid htd
      have hfd : allD ((cs s).drop (n + 1)) := (allD_iff _).1 (by rw [← HM.out, HFL.out]; omega)
      have HFD := Lib.hid hfd
      clear hp htd hfd hex
      go_wp2_with fail
      go_loop [6, 7] (fun s6 s7 => ∃ k : Nat, k ≤ n ∧ s7 = .int .i64 (k : Int) ∧ s6 = .int .i64 (wn ((cs s).take k) : Int)) (fun _ s7 => n - (intOf s7).toNat)
      case atStart => exact ⟨0, Nat.zero_le _, rfl, rfl⟩
      case round =>
        obtain ⟨k, hk, rfl, rfl⟩ := hrel
        have hb : wn ((cs s).take k) < 10 ^ 10 := Nat.lt_of_lt_of_le (wn_lt k _ (by rw [List.length_take, cs_length]; omega) (fun c hc => HTD.out c (by
          have : (cs s).take k = ((cs s).take n).take k := by rw [List.take_take, Nat.min_eq_left hk]
          rw [this] at hc
          exact List.mem_of_mem_take hc))) (Nat.pow_le_pow_right (by omega) (by omega))
        have hb' : (wn ((cs s).take k) : Int) < 10000000000 := by omega
        by_cases hlt2 : k < n
        · have hks : k < s.size := by omega
          have hst := wn_take (cs s) k (by rw [cs_length]; exact hks)
          rw [cs_get s k hks] at hst
          have hc : 48 ≤ s[k].toNat ∧ s[k].toNat ≤ 57 := by
            rw [← cs_get s k hks]
            have := HTD.out (((cs s).take n).getD k 0) (by rw [getD_at _ _ (by rw [List.length_take, cs_length]; omega)]; exact List.getElem_mem _)
            rwa [show ((cs s).take n).getD k 0 = (cs s).getD k 0 by rw [List.getD_eq_getElem?_getD, List.getD_eq_getElem?_getD, List.getElem?_take, if_pos hlt2]] at this
          obtain ⟨i1, i2⟩ := hc
          have HS := Lib.hid hst
          generalize wn ((cs s).take k) = x at *
          have dk : decide (k < n) = true := decide_eq_true hlt2
          clear hst hb hmn
          go_wp2_with fail
          go_round
          case rel => exact ⟨k + 1, hlt2, by go_num, by rw [HS.out]; go_num⟩
          case measure => simp [intOf]; omega
        · obtain rfl : k = n := by omega
          clear hlt2 hk hb
          generalize wn ((cs s).take k) = W at *
          have dk : decide (k < k) = false := decide_eq_false (by omega)
          go_upto_region 12 with (fail)
          by_cases hbig : 2147483647 < W
          · have HP2 := Lib.hid (show parseF (cs s) = none by rw [HP.out, if_pos hbig])
            have d12 : decide ((2147483647 : Int) < (W : Int)) = true := decide_eq_true (by omega)
            clear hbig hb' hmn
            go_wp2_with fail
            go_ret2
            exact ⟨by rw [HP2.out]; rfl, Below.refl _ _⟩
          have HP2 := Lib.hid (show parseF (cs s) = some (W * 4294967296 + fnn ((cs s).drop (k + 1))) by rw [HP.out, if_neg hbig])
          have d12 : decide ((2147483647 : Int) < (W : Int)) = false := decide_eq_false (by omega)
          have HW := Lib.hid (show W ≤ 2147483647 by omega)
          have HMN := Lib.hid hmn
          obtain ⟨f, hf⟩ : ∃ f, f = (cs s).drop (k + 1) := ⟨_, rfl⟩
          have hfg : ∀ j, (hj : k + 1 + j < s.size) → f.getD j 0 = (s[k + 1 + j]'hj).toNat := fun j hj => by rw [hf, drop_get, cs_get s _ hj]
          have hflen : f.length = m := by rw [hf, HFL.out]; omega
          rw [← hf] at HP2 HFD
          have HFG := Lib.hid hfg
          have HFLN := Lib.hid hflen
          obtain ⟨i0, hi, hz0, hz1, hz2⟩ := info_parts infoI64
          have k10 : (k : Int) ≤ 10 := by omega
          clear hbig hb' hmn HP HM HFL HOK CM CL hf hfg hflen
          go_upto_region 14 with (fail)
          clear d12 dk
          go_wp2_with fail
          go_loopg [8, 9] m (fun gg s8 s9 wr => ∃ j : Nat, gg + j = m ∧ s9 = .int .i64 ((k : Int) + 1 + (j : Int)) ∧ wr.ownsRow w.heap.size 3 1 s8 j (I64s (vals (f.take j))) ∧ Below w.heap.size w wr)
          case atStart => exact ⟨0, rfl, by simp, World.ownsRow_nil _ _ _ _, Below.refl _ _⟩
          case round =>
            obtain ⟨j, hj, rfl, ho, hbl⟩ := hrel
            have HO := Lib.hid ho
            have HBL := Lib.hid hbl
            obtain ⟨A8, c8, rfl⟩ := own_slice ho
            clear ho hbl
            cases gk with
            | succ gk =>
              have hjs : k + 1 + j < s.size := by have := HMN.out; omega
              have hjm : j < f.length := by rw [HFLN.out]; omega
              have hg := HFG.out j hjs
              have hc : 48 ≤ (s[k + 1 + j]'hjs).toNat ∧ (s[k + 1 + j]'hjs).toNat ≤ 57 := by
                rw [← hg, getD_at _ _ hjm]
                exact HFD.out _ (List.getElem_mem _)
              obtain ⟨i1, i2⟩ := hc
              have hnext : vals (f.take (j + 1)) = vals (f.take j) ++ [(s[k + 1 + j]'hjs).toNat - 48] := by
                have e : (s[k + 1 + j]'hjs).toNat = f[j] := by rw [← hg, getD_at _ _ hjm]
                rw [List.take_succ_eq_append_getElem hjm, e]
                unfold vals
                rw [List.map_append]
                rfl
              have HNX := Lib.hid hnext
              have hji : (k : Int) + 1 + (j : Int) < (s.size : Int) := by omega
              have hj0 : (0 : Int) ≤ (k : Int) + 1 + (j : Int) := by omega
              have hjt : ((k : Int) + 1 + (j : Int)).toNat = k + 1 + j := by omega
              have hj32 : j ≤ 32 := by omega
              clear hg hnext hjm
              obtain ⟨cv, hcv⟩ : ∃ cv, cv = (s[k + 1 + j]'hjs).toNat - 48 := ⟨_, rfl⟩
              rw [← hcv] at HNX
              have e48 : ((s[k + 1 + j]'hjs).toNat : Int) - 48 = (cv : Int) := by omega
              clear hcv
              go_wp2_with (at_builtin; refine wpList_append_own_at _ rfl (.tmp 85) (.tmp 91) 55 rfl w.heap.size 3 i0 (.int .i64 0) 1 8 Tryd.underlying55 hi hz0 hz1 hz2 rfl (by decide) _ _ _ rfl (HO.out.alloc _) ⟨wr.heap.size, 0, none⟩ 1 1 [.int .i64 (cv : Int)] rfl rfl (cell_one_new _ _ _) ?f2 ?f3 ?f4 ?f5 ?_)
              case f2 => intro u hu; simp at hu; subst hu; rfl
              case f3 => unfold maxLen; omega
              case f4 => omega
              case f5 => have := HBL.out.size; simp; omega
              intro v9 w9 hown9 hgrow9 _ _
              have HO9 := Lib.hid (show w9.ownsRow w.heap.size 3 1 v9 (j + 1) (I64s (vals (f.take (j + 1)))) by rw [HNX.out, I64s_append]; exact hown9)
              have HB9 := Lib.hid (below_kept HBL.out HBL.out.size hgrow9 (fun q hq => (HO.out.lt q hq).1))
              clear hown9 hgrow9
              go_wp2_with fail
              go_roundg gk
              case measure => omega
              case rel => exact ⟨j + 1, by omega, by go_num, HO9.out, HB9.out⟩
            | zero =>
              obtain rfl : j = m := by omega
              have hjs : (s.size : Int) ≤ (k : Int) + 1 + (j : Int) := by have := HMN.out; omega
              have hft : f.take j = f := List.take_of_length_le (by rw [HFLN.out]; omega)
              have ho := HO.out
              rw [hft] at ho
              have hvl : (vals f).length = j := by rw [vals_len, HFLN.out]
              obtain ⟨g, cap, hv, hcap, hRI⟩ := RI.of_own ho (by omega) hvl HBL.out
              injection hv with hv1 hv2 hv3
              subst hv1 hv3
              have HRI := Lib.hid hRI
              have HPS := Lib.hid (Pass.start W (dvl (vals f)) (10 ^ j) (by have := dvl_lt (vals f) (vals_ten HFD.out); rwa [hvl] at this))
              have HVT := Lib.hid (vals_ten HFD.out)
              have HVL := Lib.hid hvl
              clear hj hft ho hvl hRI HO HBL hv2
              have dk2 : decide ((k : Int) + 1 + (j : Int) < (s.size : Int)) = false := decide_eq_false (by omega)
              go_wp2_with fail
              clear dk2 hjs
              go_loopg [6, 10] 32 (fun gg s6 s10 wz => ∃ (b x : Nat) (r : List Nat), gg + b = 32 ∧ s10 = .int .i64 (b : Int) ∧ s6 = .int .i64 (x : Int) ∧ RI w g j r wz ∧ Ten r ∧ Pass W (dvl (vals f)) (10 ^ j) b x (dvl r))
              case atStart => exact ⟨0, W, vals f, rfl, rfl, rfl, HRI.out, HVT.out, HPS.out⟩
              case round =>
                obtain ⟨b, x, r, hgb, rfl, rfl, hri, hten, hps⟩ := hrel
                have HRI2 := Lib.hid hri
                have HTN := Lib.hid hten
                have HPA := Lib.hid hps
                cases gk with
                | zero =>
                  obtain rfl : b = 32 := by omega
                  have HE := Lib.hid (show W * 4294967296 + fnn f = x by rw [hps.done, fnn_dvl, HFLN.out])
                  clear hri hten hps hgb HRI HPS
                  go_wp2_with fail
                  refine bodyPost_ret (v := .tuple #[.int .i64 (x : Int), .int .i64 0]) (by simp [results, Tryd.results27, go_sem]) rfl ⟨by rw [HP2.out, HE.out]; rfl, HRI2.out.below⟩
                | succ gk =>
                  have hbd := hps.bound (by have := dvl_lt (vals f) HVT.out; rwa [HVL.out] at this)
                  have hp2 : 2 ^ b ≤ 2 ^ 31 := Nat.pow_le_pow_right (by omega) (by omega)
                  have hx62 : x < 4611686018427387904 := by
                    have h1 : (W + 1) * 2 ^ b ≤ 2147483648 * 2 ^ 31 := Nat.mul_le_mul (by have := HW.out; omega) hp2
                    omega
                  have hxi : (x : Int) < 4611686018427387904 := by omega
                  have hb32 : (b : Int) < 32 := by omega
                  have HGB := Lib.hid hgb
                  have HD0 := Lib.hid (Dbl.start hten)
                  have hrl : r.length = j := hri.len
                  have HRL := Lib.hid hrl
                  rw [hrl] at HD0
                  clear hri hten hps hbd hp2 hx62 hgb hrl HRI HPS
                  go_wp2_with fail
                  go_loopg [11, 12] j (fun gg s11 s12 wz => ∃ (over : Nat) (r2 : List Nat) (z : Int), s11 = .int .i64 (over : Int) ∧ s12 = .int .i64 z ∧ z = (gg : Int) - 1 ∧ RI w g j r2 wz ∧ Dbl r r2 gg over)
                  case atStart => exact ⟨0, r, _, rfl, rfl, by omega, HRI2.out, HD0.out⟩
                  case round =>
                    obtain ⟨over, r2, z, rfl, rfl, hz, hri2, hdb⟩ := hrel
                    have HRI3 := Lib.hid hri2
                    have HDB := Lib.hid hdb
                    have hov := hdb.ov
                    clear HRI2
                    cases gk with
                    | zero =>
                      obtain rfl : z = -1 := by omega
                      have hdone := hdb.done
                      rw [HRL.out] at hdone
                      have hlt2 := dvl_lt r2 hdb.ten
                      rw [hdb.len, HRL.out] at hlt2
                      have HNP := Lib.hid (HPA.out.step hdone hlt2)
                      have HT2 := Lib.hid hdb.ten
                      clear hz hri2 hdb hdone hlt2
                      go_wp2_with fail
                      go_roundg gk
                      case measure => omega
                      case rel => exact ⟨b + 1, 2 * x + over, r2, by have := HGB.out; omega, by go_num, by go_num, HRI3.out, HT2.out, HNP.out⟩
                    | succ i =>
                      obtain rfl : z = (i : Int) := by omega
                      have hij : i < j := by have := hdb.le; rw [HRL.out] at this; omega
                      obtain ⟨hcell, hfro⟩ := hri2.cell i hij
                      have hst := hdb.step
                      have hd10 : r2.getD i 0 < 10 := by
                        have hl : i < r2.length := by rw [hri2.len]; exact hij
                        rw [getD_at _ _ hl]; exact hdb.ten _ (List.getElem_mem _)
                      have hset := fun y => hri2.set i y hij
                      generalize r2.getD i 0 = d0 at *
                      obtain ⟨d, hd⟩ : ∃ d, d = 2 * d0 + over := ⟨_, rfl⟩
                      rw [← hd] at hst
                      obtain ⟨q, hq⟩ : ∃ q, q = d / 10 := ⟨_, rfl⟩
                      obtain ⟨t, ht⟩ : ∃ t, t = d % 10 := ⟨_, rfl⟩
                      rw [← hq, ← ht] at hst
                      have e1 : 2 * (d0 : Int) + (over : Int) = (d : Int) := by omega
                      have e2 : (d : Int) / 10 = (q : Int) := by omega
                      have e3 : (d : Int) % 10 = (t : Int) := by omega
                      have bd : d < 100 := by omega
                      have HST := Lib.hid hst
                      have HSET := Lib.hid hset
                      have hij' : (i : Int) < (j : Int) := by omega
                      clear hz hri2 hdb hst hset hd hq ht
                      go_wp2_with fail
                      go_roundg i
                      case measure => omega
                      case rel => exact ⟨q, r2.set i t, (i : Int) - 1, rfl, rfl, rfl, HSET.out t, HST.out⟩
end Go.Proofs.YtebabgonffbdhaaDoor

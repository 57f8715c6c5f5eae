/- The walk of BitsTakes. -/
import Derived.Test.YtehonfobofpahaaTwoWalk
import Derived.Test.YtehonfobofpahaaRefTake
import Derived.Test.YtehonfobofpahaaLent
namespace Go.Proofs.Ytehonfobofpahaa
open Go.RowKit

theorem rtake_fn (A : Option Addr) (k c : Nat) (y : Int) (bs : List Nat) (w : World) (B : Nat) (hr : Reads w B A (8 * bs.length - k) (Bools (fromL bs k))) (hc : 8 * bs.length - k ≤ c) (hcm : c ≤ 9223372036854775807) (hk : k ≤ 8 * bs.length) :
    Calls Try.prog 22 #[.slice A (8 * bs.length - k) c, .int .i64 y] w (RTake w B bs (tkN bs k y).2.1 (tkN bs k y).1 (tkN bs k y).2.2) := by
  unfold tkN
  by_cases h1 : y < 0 ∨ 63 < y
  · rw [if_pos h1]; exact rtake_arg A k c y bs w B hr hc hcm h1
  · rw [if_neg h1]
    obtain ⟨n, rfl⟩ := Int.eq_ofNat_of_zero_le (show 0 ≤ y by omega)
    rw [Int.toNat_natCast]
    by_cases h2 : 8 * bs.length < k + n
    · rw [if_pos h2]; exact rtake_end A k c n _ bs w B rfl hr hc hcm (by omega) (by omega)
    · rw [if_neg h2]; exact rtake_yes A k c n _ bs w B rfl hr hc hcm (by omega) (by omega)

theorem done_iff (bs : List Nat) (k : Nat) (hk : k ≤ 8 * bs.length) : DoneB bs k ↔ (fromL bs k).length < 8 ∧ ∀ i, i < (fromL bs k).length → (fromL bs k)[i]? = some false := by
  rw [fromL_length]
  have key : ∀ i, i < 8 * bs.length - k → 8 * bs.length - k < 8 → bitAt bs (k + (8 * bs.length - k - 1 - i)) = bs.getD (bs.length - 1) 0 / 2 ^ i % 2 := by
    intro i hi h8
    unfold bitAt
    rw [show (k + (8 * bs.length - k - 1 - i)) / 8 = bs.length - 1 by omega, show 7 - (k + (8 * bs.length - k - 1 - i)) % 8 = i by omega]
  constructor
  · rintro ⟨h1, h2⟩
    refine ⟨by omega, fun i hi => ?_⟩
    have := key (8 * bs.length - k - 1 - i) (by omega) (by omega)
    rw [h2 _ (by omega), show k + (8 * bs.length - k - 1 - (8 * bs.length - k - 1 - i)) = k + i by omega] at this
    rw [fromL_get bs k i hi, this]
    rfl
  · rintro ⟨h1, h2⟩
    refine ⟨by omega, fun i hi => ?_⟩
    rw [← key i hi h1]
    have := h2 (8 * bs.length - k - 1 - i) (by omega)
    rw [fromL_get bs k _ (by omega)] at this
    have hb := bitAt_lt bs (k + (8 * bs.length - k - 1 - i))
    simp at this
    omega

/-- A reader, and the reference's bits. -/
structure TakesSt (w : World) (q g : Nat) (bs : List Nat) (k : Nat) (A : Option Addr) (c : Nat) (wr : World) : Prop where
  rd : Rd wr q g bs k
  le : k ≤ 8 * bs.length
  bits : Reads wr wr.heap.size A (8 * bs.length - k) (Bools (fromL bs k))
  lc : 8 * bs.length - k ≤ c
  cm : c ≤ 9223372036854775807
  below : Below w.heap.size w wr

theorem Reads.off {w : World} {B n q : Nat} {A : Option Addr} {L : List Bool} {i : Int} {A' : Option Addr} {l' c' : Nat} (h : Reads w B A n (Bools L)) (hq : Blk w q 56 #[.slice A' l' c', .int .i64 i]) (hn : 0 < n) : ∀ ad, A = some ad → ad.block ≠ q := by
  rintro ad rfl rfl
  obtain ⟨ad', e, _, hc⟩ := h.2 hn
  injection e with e
  subst e
  have hl : 0 < L.length := by have := h.1; simp [Bools] at this; omega
  have h0 := hc 0 (.bool L[0]) (by simp [Bools])
  obtain ⟨b, o, sp⟩ := ad
  have hsp : sp = none := by simpa [Addr.add] using World.cell?_spot h0
  subst hsp
  have h1 : w.cell? ⟨b, o, none⟩ = some (.bool L[0]) := by simpa [Addr.add] using h0
  rw [hq.cell o] at h1
  match o, h1 with
  | 0, h1 => simp at h1
  | 1, h1 => simp at h1
  | o + 2, h1 => simp at h1

theorem Reads.fr {S : Nat → Prop} {w w' : World} {B n : Nat} {A : Option Addr} {xs : List Value} (h : Reads w B A n xs) (hf : Fr S w w') (hB : B ≤ w.heap.size) (hn : 0 < n → ∀ ad, A = some ad → ¬ S ad.block) : Reads w' w'.heap.size A n xs := by
  refine ⟨h.1, fun h0 => ?_⟩
  obtain ⟨ad, rfl, hb, hc⟩ := h.2 h0
  refine ⟨ad, rfl, by have := hf.size; omega, fun j u hu => ?_⟩
  rw [← hc j u hu]
  exact World.cell?_of_block (by rw [block_of_add]; exact hf.block ad.block (by omega) (hn h0 ad rfl))

set_option maxHeartbeats 2000000 in
set_option maxRecDepth 100000 in
theorem takes_walk (a0 a1 : Option Addr) (c0 l1 c1 : Nat) (bs : List Nat) (ys : List Int) (w : World) (h0 : Reads w w.heap.size a0 bs.length (U8s bs)) (h1 : Reads w w.heap.size a1 l1 (Ints ys))
    (hby : ∀ i, bs.getD i 0 < 256) (hl0 : bs.length ≤ 1048576) (hl1 : l1 ≤ maxLen) :
    Calls Try.prog 4 #[.slice a0 bs.length c0, .slice a1 l1 c1] w fun e w' => e = .returned (.bool true) ∧ Below w.heap.size w w' := by
  unfold maxLen at hl1
  have hl48 : bs.length ≤ 281474976710656 := by omega
  have HR0 := Lib.hid h0
  have HR1 := Lib.hid h1
  have HBy := Lib.hid hby
  clear h0 h1 hby
  go_enter Try.func4, Try.ntmps4
  go_wp2_with fail
  refine (awake_c _).mono ?_
  rintro e wa ⟨rfl, hba⟩
  have BA := Lib.hid hba
  have RA := Lib.hid ((HR0.out.below hba).more hba.size)
  clear hba
  go_wp2_with fail
  refine (lent_c a0 c0 bs _ RA.out (by omega)).mono ?_
  rintro e w1 ⟨gl, rfl, hgl, hkl, hb1⟩
  have KL := Lib.hid hkl
  have B1 := Lib.hid (BA.out.trans (hb1.mono BA.out.size))
  have hglB := Nat.le_trans BA.out.size hgl
  clear hkl hb1 RA BA hgl
  go_wp2_with fail
  have RL : Reads w1 w1.heap.size (some ⟨gl, 0, none⟩) bs.length (U8s bs) := ⟨U8s_length bs, fun _ => ⟨_, rfl, KL.out.lt, fun j u hu => by
    have hj : j < bs.length := by
      rcases Nat.lt_or_ge j bs.length with h | h
      · exact h
      · rw [List.getElem?_eq_none (by rw [U8s_length]; exact h)] at hu; cases hu
    have e : (⟨gl, 0, none⟩ : Addr).add j = ⟨gl, j, none⟩ := by unfold Addr.add; split <;> simp_all
    rw [e, KL.out.cell, U8s_append]
    simp only [List.getElem?_toArray]
    rw [List.getElem?_append_left (by rw [U8s_length]; exact hj)]
    exact hu⟩⟩
  refine (read_c (some ⟨gl, 0, none⟩) (bs.length + 3) bs _ RL hl48).mono ?_
  rintro e w2 ⟨q, g, rfl, hq, hg, hr2, hb2⟩
  have K2 := Lib.hid (KL.out.below hb2 KL.out.lt)
  have B2 := Lib.hid (B1.out.trans (hb2.mono B1.out.size))
  have R2 := Lib.hid hr2
  have hqB := Nat.le_trans B1.out.size hq
  have hgB := Nat.le_trans B1.out.size hg
  have nql : q ≠ gl := by have := KL.out.lt; omega
  have ngl : g ≠ gl := by have := KL.out.lt; omega
  have R20 := Lib.hid (HR0.out.below B2.out)
  clear hr2 hb2 B1 KL RL hq hg
  go_wp2_with fail
  refine (kept_c gl c0 w.heap.size a0 bs _ K2.out R20.out hglB (by omega)).mono ?_
  rintro e w3 ⟨rfl, hf⟩
  have B3 := Lib.hid (below_at B2.out hf hglB B2.out.size)
  have R3 := Lib.hid (R2.out.fr hf nql ngl)
  have R30 := Lib.hid ((HR0.out.below B3.out).more B3.out.size)
  clear hf B2 R2 K2 R20
  go_wp2_with fail
  refine (rrow_c a0 c0 bs _ R30.out HBy.out hl0).mono ?_
  rintro e w4 ⟨v4, rfl, hown, hb4⟩
  obtain ⟨A4, c4, rfl⟩ : ∃ A c, v4 = .slice A (8 * bs.length) c := by
    rcases hown.2 with ⟨rfl, h0⟩ | ⟨gg, cap, cur, rfl, _⟩
    · exact ⟨none, 0, by rw [h0]⟩
    · exact ⟨_, _, rfl⟩
  have hcap : 8 * bs.length ≤ c4 ∧ c4 ≤ 9223372036854775807 := by
    rcases hown.2 with ⟨e, h0⟩ | ⟨gg, cap, cur, e, _, _, h2, h3, _⟩
    · injection e with _ e1 e2; omega
    · injection e with _ _ e2; unfold maxLen at h3; omega
  have S0 : TakesSt w q g bs 0 A4 c4 w4 := ⟨R3.out.fr (Fr.of_below (S := fun _ => False) hb4) (fun h => h) (fun h => h), by omega, by rw [fromL_zero, Nat.sub_zero]; exact Reads.of_own hown, by omega, hcap.2, B3.out.trans (hb4.mono B3.out.size)⟩
  clear hown hb4 hcap R3 B3 R30
  have hz : 8 * bs.length = 8 * bs.length - 0 := by omega
  rw [hz]
  clear hz
  go_wp2_with fail
  go_loopg [9, 10, 11, 12, 13, 14, 15, 16] l1 (fun gg s9 s10 _ _ _ _ _ _ wr => ∃ (i k c : Nat) (A : Option Addr), i + gg = l1 ∧ s10 = .int .i64 (i : Int) ∧ s9 = .slice A (8 * bs.length - k) c ∧ TakesSt w q g bs k A c wr)
  case atStart => exact ⟨0, 0, c4, A4, by omega, rfl, rfl, S0⟩
  case round =>
    obtain ⟨i, k, c, A, hig, rfl, rfl, S⟩ := hrel
    clear S0
    have hkl := S.le
    cases gk with
    | zero =>
      have hd : decide (i < l1) = false := by simp; omega
      obtain ⟨m, hm⟩ : ∃ m, m = 8 * bs.length - k := ⟨_, rfl⟩
      rw [← hm]
      have hme : (8 * (bs.length : Int) - (k : Int) == (m : Int)) = true := by rw [beq_iff_eq]; omega
      have HM := Lib.hid hm
      clear hm
      go_wp2_with fail
      refine (rest_c q _ _ _ _ _ S.rd.blk (by omega) (by omega) hl48).mono ?_
      rintro e w5 ⟨rfl, j, rfl⟩
      go_wp2_with fail
      go_ret
      exact ⟨rfl, below_draw S.below j⟩
    | succ gk =>
      have hd : decide (i < l1) = true := by simp; omega
      have hlt : i < l1 := by omega
      obtain ⟨b1, o1, e1, hb1, hc1⟩ := Ints_at HR1.out hlt
      generalize ys.getD i 0 = y at hc1
      have d1 : wr.cell? ⟨b1, o1 + i, none⟩ = some (.int .i64 y) := (S.below.cell hb1).trans hc1
      have Hc1 := Lib.hid hc1
      subst e1
      clear hc1
      have hi1 : (i : Int) < (l1 : Int) := by omega
      go_wp2_with fail
      refine (take_fn q g k y bs _ S.rd HBy.out hl48 S.le).mono ?_
      rintro e w5 ⟨rfl, hr, hk', hf, hs⟩
      have hrt := rtake_fn A k c y bs w5 w5.heap.size (S.bits.fr hf (Nat.le_refl _) (fun h0 => S.bits.off S.rd.blk h0)) S.lc S.cm S.le
      obtain ⟨k', val, er, hfn⟩ : ∃ a b c, tkN bs k y = (a, b, c) := ⟨_, _, _, rfl⟩
      rw [hfn] at hr hk' hrt ⊢
      clear hfn
      have R5 := Lib.hid hr
      have B5 := Lib.hid (below_at S.below hf hqB S.below.size)
      have HRT := Lib.hid hrt
      clear hr hf hs hrt S d1
      have d5 : w5.cell? ⟨b1, o1 + i, none⟩ = some (.int .i64 y) := (B5.out.cell hb1).trans Hc1.out
      go_wp2_with fail
      refine HRT.out.mono ?_
      rintro e w6 ⟨A', c', rfl, hlc', hcm', hrd', j, rfl⟩
      have S6 : TakesSt w q g bs k' A' c' (w5.drewN j) := ⟨⟨R5.out.blk, R5.out.row⟩, hk', hrd', hlc', hcm', below_draw B5.out j⟩
      generalize w5.drewN j = w6 at S6 ⊢
      clear hrd' R5 B5 HRT d5
      have hdone := rdone_c A' c' (fromL bs k') w6 _ (by rw [fromL_length]; exact S6.bits) (by rw [fromL_length]; omega)
      rw [fromL_length] at hdone
      have HD := Lib.hid hdone
      clear hdone
      go_wp2_with fail
      refine HD.out.mono ?_
      rintro e w7 ⟨⟨b, rfl, hb⟩, rfl⟩
      rw [← fromL_length, ← done_iff bs k' hk'] at hb
      have HBo := Lib.hid hb
      clear hb HD
      obtain ⟨m, hm⟩ : ∃ m, m = 8 * bs.length - k' := ⟨_, rfl⟩
      rw [← hm]
      have hme : (8 * (bs.length : Int) - (k' : Int) != (m : Int)) = false := by rw [bne_eq_false_iff_eq]; omega
      have HM := Lib.hid hm
      clear hm
      go_wp2_with fail
      refine (rest_c q _ _ _ _ _ S6.rd.blk (by omega) (by omega) hl48).mono ?_
      rintro e w8 ⟨rfl, j8, rfl⟩
      have S8 : TakesSt w q g bs k' A' c' (w6.drewN j8) := ⟨⟨S6.rd.blk, S6.rd.row⟩, S6.le, S6.bits, S6.lc, S6.cm, below_draw S6.below j8⟩
      generalize w6.drewN j8 = w8 at S8 ⊢
      clear S6
      go_wp2_with fail
      refine (done_c q g k' bs _ S8.rd HBy.out hl48 hk').mono ?_
      rintro e w9 ⟨b2, rfl, hb2, j9, rfl⟩
      have ebb : b2 = b := by
        rw [Bool.eq_iff_iff]
        exact hb2.trans HBo.out.symm
      subst ebb
      have S9 : TakesSt w q g bs k' A' c' (w8.drewN j9) := ⟨⟨S8.rd.blk, S8.rd.row⟩, S8.le, S8.bits, S8.lc, S8.cm, below_draw S8.below j9⟩
      clear S8 hb2
      have hself : (b2 != b2) = false := by simp
      go_wp2_with fail
      go_roundg gk
      case measure => omega
      case rel => exact ⟨i + 1, k', c', A', by omega, rfl, by rw [← HM.out], S9⟩

end Go.Proofs.Ytehonfobofpahaa

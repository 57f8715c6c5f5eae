/- The document's own bytes: the contract of the reference's Bytes. -/
import Derived.Test.YtehonfobofpahaaRefPut
import Derived.BigRegion
namespace Go.Proofs.Ytehonfobofpahaa
open Go.RowKit

/-- A row with the bit number n set. -/
def set1 (bs : List Nat) (n : Nat) : List Nat := bs.set (n / 8) (bs.getD (n / 8) 0 ||| (1 <<< (7 - n % 8)))

theorem bitAt_set1 {bs : List Nat} {n : Nat} (h : n / 8 < bs.length) (k : Nat) : bitAt (set1 bs n) k = if k = n then 1 else bitAt bs k := by
  have hg : (set1 bs n).getD (k / 8) 0 = if k / 8 = n / 8 then bs.getD (n / 8) 0 ||| (1 <<< (7 - n % 8)) else bs.getD (k / 8) 0 := by
    unfold set1
    rw [List.getD_eq_getElem?_getD, List.getElem?_set]
    by_cases e : n / 8 = k / 8
    · rw [if_pos e, if_pos h, if_pos e.symm]; rfl
    · rw [if_neg e, if_neg (fun q => e q.symm), ← List.getD_eq_getElem?_getD]
  rw [bitAt_eq, hg]
  by_cases e : k / 8 = n / 8
  · rw [if_pos e, Nat.testBit_or, testBit_one_shift (by omega)]
    by_cases ek : k = n
    · subst ek; simp
    · rw [if_neg ek, bitAt_eq, ← e]
      have hne : ¬ (7 - k % 8 = 7 - n % 8) := by omega
      simp [hne]
  · rw [if_neg e, if_neg (by rintro rfl; exact e rfl), bitAt_eq]

/-- The first i of the bools L stand in the row bs, the rest is 0. -/
structure Pk (L : List Bool) (bs : List Nat) (i : Nat) : Prop where
  len : bs.length = (L.length + 7) / 8
  byte : ∀ j, bs.getD j 0 < 256
  same : ∀ k, k < i → L[k]? = some (bitAt bs k == 1)
  zero : ∀ k, i ≤ k → bitAt bs k = 0

theorem getD_replicate_zero (n i : Nat) : (List.replicate n 0).getD i 0 = 0 := by
  rw [List.getD_eq_getElem?_getD, List.getElem?_replicate]
  split <;> rfl

theorem Pk.start (L : List Bool) : Pk L (List.replicate ((L.length + 7) / 8) 0) 0 :=
  ⟨by simp, fun j => by rw [getD_replicate_zero]; omega, fun k hk => by omega, fun k _ => by unfold bitAt; rw [getD_replicate_zero]; simp⟩

theorem Pk.no {L : List Bool} {bs : List Nat} {i : Nat} (h : Pk L bs i) (hl : L[i]? = some false) : Pk L bs (i + 1) :=
  ⟨h.len, h.byte, fun k hk => by
    by_cases e : k = i
    · subst e; rw [hl, h.zero k (Nat.le_refl _)]; rfl
    · exact h.same k (by omega), fun k hk => h.zero k (by omega)⟩

theorem Pk.yes {L : List Bool} {bs : List Nat} {i : Nat} (h : Pk L bs i) (hi : i < L.length) (hl : L[i]? = some true) : Pk L (set1 bs i) (i + 1) := by
  have hlt : i / 8 < bs.length := by rw [h.len]; omega
  refine ⟨by simp [set1, h.len], fun j => ?_, fun k hk => ?_, fun k hk => ?_⟩
  · unfold set1
    rw [List.getD_eq_getElem?_getD, List.getElem?_set]
    by_cases e : i / 8 = j
    · rw [if_pos e, if_pos hlt]
      exact Nat.or_lt_two_pow (n := 8) (h.byte _) (shift_lt (by omega) (by omega))
    · rw [if_neg e, ← List.getD_eq_getElem?_getD]; exact h.byte j
  · rw [bitAt_set1 hlt]
    by_cases e : k = i
    · subst e; rw [if_pos rfl, hl]; rfl
    · rw [if_neg e]; exact h.same k (by omega)
  · rw [bitAt_set1 hlt, if_neg (by omega)]; exact h.zero k (by omega)

theorem row_ext {a b : List Nat} {n : Nat} (ha : Row a n) (hb : Row b n) (ca : Clean a n) (cb : Clean b n) (h : ∀ k, k < n → bitAt a k = bitAt b k) : a = b := by
  have hl : a.length = b.length := by rw [ha.len, hb.len]
  apply List.ext_getElem hl
  intro i h1 h2
  have e1 : a[i] = a.getD i 0 := by simp [List.getD, List.getElem?_eq_getElem h1]
  have e2 : b[i] = b.getD i 0 := by simp [List.getD, List.getElem?_eq_getElem h2]
  rw [e1, e2]
  refine byte_ext (ha.byte i) (hb.byte i) fun j hj => ?_
  have : bitAt a (8 * i + (7 - j)) = bitAt b (8 * i + (7 - j)) := by
    rcases Nat.lt_or_ge (8 * i + (7 - j)) n with hk | hk
    · exact h _ hk
    · rw [ca _ hk, cb _ hk]
  unfold bitAt at this
  rw [show (8 * i + (7 - j)) / 8 = i by omega, show 7 - (8 * i + (7 - j)) % 8 = j by omega] at this
  exact this

theorem set_val (y j : Nat) (hy : y < 256) (hj : j ≤ 7) : bits BinOp.or IntKind.u8 (y : Int) (2 ^ j % 256) = ((y ||| (1 <<< j) : Nat) : Int) := by
  have h1 : (2 : Nat) ^ j ≤ 2 ^ 7 := Nat.pow_le_pow_right (by omega) hj
  have h2 : (2 : Nat) ^ 7 = 128 := by decide
  have h3 : ((2 : Int) ^ j) % (256 : Int) = ((1 <<< j : Nat) : Int) := by
    have h4 : ((2 : Int) ^ j) = ((2 ^ j : Nat) : Int) := by push_cast; rfl
    rw [h4, Nat.shiftLeft_eq, Nat.one_mul]
    generalize (2 : Nat) ^ j = z at h1
    omega
  rw [h3]
  exact u8_or_nat y _ hy (by rw [Nat.shiftLeft_eq, Nat.one_mul]; omega)

/-- In the midst of the reference's Bytes. -/
structure RBytesIn (w : World) (L : List Bool) (g i : Nat) (wr : World) : Prop where
  blk : ∃ bs, Blk wr g 5 (U8s bs).toArray ∧ Pk L bs i
  new : w.heap.size ≤ g
  below : Below w.heap.size w wr

set_option maxHeartbeats 1000000 in
theorem rbytes_c (A : Option Addr) (c : Nat) (L : List Bool) (w : World) (hr : Reads w w.heap.size A L.length (Bools L)) (hl : L.length ≤ 1048576) :
    Calls Try.prog 15 #[.slice A L.length c] w fun e w' => ∃ g bs, e = .returned (.slice (some ⟨g, 0, none⟩) bs.length bs.length) ∧ w.heap.size ≤ g ∧ Blk w' g 5 (U8s bs).toArray ∧ Pk L bs L.length ∧ Below w.heap.size w w' := by
  have hmk := run_make_row' (P := Try.prog) 32 5 (.int .u8 0) 1 Try.underlying32 Try.info5 rfl .i64 .i64 ((L.length + 7) / 8) (by omega) (by omega)
  have ec : (((L.length + 7) / 8 : Nat) : Int) = ((L.length : Int) + 7) / 8 := by omega
  rw [ec] at hmk
  clear ec
  have S0 : RBytesIn w L w.heap.size 0 (w.alloc (.cells (madeCells #[.int .u8 0] ((L.length + 7) / 8)) 5)) := ⟨⟨List.replicate ((L.length + 7) / 8) 0, by
    have := made_blk w ((L.length + 7) / 8)
    have e : U8s (List.replicate ((L.length + 7) / 8) 0) = List.replicate ((L.length + 7) / 8) (Value.int .u8 0) := by simp [U8s]
    rw [e]; exact this, Pk.start L⟩, Nat.le_refl _, (Below.refl _ _).alloc (Nat.le_refl _) _⟩
  have HR := Lib.hid hr
  clear hr
  go_enter Try.func15, Try.ntmps15
  go_wp2_with fail
  clear hmk
  go_loopg [4] L.length (fun gg s4 wr => ∃ i : Nat, i + gg = L.length ∧ s4 = .int .i64 (i : Int) ∧ RBytesIn w L w.heap.size i wr)
  case atStart => exact ⟨0, by omega, rfl, S0⟩
  case round =>
    obtain ⟨i, hig, rfl, S⟩ := hrel
    clear S0
    cases gk with
    | zero =>
      have hd : decide (i < L.length) = false := by simp; omega
      obtain ⟨bs, h1, h2⟩ := S.blk
      have hlen := h2.len
      have ei : i = L.length := by omega
      have HE := Lib.hid (And.intro ei hlen)
      have H2 := Lib.hid h2
      have H1 := Lib.hid h1
      have HB := Lib.hid S.below
      clear h1 h2 hlen ei S
      go_wp2_with fail
      go_ret
      refine ⟨w.heap.size, bs, by rw [HE.out.2]; rfl, Nat.le_refl _, H1.out, by rw [← HE.out.1]; exact H2.out, HB.out⟩
    | succ gk =>
      have hd : decide (i < L.length) = true := by simp; omega
      have hlt : i < L.length := by omega
      obtain ⟨b, o, e, hbB, hc⟩ := HR.out.spot hlt
      have hg : (Bools L)[i]? = some (.bool L[i]) := by simp [Bools, List.getElem?_eq_getElem hlt]
      rw [hg] at hc
      obtain ⟨z, hz⟩ : ∃ z, z = L[i] := ⟨_, rfl⟩
      rw [← hz] at hc
      have HZ : Hid (L[i]? = some z) := by rw [hz]; exact List.getElem?_eq_getElem hlt
      clear hz hg
      have d1 : wr.cell? ⟨b, o + i, none⟩ = some (.bool z) := (S.below.cell hbB).trans hc
      subst e
      clear hc
      have hii : (i : Int) < (L.length : Int) := by omega
      cases z with
      | false =>
        go_wp2_with fail
        go_roundg gk
        case measure => omega
        case rel =>
          obtain ⟨bs, h1, h2⟩ := S.blk
          exact ⟨i + 1, by omega, rfl, ⟨bs, h1, h2.no HZ.out⟩, S.new, S.below⟩
      | true =>
        obtain ⟨bs, h1, h2⟩ := S.blk
        have hlen := h2.len
        have hi8 : i / 8 < bs.length := by omega
        have cb : wr.cell? ⟨w.heap.size, i / 8, none⟩ = some (.int .u8 ((bs.getD (i / 8) 0 : Nat) : Int)) := by
          rw [h1.cell]
          have := U8s_get bs (i / 8) hi8
          simpa using this
        have fb : wr.frozen? ⟨w.heap.size, i / 8, none⟩ = false := h1.frozen _
        have hb8 := h2.byte (i / 8)
        have h0 : (0 : Int) ≤ (i : Int) / 8 := by omega
        have h1' : (i : Int) / 8 < ((L.length : Int) + 7) / 8 := by omega
        have hw1 : IntKind.i64.wrap ((i : Int) / 8) = (i : Int) / 8 := IntWalk.i64_in _ (by omega)
        obtain ⟨y, hy⟩ : ∃ y, y = bs.getD (i / 8) 0 := ⟨_, rfl⟩
        rw [← hy] at cb hb8
        have HY := Lib.hid hy
        have H1 := Lib.hid h1
        have H2 := Lib.hid h2
        clear h1 h2 hy hlen
        go_wp2_with fail
        go_region
        rw [set_val y (7 - i % 8) hb8 (by omega)]
        have hst : U8s (set1 bs i) = (U8s bs).set (i / 8) (.int .u8 ((y ||| (1 <<< (7 - i % 8)) : Nat) : Int)) := by
          rw [HY.out]; simp [set1, U8s, List.map_set]
        have S2 : RBytesIn w L w.heap.size (i + 1) (wr.setCell ⟨w.heap.size, i / 8, none⟩ (.int .u8 ((y ||| (1 <<< (7 - i % 8)) : Nat) : Int))).drew := ⟨⟨set1 bs i, by
          have := H1.out.set_ (i / 8) (.int .u8 ((y ||| (1 <<< (7 - i % 8)) : Nat) : Int))
          rw [hst]
          simp only [List.setIfInBounds_toArray] at this
          exact this, H2.out.yes hlt HZ.out⟩, S.new, (S.below.setCell S.new _).drew⟩
        clear hst cb fb hw1 d1 S
        go_wp2_with fail
        go_roundg gk
        case measure => omega
        case rel => exact ⟨i + 1, by omega, rfl, S2⟩

end Go.Proofs.Ytehonfobofpahaa

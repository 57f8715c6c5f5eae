/- The walk of WireTells: a frame with turned bytes opens no more. -/
import Derived.Test.YtmddhlpkanjffaaDoorAwake
namespace Go.Proofs.YtmddhlpkanjffaaDoor
open Go.RowKit

/-- Bytes with i of four beside each other turned. -/
def turnd (l : List Nat) (k : Nat) (b : List Nat) : Nat → List Nat
  | 0 => l
  | i + 1 => (turnd l k b i).set (k + i) ((turnd l k b i).getD (k + i) 0 ^^^ b.getD i 0)

theorem turnd_length (l : List Nat) (k : Nat) (b : List Nat) (i : Nat) : (turnd l k b i).length = l.length := by
  induction i with
  | zero => rfl
  | succ i ih => rw [turnd, List.length_set, ih]

theorem turnd_lt {l : List Nat} {k : Nat} {b : List Nat} (hl : ∀ x ∈ l, x < 256) (hb : ∀ x ∈ b, x < 256) (i : Nat) : ∀ x ∈ turnd l k b i, x < 256 := by
  induction i with
  | zero => exact hl
  | succ i ih =>
    intro x hx
    rw [turnd] at hx
    rcases List.mem_or_eq_of_mem_set hx with h | h
    · exact ih x h
    · subst h
      have h1 : (turnd l k b i).getD (k + i) 0 < 256 := by
        rw [List.getD_eq_getElem?_getD]
        rcases Nat.lt_or_ge (k + i) (turnd l k b i).length with h | h
        · rw [List.getElem?_eq_getElem h]; exact ih _ (List.getElem_mem h)
        · rw [List.getElem?_eq_none h]; decide
      have h2 : b.getD i 0 < 256 := by
        rw [List.getD_eq_getElem?_getD]
        rcases Nat.lt_or_ge i b.length with h | h
        · rw [List.getElem?_eq_getElem h]; exact hb _ (List.getElem_mem h)
        · rw [List.getElem?_eq_none h]; decide
      exact Nat.xor_lt_two_pow (n := 8) h1 h2

theorem turnd_four (p q : List Nat) (x0 x1 x2 x3 a0 a1 a2 a3 : Nat) :
    turnd (p ++ [x0, x1, x2, x3] ++ q) p.length [a0, a1, a2, a3] 4 = p ++ [x0 ^^^ a0, x1 ^^^ a1, x2 ^^^ a2, x3 ^^^ a3] ++ q := by
  induction p with
  | nil => rfl
  | cons y p ih =>
    have step : ∀ (l : List Nat) (k : Nat) (b : List Nat) (i : Nat), turnd (y :: l) (k + 1) b i = y :: turnd l k b i := by
      intro l k b i
      induction i with
      | zero => rfl
      | succ i ih =>
        rw [turnd, turnd, ih, show k + 1 + i = (k + i) + 1 by omega]
        simp
    simp only [List.cons_append, List.length_cons]
    rw [step]
    rw [ih]

theorem four_at {l : List Nat} {k : Nat} (h : k + 4 ≤ l.length) : ∃ p q x0 x1 x2 x3, l = p ++ [x0, x1, x2, x3] ++ q ∧ p.length = k := by
  refine ⟨l.take k, l.drop (k + 4), l[k], l[k + 1], l[k + 2], l[k + 3], ?_, by rw [List.length_take]; omega⟩
  have e0 := List.drop_eq_getElem_cons (show k < l.length by omega)
  have e1 := List.drop_eq_getElem_cons (show k + 1 < l.length by omega)
  have e2 := List.drop_eq_getElem_cons (show k + 2 < l.length by omega)
  have e3 := List.drop_eq_getElem_cons (show k + 3 < l.length by omega)
  conv => lhs; rw [← List.take_append_drop k l, e0, e1, e2, e3]
  simp

/-- Bytes are a frame just where the register behind them is that of a frame. -/
theorem frame_iff {l : List Nat} (h : ∀ x ∈ l, x < 256) (h4 : 4 ≤ l.length) : l = frame (l.take (l.length - 4)) ↔ creg 4294967295 l = rest := by
  obtain ⟨p, q, x0, x1, x2, x3, e, hp⟩ := four_at (l := l) (k := l.length - 4) (by omega)
  have hq : q = [] := by
    have := congrArg List.length e
    simp only [List.length_append, List.length_cons, List.length_nil] at this
    exact List.eq_nil_of_length_eq_zero (by omega)
  subst hq
  rw [List.append_nil] at e
  have ht : l.take (l.length - 4) = p := by rw [← hp, e]; exact List.take_left
  rw [ht]
  have hb : ∀ x ∈ p, x < 256 := fun x hx => h x (by rw [e]; exact List.mem_append_left _ hx)
  have hx : ∀ x ∈ [x0, x1, x2, x3], x < 256 := fun x hx => h x (by rw [e]; exact List.mem_append_right _ hx)
  have key := le4_iff hb (hx x0 (by simp)) (hx x1 (by simp)) (hx x2 (by simp)) (hx x3 (by simp))
  rw [← e] at key
  rw [← key]
  constructor
  · intro h'
    unfold frame at h'
    rw [e] at h'
    exact List.append_cancel_left h'
  · intro h'
    unfold frame
    rw [← h']
    exact e

theorem frame_turned {l : List Nat} (hl : ∀ x ∈ l, x < 256) {k a0 a1 a2 a3 : Nat} (hk : k + 4 ≤ (frame l).length) (h : ∀ x ∈ [a0, a1, a2, a3], x < 256) :
    turnd (frame l) k [a0, a1, a2, a3] 4 = frame ((turnd (frame l) k [a0, a1, a2, a3] 4).take ((turnd (frame l) k [a0, a1, a2, a3] 4).length - 4)) ↔ (a0 = 0 ∧ a1 = 0 ∧ a2 = 0 ∧ a3 = 0) := by
  have hlt := turnd_lt (k := k) (frame_lt hl) h 4
  have hlen := turnd_length (frame l) k [a0, a1, a2, a3] 4
  rw [frame_iff hlt (by rw [hlen, frame_length]; omega), ← creg_frame hl]
  obtain ⟨p, q, x0, x1, x2, x3, e, hp⟩ := four_at hk
  have hfl := frame_lt hl
  rw [e] at hfl ⊢
  rw [← hp, turnd_four]
  have hx : ∀ x ∈ [x0, x1, x2, x3], x < 256 := fun x hx => hfl x (List.mem_append_left _ (List.mem_append_right _ hx))
  have xl : ∀ a b, a < 256 → b < 256 → a ^^^ b < 256 := fun a b ha hb => Nat.xor_lt_two_pow (n := 8) ha hb
  rw [creg_turned (fun x hx => hfl x (List.mem_append_left _ (List.mem_append_left _ hx))) (fun x hx => hfl x (List.mem_append_right _ hx))
    (xl _ _ (hx x0 (by simp)) (h a0 (by simp))) (xl _ _ (hx x1 (by simp)) (h a1 (by simp))) (xl _ _ (hx x2 (by simp)) (h a2 (by simp))) (xl _ _ (hx x3 (by simp)) (h a3 (by simp)))
    (hx x0 (by simp)) (hx x1 (by simp)) (hx x2 (by simp)) (hx x3 (by simp))]
  have key : ∀ x a : Nat, x ^^^ a = x ↔ a = 0 := by
    intro x a
    constructor
    · intro h
      have : x ^^^ (x ^^^ a) = x ^^^ x := by rw [h]
      rwa [← Nat.xor_assoc, Nat.xor_self, Nat.zero_xor] at this
    · rintro rfl; exact Nat.xor_zero x
  rw [key, key, key, key]

/-- In the midst: i bytes are turned. -/
structure TellSt (w : World) (g k : Nat) (fr b : List Nat) (i : Nat) (tu : Bool) (wr : World) : Prop where
  row : Blk wr g 5 (U8s (turnd fr k b i)).toArray
  turn : Blk wr w.heap.size 43 (U8s b).toArray
  below : Below w.heap.size w wr
  turned : tu = true ↔ ∃ j, j < i ∧ b.getD j 0 ≠ 0

theorem TellSt.next {w : World} {g k : Nat} {fr b : List Nat} {i : Nat} {tu : Bool} {wr : World} (h : TellSt w g k fr b i tu wr) {y a : Nat} (hy : y = (turnd fr k b i).getD (k + i) 0) (ha : a = b.getD i 0) (hne : g ≠ w.heap.size) (hg : w.heap.size ≤ g) :
    ∀ tu', (tu' = true ↔ tu = true ∨ a ≠ 0) → TellSt w g k fr b (i + 1) tu' (wr.setCell ⟨g, k + i, none⟩ (.int .u8 ((y ^^^ a : Nat) : Int))) := by
  intro tu' htu
  refine ⟨?_, h.turn.far (p := ⟨g, k + i, none⟩) (fun e => hne e.symm) _, h.below.setCell (p := ⟨g, k + i, none⟩) hg _, ?_⟩
  · have := h.row.set_ (k + i) (.int .u8 ((y ^^^ a : Nat) : Int))
    rw [List.setIfInBounds_toArray, ← U8s_set, hy, ha] at this
    exact hy ▸ ha ▸ this
  · rw [htu, h.turned]
    constructor
    · rintro (⟨j, hj, hn⟩ | hn)
      · exact ⟨j, by omega, hn⟩
      · exact ⟨i, by omega, by rw [← ha]; exact hn⟩
    · rintro ⟨j, hj, hn⟩
      by_cases e : j = i
      · subst e; exact .inr (by rw [ha]; exact hn)
      · exact .inl ⟨j, by omega, hn⟩

set_option maxHeartbeats 2000000 in
set_option maxRecDepth 100000 in
theorem tells_walk (v : Value) (bs : List Nat) (at_ : Int) (a0 a1 a2 a3 : Nat) (w : World) (hv : SlB w v bs) (ht : Tab w) (hn : bs.length * 1 ≤ 140737488351232) (hby : ∀ x ∈ bs, x < 256) (h : -9223372036854775808 ≤ at_ ∧ at_ < 9223372036854775808) (ha : ∀ x ∈ [a0, a1, a2, a3], x < 256) :
    Calls Tryd.prog 6 #[v, .int .i64 at_, .agg #[.int .u8 (a0 : Int), .int .u8 (a1 : Int), .int .u8 (a2 : Int), .int .u8 (a3 : Int)]] w fun e w' => e = .returned (.bool true) ∧ Below w.heap.size w w' := by
  have HV := Lib.hid hv
  have HT := Lib.hid ht
  have HBy := Lib.hid hby
  have HA := Lib.hid ha
  obtain ⟨A, c, rfl, _, _, _⟩ := hv
  obtain ⟨h1, h2⟩ := h
  clear ht hby ha
  go_enter Tryd.func6, Tryd.ntmps6
  go_wp2_with fail
  have hk0 : Blk (w.alloc (.cells #[.int .u8 (a0 : Int), .int .u8 (a1 : Int), .int .u8 (a2 : Int), .int .u8 (a3 : Int)] 43)) w.heap.size 43 (U8s [a0, a1, a2, a3]).toArray := Blk.new w 43 _
  have hb0 : Below w.heap.size w (w.alloc (.cells #[.int .u8 (a0 : Int), .int .u8 (a1 : Int), .int .u8 (a2 : Int), .int .u8 (a3 : Int)] 43)) := (Below.refl _ _).alloc (Nat.le_refl _) _
  generalize w.alloc (.cells #[.int .u8 (a0 : Int), .int .u8 (a1 : Int), .int .u8 (a2 : Int), .int .u8 (a3 : Int)] 43) = w0 at hk0 hb0
  refine (awake_c w0 (HT.out.below hb0)).mono ?_
  rintro e w1 ⟨rfl, hb1⟩
  have HB1 := Lib.hid (below_trans hb0 hb1)
  have HK1 := Lib.hid (hk0.below hb1 hk0.lt)
  clear hb0 hb1 hk0
  go_wp2_with fail
  refine (frame_c _ bs w1 (HV.out.below HB1.out) (HT.out.below HB1.out) (by omega) HBy.out).mono ?_
  rintro e w2 ⟨g, n, rfl, hn2, hg, hk, hb2⟩
  have hfl := frame_length bs
  have hsl := (OwnB.blk (base := 0) hk (Nat.zero_le _) hn2 (by rw [hfl]; unfold maxLen; omega)).sl
  have HB2 := Lib.hid (below_trans HB1.out hb2)
  have HK2 := Lib.hid (HK1.out.below hb2 HK1.out.lt)
  have HG := Lib.hid hk
  have HGne : Hid (g ≠ w.heap.size) := hk.ne_ HK2.out (by decide)
  have HS := Lib.hid hsl
  have hgb : w.heap.size ≤ g := Nat.le_trans HB1.out.size hg
  have HN2 : Hid (n = bs.length + 4) := hn2.trans hfl
  clear hk hb2 hsl hg HK1 hn2
  go_wp2_with fail
  refine (open_c _ (frame bs) w2 HS.out (HT.out.below HB2.out) (by omega) (frame_lt HBy.out)).mono ?_
  rintro e w3 ⟨hb3, hres⟩
  have htk : (frame bs).take ((frame bs).length - 4) = bs := by
    rw [hfl, Nat.add_sub_cancel]; unfold frame; exact List.take_left
  have hres2 : ∃ g3 n3, e = .returned (.tuple #[.slice (some ⟨g3, 0, none⟩) n3 n3, .bool true]) ∧ n3 = (frame bs).length - 4 ∧ w2.heap.size ≤ g3 ∧ Blk w3 g3 5 (U8s bs).toArray := by
    rcases hres with ⟨_, _, hh⟩ | ⟨hno, _⟩
    · rw [htk] at hh; exact hh
    · exact absurd ⟨by rw [htk], by omega⟩ hno
  clear hres
  obtain ⟨g3, n3, rfl, hn3, hg3, hk3⟩ := hres2
  have HB3 := Lib.hid (below_trans HB2.out hb3)
  have HK3 := Lib.hid (HK2.out.below hb3 HK2.out.lt)
  have HG3 := Lib.hid (HG.out.below hb3 HG.out.lt)
  have hcv1 := (OwnB.blk (l := n3) (base := 0) hk3 (Nat.zero_le _) (by omega) (by unfold maxLen; omega)).sl.conv
  have hcv2 := (HV.out.below HB3.out).conv
  obtain rfl : n = bs.length + 4 := HN2.out
  have hd4 : decide (bs.length + 4 < 4) = false := by simp
  have hd4' : decide ((bs.length : Int) + 4 < 4) = false := by simp; omega
  clear hb3 hg3 hk3 HB2 HK2 HG htk hn3
  generalize strOf bs = sb at hcv1 hcv2
  by_cases hneg : at_ < 0
  · have hdn : decide (at_ < 0) = true := by simpa using hneg
    go_wp2_with fail
    go_ret
    exact ⟨rfl, HB3.out⟩
  · obtain ⟨t, rfl⟩ : ∃ t : Nat, at_ = (t : Int) := ⟨at_.toNat, by omega⟩
    have H2 : Hid (t < 9223372036854775808) := by show t < 9223372036854775808; omega
    clear hneg h1 h2
    go_wp2_with fail
    obtain ⟨k, hk⟩ : ∃ k : Nat, k = t % (bs.length + 1) := ⟨_, rfl⟩
    have hkz : (t : Int) % ((bs.length : Int) + 4 - 3) = (k : Int) := by rw [hk, show (bs.length : Int) + 4 - 3 = ((bs.length + 1 : Nat) : Int) by omega]; rfl
    have hkl : k ≤ bs.length := by rw [hk]; have := Nat.mod_lt t (show 0 < bs.length + 1 by omega); omega
    rw [hkz]
    have S0 : TellSt w g k (frame bs) [a0, a1, a2, a3] 0 false w3 := ⟨HG3.out, HK3.out, HB3.out, by simp⟩
    have hg48 : bs.length ≤ 140737488351232 := by omega
    clear hk hkz hcv1 hcv2 hd4 hd4' HG3 HK3 HB3 HS H2 HN2 HB1 hn
    go_loopg [11, 13] 4 (fun gg s11 s13 wr => ∃ (i : Nat) (tu : Bool), i + gg = 4 ∧ s11 = .bool tu ∧ s13 = .int .i64 (i : Int) ∧ TellSt w g k (frame bs) [a0, a1, a2, a3] i tu wr)
    case atStart => exact ⟨0, false, rfl, rfl, rfl, S0⟩
    case round =>
      obtain ⟨i, tu, hig, rfl, rfl, S⟩ := hrel
      clear S0
      cases gk with
      | zero =>
        obtain rfl : i = 4 := by omega
        have hlen := turnd_length (frame bs) k [a0, a1, a2, a3] 4
        have hlt := turnd_lt (k := k) (frame_lt HBy.out) HA.out 4
        have key := frame_turned HBy.out (k := k) (by omega) HA.out
        have hsl := (OwnB.blk (l := bs.length + 4) (base := 0) S.row (Nat.zero_le _) (by omega) (by unfold maxLen; omega)).sl
        have HT4 := Lib.hid (HT.out.below S.below)
        have htu : tu = true ↔ ¬ (a0 = 0 ∧ a1 = 0 ∧ a2 = 0 ∧ a3 = 0) := by
          rw [S.turned]
          constructor
          · rintro ⟨j, hj, hne⟩ ⟨h0, h1, h2, h3⟩
            have : j = 0 ∨ j = 1 ∨ j = 2 ∨ j = 3 := by omega
            rcases this with rfl | rfl | rfl | rfl
            · exact hne h0
            · exact hne h1
            · exact hne h2
            · exact hne h3
          · intro h
            by_cases h0 : a0 = 0
            · by_cases h1 : a1 = 0
              · by_cases h2 : a2 = 0
                · exact ⟨3, by omega, fun h3 => h ⟨h0, h1, h2, h3⟩⟩
                · exact ⟨2, by omega, h2⟩
              · exact ⟨1, by omega, h1⟩
            · exact ⟨0, by omega, h0⟩
        have HB4 := Lib.hid S.below
        generalize turnd (frame bs) k [a0, a1, a2, a3] 4 = tl at hlen hlt key hsl
        have HS4 := Lib.hid hsl
        have HLt := Lib.hid hlt
        have HKey := Lib.hid key
        have HTu := Lib.hid htu
        have HLen : Hid (tl.length = bs.length + 4) := hlen.trans hfl
        clear hlen hlt key hsl S htu
        go_wp2_with fail
        refine (open_c _ tl wr HS4.out HT4.out (by rw [HLen.out]; omega) HLt.out).mono ?_
        rintro e w5 ⟨hb5, hres⟩
        have hfin : ∃ v5 is, e = .returned (.tuple #[v5, .bool is]) ∧ (is != tu) = true := by
          rcases hres with ⟨hyes, _, g5, n5, rfl, _⟩ | ⟨hno, rfl⟩
          · refine ⟨_, true, rfl, ?_⟩
            have h0 := HKey.out.1 hyes
            have : tu = false := by
              cases tu with
              | false => rfl
              | true => exact absurd h0 (HTu.out.1 rfl)
            rw [this]; rfl
          · refine ⟨_, false, rfl, ?_⟩
            have h0 : ¬ (a0 = 0 ∧ a1 = 0 ∧ a2 = 0 ∧ a3 = 0) := fun h => hno ⟨HKey.out.2 h, by rw [HLen.out]; omega⟩
            rw [HTu.out.2 h0]; rfl
        obtain ⟨v5, is, rfl, hne⟩ := hfin
        have HB5 := Lib.hid (below_trans HB4.out hb5)
        obtain rfl : is = !tu := by cases is <;> cases tu <;> first | rfl | exact absurd hne (by decide)
        clear hres hb5 hne HTu HKey
        cases tu with
        | false =>
          go_wp2_with fail
          go_ret
          exact ⟨rfl, HB5.out⟩
        | true =>
          go_wp2_with fail
          go_ret
          exact ⟨rfl, HB5.out⟩
      | succ gk =>
        have hi4 : i < 4 := by omega
        have hd : decide ((i : Int) < 4) = true := by simp; omega
        have hii : (i : Int) < 4 := by omega
        have hlen := turnd_length (frame bs) k [a0, a1, a2, a3] i
        have hlt := turnd_lt (k := k) (frame_lt HBy.out) HA.out i
        have hki : k + i < (turnd (frame bs) k [a0, a1, a2, a3] i).length := by rw [hlen, hfl]; omega
        obtain ⟨y, hy⟩ : ∃ y, y = (turnd (frame bs) k [a0, a1, a2, a3] i).getD (k + i) 0 := ⟨_, rfl⟩
        obtain ⟨a, ha⟩ : ∃ a, a = [a0, a1, a2, a3].getD i 0 := ⟨_, rfl⟩
        have cf : wr.cell? ⟨g, k + i, none⟩ = some (.int .u8 (y : Int)) := by rw [S.row.cell, List.getElem?_toArray, U8s_get _ _ hki, hy]
        have ff : wr.frozen? ⟨g, k + i, none⟩ = false := S.row.frozen _
        have cb : wr.cell? ⟨w.heap.size, i, none⟩ = some (.int .u8 (a : Int)) := by rw [S.turn.cell, List.getElem?_toArray, U8s_get _ _ (by simpa using hi4), ha]
        have hy8 : y < 256 := by rw [hy, List.getD_eq_getElem?_getD, List.getElem?_eq_getElem hki]; exact hlt _ (List.getElem_mem hki)
        have ha8 : a < 256 := by rw [ha, List.getD_eq_getElem?_getD, List.getElem?_eq_getElem (by simpa using hi4)]; exact HA.out _ (List.getElem_mem _)
        have hxor := u8_xor_nat y a hy8 ha8
        have h0 : (0 : Int) ≤ (k : Int) + (i : Int) := by omega
        have h1 : (k : Int) + (i : Int) < (bs.length : Int) + 4 := by omega
        have hw1 : IntKind.i64.wrap ((k : Int) + (i : Int)) = (k : Int) + (i : Int) := IntWalk.i64_in _ (by omega)
        have hSN := S.next hy ha HGne.out hgb
        have HSN := Lib.hid hSN
        have HA8 : Hid (a = [a0, a1, a2, a3].getD i 0) := ha
        clear hSN hlen hlt hki hy ha hy8 ha8 S
        go_wp2_with fail
        go_region
        have cb2 : (wr.setCell ⟨g, k + i, none⟩ (.int .u8 ((y ^^^ a : Nat) : Int))).drew.cell? ⟨w.heap.size, i, none⟩ = some (.int .u8 (a : Int)) := by
          rw [← cb]
          exact World.cell?_of_block (Below.heap_setCell wr ⟨g, k + i, none⟩ _ w.heap.size (fun e => HGne.out e.symm))
        have HSD : Hid (∀ tu', (tu' = true ↔ tu = true ∨ a ≠ 0) → TellSt w g k (frame bs) [a0, a1, a2, a3] (i + 1) tu' (wr.setCell ⟨g, k + i, none⟩ (.int .u8 ((y ^^^ a : Nat) : Int))).drew) := fun tu' h => by
          have := HSN.out tu' h
          exact ⟨this.row, this.turn, this.below.drew, this.turned⟩
        generalize (wr.setCell ⟨g, k + i, none⟩ (.int .u8 ((y ^^^ a : Nat) : Int))).drew = wd at cb2 HSD
        clear HSN cf ff cb hxor hw1 h0 h1
        cases tu with
        | true =>
          go_wp2_with fail
          go_roundg gk
          case measure => omega
          case rel => exact ⟨i + 1, true, by omega, rfl, rfl, HSD.out true (by simp)⟩
        | false =>
          by_cases ha0 : a = 0
          · subst ha0
            go_wp2_with fail
            go_roundg gk
            case measure => omega
            case rel => exact ⟨i + 1, false, by omega, rfl, rfl, HSD.out false (by simp)⟩
          · have hb0 : ((a : Int) != 0) = true := by rw [bne_iff_ne]; omega
            have HA0 := Lib.hid ha0
            clear ha0
            go_wp2_with fail
            go_roundg gk
            case measure => omega
            case rel => exact ⟨i + 1, true, by omega, rfl, rfl, HSD.out true (by simp [HA0.out])⟩

end Go.Proofs.YtmddhlpkanjffaaDoor

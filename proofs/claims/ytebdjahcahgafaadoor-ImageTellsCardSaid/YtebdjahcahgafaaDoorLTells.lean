/- The walk of ImageTells, from the contracts of the program (premises here). -/
import Derived.Test.YtebdjahcahgafaaDoorLCut
namespace Go.Proofs.YtebdjahcahgafaaDoor
open Go.RowKit

/-- Bytes with i of four beside each other turned. -/
def turnd (l : List Nat) (k : Nat) (b : List Nat) : Nat → List Nat
  | 0 => l
  | i + 1 => (turnd l k b i).set (k + i) ((turnd l k b i).getD (k + i) 0 ^^^ b.getD i 0)

theorem turnd_length (l : List Nat) (k : Nat) (b : List Nat) (i : Nat) : (turnd l k b i).length = l.length := by
  induction i with
  | zero => rfl
  | succ i ih => rw [turnd, List.length_set, ih]

theorem turnd_lt {l : List Nat} {k : Nat} {b : List Nat} (hl : ∀ x ∈ l, x < 256) (hb : ∀ x ∈ b, x < 256) (i : Nat) : ∀ x ∈ turnd l k b i, x < 256 := by
  induction i with
  | zero => exact hl
  | succ i ih =>
    intro x hx
    rw [turnd] at hx
    rcases List.mem_or_eq_of_mem_set hx with h | h
    · exact ih x h
    · subst h
      have h1 : (turnd l k b i).getD (k + i) 0 < 256 := by
        rw [List.getD_eq_getElem?_getD]
        rcases Nat.lt_or_ge (k + i) (turnd l k b i).length with h | h
        · rw [List.getElem?_eq_getElem h]; exact ih _ (List.getElem_mem h)
        · rw [List.getElem?_eq_none h]; decide
      have h2 : b.getD i 0 < 256 := by
        rw [List.getD_eq_getElem?_getD]
        rcases Nat.lt_or_ge i b.length with h | h
        · rw [List.getElem?_eq_getElem h]; exact hb _ (List.getElem_mem h)
        · rw [List.getElem?_eq_none h]; decide
      exact Nat.xor_lt_two_pow (n := 8) h1 h2

theorem turnd_four (p q : List Nat) (x0 x1 x2 x3 a0 a1 a2 a3 : Nat) :
    turnd (p ++ [x0, x1, x2, x3] ++ q) p.length [a0, a1, a2, a3] 4 = p ++ [x0 ^^^ a0, x1 ^^^ a1, x2 ^^^ a2, x3 ^^^ a3] ++ q := by
  induction p with
  | nil => rfl
  | cons y p ih =>
    have step : ∀ (l : List Nat) (k : Nat) (b : List Nat) (i : Nat), turnd (y :: l) (k + 1) b i = y :: turnd l k b i := by
      intro l k b i
      induction i with
      | zero => rfl
      | succ i ih =>
        rw [turnd, turnd, ih, show k + 1 + i = (k + i) + 1 by omega]
        simp
    simp only [List.cons_append, List.length_cons]
    rw [step]
    rw [ih]

theorem four_at {l : List Nat} {k : Nat} (h : k + 4 ≤ l.length) : ∃ p q x0 x1 x2 x3, l = p ++ [x0, x1, x2, x3] ++ q ∧ p.length = k := by
  refine ⟨l.take k, l.drop (k + 4), l[k], l[k + 1], l[k + 2], l[k + 3], ?_, by rw [List.length_take]; omega⟩
  have e0 := List.drop_eq_getElem_cons (show k < l.length by omega)
  have e1 := List.drop_eq_getElem_cons (show k + 1 < l.length by omega)
  have e2 := List.drop_eq_getElem_cons (show k + 2 < l.length by omega)
  have e3 := List.drop_eq_getElem_cons (show k + 3 < l.length by omega)
  conv => lhs; rw [← List.take_append_drop k l, e0, e1, e2, e3]
  simp

/-- Bytes are a frame just where the register behind them is that of a frame. -/
theorem frame_iff {l : List Nat} (h : ∀ x ∈ l, x < 256) (h4 : 4 ≤ l.length) : l = frame (l.take (l.length - 4)) ↔ creg 4294967295 l = rest := by
  obtain ⟨p, q, x0, x1, x2, x3, e, hp⟩ := four_at (l := l) (k := l.length - 4) (by omega)
  have hq : q = [] := by
    have := congrArg List.length e
    simp only [List.length_append, List.length_cons, List.length_nil] at this
    exact List.eq_nil_of_length_eq_zero (by omega)
  subst hq
  rw [List.append_nil] at e
  have ht : l.take (l.length - 4) = p := by rw [← hp, e]; exact List.take_left
  rw [ht]
  have hb : ∀ x ∈ p, x < 256 := fun x hx => h x (by rw [e]; exact List.mem_append_left _ hx)
  have hx : ∀ x ∈ [x0, x1, x2, x3], x < 256 := fun x hx => h x (by rw [e]; exact List.mem_append_right _ hx)
  have key := le4_iff hb (hx x0 (by simp)) (hx x1 (by simp)) (hx x2 (by simp)) (hx x3 (by simp))
  rw [← e] at key
  rw [← key]
  constructor
  · intro h'
    unfold frame at h'
    rw [e] at h'
    exact List.append_cancel_left h'
  · intro h'
    unfold frame
    rw [← h']
    exact e

theorem frame_turned {l : List Nat} (hl : ∀ x ∈ l, x < 256) {k a0 a1 a2 a3 : Nat} (hk : k + 4 ≤ (frame l).length) (h : ∀ x ∈ [a0, a1, a2, a3], x < 256) :
    turnd (frame l) k [a0, a1, a2, a3] 4 = frame ((turnd (frame l) k [a0, a1, a2, a3] 4).take ((turnd (frame l) k [a0, a1, a2, a3] 4).length - 4)) ↔ (a0 = 0 ∧ a1 = 0 ∧ a2 = 0 ∧ a3 = 0) := by
  have hlt := turnd_lt (k := k) (frame_lt hl) h 4
  have hlen := turnd_length (frame l) k [a0, a1, a2, a3] 4
  rw [frame_iff hlt (by rw [hlen, frame_length]; omega), ← creg_frame hl]
  obtain ⟨p, q, x0, x1, x2, x3, e, hp⟩ := four_at hk
  have hfl := frame_lt hl
  rw [e] at hfl ⊢
  rw [← hp, turnd_four]
  have hx : ∀ x ∈ [x0, x1, x2, x3], x < 256 := fun x hx => hfl x (List.mem_append_left _ (List.mem_append_right _ hx))
  have xl : ∀ a b, a < 256 → b < 256 → a ^^^ b < 256 := fun a b ha hb => Nat.xor_lt_two_pow (n := 8) ha hb
  rw [creg_turned (fun x hx => hfl x (List.mem_append_left _ (List.mem_append_left _ hx))) (fun x hx => hfl x (List.mem_append_right _ hx))
    (xl _ _ (hx x0 (by simp)) (h a0 (by simp))) (xl _ _ (hx x1 (by simp)) (h a1 (by simp))) (xl _ _ (hx x2 (by simp)) (h a2 (by simp))) (xl _ _ (hx x3 (by simp)) (h a3 (by simp)))
    (hx x0 (by simp)) (hx x1 (by simp)) (hx x2 (by simp)) (hx x3 (by simp))]
  have key : ∀ x a : Nat, x ^^^ a = x ↔ a = 0 := by
    intro x a
    constructor
    · intro h
      have : x ^^^ (x ^^^ a) = x ^^^ x := by rw [h]
      rwa [← Nat.xor_assoc, Nat.xor_self, Nat.zero_xor] at this
    · rintro rfl; exact Nat.xor_zero x
  rw [key, key, key, key]

theorem turnd_zero {l : List Nat} {k : Nat} (hk : k + 4 ≤ l.length) : turnd l k [0, 0, 0, 0] 4 = l := by
  obtain ⟨p, q, x0, x1, x2, x3, e, hp⟩ := four_at hk
  rw [e, ← hp, turnd_four]
  simp only [Nat.xor_zero]

theorem turnd_take (l : List Nat) (k : Nat) (b : List Nat) (n i : Nat) (h : k + i ≤ n) : (turnd l k b i).take n = turnd (l.take n) k b i := by
  induction i with
  | zero => rfl
  | succ i ih =>
    rw [turnd, turnd, List.take_set, ih (by omega)]
    congr 2
    rw [← ih (by omega), List.getD_eq_getElem?_getD, List.getD_eq_getElem?_getD, List.getElem?_take, if_pos (by omega)]

theorem turn_dec {x : ImgR} (hw : x.wide) (h : encE x = 0) {k a0 a1 a2 a3 : Nat} (hk : k + 4 ≤ (encI x).length) (ha : ∀ y ∈ [a0, a1, a2, a3], y < 256) :
    decE (turnd (encI x) k [a0, a1, a2, a3] 4) = if a0 = 0 ∧ a1 = 0 ∧ a2 = 0 ∧ a3 = 0 then 0 else 150 := by
  obtain ⟨hK, he, hde, _⟩ := enc_ok hw h
  split
  · rename_i h0
    obtain ⟨rfl, rfl, rfl, rfl⟩ := h0
    rw [turnd_zero hk]
    exact hde
  · rename_i h0
    have hl : ¬ 1048576 < (turnd (encI x) k [a0, a1, a2, a3] 4).length := by rw [turnd_length]; have := encI_len x; omega
    rw [decE, if_neg hl]
    have : decI (turnd (encI x) k [a0, a1, a2, a3] 4) = none := by
      unfold decI
      rw [he] at hk ⊢
      rw [if_neg (fun hh => h0 ((frame_turned imgB_lt hk ha).1 hh.1))]
    rw [this]

/-- In the midst: i bytes are turned. -/
structure TellI (w : World) (g gb k : Nat) (fr b : List Nat) (i : Nat) (tu : Bool) (wr : World) : Prop where
  row : Blk wr g 5 (U8s (turnd fr k b i)).toArray
  turn : Blk wr gb 44 (U8s b).toArray
  below : Below w.heap.size w wr
  turned : tu = true ↔ ∃ j, j < i ∧ b.getD j 0 ≠ 0

theorem TellI.next {w : World} {g gb k : Nat} {fr b : List Nat} {i : Nat} {tu : Bool} {wr : World} (h : TellI w g gb k fr b i tu wr) {y a : Nat} (hy : y = (turnd fr k b i).getD (k + i) 0) (ha : a = b.getD i 0) (hne : g ≠ gb) (hg : w.heap.size ≤ g) :
    ∀ tu', (tu' = true ↔ tu = true ∨ a ≠ 0) → TellI w g gb k fr b (i + 1) tu' (wr.setCell ⟨g, k + i, none⟩ (.int .u8 ((y ^^^ a : Nat) : Int))) := by
  intro tu' htu
  refine ⟨?_, h.turn.far (p := ⟨g, k + i, none⟩) (fun e => hne e.symm) _, h.below.setCell (p := ⟨g, k + i, none⟩) hg _, ?_⟩
  · have := h.row.set_ (k + i) (.int .u8 ((y ^^^ a : Nat) : Int))
    rw [List.setIfInBounds_toArray, ← U8s_set, hy, ha] at this
    exact hy ▸ ha ▸ this
  · rw [htu, h.turned]
    constructor
    · rintro (⟨j, hj, hn⟩ | hn)
      · exact ⟨j, by omega, hn⟩
      · exact ⟨i, by omega, by rw [← ha]; exact hn⟩
    · rintro ⟨j, hj, hn⟩
      by_cases e : j = i
      · subst e; exact .inr (by rw [ha]; exact hn)
      · exact .inl ⟨j, by omega, hn⟩

set_option maxHeartbeats 8000000 in
set_option maxRecDepth 100000 in
theorem img_tells_of (hA : ∀ w, Tab w → Calls Tryd.prog 8 #[] w fun e w' => e = .returned (.bool true) ∧ Below w.heap.size w w')
    (hE : ∀ gv fv x w, Tab w → ImgShows w gv fv x → x.small → x.wide → Calls Tryd.prog 11 #[imgV gv fv] w fun e w' => ∃ u, e = .returned (.tuple #[u, .int .i64 (encE x)]) ∧ Gave w (encI x) u w')
    (hD : ∀ v bs w, Tab w → SlB w v bs → bs.length ≤ 140737488355318 → (∀ x ∈ bs, x < 256) → Calls Tryd.prog 17 #[v] w (DecR w bs))
    (gv fv : Value) (x : ImgR) (a : Int) (a0 a1 a2 a3 : Nat) (w : World) (ht : Tab w) (h : ImgArg w gv fv x) (ha : -9223372036854775808 ≤ a ∧ a < 9223372036854775808) (hq : ∀ y ∈ [a0, a1, a2, a3], y < 256) :
    Calls Tryd.prog 6 #[imgV gv fv, .int .i64 a, .agg #[.int .u8 (a0 : Int), .int .u8 (a1 : Int), .int .u8 (a2 : Int), .int .u8 (a3 : Int)]] w fun e w' => e = .returned (.bool true) ∧ Below w.heap.size w w' := by
  have HA := Lib.hid h
  have HT := Lib.hid ht
  have HSm := Lib.hid h.small
  have HWd := Lib.hid h.wide
  have HHA := Lib.hid hA
  have HHE := Lib.hid hE
  have HHD := Lib.hid hD
  have HAr := Lib.hid ha
  have HQ := Lib.hid hq
  obtain ⟨A1, c1, rfl, _⟩ := h.globs.slice
  obtain ⟨_, _, _, _, ⟨_, _, hf0, _⟩, _⟩ := h
  obtain ⟨A2, c2, rfl, _⟩ := hf0.slice
  clear hf0 ht hA hE hD ha hq
  have HB0 := Lib.hid (((Below.refl w.heap.size w).alloc (Nat.le_refl _) (.cells #[.slice A1 x.globs.length c1, .slice A2 x.fns.length c2] 25)).alloc (by simp) (.cells #[.int .u8 (a0 : Int), .int .u8 (a1 : Int), .int .u8 (a2 : Int), .int .u8 (a3 : Int)] 44))
  have HK0 := Lib.hid ((Blk.new w 25 #[.slice A1 x.globs.length c1, .slice A2 x.fns.length c2]).alloc (.cells #[.int .u8 (a0 : Int), .int .u8 (a1 : Int), .int .u8 (a2 : Int), .int .u8 (a3 : Int)] 44))
  have HQ0 : Hid (Blk ((w.alloc (.cells #[.slice A1 x.globs.length c1, .slice A2 x.fns.length c2] 25)).alloc (.cells #[.int .u8 (a0 : Int), .int .u8 (a1 : Int), .int .u8 (a2 : Int), .int .u8 (a3 : Int)] 44)) (w.heap.size + 1) 44 (U8s [a0, a1, a2, a3]).toArray) := by
    have := Blk.new (w.alloc (.cells #[.slice A1 x.globs.length c1, .slice A2 x.fns.length c2] 25)) 44 #[.int .u8 (a0 : Int), .int .u8 (a1 : Int), .int .u8 (a2 : Int), .int .u8 (a3 : Int)]
    have e : (w.alloc (.cells #[.slice A1 x.globs.length c1, .slice A2 x.fns.length c2] 25)).heap.size = w.heap.size + 1 := by simp
    rw [e] at this
    exact Lib.hid this
  go_enter Tryd.func6, Tryd.ntmps6
  go_upto_region 1 with (fail)
  generalize (w.alloc (.cells #[.slice A1 x.globs.length c1, .slice A2 x.fns.length c2] 25)).alloc (.cells #[.int .u8 (a0 : Int), .int .u8 (a1 : Int), .int .u8 (a2 : Int), .int .u8 (a3 : Int)] 44) = w0 at *
  obtain ⟨gb, hgb⟩ : ∃ gb, gb = w.heap.size + 1 := ⟨_, rfl⟩
  rw [← hgb] at HQ0 ⊢
  have HGb : Hid (w.heap.size ≤ gb) := by show _ ≤ _; omega
  clear hgb
  obtain ⟨gx, hgx⟩ : ∃ gx, gx = w.heap.size := ⟨_, rfl⟩
  rw [← hgx] at HK0
  rw [show (some { block := w.heap.size, off := 0, spot := none } : Option Addr) = some ⟨gx, 0, none⟩ by rw [hgx]]
  clear hgx
  go_wp2_with fail
  refine (HHA.out w0 (HT.out.below HB0.out)).mono ?_
  rintro e w1 ⟨rfl, hb1⟩
  have HB1 := Lib.hid (below_trans HB0.out hb1)
  have HK1 := Lib.hid (HK0.out.below hb1 HK0.out.lt)
  have HQ1 := Lib.hid (HQ0.out.below hb1 HQ0.out.lt)
  clear hb1 HB0 HK0 HQ0
  have x0 := HK1.out.cell 0
  have x1 := HK1.out.cell 1
  go_wp2_with fail
  refine (HHE.out _ _ x w1 (HT.out.below HB1.out) (HA.out.shows.below HB1.out) HSm.out HWd.out).mono ?_
  rintro e w2 ⟨u, rfl, Ax, Fx, hx, hb⟩
  obtain ⟨bx, hbx⟩ : ∃ bx, bx = encI x := ⟨_, rfl⟩
  rw [← hbx] at hx
  have HBX := Lib.hid hbx
  obtain ⟨Lx, hLx⟩ : ∃ k, k = Fx.length := ⟨_, rfl⟩
  obtain rfl : u = .slice Ax bx.length Lx := by rw [hLx]; exact hx.val
  have HX2 := Lib.hid hx
  have HQ2 := Lib.hid (HQ1.out.below hb HQ1.out.lt)
  have HW1 : Hid (w.heap.size ≤ w1.heap.size) := HB1.out.size
  have HB2 := Lib.hid (below_trans HB1.out hb)
  obtain ⟨ee, hee⟩ : ∃ ee, ee = encE x := ⟨_, rfl⟩
  have HEE := Lib.hid hee
  rw [← hee]
  clear hbx hx hb x0 x1 HB1 HK1 HQ1 hee
  have HLx := Lib.hid hLx
  clear hLx
  by_cases he : ee = 0
  case neg =>
    have hd : ((ee : Int) != 0) = true := by simpa using he
    clear he
    go_wp2_with fail
    go_ret
    exact ⟨rfl, HB2.out⟩
  case pos =>
  by_cases hneg : a < 0
  · have hd : ((ee : Int) != 0) = false := by rw [he]; rfl
    have hd2 : decide (a < 0) = true := by simpa using hneg
    clear he hneg
    go_wp2_with fail
    go_ret
    exact ⟨rfl, HB2.out⟩
  · have hd : ((ee : Int) != 0) = false := by rw [he]; rfl
    have hd2 : decide (a < 0) = false := by simpa using hneg
    obtain ⟨m, hm⟩ : ∃ m : Nat, a = (m : Int) := ⟨a.toNat, by omega⟩
    obtain ⟨hk, hei, _, _⟩ := enc_ok HWd.out (HEE.out ▸ he)
    have hbl : bx.length ≠ 0 := by rw [HBX.out, hei, frame_length]; omega
    have hbm : bx.length ≤ 1048576 := by rw [HBX.out]; exact encI_len x
    have hb8 : 8 ≤ bx.length := by rw [HBX.out, hei, frame_length, imgB_body]; simp
    obtain ⟨g, hAg, hgw, hgk⟩ : ∃ g, Ax = some ⟨g, 0, none⟩ ∧ w1.heap.size ≤ g ∧ Blk w2 g 5 (U8s Fx).toArray := by
      cases hAx : Ax with
      | none =>
        have h1 := HX2.out.void hAx
        have h2 := HX2.out.le
        rw [h1] at h2
        rw [List.length_nil] at h2
        omega
      | some p =>
        obtain ⟨g, e1, e2, e3⟩ := HX2.out.row p hAx
        exact ⟨g, by rw [e1], e2, e3⟩
    subst hAg
    obtain ⟨k, hkm⟩ : ∃ k, k = m % (bx.length - 3) := ⟨_, rfl⟩
    have hkl : k + 4 ≤ bx.length := by have := Nat.mod_lt m (show 0 < bx.length - 3 by omega); omega
    have hcast : (bx.length : Int) - 3 = ((bx.length - 3 : Nat) : Int) := by omega
    have hrem : a.tmod ((bx.length : Int) - 3) = (k : Int) := by rw [hm, hcast, hkm]; rfl
    have hrem2 : a % ((bx.length : Int) - 3) = (k : Int) := by rw [hm, hcast, hkm]; rfl
    have hz : ¬ ((bx.length : Int) - 3 = 0) := by omega
    have hw3 : IntKind.i64.wrap ((bx.length : Int) - 3) = (bx.length : Int) - 3 := IntWalk.i64_in _ (by omega)
    have HEx : Hid (encE x = 0) := by show _ = _; rw [← HEE.out]; exact he
    have HFt : Hid (Fx.take bx.length = bx) := HX2.out.take
    have HFl : Hid (bx.length ≤ Fx.length) := HX2.out.le
    have HFL : Hid (Lx = Fx.length) := HLx.out
    have HFb : Hid (∀ y ∈ Fx, y < 256) := HX2.out.byte
    have HGne : Hid (g ≠ gb) := hgk.ne_ HQ2.out (by decide)
    have HGw : Hid (w.heap.size ≤ g) := Nat.le_trans HW1.out hgw
    have HKl : Hid (k + 4 ≤ bx.length) := hkl
    have HBm : Hid (bx.length ≤ 1048576) := hbm
    have S0 : Hid (TellI w g gb k Fx [a0, a1, a2, a3] 0 false w2) := ⟨hgk, HQ2.out, HB2.out, by simp⟩
    clear he hneg hm hk hei hbl hkm hcast hgw hgk
    go_wp2_with fail
    clear hrem hrem2 hz hw3 hd hd2 hb8 HX2 HLx HQ2 HB2
    go_loopg [11, 12] 4 (fun gg s11 s12 wr => ∃ (i : Nat) (tu : Bool), i + gg = 4 ∧ s11 = .bool tu ∧ s12 = .int .i64 (i : Int) ∧ Hid (TellI w g gb k Fx [a0, a1, a2, a3] i tu wr))
    case atStart => exact ⟨0, false, rfl, rfl, rfl, S0⟩
    case round =>
      obtain ⟨i, tu, hig, rfl, rfl, S⟩ := hrel
      clear S0
      cases gk with
      | zero =>
        obtain rfl : i = 4 := by omega
        have hsl : SlB wr (.slice (some ⟨g, 0, none⟩) bx.length Lx) (turnd bx k [a0, a1, a2, a3] 4) := by
          have hrow := S.out.row
          rw [← List.take_append_drop bx.length (turnd Fx k [a0, a1, a2, a3] 4)] at hrow
          have hl : ((turnd Fx k [a0, a1, a2, a3] 4).take bx.length).length = bx.length := by rw [List.length_take, turnd_length]; have := HFl.out; omega
          have := U8s_reads (n := bx.length) (c := Lx) hrow hl.symm (by rw [hl, HFL.out]; exact HFl.out)
          rw [turnd_take _ _ _ _ _ HKl.out, HFt.out] at this
          exact this
        have htd := turn_dec HWd.out HEx.out (k := k) (by rw [← HBX.out]; exact HKl.out) HQ.out
        rw [← HBX.out] at htd
        have htu : tu = true ↔ ¬ (a0 = 0 ∧ a1 = 0 ∧ a2 = 0 ∧ a3 = 0) := by
          rw [S.out.turned]
          constructor
          · rintro ⟨j, hj, hne⟩ ⟨h0, h1, h2, h3⟩
            have : j = 0 ∨ j = 1 ∨ j = 2 ∨ j = 3 := by omega
            rcases this with rfl | rfl | rfl | rfl
            · exact hne h0
            · exact hne h1
            · exact hne h2
            · exact hne h3
          · intro h
            by_cases h0 : a0 = 0
            · by_cases h1 : a1 = 0
              · by_cases h2 : a2 = 0
                · exact ⟨3, by omega, fun h3 => h ⟨h0, h1, h2, h3⟩⟩
                · exact ⟨2, by omega, h2⟩
              · exact ⟨1, by omega, h1⟩
            · exact ⟨0, by omega, h0⟩
        have hfin : decE (turnd bx k [a0, a1, a2, a3] 4) = if tu = true then 150 else 0 := by
          rw [htd]
          by_cases h0 : a0 = 0 ∧ a1 = 0 ∧ a2 = 0 ∧ a3 = 0
          · rw [if_pos h0, if_neg (fun h => htu.1 h h0)]
          · rw [if_neg h0, if_pos (htu.2 h0)]
        have HTL : Hid ((turnd bx k [a0, a1, a2, a3] 4).length ≤ 140737488355318) := by show _ ≤ _; rw [turnd_length]; have := HBm.out; omega
        have HTB : Hid (∀ y ∈ turnd bx k [a0, a1, a2, a3] 4, y < 256) := turnd_lt (fun y hy => encI_lt x y (by rw [← HBX.out]; exact hy)) HQ.out 4
        have HB4 := Lib.hid S.out.below
        generalize turnd bx k [a0, a1, a2, a3] 4 = tl at *
        have HSL := Lib.hid hsl
        have HFin := Lib.hid hfin
        clear hsl htd htu hfin S
        go_wp2_with fail
        refine (HHD.out _ tl wr (HT.out.below HB4.out) HSL.out HTL.out HTB.out).mono ?_
        intro e w5 h
        obtain ⟨hb5, gv, fv, rfl, hown⟩ := dec_own h
        rw [HFin.out]
        obtain ⟨A3, c3, rfl⟩ := own_slk hown.globs
        obtain ⟨_, _, hfr, _⟩ := hown.fns
        obtain ⟨A4, c4, rfl⟩ := own_slk hfr
        have HB5 := Lib.hid (below_trans HB4.out hb5)
        clear h hfr hown hb5
        go_upto_region 13 with (fail)
        have HB6 := Lib.hid (HB5.out.alloc HB5.out.size (.cells #[.slice A3 (decX tl).globs.length c3, .slice A4 (decX tl).fns.length c4] 25))
        generalize w5.alloc (.cells #[.slice A3 (decX tl).globs.length c3, .slice A4 (decX tl).fns.length c4] 25) = w6 at *
        cases tu with
        | false =>
          go_wp2_with fail
          go_ret
          exact ⟨rfl, HB6.out⟩
        | true =>
          go_wp2_with fail
          go_ret
          exact ⟨rfl, HB6.out⟩
      | succ gk =>
        have hi4 : i < 4 := by omega
        have hd : decide ((i : Int) < 4) = true := by simp; omega
        have hii : (i : Int) < 4 := by omega
        have hlen := turnd_length Fx k [a0, a1, a2, a3] i
        have hlt := turnd_lt (k := k) HFb.out HQ.out i
        have hki : k + i < (turnd Fx k [a0, a1, a2, a3] i).length := by rw [hlen]; have := HFl.out; omega
        obtain ⟨y, hy⟩ : ∃ y, y = (turnd Fx k [a0, a1, a2, a3] i).getD (k + i) 0 := ⟨_, rfl⟩
        obtain ⟨z, ha⟩ : ∃ z, z = [a0, a1, a2, a3].getD i 0 := ⟨_, rfl⟩
        have cf : wr.cell? ⟨g, k + i, none⟩ = some (.int .u8 (y : Int)) := by rw [S.out.row.cell, List.getElem?_toArray, U8s_get _ _ hki, hy]
        have ff : wr.frozen? ⟨g, k + i, none⟩ = false := S.out.row.frozen _
        have cb : wr.cell? ⟨gb, i, none⟩ = some (.int .u8 (z : Int)) := by rw [S.out.turn.cell, List.getElem?_toArray, U8s_get _ _ (by simpa using hi4), ha]
        have hy8 : y < 256 := by rw [hy, List.getD_eq_getElem?_getD, List.getElem?_eq_getElem hki]; exact hlt _ (List.getElem_mem hki)
        have ha8 : z < 256 := by rw [ha, List.getD_eq_getElem?_getD, List.getElem?_eq_getElem (by simpa using hi4)]; exact HQ.out _ (List.getElem_mem _)
        have hxor := u8_xor_nat y z hy8 ha8
        have h0 : (0 : Int) ≤ (k : Int) + (i : Int) := by omega
        have h1 : (k : Int) + (i : Int) < (bx.length : Int) := by omega
        have hw1 : IntKind.i64.wrap ((k : Int) + (i : Int)) = (k : Int) + (i : Int) := IntWalk.i64_in _ (by omega)
        have HSN := Lib.hid (S.out.next hy ha HGne.out HGw.out)
        clear hlen hlt hki hy ha hy8 ha8 S
        go_wp2_with fail
        go_region
        have cb2 : (wr.setCell ⟨g, k + i, none⟩ (.int .u8 ((y ^^^ z : Nat) : Int))).drew.cell? ⟨gb, i, none⟩ = some (.int .u8 (z : Int)) := by
          rw [← cb]
          exact World.cell?_of_block (Below.heap_setCell wr ⟨g, k + i, none⟩ _ gb (fun e => HGne.out e.symm))
        have HSD : Hid (∀ tu', (tu' = true ↔ tu = true ∨ z ≠ 0) → TellI w g gb k Fx [a0, a1, a2, a3] (i + 1) tu' (wr.setCell ⟨g, k + i, none⟩ (.int .u8 ((y ^^^ z : Nat) : Int))).drew) := fun tu' h => by
          have := HSN.out tu' h
          exact ⟨this.row, this.turn, this.below.drew, this.turned⟩
        generalize (wr.setCell ⟨g, k + i, none⟩ (.int .u8 ((y ^^^ z : Nat) : Int))).drew = wd at cb2 HSD
        clear HSN cf ff cb hxor hw1 h0 h1
        cases tu with
        | true =>
          go_wp2_with fail
          go_roundg gk
          case measure => omega
          case rel => exact ⟨i + 1, true, by omega, rfl, rfl, HSD.out true (by simp)⟩
        | false =>
          by_cases ha0 : z = 0
          · subst ha0
            go_wp2_with fail
            go_roundg gk
            case measure => omega
            case rel => exact ⟨i + 1, false, by omega, rfl, rfl, HSD.out false (by simp)⟩
          · have hb0 : ((z : Int) != 0) = true := by rw [bne_iff_ne]; omega
            have HA0 := Lib.hid ha0
            clear ha0
            go_wp2_with fail
            go_roundg gk
            case measure => omega
            case rel => exact ⟨i + 1, true, by omega, rfl, rfl, HSD.out true (by simp [HA0.out])⟩

end Go.Proofs.YtebdjahcahgafaaDoor

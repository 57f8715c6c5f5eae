/- Bytes that are lent with marks behind them, and whether they were kept: contracts of Lent and Kept. -/
import Derived.Test.YtebdjahcahgafaaDoorBytesM
import Derived.Laws.MakeOwn
import Derived.BigQuiet
import Derived.Test.YtebdjahcahgafaaDoorOps
import Derived.Deep.LoopGhost
import Derived.Deep.DeepCutAuto
namespace Go.Proofs.YtebdjahcahgafaaDoor
open Go.RowKit

/-- In the midst of the marking: block g holds bs, then marks up to i, then anything. -/
structure LentSt (w : World) (g : Nat) (bs : List Nat) (i : Nat) (wr : World) : Prop where
  blk : ∃ cs : Array Value, Blk wr g 5 cs ∧ cs.size = bs.length + 3 ∧ (∀ j, j < bs.length → cs[j]? = (U8s bs)[j]?) ∧ (∀ j, bs.length ≤ j → j < i → cs[j]? = some (.int .u8 77)) ∧ (∀ j, i ≤ j → j < bs.length + 3 → cs[j]? = some (.int .u8 0))
  below : Below w.heap.size w wr
  new : w.heap.size ≤ g

theorem LentSt.next {w wr : World} {g i : Nat} {bs : List Nat} (h : LentSt w g bs i wr) (hi : bs.length ≤ i) (hl : i < bs.length + 3) : LentSt w g bs (i + 1) (wr.setCell ⟨g, i, none⟩ (.int .u8 77)) := by
  obtain ⟨cs, h1, h2, h3, h4, h5⟩ := h.blk
  refine ⟨⟨_, h1.set_ i _, by simpa using h2, fun j hj => ?_, fun j hj hj' => ?_, fun j hj hj' => ?_⟩, h.below.setCell h.new _, h.new⟩
  · rw [Array.getElem?_setIfInBounds, if_neg (by omega)]; exact h3 j hj
  · rw [Array.getElem?_setIfInBounds]
    by_cases e : i = j
    · subst e; rw [if_pos rfl, if_pos (by omega)]
    · rw [if_neg e]; exact h4 j hj (by omega)
  · rw [Array.getElem?_setIfInBounds, if_neg (by omega)]; exact h5 j (by omega) hj'

theorem lent_make (n : Nat) (hn : n ≤ 140737488355328) (w : World) : (Instr.makeSlice 30 (.int .i64 (n : Int)) (.int .i64 ((n : Int) + 3))).run Tryd.prog w = .ok (.slice (some ⟨w.heap.size, 0, none⟩) n (n + 3)) (w.alloc (.cells (madeCells #[.int .u8 0] (n + 3)) 5)) := by
  obtain ⟨i, hi, hz, hs, hb⟩ := info_parts infoU8
  have h := run_make (P := Tryd.prog) w 30 5 i (.int .u8 0) Tryd.underlying30 hi hz .i64 .i64 (n : Int) ((n : Int) + 3) (by omega) (by omega) (by rw [hb]; omega) (by omega)
  rw [hs, Nat.mul_one] at h
  rw [h]
  congr 2

/-- Lent bytes: a new block that holds bs and three marks. -/
def LentTo (w : World) (bs : List Nat) (e : Ending) (w' : World) : Prop :=
  ∃ g, e = .returned (.slice (some ⟨g, 0, none⟩) bs.length (bs.length + 3)) ∧ w.heap.size ≤ g ∧ Blk w' g 5 (U8s (bs ++ [77, 77, 77])).toArray ∧ Below w.heap.size w w'

theorem LentSt.all {w wr : World} {g : Nat} {bs : List Nat} (h : LentSt w g bs (bs.length + 3) wr) : Blk wr g 5 (U8s (bs ++ [77, 77, 77])).toArray := by
  obtain ⟨cs, h1, h2, h3, h4, _⟩ := h.blk
  have e : cs = (U8s (bs ++ [77, 77, 77])).toArray := by
    apply Array.ext_getElem?
    intro j
    rcases Nat.lt_or_ge j bs.length with hj | hj
    · rw [h3 j hj, U8s_append]
      simp only [List.getElem?_toArray]
      rw [List.getElem?_append_left (by rw [U8s_length]; exact hj)]
    · rcases Nat.lt_or_ge j (bs.length + 3) with hj' | hj'
      · rw [h4 j hj hj', U8s_append]
        simp only [List.getElem?_toArray]
        rw [List.getElem?_append_right (by rw [U8s_length]; exact hj), U8s_length]
        have : j - bs.length = 0 ∨ j - bs.length = 1 ∨ j - bs.length = 2 := by omega
        rcases this with e | e | e <;> rw [e] <;> rfl
      · rw [Array.getElem?_eq_none (by omega), Array.getElem?_eq_none (by simp [U8s]; omega)]
  rw [← e]
  exact h1

set_option maxHeartbeats 1000000 in
theorem lent_c (A : Option Addr) (c : Nat) (bs : List Nat) (w : World) (hr : Reads w w.heap.size A bs.length (U8s bs)) (hn : bs.length ≤ 140737488355328) :
    Calls Tryd.prog 16 #[.slice A bs.length c] w (LentTo w bs) := by
  have hmk := lent_make bs.length hn
  have HR := Lib.hid hr
  have H1 := Lib.hid (U8s_one bs)
  clear hr
  go_enter Tryd.func16, Tryd.ntmps16
  go_wp2_with (with_reducible refine wpList_copy_splice rfl (.tmp 12) (.tmp 13) 30 30 rfl 5 Tryd.underlying30 sizeU8 _ _ _ _ _ _ rfl rfl w.heap.size 0 (List.replicate (bs.length + 3) (.int .u8 0)) 5 (made_blk w (bs.length + 3)) (U8s bs) ?hx ?hpos ?hfit H1.out w.heap.size w ?hb (Nat.le_refl _) ?_)
  case hx => simp [U8s]
  case hpos =>
    intro h0
    obtain ⟨ad, e, hb, hc⟩ := HR.out.2 (by rw [U8s_length] at h0; exact h0)
    exact ⟨ad, e, fun j v hj => (World.cell?_alloc_lt w _ _ (by rw [block_of_add]; exact hb)).trans (hc j v hj)⟩
  case hfit => simp [U8s]
  case hb => exact (Below.refl _ _).alloc (Nat.le_refl _) _
  intro w2 HG hB
  have S0 : LentSt w w.heap.size bs bs.length w2 := ⟨⟨_, HG.out, by simp [splice, U8s], fun j hj => by
      simp only [splice, List.take_zero, List.nil_append, List.getElem?_toArray]
      rw [List.getElem?_append_left (by rw [U8s_length]; exact hj)], fun j hj hj' => by omega, fun j hj hj' => by
      simp only [splice, List.take_zero, List.nil_append, List.getElem?_toArray]
      rw [List.getElem?_append_right (by rw [U8s_length]; exact hj), List.getElem?_drop, U8s_length, List.getElem?_replicate, if_pos (by omega)]⟩, hB, Nat.le_refl _⟩
  clear hB HG hmk
  go_wp2_with fail
  go_loopg [5] 3 (fun gg s5 wr => ∃ i : Nat, i + gg = bs.length + 3 ∧ bs.length ≤ i ∧ s5 = .int .i64 (i : Int) ∧ LentSt w w.heap.size bs i wr)
  case atStart => exact ⟨bs.length, by omega, by omega, rfl, S0⟩
  case round =>
    obtain ⟨i, hig, hib, rfl, S⟩ := hrel
    cases gk with
    | zero =>
      have ei : i = bs.length + 3 := by omega
      subst ei
      have hd : decide (((bs.length + 3 : Nat) : Int) < (bs.length : Int) + 3) = false := by simp
      go_wp2_with fail
      go_ret
      exact ⟨w.heap.size, rfl, Nat.le_refl _, S.all, S.below⟩
    | succ gk =>
      have hd : decide ((i : Int) < (bs.length : Int) + 3) = true := by simp; omega
      have hii : (i : Int) < (bs.length : Int) + 3 := by omega
      obtain ⟨cs, h1, h2, h3, h4, h5⟩ := S.blk
      have c1 : wr.cell? ⟨w.heap.size, i, none⟩ = some (.int .u8 0) := by rw [h1.cell]; exact h5 i (by omega) (by omega)
      have f1 : wr.frozen? ⟨w.heap.size, i, none⟩ = false := h1.frozen i
      clear h1 h2 h3 h4 h5
      have S1 := Lib.hid (S.next hib (by omega))
      clear S
      go_wp2_with fail
      go_roundg gk
      case measure => omega
      case rel => exact ⟨i + 1, by omega, by omega, rfl, S1.out⟩

/-- In the midst of Kept: from i on block g is as it was. -/
structure KeptSt (w : World) (g : Nat) (bs : List Nat) (i : Nat) (wr : World) : Prop where
  blk : ∃ cs : Array Value, Blk wr g 5 cs ∧ cs.size = bs.length + 3 ∧ (∀ j, i ≤ j → cs[j]? = (U8s (bs ++ [77, 77, 77]))[j]?)
  fr : Fr (fun k => k = g) w wr

theorem KeptSt.next {w wr : World} {g i : Nat} {bs : List Nat} (h : KeptSt w g bs i wr) (u : Value) (nq : Nat) : KeptSt w g bs (i + 1) ((wr.drewN nq).setCell ⟨g, i, none⟩ u) := by
  obtain ⟨cs, h1, h2, h3⟩ := h.blk
  have h1' : Blk (wr.drewN nq) g 5 cs := h1
  refine ⟨⟨_, h1'.set_ i u, by simpa using h2, fun j hj => ?_⟩, (h.fr.trans (Fr.drewN (S := fun k => k = g) wr nq) (fun _ _ h => h)).trans (Fr.set (S := fun k => k = g) _ (p := ⟨g, i, none⟩) rfl _) (fun _ _ h => h)⟩
  rw [Array.getElem?_setIfInBounds, if_neg (by omega)]; exact h3 j (by omega)

theorem marks_at (bs : List Nat) (j : Nat) (h : j < bs.length + 3) : (U8s (bs ++ [77, 77, 77]))[j]? = some (.int .u8 (if j < bs.length then ((bs.getD j 0 : Nat) : Int) else 77)) := by
  rw [U8s_append]
  by_cases hj : j < bs.length
  · rw [if_pos hj, List.getElem?_append_left (by rw [U8s_length]; exact hj), U8s_get bs j hj]
  · rw [if_neg hj, List.getElem?_append_right (by rw [U8s_length]; omega), U8s_length]
    have : j - bs.length = 0 ∨ j - bs.length = 1 ∨ j - bs.length = 2 := by omega
    rcases this with e | e | e <;> rw [e] <;> rfl

set_option maxHeartbeats 1000000 in
set_option maxRecDepth 100000 in
theorem kept_c (g c B : Nat) (A : Option Addr) (bs : List Nat) (w : World) (hk : Blk w g 5 (U8s (bs ++ [77, 77, 77])).toArray) (hr : Reads w B A bs.length (U8s bs)) (hB : B ≤ g) (hn : bs.length ≤ 140737488355328) :
    Calls Tryd.prog 18 #[.slice (some ⟨g, 0, none⟩) bs.length (bs.length + 3), .slice A bs.length c] w fun e w' => e = .returned (.bool true) ∧ Fr (fun k => k = g) w w' := by
  have S0 : KeptSt w g bs 0 w := ⟨⟨_, hk, by simp [U8s], fun j _ => by simp⟩, Fr.refl _ _⟩
  have HR := Lib.hid hr
  clear hk hr
  have hd0 : decide ((bs.length : Int) + 3 ≤ ((bs.length + 3 : Nat) : Int)) = true := by simp
  go_enter Tryd.func18, Tryd.ntmps18
  go_wp2_with fail
  go_loopg [7] (bs.length + 3) (fun gg s7 wr => ∃ i : Nat, i + gg = bs.length + 3 ∧ s7 = .int .i64 (i : Int) ∧ KeptSt w g bs i wr)
  case atStart => exact ⟨0, by omega, rfl, S0⟩
  case round =>
    obtain ⟨i, hig, rfl, S⟩ := hrel
    clear S0
    cases gk with
    | zero =>
      have hd : decide ((i : Int) < (bs.length : Int) + 3) = false := by simp; omega
      have HS := Lib.hid S.fr
      clear S
      go_wp2_with fail
      go_ret
      exact ⟨rfl, HS.out⟩
    | succ gk =>
      have hd : decide ((i : Int) < (bs.length : Int) + 3) = true := by simp; omega
      have hii : (i : Int) < (bs.length : Int) + 3 := by omega
      obtain ⟨cs, h1, h2, h3⟩ := S.blk
      have hcell : wr.cell? ⟨g, i, none⟩ = some (.int .u8 (if i < bs.length then ((bs.getD i 0 : Nat) : Int) else 77)) := by rw [h1.cell, h3 i (Nat.le_refl _)]; exact marks_at bs i (by omega)
      have f1 : wr.frozen? ⟨g, i, none⟩ = false := h1.frozen i
      clear h1 h2 h3
      by_cases hib : i < bs.length
      · rw [if_pos hib] at hcell
        obtain ⟨b, o, e, hbB, hc⟩ := HR.out.spot hib
        rw [U8s_get bs i hib] at hc
        have hc2 : wr.cell? ⟨b, o + i, none⟩ = some (.int .u8 ((bs.getD i 0 : Nat) : Int)) := by
          have : b < w.heap.size := World.block_lt_of_cell? w _ hc
          rw [← hc]
          exact World.cell?_of_block (S.fr.block b this (fun h => by omega))
        clear hc
        generalize bs.getD i 0 = y at hcell hc2
        subst e
        have hd1 : decide (i < bs.length) = true := by simpa using hib
        have hd2 : decide (bs.length ≤ i) = false := by simpa using hib
        have hself : ((y : Int) != (y : Int)) = false := by simp
        have hib2 : (i : Int) < (bs.length : Int) := by omega
        go_wp2_with fail
        go_quiet (fail)
        go_wp2_with fail
        go_roundg gk
        case measure => omega
        case rel => exact ⟨i + 1, by omega, rfl, S.next _ nq⟩
      · rw [if_neg hib] at hcell
        have hd1 : decide (i < bs.length) = false := by simpa using hib
        have hd2 : decide (bs.length ≤ i) = true := by simpa using hib
        go_wp2_with fail
        go_quiet (fail)
        go_wp2_with fail
        go_roundg gk
        case measure => omega
        case rel => exact ⟨i + 1, by omega, rfl, S.next _ nq⟩

end Go.Proofs.YtebdjahcahgafaaDoor

/- The contracts of Lent and Kept. -/
import Derived.Test.YtnffflcfncffpaaBLent
namespace Go.Proofs.Ytnffflcfncffpaa
open Go.RowKit

theorem mark_set {w : World} {g n : Nat} {L : List Bx} (hl : L.length = n) (h : Blk w g 25 (cellsL L ++ List.replicate 3 (Value.int .i64 0)).toArray) :
    LentAt (((w.setCell ⟨g, n * 3, none⟩ (.int .i64 0)).setCell ⟨g, n * 3 + 1, none⟩ (.int .i64 0)).setCell ⟨g, n * 3 + 2, none⟩ (.int .i64 (-77))) g L := by
  have h3 := ((h.set_ (n * 3) (.int .i64 0)).set_ (n * 3 + 1) (.int .i64 0)).set_ (n * 3 + 2) (.int .i64 (-77))
  unfold LentAt
  have hc : (cellsL L).length = n * 3 := by rw [cellsL_len, hl]
  have e : ((((cellsL L ++ List.replicate 3 (Value.int .i64 0)).toArray.setIfInBounds (n * 3) (.int .i64 0)).setIfInBounds (n * 3 + 1) (.int .i64 0)).setIfInBounds (n * 3 + 2) (.int .i64 (-77))) = (cellsL (L ++ [⟨0, 0, -77⟩])).toArray := by
    rw [cellsL_append]
    simp only [List.setIfInBounds_toArray]
    congr 1
    rw [← hc, List.set_append_right _ _ (Nat.le_refl _), List.set_append_right _ _ (by omega), List.set_append_right _ _ (by omega)]
    congr 1
    rw [Nat.sub_self, show (cellsL L).length + 1 - (cellsL L).length = 1 by omega, show (cellsL L).length + 2 - (cellsL L).length = 2 by omega]
    rfl
  rw [e] at h3
  exact h3

theorem zeros_at {w : World} {g n : Nat} {L : List Bx} (hl : L.length = n) (h : Blk w g 25 (cellsL L ++ List.replicate 3 (Value.int .i64 0)).toArray) (j : Nat) (hj : j < 3) : w.cell? ⟨g, n * 3 + j, none⟩ = some (.int .i64 0) := by
  rw [h.cell]
  have hc : (cellsL L).length = n * 3 := by rw [cellsL_len, hl]
  simp only [List.getElem?_toArray]
  rw [List.getElem?_append_right (by omega), List.getElem?_replicate, if_pos (by omega)]

theorem lent_c (A : Option Addr) (n c : Nat) (L : List Bx) (w : World) (hn : n * 24 ≤ 140737488351232) (hL : RBox w w.heap.size A n L) :
    Calls Try.prog 20 #[.slice A n c] w fun e w' => (∃ g, e = .returned (.slice (some ⟨g, 0, none⟩) n (n + 1)) ∧ w.heap.size ≤ g ∧ LentAt w' g L) ∧ Below w.heap.size w w' := by
  have hmk := lent_make n hn
  obtain ⟨w2, hcp, hk, hb⟩ := lent_copy A n c L w hL
  have HLEN := Lib.hid hL.1
  have HK := Lib.hid hk
  have HB := Lib.hid hb
  have c0 : w2.cell? ⟨w.heap.size, n * 3, none⟩ = some (.int .i64 0) := zeros_at hL.1 hk 0 (by omega)
  have c1 := zeros_at hL.1 hk 1 (by omega)
  have c2 := zeros_at hL.1 hk 2 (by omega)
  have z0 := hk.frozen (n * 3)
  have z1 := hk.frozen (n * 3 + 1)
  have z2 := hk.frozen (n * 3 + 2)
  have i1 : wrap64 ((n : Int) + 1) = (n : Int) + 1 := IntWalk.wrap64_in _ (by omega)
  have hd0 : decide ((n : Int) + 1 ≤ ((n + 1 : Nat) : Int)) = true := by simp
  have hnn : (n : Int) < 9223372036854775807 := by omega
  simp only [List.toArray_replicate] at hcp hmk
  clear hL hk hb hn
  go_enter Try.func20, Try.ntmps20
  go_wp2_with fail
  go_ret
  exact ⟨⟨_, rfl, Nat.le_refl _, mark_set HLEN.out HK.out⟩, ((HB.out.setCell (Nat.le_refl _) _).setCell (Nat.le_refl _) _).setCell (Nat.le_refl _) _⟩

set_option maxRecDepth 100000 in
theorem kept_c (g : Nat) (A : Option Addr) (n c : Nat) (L : List Bx) (w : World) (hn : n * 24 ≤ 140737488351232) (hg : LentAt w g L) (hL : RBox w w.heap.size A n L) :
    Calls Try.prog 23 #[.slice (some ⟨g, 0, none⟩) n (n + 1), .slice A n c] w fun e w' => e = .returned (.bool true) ∧ Below w.heap.size w w' := by
  have HL := Lib.hid hL
  have HG := Lib.hid hg
  have HLEN := Lib.hid hL.1
  have i1 : wrap64 ((n : Int) + 1) = (n : Int) + 1 := IntWalk.wrap64_in _ (by omega)
  have hd0 : decide ((n : Int) + 1 ≤ ((n + 1 : Nat) : Int)) = true := by simp
  have hnn : (n : Int) < 9223372036854775807 := by omega
  have hn' : n < 9223372036854775807 := by omega
  clear hL hg hn
  go_enter Try.func23, Try.ntmps23
  go_wp2_with fail
  go_loopg [5] n (fun gg s5 wr => ∃ k : Nat, k + gg = n ∧ s5 = .int .i64 (k : Int) ∧ Below w.heap.size w wr)
  case atStart => exact ⟨0, by omega, rfl, Below.refl _ _⟩
  case round =>
    obtain ⟨k, hk, rfl, hb⟩ := hrel
    have HB := Lib.hid hb
    clear hb
    cases gk with
    | zero =>
      obtain rfl : k = n := by omega
      clear hk
      have hm := (HG.out.below HB.out).mark
      rw [HLEN.out] at hm
      obtain ⟨c0, c1, c2⟩ := hm
      go_wp2_with fail
      go_ret
      exact ⟨rfl, HB.out⟩
    | succ gk =>
      have hkn : k < n := by omega
      have hkI : (k : Int) < (n : Int) := by omega
      have hk0 : (0 : Int) ≤ (k : Int) := by omega
      obtain ⟨b, o, rfl, hlt, hc⟩ := (HL.out.since HB.out).2.2 (by omega)
      obtain ⟨c0, c1, c2⟩ := hc k hkn
      obtain ⟨d0, d1, d2⟩ := (HG.out.below HB.out).cells k (by rw [HLEN.out]; exact hkn)
      clear hc hlt
      generalize Bx.at L k = bb at *
      go_upto_region 6 with (fail)
      go_quiet (fail)
      go_wp2_with fail
      go_roundg gk
      case measure => omega
      case rel => exact ⟨k + 1, by omega, by push_cast; rfl, below_draw HB.out _⟩
end Go.Proofs.Ytnffflcfncffpaa

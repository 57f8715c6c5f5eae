/- The walk of BitsLong: it answers true, whatever the numbers and the counts, and writes nothing old. -/
import Derived.Test.YtehonfobofpahaaAwake
import Derived.StillTailTactics
namespace Go.Proofs.Ytehonfobofpahaa
open Go.RowKit

/-- Numbers as cells. -/
def Ints (zs : List Int) : List Value := zs.map (Value.int .i64)

theorem Ints_at {w : World} {B n k : Nat} {A : Option Addr} {zs : List Int} (h : Reads w B A n (Ints zs)) (hk : k < n) : ∃ b o, A = some ⟨b, o, none⟩ ∧ b < B ∧ w.cell? ⟨b, o + k, none⟩ = some (.int .i64 (zs.getD k 0)) := by
  obtain ⟨⟨b, o, sp⟩, u, rfl, hb, hx, hc⟩ := h.at_ hk
  have hl : k < zs.length := by have := h.1; simp [Ints] at this; omega
  have hu : u = .int .i64 (zs.getD k 0) := by
    have := hx
    simp [Ints, List.getElem?_eq_getElem hl] at this
    rw [← this]
    simp [List.getD, List.getElem?_eq_getElem hl]
  subst hu
  obtain ⟨ad0, u0, e0, _, _, hc0⟩ := h.at_ (k := 0) (by omega)
  injection e0 with e0
  subst e0
  have hsp : sp = none := by simpa [Addr.add] using World.cell?_spot hc0
  subst hsp
  refine ⟨b, o, rfl, hb, ?_⟩
  rw [← hc]
  congr 1
  unfold Addr.add
  split <;> simp_all

set_option maxHeartbeats 1000000 in
set_option maxRecDepth 100000 in
theorem long_walk (a0 a1 : Option Addr) (l0 c0 l1 c1 : Nat) (xs ys : List Int) (w : World) (h0 : Reads w w.heap.size a0 l0 (Ints xs)) (h1 : Reads w w.heap.size a1 l1 (Ints ys)) (hl0 : l0 ≤ maxLen) (hl1 : l1 ≤ maxLen) :
    Calls Try.prog 8 #[.slice a0 l0 c0, .slice a1 l1 c1] w fun e w' => e = .returned (.bool true) ∧ Below w.heap.size w w' := by
  unfold maxLen at hl0 hl1
  have HR0 := Lib.hid h0
  have HR1 := Lib.hid h1
  clear h0 h1
  go_enter Try.func8, Try.ntmps8
  go_wp2_with fail
  refine (awake_c _).mono ?_
  rintro e wa ⟨rfl, hba⟩
  have BA := Lib.hid hba
  clear hba
  go_wp2_with fail
  refine (new_c _).mono ?_
  rintro e w1 ⟨rfl, rfl⟩
  have W0 := Lib.hid (Wr.new wa)
  have B0 := Lib.hid (BA.out.alloc BA.out.size (.cells #[.slice none 0 0, .int .i64 0] 51))
  have hp : w.heap.size ≤ wa.heap.size := BA.out.size
  generalize (wa.alloc (.cells #[.slice none 0 0, .int .i64 0] 51)) = w0 at W0 B0 ⊢
  generalize wa.heap.size = p at W0 hp ⊢
  clear BA
  go_wp2_with fail
  go_loopg [7, 8, 9, 10] (l0 + l1) (fun g s7 s8 _ _ wr => ∃ (k tot : Nat) (bs : List Nat) (v : Value), k + g = l0 + l1 ∧ k ≤ l0 ∧ k ≤ l1 ∧ s7 = .int .i64 (tot : Int) ∧ s8 = .int .i64 (k : Int) ∧ Wr wr p v tot bs ∧ Row bs tot ∧ tot ≤ 1048576 ∧ Below w.heap.size w wr)
  case atStart => exact ⟨0, 0, [], _, by omega, by omega, by omega, rfl, rfl, W0.out, Row.nil, by omega, B0.out⟩
  case round =>
    obtain ⟨k, tot, bs, v, hkg, hk0, hk1, rfl, rfl, hW, hrow, htot, hB⟩ := hrel
    have HW := Lib.hid hW
    have HRow := Lib.hid hrow
    have HB := Lib.hid hB
    clear hW hrow hB W0 B0
    by_cases hlt : k < l0 ∧ k < l1
    · obtain ⟨hlt0, hlt1⟩ := hlt
      obtain ⟨b0, o0, e0, hb0, hc0⟩ := Ints_at HR0.out hlt0
      obtain ⟨b1, o1, e1, hb1, hc1⟩ := Ints_at HR1.out hlt1
      have d0 : wr.cell? ⟨b0, o0 + k, none⟩ = some (.int .i64 (xs.getD k 0)) := (HB.out.cell hb0).trans hc0
      have d1 : wr.cell? ⟨b1, o1 + k, none⟩ = some (.int .i64 (ys.getD k 0)) := (HB.out.cell hb1).trans hc1
      clear hc0 hc1
      subst e0 e1
      generalize xs.getD k 0 = x at d0
      generalize ys.getD k 0 = y at d1
      have i0 : (k : Int) < (l0 : Int) := by omega
      have i1 : (k : Int) < (l1 : Int) := by omega
      go_wp2_with fail
      refine (len_c p v _ _ HW.out.blk).mono ?_
      rintro e w2 ⟨rfl, rfl⟩
      go_wp2_with fail
      go_still_tail 9, (by kernel_rfl)
      go_wp2_with fail
      have HWd : Hid (Wr wr.drew p v tot bs) := ⟨HW.out.blk, HW.out.own⟩
      have HBd : Hid (Below w.heap.size w wr.drew) := HB.out.drew
      have d1d : wr.drew.cell? ⟨b1, o1 + k, none⟩ = some (.int .i64 y) := d1
      generalize wr.drew = wq at HWd HBd d1d ⊢
      clear d0 d1 HW HB
      refine (put_any p tot v bs x y _ HWd.out HRow.out htot).mono ?_
      rintro e w3 (⟨_, rfl, rfl⟩ | ⟨a, sz, _, _, hs1, _, _, rfl, rfl⟩ | ⟨a, sz, rfl, rfl, hs1, _, hle, v', rfl, hw, hf, _⟩)
      · go_wp2_with fail
        refine (len_c p v _ _ HWd.out.blk).mono ?_
        rintro e w4 ⟨rfl, rfl⟩
        go_wp2_with fail
        go_roundg (gk - 1)
        case measure => omega
        case rel => exact ⟨k + 1, tot, bs, v, by omega, by omega, by omega, rfl, rfl, HWd.out, HRow.out, htot, HBd.out⟩
      · go_wp2_with fail
        refine (len_c p v _ _ HWd.out.blk).mono ?_
        rintro e w4 ⟨rfl, rfl⟩
        go_wp2_with fail
        go_roundg (gk - 1)
        case measure => omega
        case rel => exact ⟨k + 1, tot, bs, v, by omega, by omega, by omega, rfl, rfl, HWd.out, HRow.out, htot, HBd.out⟩
      · have HW3 := Lib.hid hw
        have HB3 := Lib.hid (below_put HBd.out HWd.out hf hp)
        clear hf hw
        have d2 : w3.cell? ⟨b1, o1 + k, none⟩ = some (.int .i64 (sz : Int)) := (HB3.out.cell hb1).trans ((HBd.out.cell hb1).symm.trans d1d)
        clear d1d
        go_wp2_with fail
        go_roundg (gk - 1)
        case measure => omega
        case rel => exact ⟨k + 1, tot + sz, _, v', by omega, by omega, by omega, rfl, rfl, HW3.out, HRow.out.putN, hle, HB3.out⟩
    · have hlen := HRow.out.len
      have hbl : bs.length ≤ 281474976710656 := by omega
      have HL := Lib.hid hlen
      have hq7 : ((tot : Int) + 7) / 8 = (bs.length : Int) := by omega
      have hs8 : 8 * (bs.length : Int) - ((0 : Nat) : Int) = 8 * (bs.length : Int) := by omega
      have hbe : ((bs.length : Int) == ((tot : Int) + 7) / 8) = true := by rw [beq_iff_eq]; omega
      have hbe2 : (8 * (bs.length : Int) == 8 * (((tot : Int) + 7) / 8)) = true := by rw [beq_iff_eq]; omega
      have HQ := Lib.hid hq7
      clear hlen hq7
      have hcase : (decide (k < l0) = false) ∨ (decide (k < l0) = true ∧ decide (k < l1) = false) := by
        simp; omega
      clear hlt
      rcases hcase with hd | ⟨hd, hd'⟩
      all_goals
        go_wp2_with fail
        refine (bytes_c p tot v bs _ HW.out hbl).mono ?_
        rintro e w2 ⟨g2, rfl, hg2, hk2, hb2⟩
        have K2 := Lib.hid hk2
        have HW2 := Lib.hid (HW.out.fr (Fr.of_below (S := fun _ => False) hb2) (fun h => h) (fun _ _ h => h))
        have HB2 := Lib.hid (HB.out.trans (hb2.mono HB.out.size))
        clear hk2 hb2 hg2
        go_wp2_with fail
        refine (read_c (some ⟨g2, 0, none⟩) bs.length bs _ (by have := (Reads.blk K2.out).more K2.out.lt; rwa [U8s_length] at this) hbl).mono ?_
        rintro e w3 ⟨q, g3, rfl, hq, hg3, hrd, hb3⟩
        have R3 := Lib.hid hrd
        have HW3 := Lib.hid (HW2.out.fr (Fr.of_below (S := fun _ => False) hb3) (fun h => h) (fun _ _ h => h))
        have HB3 := Lib.hid (HB2.out.trans (hb3.mono HB2.out.size))
        clear hrd hb3 hq hg3
        go_wp2_with fail
        refine (len_c p v _ _ HW3.out.blk).mono ?_
        rintro e w4 ⟨rfl, rfl⟩
        go_wp2_with fail
        refine (bytes_c p tot v bs _ HW3.out hbl).mono ?_
        rintro e w4 ⟨g4, rfl, hg4, hk4, hb4⟩
        have R4 := Lib.hid (R3.out.fr (Fr.of_below (S := fun _ => False) hb4) (fun h => h) (fun h => h))
        have HB4 := Lib.hid (HB3.out.trans (hb4.mono HB3.out.size))
        clear hk4 hb4 hg4
        go_wp2_with fail
        refine (rest_c q _ _ _ _ _ R4.out.blk (by omega) (by omega) hbl).mono ?_
        rintro e w5 ⟨rfl, j, rfl⟩
        rw [hs8]
        go_wp2_with fail
        go_ret
        exact ⟨rfl, below_draw HB4.out j⟩

end Go.Proofs.Ytehonfobofpahaa

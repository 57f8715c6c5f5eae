/- Slices of boxes; the contract of allRight. -/
import Derived.Test.YtnffflcfncffpaaBMeet
import Derived.Deep.LoopGhost
namespace Go.Proofs.Ytnffflcfncffpaa
open Go.RowKit

/-- A box's numbers. -/
structure Bx where
  x : Int
  y : Int
  r : Int
/-- The box at a place; beyond the end none that matters. -/
def Bx.at (L : List Bx) (k : Nat) : Bx := L.getD k ⟨0, 0, 0⟩
theorem Bx.at_get {L : List Bx} {k : Nat} (hk : k < L.length) : Bx.at L k = L[k] := by
  unfold Bx.at
  simp [List.getD, List.getElem?_eq_getElem hk]
/-- May that be a box? -/
def Bx.right (b : Bx) : Bool := rightB b.x b.y b.r

/-- The slice value '.slice A n c' holds the boxes L; it lies below block B. -/
def RBox (w : World) (B : Nat) (A : Option Addr) (n : Nat) (L : List Bx) : Prop :=
  L.length = n ∧ (∀ k, k < n → I64 (Bx.at L k).x ∧ I64 (Bx.at L k).y ∧ I64 (Bx.at L k).r) ∧ (0 < n → ∃ b o, A = some ⟨b, o, none⟩ ∧ b < B ∧ ∀ k, k < n → w.cell? ⟨b, o + k * 3, none⟩ = some (.int .i64 (Bx.at L k).x) ∧ w.cell? ⟨b, o + k * 3 + 1, none⟩ = some (.int .i64 (Bx.at L k).y) ∧ w.cell? ⟨b, o + k * 3 + 2, none⟩ = some (.int .i64 (Bx.at L k).r))

section
variable {w w' : World} {B B' n : Nat} {A : Option Addr} {L : List Bx}
theorem RBox.keep (h : RBox w B A n L) (hk : ∀ p : Addr, p.block < B → w'.cell? p = w.cell? p) : RBox w' B A n L := by
  refine ⟨h.1, h.2.1, fun hn => ?_⟩
  obtain ⟨b, o, e, hb, hc⟩ := h.2.2 hn
  exact ⟨b, o, e, hb, fun k hk' => ⟨(hk _ hb).trans (hc k hk').1, (hk _ hb).trans (hc k hk').2.1, (hk _ hb).trans (hc k hk').2.2⟩⟩
theorem RBox.more (h : RBox w B A n L) (hB : B ≤ B') : RBox w B' A n L := by
  refine ⟨h.1, h.2.1, fun hn => ?_⟩
  obtain ⟨b, o, e, hb, hc⟩ := h.2.2 hn
  exact ⟨b, o, e, by omega, hc⟩
theorem RBox.below (h : RBox w B A n L) (hb : Below B w w') : RBox w' B A n L := h.keep fun _ hp => hb.cell hp
/-- As it was at the call's begin. -/
theorem RBox.since {wr : World} (h : RBox w w.heap.size A n L) (hb : Below w.heap.size w wr) : RBox wr wr.heap.size A n L := (h.below hb).more hb.size
end

/-- Are all right? -/
def allB (L : List Bx) : Bool := L.all Bx.right
theorem allB_iff {L : List Bx} : allB L = true ↔ ∀ k, k < L.length → (Bx.at L k).right = true := by
  unfold allB
  rw [List.all_eq_true]
  constructor
  · intro h k hk
    exact h _ (by rw [Bx.at_get hk]; exact List.getElem_mem hk)
  · intro h b hb
    obtain ⟨k, hk, rfl⟩ := List.getElem_of_mem hb
    have := h k hk
    rwa [Bx.at_get hk] at this
theorem allB_not {L : List Bx} {k : Nat} (hk : k < L.length) (h : (Bx.at L k).right = false) : allB L = false := by
  cases h2 : allB L with
  | false => rfl
  | true => rw [allB_iff.1 h2 k hk] at h; cases h

set_option maxRecDepth 100000 in
theorem allRight_c (x y r : Int) (A : Option Addr) (n c : Nat) (L : List Bx) (w : World) (hx : I64 x) (hy : I64 y) (hn : n ≤ 281474976710656) (hL : RBox w w.heap.size A n L) :
    Calls Try.prog 34 #[boxV x y r, .slice A n c] w fun e w' => e = .returned (.int .i64 (errB (allB L && rightB x y r))) ∧ Below w.heap.size w w' := by
  have H0 := Lib.hid (fun w => right_c x y r w hx hy)
  have HL := Lib.hid hL
  have HN := Lib.hid hn
  have HLEN := Lib.hid hL.1
  have hn' : n < 9223372036854775808 := by omega
  clear hx hy hL hn
  go_enter Try.func34, Try.ntmps34
  go_wp2_with fail
  have HK0 := Lib.hid (Blk.new w 25 (boxR x y r))
  have HB0 := Lib.hid (bel1 w (.cells (boxR x y r) 25))
  generalize w.alloc (.cells (boxR x y r) 25) = w0 at *
  go_loopg [10] n (fun gg s10 wr => ∃ k : Nat, k + gg = n ∧ s10 = .int .i64 (k : Int) ∧ (∀ i, i < k → (Bx.at L i).right = true) ∧ Below w.heap.size w wr ∧ Blk wr w.heap.size 25 (boxR x y r))
  case atStart => exact ⟨0, by omega, rfl, by omega, HB0.out, HK0.out⟩
  case round =>
    obtain ⟨k, hk, rfl, hall, hb, hkb⟩ := hrel
    clear HB0 HK0 w0
    have HALL := Lib.hid hall
    have HB := Lib.hid hb
    have HK := Lib.hid hkb
    clear hall hb hkb
    cases gk with
    | zero =>
      obtain rfl : k = n := by omega
      clear hk
      have c0 := HK.out.cell 0
      have c1 := HK.out.cell 1
      have c2 := HK.out.cell 2
      go_wp2_with fail
      refine (H0.out _).mono ?_
      rintro e w1 ⟨rfl, hb⟩
      have HB := Lib.hid (vbt HB.out hb)
      clear hb c0 c1 c2
      go_wp2_with fail
      go_ret
      refine ⟨?_, HB.out⟩
      have : allB L = true := allB_iff.2 (by rw [HLEN.out]; exact HALL.out)
      rw [this]
      rfl
    | succ gk =>
      have hkn : k < n := by omega
      obtain ⟨b, o, rfl, hlt, hc⟩ := (HL.out.since HB.out).2.2 (by omega)
      obtain ⟨c0, c1, c2⟩ := hc k hkn
      obtain ⟨ix, iy, ir⟩ := HL.out.2.1 k hkn
      have H1 := Lib.hid (fun w => right_c (Bx.at L k).x (Bx.at L k).y (Bx.at L k).r w ix iy)
      clear hc hlt ix iy ir
      go_wp2_with fail
      refine (H1.out _).mono ?_
      rintro e w1 ⟨rfl, hb⟩
      have HK := Lib.hid ((HK.out.alloc (.cells (boxR (Bx.at L k).x (Bx.at L k).y (Bx.at L k).r) 25)).below hb (HK.out.alloc (.cells (boxR (Bx.at L k).x (Bx.at L k).y (Bx.at L k).r) 25)).lt)
      have HB := Lib.hid (vbt (vbt HB.out (bel1 _ _)) hb)
      clear hb c0 c1 c2
      unfold errR
      by_cases hr : rightB (Bx.at L k).x (Bx.at L k).y (Bx.at L k).r = true
      · rw [hr, if_pos rfl]
        have HR := Lib.hid hr
        clear hr
        go_wp2_with fail
        go_roundg gk
        case measure => omega
        case rel =>
          refine ⟨k + 1, by omega, by push_cast; rfl, fun i hi => ?_, HB.out, HK.out⟩
          rcases Nat.lt_or_ge i k with h | h
          · exact HALL.out i h
          · obtain rfl : i = k := by omega
            exact HR.out
      · rw [if_neg hr]
        have HR := Lib.hid hr
        clear hr
        go_wp2_with fail
        go_ret
        refine ⟨?_, HB.out⟩
        have : allB L = false := allB_not (k := k) (by rw [HLEN.out]; exact hkn) (by unfold Bx.right; simpa using HR.out)
        rw [this]
        rfl
end Go.Proofs.Ytnffflcfncffpaa

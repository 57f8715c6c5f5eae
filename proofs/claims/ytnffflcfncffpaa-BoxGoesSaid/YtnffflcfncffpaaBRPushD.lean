/- The reference's rights, and words for its Push. -/
import Derived.Test.YtnffflcfncffpaaBRLeaf
import Derived.Test.YtnffflcfncffpaaBPushC
namespace Go.Proofs.Ytnffflcfncffpaa
open Go.RowKit

set_option maxRecDepth 100000 in
theorem rights_c (A : Option Addr) (n c : Nat) (L : List Bx) (w : World) (hn : n ≤ 281474976710656) (hL : RBox w w.heap.size A n L) :
    Calls Try.prog 39 #[.slice A n c] w fun e w' => e = .returned (.bool (allB L)) ∧ Below w.heap.size w w' := by
  have HL := Lib.hid hL
  have HLEN := Lib.hid hL.1
  have hn' : n < 9223372036854775808 := by omega
  clear hL hn
  go_enter Try.func39, Try.ntmps39
  go_wp2_with fail
  go_loopg [3] n (fun gg s3 wr => ∃ k : Nat, k + gg = n ∧ s3 = .int .i64 (k : Int) ∧ (∀ i, i < k → (Bx.at L i).right = true) ∧ Below w.heap.size w wr)
  case atStart => exact ⟨0, by omega, rfl, by omega, Below.refl _ _⟩
  case round =>
    obtain ⟨k, hk, rfl, hall, hb⟩ := hrel
    have HALL := Lib.hid hall
    have HB := Lib.hid hb
    clear hall hb
    cases gk with
    | zero =>
      obtain rfl : k = n := by omega
      clear hk
      go_wp2_with fail
      go_ret
      refine ⟨?_, HB.out⟩
      have : allB L = true := allB_iff.2 (by rw [HLEN.out]; exact HALL.out)
      rw [this]
      rfl
    | succ gk =>
      have hkn : k < n := by omega
      obtain ⟨b, o, rfl, hlt, hc⟩ := (HL.out.since HB.out).2.2 (by omega)
      obtain ⟨c0, c1, c2⟩ := hc k hkn
      have H1 := Lib.hid (fun w => rright_c (Bx.at L k).x (Bx.at L k).y (Bx.at L k).r w)
      clear hc hlt
      go_wp2_with fail
      refine (H1.out _).mono ?_
      rintro e w1 ⟨rfl, hb⟩
      have HB := Lib.hid (vbt HB.out hb)
      clear hb c0 c1 c2
      by_cases hr : rightB (Bx.at L k).x (Bx.at L k).y (Bx.at L k).r = true
      · rw [hr]
        have HR := Lib.hid hr
        clear hr
        go_wp2_with fail
        go_roundg gk
        case measure => omega
        case rel =>
          refine ⟨k + 1, by omega, by push_cast; rfl, fun i hi => ?_, HB.out⟩
          rcases Nat.lt_or_ge i k with h | h
          · exact HALL.out i h
          · obtain rfl : i = k := by omega
            exact HR.out
      · rw [Bool.not_eq_true] at hr
        rw [hr]
        have HR := Lib.hid hr
        clear hr
        go_wp2_with fail
        go_ret
        refine ⟨?_, HB.out⟩
        have : allB L = false := allB_not (k := k) (by rw [HLEN.out]; exact hkn) HR.out
        rw [this]
        rfl

/-- Does the reference take that box as one in the way, and nearer? -/
def aheadR (d t : Int) : Bool := (decide (0 < d) && decide (0 < t)) || (decide (d < 0) && decide (t < 0))
def takeR (d t p q way : Int) : Bool := aheadR d t && (decide (0 ≤ p) && (decide (q < 0) && decide (p < way)))

theorem takeR_eq {x u r s d p q way : Int} (hp : p = gapF x u r s) (hr : 1 ≤ r) (hs : 1 ≤ s) (hw : way ≤ (d.natAbs : Int)) :
    takeR d (u - x) p q way = ((decide (0 ≤ p) && (decide (q < 0) && (decide (x < u) == decide (0 < d)))) && decide (p < way)) := by
  unfold gapF at hp
  rw [Bool.eq_iff_iff]
  unfold takeR aheadR
  simp only [Bool.and_eq_true, Bool.or_eq_true, decide_eq_true_eq, beq_iff_eq, decide_eq_decide]
  omega

theorem stF_take0 {a : Bx} {d : Int} {L : List Bx} {k : Nat} (hr : 1 ≤ a.r) (hs : 1 ≤ (Bx.at L k).r) :
    stF 0 a d L (k + 1) = if takeR d ((Bx.at L k).x - a.x) (gapF a.x (Bx.at L k).x a.r (Bx.at L k).r) (gapF a.y (Bx.at L k).y a.r (Bx.at L k).r) (stF 0 a d L k).1 then (gapF a.x (Bx.at L k).x a.r (Bx.at L k).r, (k : Int)) else stF 0 a d L k := by
  rw [takeR_eq (r := a.r) (s := (Bx.at L k).r) rfl hr hs (stF_in 0 a d L k).2]
  rfl
theorem stF_take1 {a : Bx} {d : Int} {L : List Bx} {k : Nat} (hr : 1 ≤ a.r) (hs : 1 ≤ (Bx.at L k).r) :
    stF 1 a d L (k + 1) = if takeR d ((Bx.at L k).y - a.y) (gapF a.y (Bx.at L k).y a.r (Bx.at L k).r) (gapF a.x (Bx.at L k).x a.r (Bx.at L k).r) (stF 1 a d L k).1 then (gapF a.y (Bx.at L k).y a.r (Bx.at L k).r, (k : Int)) else stF 1 a d L k := by
  rw [takeR_eq (r := a.r) (s := (Bx.at L k).r) rfl hr hs (stF_in 1 a d L k).2]
  rfl

/-- What the regions of a round read, and what stays. -/
abbrev SP (w : World) (b i : Nat) (x y r u v s : Int) (w1 : World) : Prop := w1.cell? ⟨w.heap.size, 0, none⟩ = some (.int .i64 x) ∧ w1.cell? ⟨w.heap.size, 1, none⟩ = some (.int .i64 y) ∧ w1.cell? ⟨w.heap.size, 2, none⟩ = some (.int .i64 r) ∧ w1.cell? ⟨b, i, none⟩ = some (.int .i64 u) ∧ w1.cell? ⟨b, i + 1, none⟩ = some (.int .i64 v) ∧ w1.cell? ⟨b, i + 2, none⟩ = some (.int .i64 s) ∧ Blk w1 w.heap.size 25 (boxR x y r) ∧ Below w.heap.size w w1 ∧ b < w.heap.size
section
variable {w w1 w2 : World} {b i : Nat} {x y r u v s : Int}
theorem SP.keep (h : SP w b i x y r u v s w1) (hb : Below w1.heap.size w1 w2) : SP w b i x y r u v s w2 := by
  obtain ⟨_, _, _, e0, e1, e2, h1, h2, h3⟩ := h
  have k := h1.below hb h1.lt
  have hl : b < w1.heap.size := Nat.lt_of_lt_of_le h3 h2.size
  exact ⟨k.cell 0, k.cell 1, k.cell 2, (hb.cell hl).trans e0, (hb.cell hl).trans e1, (hb.cell hl).trans e2, k, vbt h2 hb, h3⟩
theorem SP.drew (h : SP w b i x y r u v s w1) : SP w b i x y r u v s w1.drew := h.keep (below_draw (Below.refl _ _) 1)
end
end Go.Proofs.Ytnffflcfncffpaa

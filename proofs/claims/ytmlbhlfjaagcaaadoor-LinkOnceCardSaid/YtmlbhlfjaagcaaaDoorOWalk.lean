/- The contract of number, and rows of slices that the law keeps. -/
import Derived.Test.YtmlbhlfjaagcaaaDoorOMath
namespace Go.Proofs.YtmlbhlfjaagcaaaDoor
open Go.RowKit

/-- A row of one's own that holds slices of bytes, which read as bss in the world w0. -/
structure SRow (w0 : World) (base : Nat) (w : World) (v : Value) (bss : List (List Nat)) : Prop where
  own : ∃ vs, w.ownsRow base 36 1 v bss.length vs ∧ ∀ (j : Nat) (bs : List Nat), bss[j]? = some bs → ∃ A c, vs[j]? = some (.slice A bs.length c) ∧ SlB w0 (.slice A bs.length c) bs
section
variable {w0 w w' : World} {base : Nat} {v : Value} {bss : List (List Nat)}
theorem SRow.draw (h : SRow w0 base w v bss) (n : Nat) : SRow w0 base (w.drewN n) v bss := by
  obtain ⟨vs, h1, h2⟩ := h.own; exact ⟨vs, h1, h2⟩
theorem SRow.at_ (h : SRow w0 base w v bss) {j : Nat} {bs : List Nat} (hj : bss[j]? = some bs) : ∃ r c A c2, v = .slice (some ⟨r, 0, none⟩) bss.length c ∧ w.cell? ⟨r, j, none⟩ = some (.slice A bs.length c2) ∧ SlB w0 (.slice A bs.length c2) bs := by
  obtain ⟨vs, h1, h2⟩ := h.own
  obtain ⟨A, c2, h3, h4⟩ := h2 j bs hj
  have hl : j < bss.length := (List.getElem?_eq_some_iff.1 hj).1
  obtain ⟨r, c, hv, _, _⟩ := h1.form (by omega)
  refine ⟨r, c, A, c2, hv, ?_, h4⟩
  have := h1.cells (g := r) (by rw [hv]; rfl) j _ h3
  rw [addr0] at this
  exact this
end

theorem drew_add (w : World) (a b : Nat) : (w.drewN a).drewN b = w.drewN (a + b) := by simp [World.drewN, Nat.add_assoc]

set_option maxHeartbeats 4000000 in
set_option maxRecDepth 100000 in
theorem number_c (w0 w : World) (base : Nat) (v m : Value) (bss : List (List Nat)) (bs : List Nat) (from_ i p : Nat) (hS : SRow w0 base w v bss) (hb : Below w0.heap.size w0 w) (hm : SlB w m bs) (hi : bss[i]? = some bs) (hf : from_ ≤ i) (hl : bss.length ≤ 400) (hp : p < 65536) :
    Calls Tryd.prog 23 #[v, m, .int .i64 (from_ : Int), .int .i64 (((p + i) % 65536 : Nat) : Int), .int .i64 (p : Int)] w fun e w' => e = .returned (.int .i64 (i : Int)) ∧ ∃ q, w' = w.drewN q := by
  have hil := (List.getElem?_eq_some_iff.1 hi).1
  obtain ⟨r, c, A, c2, rfl, hcell, hsl⟩ := hS.at_ hi
  obtain ⟨mA, mc, rfl⟩ : ∃ A c, m = .slice A bs.length c := by obtain ⟨A, c, e, _⟩ := hm; exact ⟨A, c, e⟩
  have hcm : ∀ q, (convert 36 9 (.slice mA bs.length mc)).run Tryd.prog (w.drewN q) = .ok (.string (strOf bs)) (w.drewN q) := fun q => (hm.draw q).conv
  have hcs : ∀ q, (convert 36 9 (.slice A bs.length c2)).run Tryd.prog (w.drewN q) = .ok (.string (strOf bs)) (w.drewN q) := fun q => ((hsl.below hb).draw q).conv
  have HCell := Lib.hid hcell
  have HCm := Lib.hid hcm
  have HCs := Lib.hid hcs
  clear hm hsl hS hcell hi hcm hcs hb
  obtain ⟨nn, hnn⟩ : ∃ nn, nn = (p + i) % 65536 := ⟨_, rfl⟩
  rw [← hnn]
  have HNn := Lib.hid hnn
  clear hnn
  have hst : ((strOf bs).toList == (strOf bs).toList) = true := by simp
  generalize strOf bs = sb at *
  generalize bss.length = bl at *
  go_enter Tryd.func23, Tryd.ntmps23
  go_wp2_with fail
  go_loopg [11] (i - from_ + 1) (fun gg s11 wr => ∃ j : Nat, j + gg = i + 1 ∧ j ≤ i ∧ s11 = .int .i64 (j : Int) ∧ ∃ q, wr = w.drewN q)
  case atStart => exact ⟨from_, by omega, hf, rfl, 0, rfl⟩
  case round =>
    obtain ⟨j, hjg, hfj, rfl, q, hw⟩ := hrel
    have HW := Lib.hid hw
    have hcell : j = i → wr.cell? ⟨r, j, none⟩ = some (.slice A bs.length c2) := fun e => by rw [hw, e]; exact HCell.out
    have h1 : ∀ n, (convert 36 9 (.slice mA bs.length mc)).run Tryd.prog (wr.drewN n) = .ok (.string sb) (wr.drewN n) := fun n => by rw [hw, drew_add]; exact HCm.out _
    have h2 : ∀ n, (convert 36 9 (.slice A bs.length c2)).run Tryd.prog (wr.drewN n) = .ok (.string sb) (wr.drewN n) := fun n => by rw [hw, drew_add]; exact HCs.out _
    clear hw
    cases gk with
    | zero => omega
    | succ gk =>
      have hj1 : (j : Int) < (bl : Int) := by omega
      have hj0 : (0 : Int) ≤ (j : Int) := by omega
      have hdj : decide (j < bl) = true := by simp; omega
      obtain ⟨rr, hrr⟩ : ∃ rr, rr = (p + j) % 65536 := ⟨_, rfl⟩
      have e0 : IntKind.i64.wrap ((p : Int) + (j : Int)) = (p : Int) + (j : Int) := IntWalk.i64_in _ (by omega)
      have e1 : bits .and .i64 ((p : Int) + (j : Int)) 65535 = (rr : Int) := by rw [i64_and16, hrr]; omega
      by_cases hji : j = i
      · subst hji
        have hq : ((rr : Int) == (nn : Int)) = true := by rw [hrr, HNn.out]; simp
        have hcell := hcell rfl
        clear hrr
        go_wp2_with fail
        go_quiet (fail)
        go_wp2_with fail
        go_ret
        exact ⟨rfl, q + nq, by rw [HW.out, drew_add]⟩
      · have hq : ((rr : Int) == (nn : Int)) = false := by
          rw [hrr, HNn.out]
          simp
          omega
        clear hrr hcell h1 h2
        go_wp2_with fail
        go_quiet (fail)
        go_wp2_with fail
        go_roundg gk
        case measure => omega
        case rel => exact ⟨j + 1, by omega, by omega, by go_num, q + nq, by rw [HW.out, drew_add]⟩

end Go.Proofs.YtmlbhlfjaagcaaaDoor

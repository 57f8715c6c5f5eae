/- Plain mathematics of the long division, and what its memory holds. -/
import Derived.Test.YtebabgonffbdhaaDoorLess
import Derived.Test.YtebabgonffbdhaaDoorDbl
import Derived.Test.YtebabgonffbdhaaDoorRefSm
import Derived.Laws.Tables
import Derived.Laws.Rows
import Derived.Laws.CopyOwn
namespace Go.Proofs.YtebabgonffbdhaaDoor
open Go.RowKit

abbrev cel (m : Bool) (a0 a1 a2 a3 a4 a5 a6 a7 : Nat) : Array Value :=
  #[.bool m, .int .i64 (a0 : Int), .int .i64 (a1 : Int), .int .i64 (a2 : Int), .int .i64 (a3 : Int), .int .i64 (a4 : Int), .int .i64 (a5 : Int), .int .i64 (a6 : Int), .int .i64 (a7 : Int)]
theorem info47 : (Tryd.prog.info? 47).map (·.size) = some 9 := by kernel_rfl

/-- Eight digits under one name. -/
structure D8 where
  (x0 x1 x2 x3 x4 x5 x6 x7 : Nat)
def D8.vl (d : D8) : Nat := vl8 d.x0 d.x1 d.x2 d.x3 d.x4 d.x5 d.x6 d.x7
def D8.ok (d : D8) : Prop := Dig8 d.x0 d.x1 d.x2 d.x3 d.x4 d.x5 d.x6 d.x7
def D8.cel (m : Bool) (d : D8) : Array Value := YtebabgonffbdhaaDoor.cel m d.x0 d.x1 d.x2 d.x3 d.x4 d.x5 d.x6 d.x7
def D8.at_ (d : D8) (q : Nat) : Nat := [d.x0, d.x1, d.x2, d.x3, d.x4, d.x5, d.x6, d.x7].getD q 0
theorem D8.size (m : Bool) (d : D8) : (d.cel m).size = 9 := rfl
theorem D8.one (m : Bool) (d : D8) : (d.cel m).all (·.oneCell') = true := by simp [D8.cel, Value.oneCell']

theorem D8.cell {w : World} {g : Nat} {m : Bool} {d : D8} (h : Blk w g 47 (d.cel m)) (q : Nat) (hq : q < 8) : w.cell? ⟨g, 1 + q, none⟩ = some (.int .i64 (d.at_ q : Int)) := by
  rw [h.cell]
  have : q = 0 ∨ q = 1 ∨ q = 2 ∨ q = 3 ∨ q = 4 ∨ q = 5 ∨ q = 6 ∨ q = 7 := by omega
  rcases this with rfl | rfl | rfl | rfl | rfl | rfl | rfl | rfl <;> rfl

theorem bit_low (x R t : Nat) (ht : t < 16) : (x + 65536 * R) / 2 ^ t % 2 = x / 2 ^ t % 2 := by
  have e : 65536 * R = 2 ^ t * (2 * (2 ^ (15 - t) * R)) := by
    have : 65536 = 2 ^ t * (2 * 2 ^ (15 - t)) := by
      rw [← Nat.pow_succ', ← Nat.pow_add, show t + (15 - t + 1) = 16 by omega]
    rw [this, Nat.mul_assoc, Nat.mul_assoc]
  rw [e, Nat.add_mul_div_left _ _ (Nat.two_pow_pos t)]
  omega
theorem D8.bit (d : D8) (h : d.ok) (q t : Nat) (hq : q < 8) (ht : t < 16) : d.at_ q / 2 ^ t % 2 = d.vl / 2 ^ (16 * q + t) % 2 := by
  obtain ⟨x0, x1, x2, x3, x4, x5, x6, x7⟩ := d
  obtain ⟨h0, h1, h2, h3, h4, h5, h6, h7⟩ := h
  rw [Nat.pow_add, ← Nat.div_div_eq_div_mul]
  have key : ∃ R, (D8.mk x0 x1 x2 x3 x4 x5 x6 x7).vl / 2 ^ (16 * q) = (D8.mk x0 x1 x2 x3 x4 x5 x6 x7).at_ q + 65536 * R := by
    have : q = 0 ∨ q = 1 ∨ q = 2 ∨ q = 3 ∨ q = 4 ∨ q = 5 ∨ q = 6 ∨ q = 7 := by omega
    simp only at h0 h1 h2 h3 h4 h5 h6 h7
    rcases this with rfl | rfl | rfl | rfl | rfl | rfl | rfl | rfl
    · exact ⟨x1 + 65536 * (x2 + 65536 * (x3 + 65536 * (x4 + 65536 * (x5 + 65536 * (x6 + 65536 * x7))))), by simp [D8.vl, D8.at_, vl8]⟩
    · exact ⟨x2 + 65536 * (x3 + 65536 * (x4 + 65536 * (x5 + 65536 * (x6 + 65536 * x7)))), by simp [D8.vl, D8.at_, vl8]; omega⟩
    · exact ⟨x3 + 65536 * (x4 + 65536 * (x5 + 65536 * (x6 + 65536 * x7))), by simp [D8.vl, D8.at_, vl8]; omega⟩
    · exact ⟨x4 + 65536 * (x5 + 65536 * (x6 + 65536 * x7)), by simp [D8.vl, D8.at_, vl8]; omega⟩
    · exact ⟨x5 + 65536 * (x6 + 65536 * x7), by simp [D8.vl, D8.at_, vl8]; omega⟩
    · exact ⟨x6 + 65536 * x7, by simp [D8.vl, D8.at_, vl8]; omega⟩
    · exact ⟨x7, by simp [D8.vl, D8.at_, vl8]; omega⟩
    · exact ⟨0, by simp [D8.vl, D8.at_, vl8]; omega⟩
  obtain ⟨R, hR⟩ := key
  rw [hR, bit_low _ _ _ ht]

/-- What Over's memory holds: the two numbers, the result's place, the quotient so far, the rest. -/
structure OvM (w : World) (m n mn : Bool) (a b o s : D8) (wr : World) : Prop where
  ba : Blk wr w.heap.size 47 (a.cel m)
  bb : Blk wr (w.heap.size + 1) 47 (b.cel n)
  br : Blk wr (w.heap.size + 1 + 1) 47 (cel false 0 0 0 0 0 0 0 0)
  bo : Blk wr (w.heap.size + 1 + 1 + 1) 47 (o.cel mn)
  bs : Blk wr (w.heap.size + 1 + 1 + 1 + 1) 47 (s.cel false)
  bel : Below w.heap.size w wr

section
variable {w wr w' : World} {m n mn : Bool} {a b o s : D8}
theorem OvM.below (h : OvM w m n mn a b o s wr) (hb : Below wr.heap.size wr w') : OvM w m n mn a b o s w' :=
  ⟨h.ba.below hb h.ba.lt, h.bb.below hb h.bb.lt, h.br.below hb h.br.lt, h.bo.below hb h.bo.lt, h.bs.below hb h.bs.lt, bt h.bel hb⟩
theorem OvM.drew (h : OvM w m n mn a b o s wr) : OvM w m n mn a b o s wr.drew := ⟨h.ba, h.bb, h.br, h.bo, h.bs, h.bel.drew⟩
theorem OvM.setS (h : OvM w m n mn a b o s wr) (c : D8) : OvM w m n mn a b o c (wr.setRow (w.heap.size + 1 + 1 + 1 + 1) (c.cel false)) :=
  ⟨(setRow_other _ _ _ _ (by omega)).trans h.ba, (setRow_other _ _ _ _ (by omega)).trans h.bb, (setRow_other _ _ _ _ (by omega)).trans h.br, (setRow_other _ _ _ _ (by omega)).trans h.bo,
    setRow_heap _ _ _ _ _ _ h.bs, below_setRow h.bel (by omega) _⟩
theorem OvM.setO (h : OvM w m n mn a b o s wr) (c : D8) : OvM w m n mn a b c s (wr.setRow (w.heap.size + 1 + 1 + 1) (c.cel mn)) :=
  ⟨(setRow_other _ _ _ _ (by omega)).trans h.ba, (setRow_other _ _ _ _ (by omega)).trans h.bb, (setRow_other _ _ _ _ (by omega)).trans h.br,
    setRow_heap _ _ _ _ _ _ h.bo, (setRow_other _ _ _ _ (by omega)).trans h.bs, below_setRow h.bel (by omega) _⟩
end

/-- What holds while j bits are still to come. -/
structure OvN (V D j O S : Nat) : Prop where
  lt : S < D
  eq : V / 2 ^ j = O * D + S
theorem OvN.start {V D : Nat} (h : V < 340282366920938463463374607431768211456) (h0 : 0 < D) : OvN V D 128 0 0 := ⟨h0, by rw [Nat.div_eq_of_lt (by omega)]; simp⟩
theorem div_step (V k : Nat) : V / 2 ^ k = 2 * (V / 2 ^ (k + 1)) + V / 2 ^ k % 2 := by
  rw [Nat.pow_succ, ← Nat.div_div_eq_div_mul]
  omega
theorem OvN.yes {V D k O S : Nat} (h : OvN V D (k + 1) O S) (hge : D ≤ 2 * S + V / 2 ^ k % 2) : OvN V D k (2 * O + 1) (2 * S + V / 2 ^ k % 2 - D) := by
  have h1 := h.lt
  have h2 := h.eq
  have h3 := div_step V k
  have hb : V / 2 ^ k % 2 < 2 := Nat.mod_lt _ (by omega)
  refine ⟨by omega, ?_⟩
  rw [Nat.add_mul, Nat.mul_assoc, Nat.one_mul]
  generalize O * D = p at *
  omega
theorem OvN.no {V D k O S : Nat} (h : OvN V D (k + 1) O S) (hlt : 2 * S + V / 2 ^ k % 2 < D) : OvN V D k (2 * O + 0) (2 * S + V / 2 ^ k % 2) := by
  have h2 := h.eq
  have h3 := div_step V k
  refine ⟨hlt, ?_⟩
  rw [Nat.add_zero, Nat.mul_assoc]
  generalize O * D = p at *
  omega
theorem OvN.done {V D O S : Nat} (h : OvN V D 0 O S) : O = V / D := by
  have h1 := h.lt
  have h2 := h.eq
  rw [Nat.pow_zero, Nat.div_one] at h2
  rw [h2, Nat.mul_comm, Nat.mul_add_div (by omega), Nat.div_eq_of_lt h1, Nat.add_zero]
/-- The quotient so far is no greater than the number. -/
theorem OvN.fits {V D j O S : Nat} (h : OvN V D j O S) (h0 : 0 < D) : O ≤ V := by
  have h2 := h.eq
  have h3 : V / 2 ^ j ≤ V := Nat.div_le_self _ _
  have h4 : O * 1 ≤ O * D := Nat.mul_le_mul_left _ h0
  omega

end Go.Proofs.YtebabgonffbdhaaDoor

/- Words for push: how far a box goes along an axis, step by step over the boxes in its way. -/
import Derived.Test.YtnffflcfncffpaaBRow
namespace Go.Proofs.Ytnffflcfncffpaa
open Go.RowKit

/-- A part of a middle, along an axis. -/
def Bx.pc (ax : Nat) (b : Bx) : Int := if ax = 0 then b.x else b.y
/-- The gap of two boxes, along an axis. -/
def gapA (ax : Nat) (a b : Bx) : Int := gapF (a.pc ax) (b.pc ax) a.r b.r
/-- Is b in a's way? -/
def inW (ax : Nat) (a : Bx) (d : Int) (b : Bx) : Bool := decide (0 ≤ gapA ax a b) && (decide (gapA (1 - ax) a b < 0) && (decide (a.pc ax < b.pc ax) == decide (0 < d)))
/-- How far, and who, over the first k boxes. -/
def stF (ax : Nat) (a : Bx) (d : Int) (L : List Bx) : Nat → Int × Int
  | 0 => ((d.natAbs : Int), -1)
  | k + 1 => if inW ax a d (Bx.at L k) && decide (gapA ax a (Bx.at L k) < (stF ax a d L k).1) then (gapA ax a (Bx.at L k), (k : Int)) else stF ax a d L k
theorem stF_in (ax : Nat) (a : Bx) (d : Int) (L : List Bx) (k : Nat) : 0 ≤ (stF ax a d L k).1 ∧ (stF ax a d L k).1 ≤ (d.natAbs : Int) := by
  induction k with
  | zero => simp only [stF]; omega
  | succ k ih =>
    simp only [stF]
    split
    · next h =>
      unfold inW at h
      simp only [Bool.and_eq_true, decide_eq_true_eq] at h
      exact ⟨h.1.1, by have := h.2; simp only; omega⟩
    · exact ih
theorem stF_yes {ax : Nat} {a : Bx} {d : Int} {L : List Bx} {k : Nat} (h : inW ax a d (Bx.at L k) = true) (h2 : gapA ax a (Bx.at L k) < (stF ax a d L k).1) : stF ax a d L (k + 1) = (gapA ax a (Bx.at L k), (k : Int)) := by
  simp only [stF]
  rw [if_pos (by rw [h, decide_eq_true h2]; rfl)]
theorem stF_no {ax : Nat} {a : Bx} {d : Int} {L : List Bx} {k : Nat} (h : inW ax a d (Bx.at L k) = false) : stF ax a d L (k + 1) = stF ax a d L k := by
  simp only [stF]
  rw [if_neg (by rw [h]; simp)]
theorem stF_far {ax : Nat} {a : Bx} {d : Int} {L : List Bx} {k : Nat} (h2 : ¬ gapA ax a (Bx.at L k) < (stF ax a d L k).1) : stF ax a d L (k + 1) = stF ax a d L k := by
  simp only [stF]
  rw [if_neg (by rw [decide_eq_false h2]; simp)]

/-- Where a box may stand while it goes: its side is right, its middle not far off. -/
def Bx.wide (b : Bx) : Prop := (1 ≤ b.r ∧ b.r ≤ 1099511627776) ∧ (-2305843009213693952 ≤ b.x ∧ b.x ≤ 2305843009213693952) ∧ (-2305843009213693952 ≤ b.y ∧ b.y ≤ 2305843009213693952)

/-- What push's memory holds as the loop begins a round. -/
structure PS (w wr : World) (g1 g2 gf : Nat) (x y r : Int) : Prop where
  a : Blk wr g1 39 #[.int .i64 x, .int .i64 y]
  b : Blk wr g2 25 (boxR x y r)
  c : Blk wr gf 39 #[.int .i64 x, .int .i64 y]
  bel : Below w.heap.size w wr
theorem PS.below {w wr w2 : World} {g1 g2 gf : Nat} {x y r : Int} (h : PS w wr g1 g2 gf x y r) (hb : Below wr.heap.size wr w2) : PS w w2 g1 g2 gf x y r :=
  ⟨h.a.below hb h.a.lt, h.b.below hb h.b.lt, h.c.below hb h.c.lt, vbt h.bel hb⟩

/-- What region 8 reads, and what stays. -/
abbrev P8 (w : World) (g1 g2 gf gb gp : Nat) (x y r u v s p q : Int) (w1 : World) : Prop := w1.cell? ⟨gf, 0, none⟩ = some (.int .i64 x) ∧ w1.cell? ⟨gf, 1, none⟩ = some (.int .i64 y) ∧ w1.cell? ⟨gb, 0, none⟩ = some (.int .i64 u) ∧ w1.cell? ⟨gb, 1, none⟩ = some (.int .i64 v) ∧ w1.cell? ⟨gp, 0, none⟩ = some (.int .i64 p) ∧ w1.cell? ⟨gp, 1, none⟩ = some (.int .i64 q) ∧ Blk w1 gb 25 (boxR u v s) ∧ Blk w1 gp 39 #[.int .i64 p, .int .i64 q] ∧ PS w w1 g1 g2 gf x y r
theorem P8.make {w w1 : World} {g1 g2 gf gb gp : Nat} {x y r u v s p q : Int} (h1 : PS w w1 g1 g2 gf x y r) (h2 : Blk w1 gb 25 (boxR u v s)) (h3 : Blk w1 gp 39 #[.int .i64 p, .int .i64 q]) : P8 w g1 g2 gf gb gp x y r u v s p q w1 :=
  ⟨h1.c.cell 0, h1.c.cell 1, h2.cell 0, h2.cell 1, h3.cell 0, h3.cell 1, h2, h3, h1⟩
theorem P8.keep {w w1 w2 : World} {g1 g2 gf gb gp : Nat} {x y r u v s p q : Int} (h : P8 w g1 g2 gf gb gp x y r u v s p q w1) (hb : Below w1.heap.size w1 w2) : P8 w g1 g2 gf gb gp x y r u v s p q w2 := by
  obtain ⟨_, _, _, _, _, _, h1, h2, h3⟩ := h
  exact P8.make (h3.below hb) (h1.below hb h1.lt) (h2.below hb h2.lt)

theorem P8.drew {w w1 : World} {g1 g2 gf gb gp : Nat} {x y r u v s p q : Int} (h : P8 w g1 g2 gf gb gp x y r u v s p q w1) : P8 w g1 g2 gf gb gp x y r u v s p q w1.drew := by
  obtain ⟨_, _, _, _, _, _, h1, h2, h3⟩ := h
  exact P8.make ⟨h3.a, h3.b, h3.c, h3.bel.drew⟩ h1 h2
theorem idx0 (u v : Int) (w : World) : (Instr.index 39 (vecV u v) (.int .i64 0)).run Try.prog w = .ok (.int .i64 u) w := by
  simp [Instr.index, run_underlying Try.underlying39, asIntOf, go_sem]
theorem idx1 (u v : Int) (w : World) : (Instr.index 39 (vecV u v) (.int .i64 1)).run Try.prog w = .ok (.int .i64 v) w := by
  simp [Instr.index, run_underlying Try.underlying39, asIntOf, go_sem]

end Go.Proofs.Ytnffflcfncffpaa

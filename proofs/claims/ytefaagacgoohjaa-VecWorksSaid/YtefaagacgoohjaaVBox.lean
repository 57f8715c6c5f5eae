/- Pairs that lie in boxes, and stay there. -/
import Derived.Test.YtefaagacgoohjaaDotsWalk
import Derived.Test.YtefaagacgoohjaaVWide
namespace Go.Proofs.Ytefaagacgoohjaa
open Go.RowKit

theorem Boxes.below {w w1 : World} {g h : Nat} {x y u v : Int} (a : Boxes w w1 g h x y u v) : Below w.heap.size w w1 := a.2.2.2.2.2.2
theorem Boxes.setRow {w w1 : World} {g h j : Nat} {x y u v : Int} (a : Boxes w w1 g h x y u v) (hg : g ≠ j) (hh : h ≠ j) (hj : w.heap.size ≤ j) (rs : Array Value) : Boxes w (w1.setRow j rs) g h x y u v :=
  .make (a.2.2.2.2.1.setRow hg rs) (a.2.2.2.2.2.1.setRow hh rs) (bsr a.below hj rs)

/-- A pair lies in a box. -/
abbrev Box1 (w w1 : World) (g : Nat) (x y : Int) : Prop :=
  w1.cell? ⟨g, 0, none⟩ = some (.int .i64 x) ∧ w1.cell? ⟨g, 1, none⟩ = some (.int .i64 y) ∧ Blk w1 g 23 #[.int .i64 x, .int .i64 y] ∧ Below w.heap.size w w1
theorem Box1.make {w w1 : World} {g : Nat} {x y : Int} (a : Blk w1 g 23 #[.int .i64 x, .int .i64 y]) (hb : Below w.heap.size w w1) : Box1 w w1 g x y := ⟨a.cell 0, a.cell 1, a, hb⟩
theorem Box1.keep {w w1 w2 : World} {g : Nat} {x y : Int} (a : Box1 w w1 g x y) (hb : Below w1.heap.size w1 w2) : Box1 w w2 g x y :=
  .make (a.2.2.1.below hb a.2.2.1.lt) (vbt a.2.2.2 hb)
theorem Box1.start (w : World) (x y : Int) : Box1 w (w.alloc (.cells #[.int .i64 x, .int .i64 y] 23)) w.heap.size x y :=
  .make (Blk.new _ _ _) ((Below.refl _ _).alloc (Nat.le_refl _) _)
theorem Box1.drew {w w1 : World} {g : Nat} {x y : Int} (a : Box1 w w1 g x y) : Box1 w w1.drew g x y := ⟨a.1, a.2.1, a.2.2.1, a.2.2.2.drew⟩
theorem Box1.below {w w1 : World} {g : Nat} {x y : Int} (a : Box1 w w1 g x y) : Below w.heap.size w w1 := a.2.2.2
theorem Box1.setRow {w w1 : World} {g j : Nat} {x y : Int} (a : Box1 w w1 g x y) (hg : g ≠ j) (hj : w.heap.size ≤ j) (rs : Array Value) : Box1 w (w1.setRow j rs) g x y :=
  .make (a.2.2.1.setRow hg rs) (bsr a.below hj rs)
theorem pairR_one (p q : Int) : (#[.int .i64 p, .int .i64 q] : Array Value).all (·.oneCell') = true := by simp [Value.oneCell']
end Go.Proofs.Ytefaagacgoohjaa

/- The walk of BoxTells. (By tools/gentells.py.) -/
import Derived.Test.YtnffflcfncffpaaBAwake
import Derived.Test.YtnffflcfncffpaaBRLeaf
namespace Go.Proofs.Ytnffflcfncffpaa
open Go.RowKit

/-- Three arguments in blocks of their own. -/
structure TS (w wr : World) (x y r u v s p q : Int) : Prop where
  a : Blk wr w.heap.size 25 (boxR x y r)
  b : Blk wr (w.heap.size + 1) 25 (boxR u v s)
  c : Blk wr (w.heap.size + 1 + 1) 23 #[.int .i64 p, .int .i64 q]
  bel : Below w.heap.size w wr
theorem TS.below {w wr w2 : World} {x y r u v s p q : Int} (h : TS w wr x y r u v s p q) (hb : Below wr.heap.size wr w2) : TS w w2 x y r u v s p q :=
  ⟨h.a.below hb h.a.lt, h.b.below hb h.b.lt, h.c.below hb h.c.lt, vbt h.bel hb⟩
theorem TS.make (w : World) (x y r u v s p q : Int) : TS w (((w.alloc (.cells (boxR x y r) 25)).alloc (.cells (boxR u v s) 25)).alloc (.cells #[.int .i64 p, .int .i64 q] 23)) x y r u v s p q := by
  have h1 := ((Blk.new w 25 (boxR x y r)).alloc (.cells (boxR u v s) 25)).alloc (.cells #[.int .i64 p, .int .i64 q] 23)
  have h2 := (Blk.new (w.alloc (.cells (boxR x y r) 25)) 25 (boxR u v s)).alloc (.cells #[.int .i64 p, .int .i64 q] 23)
  have h3 := Blk.new ((w.alloc (.cells (boxR x y r) 25)).alloc (.cells (boxR u v s) 25)) 23 #[.int .i64 p, .int .i64 q]
  rw [show (w.alloc (.cells (boxR x y r) 25)).heap.size = w.heap.size + 1 by simp] at h2
  rw [show ((w.alloc (.cells (boxR x y r) 25)).alloc (.cells (boxR u v s) 25)).heap.size = w.heap.size + 1 + 1 by simp] at h3
  exact ⟨h1, h2, h3, bel3 w _ _ _⟩

set_option maxRecDepth 100000 in
theorem tells_walk (x y r u v s p q : Int) (w : World) (hx : I64 x) (hy : I64 y) (hu : I64 u) (hv : I64 v) (hp : I64 p) (hq : I64 q) :
    Calls Try.prog 3 #[boxV x y r, boxV u v s, vecV p q] w fun e w' => e = .returned (.bool true) ∧ Below w.heap.size w w' := by
  have HA := Lib.hid (fun w => awake_c w)
  have C1 := Lib.hid (fun w => gap_c x y r u v s w hx hy hu hv)
  have C2 := Lib.hid (fun w => rGap_c x y r u v s w)
  have C3 := Lib.hid (fun w => meet_c x y r u v s w hx hy hu hv)
  have C4 := Lib.hid (fun w => rMeet_c x y r u v s w)
  have C5 := Lib.hid (fun w => holds_c x y r p q w hx hy hp hq)
  have C6 := Lib.hid (fun w => rHolds_c x y r p q w hx hy hp hq)
  have C7 := Lib.hid (fun w => rright_c x y r w)
  have C8 := Lib.hid (fun w => right_c x y r w hx hy)
  clear hx hy hu hv hp hq
  unfold errR at C8
  generalize numB (okB x y r u v s) (gapF x u r s) = n1 at *
  generalize numB (okB x y r u v s) (gapF y v r s) = n2 at *
  generalize errB (okB x y r u v s) = n3 at *
  generalize meetB x y r u v s = n4 at *
  generalize holdB x y r p q = n5 at *
  generalize errB (rightB x y r) = n6 at *
  generalize rightB x y r = ok at *
  go_enter Try.func3, Try.ntmps3
  go_wp2_with fail
  refine (HA.out _).mono ?_
  rintro e w1 ⟨rfl, hb⟩
  have HS := Lib.hid ((TS.make w x y r u v s p q).below hb)
  clear hb HA
  have c0 := HS.out.a.cell 0
  have c1 := HS.out.a.cell 1
  have c2 := HS.out.a.cell 2
  have c3 := HS.out.b.cell 0
  have c4 := HS.out.b.cell 1
  have c5 := HS.out.b.cell 2
  have c6 := HS.out.c.cell 0
  have c7 := HS.out.c.cell 1
  go_wp2_with fail
  refine (C1.out _).mono ?_
  rintro e w2 ⟨rfl, hb⟩
  have HS := Lib.hid (HS.out.below hb)
  clear hb c0 c1 c2 c3 c4 c5 c6 c7 C1
  have c0 := HS.out.a.cell 0
  have c1 := HS.out.a.cell 1
  have c2 := HS.out.a.cell 2
  have c3 := HS.out.b.cell 0
  have c4 := HS.out.b.cell 1
  have c5 := HS.out.b.cell 2
  have c6 := HS.out.c.cell 0
  have c7 := HS.out.c.cell 1
  go_wp2_with fail
  refine (C2.out _).mono ?_
  rintro e w2 ⟨rfl, hb⟩
  have HS := Lib.hid (HS.out.below hb)
  clear hb c0 c1 c2 c3 c4 c5 c6 c7 C2
  have c0 := HS.out.a.cell 0
  have c1 := HS.out.a.cell 1
  have c2 := HS.out.a.cell 2
  have c3 := HS.out.b.cell 0
  have c4 := HS.out.b.cell 1
  have c5 := HS.out.b.cell 2
  have c6 := HS.out.c.cell 0
  have c7 := HS.out.c.cell 1
  go_wp2_with fail
  refine (C3.out _).mono ?_
  rintro e w2 ⟨rfl, hb⟩
  have HS := Lib.hid (HS.out.below hb)
  clear hb c0 c1 c2 c3 c4 c5 c6 c7 C3
  have c0 := HS.out.a.cell 0
  have c1 := HS.out.a.cell 1
  have c2 := HS.out.a.cell 2
  have c3 := HS.out.b.cell 0
  have c4 := HS.out.b.cell 1
  have c5 := HS.out.b.cell 2
  have c6 := HS.out.c.cell 0
  have c7 := HS.out.c.cell 1
  go_wp2_with fail
  refine (C4.out _).mono ?_
  rintro e w2 ⟨rfl, hb⟩
  have HS := Lib.hid (HS.out.below hb)
  clear hb c0 c1 c2 c3 c4 c5 c6 c7 C4
  have c0 := HS.out.a.cell 0
  have c1 := HS.out.a.cell 1
  have c2 := HS.out.a.cell 2
  have c3 := HS.out.b.cell 0
  have c4 := HS.out.b.cell 1
  have c5 := HS.out.b.cell 2
  have c6 := HS.out.c.cell 0
  have c7 := HS.out.c.cell 1
  go_wp2_with fail
  refine (C5.out _).mono ?_
  rintro e w2 ⟨rfl, hb⟩
  have HS := Lib.hid (HS.out.below hb)
  clear hb c0 c1 c2 c3 c4 c5 c6 c7 C5
  have c0 := HS.out.a.cell 0
  have c1 := HS.out.a.cell 1
  have c2 := HS.out.a.cell 2
  have c3 := HS.out.b.cell 0
  have c4 := HS.out.b.cell 1
  have c5 := HS.out.b.cell 2
  have c6 := HS.out.c.cell 0
  have c7 := HS.out.c.cell 1
  go_wp2_with fail
  refine (C6.out _).mono ?_
  rintro e w2 ⟨rfl, hb⟩
  have HS := Lib.hid (HS.out.below hb)
  clear hb c0 c1 c2 c3 c4 c5 c6 c7 C6
  have c0 := HS.out.a.cell 0
  have c1 := HS.out.a.cell 1
  have c2 := HS.out.a.cell 2
  have c3 := HS.out.b.cell 0
  have c4 := HS.out.b.cell 1
  have c5 := HS.out.b.cell 2
  have c6 := HS.out.c.cell 0
  have c7 := HS.out.c.cell 1
  go_wp2_with fail
  refine (C7.out _).mono ?_
  rintro e w2 ⟨rfl, hb⟩
  have HS := Lib.hid (HS.out.below hb)
  clear hb c0 c1 c2 c3 c4 c5 c6 c7 C7
  cases ok
  · rw [if_neg (by simp)] at C8
    have c0 := HS.out.a.cell 0
    have c1 := HS.out.a.cell 1
    have c2 := HS.out.a.cell 2
    have c3 := HS.out.b.cell 0
    have c4 := HS.out.b.cell 1
    have c5 := HS.out.b.cell 2
    have c6 := HS.out.c.cell 0
    have c7 := HS.out.c.cell 1
    go_wp2_with fail
    refine (C8.out _).mono ?_
    rintro e w2 ⟨rfl, hb⟩
    have HS := Lib.hid (HS.out.below hb)
    clear hb c0 c1 c2 c3 c4 c5 c6 c7
    have c0 := HS.out.a.cell 0
    have c1 := HS.out.a.cell 1
    have c2 := HS.out.a.cell 2
    have c3 := HS.out.b.cell 0
    have c4 := HS.out.b.cell 1
    have c5 := HS.out.b.cell 2
    have c6 := HS.out.c.cell 0
    have c7 := HS.out.c.cell 1
    go_wp2_with fail
    refine (C8.out _).mono ?_
    rintro e w2 ⟨rfl, hb⟩
    have HS := Lib.hid (HS.out.below hb)
    clear hb c0 c1 c2 c3 c4 c5 c6 c7
    go_wp2_with fail
    go_ret
    exact ⟨rfl, HS.out.bel⟩
  · rw [if_pos rfl] at C8
    have c0 := HS.out.a.cell 0
    have c1 := HS.out.a.cell 1
    have c2 := HS.out.a.cell 2
    have c3 := HS.out.b.cell 0
    have c4 := HS.out.b.cell 1
    have c5 := HS.out.b.cell 2
    have c6 := HS.out.c.cell 0
    have c7 := HS.out.c.cell 1
    go_wp2_with fail
    refine (C8.out _).mono ?_
    rintro e w2 ⟨rfl, hb⟩
    have HS := Lib.hid (HS.out.below hb)
    clear hb c0 c1 c2 c3 c4 c5 c6 c7
    go_wp2_with fail
    go_ret
    exact ⟨rfl, HS.out.bel⟩
end Go.Proofs.Ytnffflcfncffpaa

/- The walk of BoxGoes. -/
import Derived.Test.YtnffflcfncffpaaBKept
import Derived.Test.YtnffflcfncffpaaBAwake
import Derived.Test.YtnffflcfncffpaaBRPushC
import Derived.ChangeKeysEq
namespace Go.Proofs.Ytnffflcfncffpaa
open Go.RowKit

theorem eq39 (u v p q : Int) (w : World) : (Op.equalIn 10000 39 (vecV u v) (vecV p q)).run Try.prog w = .ok ((u == p) && (v == q)) w := by
  obtain ⟨i, hi⟩ : ∃ i, Try.prog.info? 3 = some i := by
    cases h : Try.prog.info? 3 with
    | none => exact absurd (show (Try.prog.info? 3).isSome = true by kernel_rfl) (by rw [h]; simp)
    | some i => exact ⟨i, rfl⟩
  have hc : Try.prog.cellsOf 3 = 1 := by kernel_rfl
  rw [show (10000 : Nat) = 9999 + 1 from rfl, run_equalIn_array w 9999 _ _ Try.underlying39 hi, hc]
  have e0 : List.range 2 = [0, 1] := rfl
  rw [e0]
  simp only [Op.eqItems, Sem.run_bind]
  simp [go_sem]
  by_cases h1 : u = p
  · by_cases h2 : v = q
    · simp [h1, h2]
    · simp [h1, h2]
  · simp [h1]

/-- What BoxGoes' memory holds. -/
structure GT (w wr : World) (g : Nat) (L : List Bx) (x y r bx b2 : Int) : Prop where
  a : Blk wr w.heap.size 25 (boxR x y r)
  b : Blk wr (w.heap.size + 1) 23 #[.int .i64 bx, .int .i64 b2]
  l : LentAt wr g L
  bel : Below w.heap.size w wr
theorem GT.below {w wr w2 : World} {g : Nat} {L : List Bx} {x y r bx b2 : Int} (h : GT w wr g L x y r bx b2) (hb : Below wr.heap.size wr w2) : GT w w2 g L x y r bx b2 :=
  ⟨h.a.below hb h.a.lt, h.b.below hb h.b.lt, h.l.below hb, vbt h.bel hb⟩

set_option maxRecDepth 100000 in
set_option maxHeartbeats 1000000 in
theorem goes_walk (a : Bx) (ax bx b2 : Int) (A : Option Addr) (n c : Nat) (L : List Bx) (w : World) (hx : I64 a.x) (hy : I64 a.y) (hbx : I64 bx) (hb2 : I64 b2) (hn24 : n * 24 ≤ 140737488351232) (hL : RBox w w.heap.size A n L) :
    Calls Try.prog 4 #[boxV a.x a.y a.r, .int .i64 ax, vecV bx b2, .slice A n c] w fun e w' => e = .returned (.bool true) ∧ Below w.heap.size w w' := by
  have hn : n ≤ 281474976710656 := by omega
  have HA := Lib.hid (fun w => awake_c w)
  have C1 := Lib.hid (fun w hL => lent_c A n c L w hn24 hL)
  have C2 := Lib.hid (fun g w hL => Push_c a ax bx (some ⟨g, 0, none⟩) n (n + 1) L w hx hy hbx hn hL)
  have C3 := Lib.hid (fun g w hL => Go_c a bx b2 (some ⟨g, 0, none⟩) n (n + 1) L w hx hy hbx hb2 hn hL)
  have C4 := Lib.hid (fun g w hg hL => kept_c g A n c L w hn24 hg hL)
  have C5 := Lib.hid (fun w hL => rPush_c a ax bx A n c L w hn hL)
  have C6 := Lib.hid (fun w hL => rGo_c a bx b2 A n c L w hn hL)
  have HL := Lib.hid hL
  clear hx hy hbx hb2 hn24 hn hL
  unfold goV at C3 C6
  generalize onG (errG a bx b2 L) (wayF 0 a bx L) = gx at *
  generalize onG (errG a bx b2 L) (goY a bx b2 L) = gy at *
  generalize onG (errG a bx b2 L) (whoF 0 a bx L) = ox at *
  generalize onG (errG a bx b2 L) (whoF 1 (goA a bx L) b2 L) = oy at *
  generalize errG a bx b2 L = f0 at *
  generalize pWay ax a bx L = D at *
  generalize pWho ax a bx L = who at *
  generalize errP ax a bx L = e0 at *
  go_enter Try.func4, Try.ntmps4
  go_wp2_with fail
  refine (HA.out _).mono ?_
  rintro e w1 ⟨rfl, hb⟩
  obtain ⟨k1, k2, hb⟩ := two_blk hb
  have K1 := Lib.hid k1
  have K2 := Lib.hid k2
  have HB := Lib.hid hb
  clear k1 k2 hb HA
  go_wp2_with fail
  refine (C1.out _ (HL.out.since HB.out)).mono ?_
  rintro e w2 ⟨⟨g, rfl, hgg, hl⟩, hb⟩
  have HG : Hid (GT w w2 g L a.x a.y a.r bx b2) := Lib.hid ⟨K1.out.below hb K1.out.lt, K2.out.below hb K2.out.lt, hl, vbt HB.out hb⟩
  clear K1 K2 HB hb hl hgg C1
  have c0 := HG.out.a.cell 0
  have c1 := HG.out.a.cell 1
  have c2 := HG.out.a.cell 2
  have c3 := HG.out.b.cell 0
  go_wp2_with fail
  refine (C2.out g _ (HG.out.l.rbox HL.out.1 HL.out.2.1)).mono ?_
  rintro e w3 ⟨rfl, hb⟩
  have HG := Lib.hid (HG.out.below hb)
  clear c0 c1 c2 c3 hb C2
  have c0 := HG.out.a.cell 0
  have c1 := HG.out.a.cell 1
  have c2 := HG.out.a.cell 2
  have c3 := HG.out.b.cell 0
  have c4 := HG.out.b.cell 1
  go_wp2_with fail
  refine (C3.out g _ (HG.out.l.rbox HL.out.1 HL.out.2.1)).mono ?_
  rintro e w4 ⟨rfl, hb⟩
  have HG := Lib.hid (HG.out.below hb)
  clear c0 c1 c2 c3 c4 hb C3
  go_upto_region 5 with (fail)
  have K3 := Lib.hid ((Blk.new w4 23 #[.int .i64 gx, .int .i64 gy]).alloc (.cells #[.int .i64 ox, .int .i64 oy] 39))
  have K4 := Blk.new (w4.alloc (.cells #[.int .i64 gx, .int .i64 gy] 23)) 39 #[.int .i64 ox, .int .i64 oy]
  rw [show (w4.alloc (.cells #[.int .i64 gx, .int .i64 gy] 23)).heap.size = w4.heap.size + 1 by simp] at K4
  have K4 := Lib.hid K4
  have HG := Lib.hid (HG.out.below (bel2 w4 (.cells #[.int .i64 gx, .int .i64 gy] 23) (.cells #[.int .i64 ox, .int .i64 oy] 39)))
  generalize (w4.alloc (.cells #[.int .i64 gx, .int .i64 gy] 23)).alloc (.cells #[.int .i64 ox, .int .i64 oy] 39) = w5 at *
  generalize w4.heap.size = g3 at *
  go_wp2_with fail
  refine (C4.out g _ HG.out.l (HL.out.since HG.out.bel)).mono ?_
  rintro e w6 ⟨rfl, hb⟩
  have HG := Lib.hid (HG.out.below hb)
  have K3 := Lib.hid (K3.out.below hb K3.out.lt)
  have K4 := Lib.hid (K4.out.below hb K4.out.lt)
  clear hb C4
  have c0 := HG.out.a.cell 0
  have c1 := HG.out.a.cell 1
  have c2 := HG.out.a.cell 2
  have c3 := HG.out.b.cell 0
  go_wp2_with fail
  refine (C5.out _ (HL.out.since HG.out.bel)).mono ?_
  rintro e w7 ⟨rfl, hb⟩
  have HG := Lib.hid (HG.out.below hb)
  have K3 := Lib.hid (K3.out.below hb K3.out.lt)
  have K4 := Lib.hid (K4.out.below hb K4.out.lt)
  clear c0 c1 c2 c3 hb C5
  have c0 := HG.out.a.cell 0
  have c1 := HG.out.a.cell 1
  have c2 := HG.out.a.cell 2
  have c3 := HG.out.b.cell 0
  have c4 := HG.out.b.cell 1
  go_wp2_with fail
  refine (C6.out _ (HL.out.since HG.out.bel)).mono ?_
  rintro e w8 ⟨rfl, hb⟩
  have HG := Lib.hid (HG.out.below hb)
  have K3 := Lib.hid (K3.out.below hb K3.out.lt)
  have K4 := Lib.hid (K4.out.below hb K4.out.lt)
  clear c0 c1 c2 c3 c4 hb C6
  go_upto_region 8 with (fail)
  have K3 := Lib.hid ((K3.out.alloc (.cells #[.int .i64 gx, .int .i64 gy] 23)).alloc (.cells #[.int .i64 ox, .int .i64 oy] 39))
  have K4 := Lib.hid ((K4.out.alloc (.cells #[.int .i64 gx, .int .i64 gy] 23)).alloc (.cells #[.int .i64 ox, .int .i64 oy] 39))
  have K5 := Lib.hid ((Blk.new w8 23 #[.int .i64 gx, .int .i64 gy]).alloc (.cells #[.int .i64 ox, .int .i64 oy] 39))
  have K6 := Blk.new (w8.alloc (.cells #[.int .i64 gx, .int .i64 gy] 23)) 39 #[.int .i64 ox, .int .i64 oy]
  rw [show (w8.alloc (.cells #[.int .i64 gx, .int .i64 gy] 23)).heap.size = w8.heap.size + 1 by simp] at K6
  have K6 := Lib.hid K6
  have HB := Lib.hid (vbt HG.out.bel (bel2 w8 (.cells #[.int .i64 gx, .int .i64 gy] 23) (.cells #[.int .i64 ox, .int .i64 oy] 39)))
  generalize (w8.alloc (.cells #[.int .i64 gx, .int .i64 gy] 23)).alloc (.cells #[.int .i64 ox, .int .i64 oy] 39) = w9 at *
  generalize w8.heap.size = g5 at *
  have c0 := K3.out.cell 0
  have c1 := K3.out.cell 1
  have c2 := K4.out.cell 0
  have c3 := K4.out.cell 1
  have c4 := K5.out.cell 0
  have c5 := K5.out.cell 1
  have c6 := K6.out.cell 0
  have c7 := K6.out.cell 1
  have q39 := eq39 ox oy ox oy
  go_wp2_with fail
  go_ret
  exact ⟨rfl, HB.out⟩
end Go.Proofs.Ytnffflcfncffpaa

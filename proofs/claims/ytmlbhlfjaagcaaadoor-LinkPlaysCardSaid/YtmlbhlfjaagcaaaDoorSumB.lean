/- The contract of sumBytes: the sum of bytes, in four bytes, the lowest first. -/
import Derived.Test.YtmlbhlfjaagcaaaDoorSum
namespace Go.Proofs.YtmlbhlfjaagcaaaDoor
open Go.RowKit

/-- A byte of a number. -/
def byteAt (s i : Nat) : Nat := s / 2 ^ (8 * i) % 256
theorem le4_at (s : Nat) : le4 s = [byteAt s 0, byteAt s 1, byteAt s 2, byteAt s 3] := by
  simp [le4, byteAt]

/-- In the midst: i bytes stand. -/
def SumRow (s i : Nat) : List Nat := (List.range 4).map fun k => if k < i then byteAt s k else 0
theorem SumRow_set (s i : Nat) (h : i < 4) : (SumRow s i).set i (byteAt s i) = SumRow s (i + 1) := by
  have : i = 0 ∨ i = 1 ∨ i = 2 ∨ i = 3 := by omega
  rcases this with rfl | rfl | rfl | rfl <;> rfl
theorem SumRow_len (s i : Nat) : (SumRow s i).length = 4 := by simp [SumRow]
theorem SumRow_all (s : Nat) : SumRow s 4 = le4 s := by rw [le4_at]; rfl
theorem SumRow_zero (s : Nat) : SumRow s 0 = [0, 0, 0, 0] := rfl

structure SumSt (w : World) (s i : Nat) (wr : World) : Prop where
  res : ∃ cs, Blk wr w.heap.size 94 cs ∧ cs.size = 4 ∧ ∀ j, j < 4 → (cs[j]?).isSome = true
  row : Blk wr (w.heap.size + 1) 94 (U8s (SumRow s i)).toArray
  below : Below w.heap.size w wr

theorem set4 {w : World} {g : Nat} {cs : Array Value} (h : Blk w g 94 cs) (hs : cs.size = 4) (a b c d : Value) :
    Blk ((((w.setCell ⟨g, 0, none⟩ a).setCell ⟨g, 1, none⟩ b).setCell ⟨g, 2, none⟩ c).setCell ⟨g, 3, none⟩ d) g 94 #[a, b, c, d] := by
  have h4 := (((h.set_ 0 a).set_ 1 b).set_ 2 c).set_ 3 d
  have e : (((cs.setIfInBounds 0 a).setIfInBounds 1 b).setIfInBounds 2 c).setIfInBounds 3 d = #[a, b, c, d] := by
    match cs, hs with
    | ⟨[_, _, _, _]⟩, _ => rfl
  rw [e] at h4
  exact h4

theorem SumSt.next {w wr : World} {s i : Nat} (h : SumSt w s i wr) (hi : i < 4) : SumSt w s (i + 1) (wr.setCell ⟨w.heap.size + 1, i, none⟩ (.int .u8 ((byteAt s i : Nat) : Int))) := by
  obtain ⟨cs, h1, h2, h3⟩ := h.res
  refine ⟨⟨cs, h1.far (p := ⟨w.heap.size + 1, i, none⟩) (by simp) _, h2, h3⟩, ?_, h.below.setCell (p := ⟨w.heap.size + 1, i, none⟩) (by simp) _⟩
  have := h.row.set_ i (.int .u8 ((byteAt s i : Nat) : Int))
  rw [List.setIfInBounds_toArray, ← U8s_set, SumRow_set s i hi] at this
  exact this

set_option maxHeartbeats 1000000 in
set_option maxRecDepth 100000 in
theorem sumb_c (v : Value) (bs : List Nat) (w : World) (hv : SlB w v bs) (ht : Tab w) (hn : bs.length ≤ 281474976710656) (hby : ∀ x ∈ bs, x < 256) :
    Calls Tryd.prog 51 #[v] w fun e w' => ∃ a b c d : Nat, e = .returned (.agg #[.int .u8 (a : Int), .int .u8 (b : Int), .int .u8 (c : Int), .int .u8 (d : Int)]) ∧ [a, b, c, d] = le4 (crc bs) ∧ Below w.heap.size w w' := by
  have HV := Lib.hid hv
  have HT := Lib.hid ht
  have HB := Lib.hid hby
  clear hv ht hby
  go_enter Tryd.func51, Tryd.ntmps51
  go_wp2_with fail
  have hb1 : Below w.heap.size w ((w.alloc (.cells #[.int .u8 0, .int .u8 0, .int .u8 0, .int .u8 0] 94)).alloc (.cells #[.int .u8 0, .int .u8 0, .int .u8 0, .int .u8 0] 94)) := ((Below.refl _ _).alloc (Nat.le_refl _) _).alloc (by simp) _
  have S0 : ∀ s, SumSt w s 0 ((w.alloc (.cells #[.int .u8 0, .int .u8 0, .int .u8 0, .int .u8 0] 94)).alloc (.cells #[.int .u8 0, .int .u8 0, .int .u8 0, .int .u8 0] 94)) := fun s =>
    ⟨⟨_, (Blk.new _ _ _).alloc _, rfl, by decide⟩, by have := Blk.new (w.alloc (.cells #[.int .u8 0, .int .u8 0, .int .u8 0, .int .u8 0] 94)) 94 #[.int .u8 0, .int .u8 0, .int .u8 0, .int .u8 0]; simpa [SumRow_zero, U8s] using this, hb1⟩
  generalize (w.alloc (.cells #[.int .u8 0, .int .u8 0, .int .u8 0, .int .u8 0] 94)).alloc (.cells #[.int .u8 0, .int .u8 0, .int .u8 0, .int .u8 0] 94) = w1 at S0 hb1
  refine (sum_c v bs w1 (HV.out.below hb1) (HT.out.below hb1) hn HB.out).mono ?_
  rintro e w2 ⟨rfl, rfl⟩
  have S1 := S0 (crc bs)
  have hlt := crc_lt HB.out
  clear S0 hb1
  generalize hcc : crc bs = s at hlt S1
  have HC := Lib.hid hcc
  clear hcc
  go_wp2_with fail
  go_loopg [5, 8] 4 (fun gg _ s8 wr => ∃ i : Nat, i + gg = 4 ∧ s8 = .int .i64 (i : Int) ∧ SumSt w s i wr)
  case atStart => exact ⟨0, rfl, rfl, S1⟩
  case round =>
    obtain ⟨i, hig, rfl, S⟩ := hrel
    clear S1
    cases gk with
    | zero =>
      obtain rfl : i = 4 := by omega
      have hrow := S.row
      rw [SumRow_all] at hrow
      have e4 := le4_at s
      obtain ⟨a, ha⟩ : ∃ a, a = byteAt s 0 := ⟨_, rfl⟩
      obtain ⟨b, hb⟩ : ∃ b, b = byteAt s 1 := ⟨_, rfl⟩
      obtain ⟨c, hc⟩ : ∃ c, c = byteAt s 2 := ⟨_, rfl⟩
      obtain ⟨d, hd⟩ : ∃ d, d = byteAt s 3 := ⟨_, rfl⟩
      rw [← ha, ← hb, ← hc, ← hd] at e4
      rw [e4] at hrow
      have c0 : wr.cell? ⟨w.heap.size + 1, 0, none⟩ = some (.int .u8 (a : Int)) := hrow.cell 0
      have c1 : wr.cell? ⟨w.heap.size + 1, 1, none⟩ = some (.int .u8 (b : Int)) := hrow.cell 1
      have c2 : wr.cell? ⟨w.heap.size + 1, 2, none⟩ = some (.int .u8 (c : Int)) := hrow.cell 2
      have c3 : wr.cell? ⟨w.heap.size + 1, 3, none⟩ = some (.int .u8 (d : Int)) := hrow.cell 3
      obtain ⟨cs, hcs, hcz, hsome⟩ := S.res
      have q0 := hcs.frozen 0
      have q1 := hcs.frozen 1
      have q2 := hcs.frozen 2
      have q3 := hcs.frozen 3
      obtain ⟨x0, hx0⟩ := Option.isSome_iff_exists.1 (hsome 0 (by omega))
      obtain ⟨x1, hx1⟩ := Option.isSome_iff_exists.1 (hsome 1 (by omega))
      obtain ⟨x2, hx2⟩ := Option.isSome_iff_exists.1 (hsome 2 (by omega))
      obtain ⟨x3, hx3⟩ := Option.isSome_iff_exists.1 (hsome 3 (by omega))
      have r0 : wr.cell? ⟨w.heap.size, 0, none⟩ = some x0 := (hcs.cell 0).trans hx0
      have r1 : wr.cell? ⟨w.heap.size, 1, none⟩ = some x1 := (hcs.cell 1).trans hx1
      have r2 : wr.cell? ⟨w.heap.size, 2, none⟩ = some x2 := (hcs.cell 2).trans hx2
      have r3 : wr.cell? ⟨w.heap.size, 3, none⟩ = some x3 := (hcs.cell 3).trans hx3
      have HS := Lib.hid S.below
      have HBK := Lib.hid (set4 hcs hcz (.int .u8 (a : Int)) (.int .u8 (b : Int)) (.int .u8 (c : Int)) (.int .u8 (d : Int)))
      have HE : Hid ([a, b, c, d] = le4 (crc bs)) := by rw [HC.out]; exact e4.symm
      clear ha hb hc hd e4 hrow hcs hcz hsome hx0 hx1 hx2 hx3 S HC
      go_wp2_with fail
      (try simp only [Exit.inBlock, Exit.then])
      refine bodyPost_ret (results_cell_row rfl _ _ w.heap.size 94 _ (0, 0) _ rfl HBK.out Tryd.underlying94 rfl (by kernel_rfl)) rfl ?_
      exact ⟨a, b, c, d, rfl, HE.out, (((HS.out.setCell (p := ⟨w.heap.size, 0, none⟩) (Nat.le_refl _) _).setCell (p := ⟨w.heap.size, 1, none⟩) (Nat.le_refl _) _).setCell (p := ⟨w.heap.size, 2, none⟩) (Nat.le_refl _) _).setCell (p := ⟨w.heap.size, 3, none⟩) (Nat.le_refl _) _⟩
    | succ gk =>
      have hd : decide ((i : Int) < 4) = true := by simp; omega
      have hi4 : i < 4 := by omega
      have hii : (i : Int) < 4 := by omega
      have hc : wr.cell? ⟨w.heap.size + 1, i, none⟩ = some (.int .u8 (((SumRow s i).getD i 0 : Nat) : Int)) := by rw [S.row.cell, List.getElem?_toArray, U8s_get _ _ (by rw [SumRow_len]; omega)]
      have hf : wr.frozen? ⟨w.heap.size + 1, i, none⟩ = false := S.row.frozen i
      generalize (((SumRow s i).getD i 0 : Nat) : Int) = old at hc
      have HS := Lib.hid S
      clear S
      go_wp2_with fail
      go_roundg gk
      case measure => omega
      case rel =>
        have e : (s : Int) / 2 ^ (8 * i) % 256 = ((byteAt s i : Nat) : Int) := by unfold byteAt; push_cast; rfl
        refine ⟨i + 1, by omega, rfl, ?_⟩
        rw [e]
        exact HS.out.next hi4

end Go.Proofs.YtmlbhlfjaagcaaaDoor

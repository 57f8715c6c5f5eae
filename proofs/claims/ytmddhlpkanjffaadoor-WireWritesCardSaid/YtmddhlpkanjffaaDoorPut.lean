/- The contract of put: bytes, and behind them the bytes of a number. -/
import Derived.Test.YtmddhlpkanjffaaDoorJoin
import Derived.Test.YtmddhlpkanjffaaDoorVar
import Derived.Test.YtmddhlpkanjffaaDoorOps
import Derived.Deep.LoopGhost
import Derived.Deep.DeepCutAuto
namespace Go.Proofs.YtmddhlpkanjffaaDoor
open Go.RowKit

/-- In the midst of put: i bytes stand, y is left. -/
structure PutSt (w : World) (z i y : Nat) (wr : World) : Prop where
  row : ∃ pre : List Nat, vn z = pre ++ vn y ∧ pre.length = i ∧ Blk wr w.heap.size 60 (U8s (pre ++ List.replicate (10 - i) 0)).toArray
  le : y * 128 ^ i ≤ z
  below : Below w.heap.size w wr

theorem PutSt.cell {w wr : World} {z i y : Nat} (h : PutSt w z i y wr) (hi : i < 10) : wr.cell? ⟨w.heap.size, i, none⟩ = some (.int .u8 0) ∧ wr.frozen? ⟨w.heap.size, i, none⟩ = false := by
  obtain ⟨pre, _, h2, h3⟩ := h.row
  refine ⟨?_, h3.frozen i⟩
  rw [h3.cell, List.getElem?_toArray, U8s_get _ _ (by simp; omega)]
  rw [List.getD_eq_getElem?_getD, List.getElem?_append_right (by omega), List.getElem?_replicate, if_pos (by omega)]
  rfl

theorem PutSt.put {w wr : World} {z i y : Nat} (h : PutSt w z i y wr) (hi : i < 10) (x : Nat) : ∃ pre : List Nat, vn z = pre ++ vn y ∧ pre.length = i ∧ Blk (wr.setCell ⟨w.heap.size, i, none⟩ (.int .u8 (x : Int))) w.heap.size 60 (U8s (pre ++ [x] ++ List.replicate (10 - (i + 1)) 0)).toArray := by
  obtain ⟨pre, h1, h2, h3⟩ := h.row
  refine ⟨pre, h1, h2, ?_⟩
  have := h3.set_ i (.int .u8 (x : Int))
  rw [List.setIfInBounds_toArray, ← U8s_set] at this
  have e : (pre ++ List.replicate (10 - i) 0).set i x = pre ++ [x] ++ List.replicate (10 - (i + 1)) 0 := by
    rw [List.set_append_right _ _ (by omega), h2, Nat.sub_self, show 10 - i = (10 - (i + 1)) + 1 by omega, List.replicate_succ]
    simp
  rw [e] at this
  exact this

theorem PutSt.next {w wr : World} {z i y : Nat} (h : PutSt w z i y wr) (hi : i < 10) (hy : ¬ y < 128) : PutSt w z (i + 1) (y / 128) (wr.setCell ⟨w.heap.size, i, none⟩ (.int .u8 ((y % 128 + 128 : Nat) : Int))) := by
  obtain ⟨pre, h1, h2, h3⟩ := h.put hi (y % 128 + 128)
  refine ⟨⟨pre ++ [y % 128 + 128], ?_, by simp [h2], h3⟩, ?_, h.below.setCell (Nat.le_refl _) _⟩
  · rw [h1, vn_big hy]; simp
  · have := h.le
    refine Nat.le_trans ?_ this
    rw [Nat.pow_succ, Nat.mul_comm (128 ^ i), ← Nat.mul_assoc]
    exact Nat.mul_le_mul_right _ (Nat.div_mul_le_self _ _)

theorem PutSt.more {w wr : World} {z i y gk : Nat} (h : PutSt w z i y wr) (hz : z < 18446744073709551616) (hy : ¬ y < 128) (hi : i < 10) (hg : i + gk = 10) : 0 < gk - 1 := by
  rcases Nat.lt_or_ge i 9 with h9 | h9
  · omega
  · obtain rfl : i = 9 := by omega
    have := h.le
    have e9 : (128 : Nat) ^ 9 = 9223372036854775808 := by decide
    rw [e9] at this
    omega

theorem U8s_reads {w : World} {g n t c : Nat} {xs ys : List Nat} (h : Blk w g t (U8s (xs ++ ys)).toArray) (hn : n = xs.length) (hc : xs.length ≤ c) : SlB w (.slice (some ⟨g, 0, none⟩) n c) xs := by
  subst hn
  refine ⟨_, c, rfl, hc, (fun e => nomatch e), by rw [U8s_length], fun _ => ⟨_, rfl, h.lt, fun j u hu => ?_⟩⟩
  have e : (⟨g, 0, none⟩ : Addr).add j = ⟨g, j, none⟩ := by unfold Addr.add; split <;> simp_all
  rw [e, h.cell, U8s_append, List.getElem?_toArray, List.getElem?_append_left (List.getElem?_eq_some_iff.1 hu).1]
  exact hu

theorem arr10 : Tryd.prog.arrayLen 60 = 10 := by kernel_rfl
theorem elem10 : Tryd.prog.elem 60 = 5 := by kernel_rfl
theorem size_u8 (w : World) : (sizeOf 5).run Tryd.prog w = .ok 1 w := by
  have h : Tryd.t5.size = 1 := by kernel_rfl
  simp [sizeOf, h]
/-- A cut of an array of ten bytes. -/
theorem cut10 (g n : Nat) (x : Int) (hx : x = (n : Int)) (hn : n ≤ 10) (w : World) : (Instr.sliceAt 60 (.pointer (some ⟨g, 0, none⟩)) none (some (.int .i64 x)) none).run Tryd.prog w = .ok (.slice (some ⟨g, 0, none⟩) n 10) w := by
  subst hx
  rw [run_sliceAt_array_h w 60 ⟨g, 0, none⟩ (by rw [arr10, elem10]; exact Tryd.underlying60) .i64 (n : Int) (by omega) (by rw [arr10]; omega)]
  rw [elem10, size_u8, arr10]
  simp [Result.andThen, slicedAt, Addr.add]

theorem or128 : ∀ b, b < 256 → (b ||| 128) = b % 128 + 128 := by decide +kernel

theorem u8_or128 (y : Nat) : bits BinOp.or IntKind.u8 ((y : Int) % 256) 128 = ((y % 128 + 128 : Nat) : Int) := by
  have h := u8_or_nat (y % 256) 128 (Nat.mod_lt _ (by omega)) (by omega)
  have e : ((y % 256 : Nat) : Int) = (y : Int) % 256 := by omega
  rw [e] at h
  rw [show ((128 : Nat) : Int) = 128 from rfl] at h
  rw [h]
  congr 1
  rw [or128 _ (Nat.mod_lt _ (by omega))]
  omega

set_option maxHeartbeats 1000000 in
set_option maxRecDepth 100000 in
theorem put_c (v : Value) (bs : List Nat) (z : Nat) (w : World) (hv : SlB w v bs) (hn : bs.length ≤ 140737488355328) (hz : z < 18446744073709551616) :
    Calls Tryd.prog 32 #[v, .int .u64 (z : Int)] w (Fresh w (bs ++ vn z)) := by
  have HV := Lib.hid hv
  have S0 : PutSt w z 0 z (w.alloc (.cells #[.int .u8 0, .int .u8 0, .int .u8 0, .int .u8 0, .int .u8 0, .int .u8 0, .int .u8 0, .int .u8 0, .int .u8 0, .int .u8 0] 60)) :=
    ⟨⟨[], rfl, rfl, Blk.new _ _ _⟩, by simp, (Below.refl _ _).alloc (Nat.le_refl _) _⟩
  clear hv
  go_enter Tryd.func32, Tryd.ntmps32
  go_wp2_with fail
  go_loopg [1, 6, 7, 8] 10 (fun gg s1 s6 _ s8 wr => ∃ i y : Nat, i + gg = 10 ∧ 0 < gg ∧ s1 = .int .u64 (y : Int) ∧ s6 = .int .i64 (i : Int) ∧ s8 = .int .i64 (i : Int) ∧ PutSt w z i y wr)
  case atStart => exact ⟨0, z, rfl, by omega, rfl, rfl, rfl, S0⟩
  case round =>
    obtain ⟨i, y, hig, hg0, rfl, rfl, rfl, S⟩ := hrel
    clear S0
    have hd : decide ((i : Int) < 10) = true := by simp; omega
    have hii : (i : Int) < 10 := by omega
    obtain ⟨hc, hf⟩ := S.cell (by omega)
    by_cases hy : y < 128
    · have hdy : decide ((y : Int) < 128) = true := by simp; omega
      have HS := Lib.hid S
      have hcut := cut10 w.heap.size (i + 1) ((i : Int) + 1) (by omega) (by omega)
      clear S
      go_wp2_with fail
      obtain ⟨pre, e1, e2, hblk⟩ := HS.out.put (by omega) y
      have hbel := HS.out.below.setCell (p := ⟨w.heap.size, i, none⟩) (Nat.le_refl _) (.int .u8 (y : Int))
      rw [vn_small hy] at e1
      have hlen : (vn z).length = i + 1 := by rw [e1]; simp [e2]
      have hsl : SlB (wr.setCell ⟨w.heap.size, i, none⟩ (.int .u8 (y : Int))) (.slice (some ⟨w.heap.size, 0, none⟩) (i + 1) 10) (vn z) := by
        rw [← e1] at hblk
        exact U8s_reads hblk hlen.symm (by omega)
      have hsz := hbel.size
      generalize wr.setCell ⟨w.heap.size, i, none⟩ (.int .u8 (y : Int)) = w1 at hsl hbel hsz
      refine (joined_c _ _ _ _ _ (HV.out.below hbel) hsl (by omega)).mono ?_
      rintro e w2 ⟨g, n, rfl, hn2, hg, hb2, hbel2⟩
      have HF : Hid (n = (bs ++ vn z).length ∧ w.heap.size ≤ g ∧ Blk w2 g 5 (U8s (bs ++ vn z)).toArray ∧ Below w.heap.size w w2) := ⟨hn2, by omega, hb2, below_trans hbel hbel2⟩
      clear hn2 hb2 hbel2 hbel hsl hblk
      go_wp2_with fail
      go_ret
      exact ⟨g, n, rfl, HF.out⟩
    · have hdy : decide ((y : Int) < 128) = false := by simp; omega
      have HS := Lib.hid S
      have hor := u8_or128 y
      clear S
      go_wp2_with fail
      go_roundg (gk - 1)
      case measure => omega
      case rel => exact ⟨i + 1, y / 128, by omega, PutSt.more HS.out hz hy (by omega) hig, by simp, rfl, rfl, HS.out.next (by omega) hy⟩

end Go.Proofs.YtmddhlpkanjffaaDoor

/- The contract of put: bytes, and behind them the bytes of a number. Contracts of Num and Int. Contracts of Sum and sumBytes: the sum of bytes. The contract of sumBytes: the sum of bytes, in four bytes, the lowest first. Contracts of Frame and Open. -/
import Derived.Test.YtebdjahcahgafaaDoorBytesM
import Derived.Test.YtebdjahcahgafaaDoorVar
import Derived.Test.YtebdjahcahgafaaDoorOps
import Derived.Deep.LoopGhost
import Derived.Deep.DeepCutAuto
import Derived.Test.YtebdjahcahgafaaDoorCrc
import Derived.BigQuiet
namespace Go.Proofs.YtebdjahcahgafaaDoor
open Go.RowKit

/-- In the midst of put: i bytes stand, y is left. -/
structure PutSt (w : World) (z i y : Nat) (wr : World) : Prop where
  row : ∃ pre : List Nat, vn z = pre ++ vn y ∧ pre.length = i ∧ Blk wr w.heap.size 137 (U8s (pre ++ List.replicate (10 - i) 0)).toArray
  le : y * 128 ^ i ≤ z
  below : Below w.heap.size w wr

theorem PutSt.cell {w wr : World} {z i y : Nat} (h : PutSt w z i y wr) (hi : i < 10) : wr.cell? ⟨w.heap.size, i, none⟩ = some (.int .u8 0) ∧ wr.frozen? ⟨w.heap.size, i, none⟩ = false := by
  obtain ⟨pre, _, h2, h3⟩ := h.row
  refine ⟨?_, h3.frozen i⟩
  rw [h3.cell, List.getElem?_toArray, U8s_get _ _ (by simp; omega)]
  rw [List.getD_eq_getElem?_getD, List.getElem?_append_right (by omega), List.getElem?_replicate, if_pos (by omega)]
  rfl

theorem PutSt.put {w wr : World} {z i y : Nat} (h : PutSt w z i y wr) (hi : i < 10) (x : Nat) : ∃ pre : List Nat, vn z = pre ++ vn y ∧ pre.length = i ∧ Blk (wr.setCell ⟨w.heap.size, i, none⟩ (.int .u8 (x : Int))) w.heap.size 137 (U8s (pre ++ [x] ++ List.replicate (10 - (i + 1)) 0)).toArray := by
  obtain ⟨pre, h1, h2, h3⟩ := h.row
  refine ⟨pre, h1, h2, ?_⟩
  have := h3.set_ i (.int .u8 (x : Int))
  rw [List.setIfInBounds_toArray, ← U8s_set] at this
  have e : (pre ++ List.replicate (10 - i) 0).set i x = pre ++ [x] ++ List.replicate (10 - (i + 1)) 0 := by
    rw [List.set_append_right _ _ (by omega), h2, Nat.sub_self, show 10 - i = (10 - (i + 1)) + 1 by omega, List.replicate_succ]
    simp
  rw [e] at this
  exact this

theorem PutSt.next {w wr : World} {z i y : Nat} (h : PutSt w z i y wr) (hi : i < 10) (hy : ¬ y < 128) : PutSt w z (i + 1) (y / 128) (wr.setCell ⟨w.heap.size, i, none⟩ (.int .u8 ((y % 128 + 128 : Nat) : Int))) := by
  obtain ⟨pre, h1, h2, h3⟩ := h.put hi (y % 128 + 128)
  refine ⟨⟨pre ++ [y % 128 + 128], ?_, by simp [h2], h3⟩, ?_, h.below.setCell (Nat.le_refl _) _⟩
  · rw [h1, vn_big hy]; simp
  · have := h.le
    refine Nat.le_trans ?_ this
    rw [Nat.pow_succ, Nat.mul_comm (128 ^ i), ← Nat.mul_assoc]
    exact Nat.mul_le_mul_right _ (Nat.div_mul_le_self _ _)

theorem PutSt.more {w wr : World} {z i y gk : Nat} (h : PutSt w z i y wr) (hz : z < 18446744073709551616) (hy : ¬ y < 128) (hi : i < 10) (hg : i + gk = 10) : 0 < gk - 1 := by
  rcases Nat.lt_or_ge i 9 with h9 | h9
  · omega
  · obtain rfl : i = 9 := by omega
    have := h.le
    have e9 : (128 : Nat) ^ 9 = 9223372036854775808 := by decide
    rw [e9] at this
    omega

theorem U8s_reads {w : World} {g n t c : Nat} {xs ys : List Nat} (h : Blk w g t (U8s (xs ++ ys)).toArray) (hn : n = xs.length) (hc : xs.length ≤ c) : SlB w (.slice (some ⟨g, 0, none⟩) n c) xs := by
  subst hn
  refine ⟨_, c, rfl, hc, (fun e => nomatch e), by rw [U8s_length], fun _ => ⟨_, rfl, h.lt, fun j u hu => ?_⟩⟩
  have e : (⟨g, 0, none⟩ : Addr).add j = ⟨g, j, none⟩ := by unfold Addr.add; split <;> simp_all
  rw [e, h.cell, U8s_append, List.getElem?_toArray, List.getElem?_append_left (List.getElem?_eq_some_iff.1 hu).1]
  exact hu

theorem arr10 : Tryd.prog.arrayLen 137 = 10 := by kernel_rfl
theorem elem10 : Tryd.prog.elem 137 = 5 := by kernel_rfl
theorem size_u8 (w : World) : (sizeOf 5).run Tryd.prog w = .ok 1 w := by
  have h : Tryd.t5.size = 1 := by kernel_rfl
  simp [sizeOf, h]
/-- A cut of an array of ten bytes. -/
theorem cut10 (g n : Nat) (x : Int) (hx : x = (n : Int)) (hn : n ≤ 10) (w : World) : (Instr.sliceAt 137 (.pointer (some ⟨g, 0, none⟩)) none (some (.int .i64 x)) none).run Tryd.prog w = .ok (.slice (some ⟨g, 0, none⟩) n 10) w := by
  subst hx
  rw [run_sliceAt_array_h w 137 ⟨g, 0, none⟩ (by rw [arr10, elem10]; exact Tryd.underlying137) .i64 (n : Int) (by omega) (by rw [arr10]; omega)]
  rw [elem10, size_u8, arr10]
  simp [Result.andThen, slicedAt, Addr.add]

theorem or128 : ∀ b, b < 256 → (b ||| 128) = b % 128 + 128 := by decide +kernel

theorem u8_or128 (y : Nat) : bits BinOp.or IntKind.u8 ((y : Int) % 256) 128 = ((y % 128 + 128 : Nat) : Int) := by
  have h := u8_or_nat (y % 256) 128 (Nat.mod_lt _ (by omega)) (by omega)
  have e : ((y % 256 : Nat) : Int) = (y : Int) % 256 := by omega
  rw [e] at h
  rw [show ((128 : Nat) : Int) = 128 from rfl] at h
  rw [h]
  congr 1
  rw [or128 _ (Nat.mod_lt _ (by omega))]
  omega

set_option maxHeartbeats 1000000 in
set_option maxRecDepth 100000 in
theorem put_c (v : Value) (bs : List Nat) (z : Nat) (w : World) (hv : SlB w v bs) (hn : bs.length ≤ 140737488355328) (hz : z < 18446744073709551616) :
    Calls Tryd.prog 107 #[v, .int .u64 (z : Int)] w (Fresh w (bs ++ vn z)) := by
  have HV := Lib.hid hv
  have S0 : PutSt w z 0 z (w.alloc (.cells #[.int .u8 0, .int .u8 0, .int .u8 0, .int .u8 0, .int .u8 0, .int .u8 0, .int .u8 0, .int .u8 0, .int .u8 0, .int .u8 0] 137)) :=
    ⟨⟨[], rfl, rfl, Blk.new _ _ _⟩, by simp, (Below.refl _ _).alloc (Nat.le_refl _) _⟩
  clear hv
  go_enter Tryd.func107, Tryd.ntmps107
  go_wp2_with fail
  go_loopg [1, 6, 7, 8] 10 (fun gg s1 s6 _ s8 wr => ∃ i y : Nat, i + gg = 10 ∧ 0 < gg ∧ s1 = .int .u64 (y : Int) ∧ s6 = .int .i64 (i : Int) ∧ s8 = .int .i64 (i : Int) ∧ PutSt w z i y wr)
  case atStart => exact ⟨0, z, rfl, by omega, rfl, rfl, rfl, S0⟩
  case round =>
    obtain ⟨i, y, hig, hg0, rfl, rfl, rfl, S⟩ := hrel
    clear S0
    have hd : decide ((i : Int) < 10) = true := by simp; omega
    have hii : (i : Int) < 10 := by omega
    obtain ⟨hc, hf⟩ := S.cell (by omega)
    by_cases hy : y < 128
    · have hdy : decide ((y : Int) < 128) = true := by simp; omega
      have HS := Lib.hid S
      have hcut := cut10 w.heap.size (i + 1) ((i : Int) + 1) (by omega) (by omega)
      clear S
      go_wp2_with fail
      obtain ⟨pre, e1, e2, hblk⟩ := HS.out.put (by omega) y
      have hbel := HS.out.below.setCell (p := ⟨w.heap.size, i, none⟩) (Nat.le_refl _) (.int .u8 (y : Int))
      rw [vn_small hy] at e1
      have hlen : (vn z).length = i + 1 := by rw [e1]; simp [e2]
      have hsl : SlB (wr.setCell ⟨w.heap.size, i, none⟩ (.int .u8 (y : Int))) (.slice (some ⟨w.heap.size, 0, none⟩) (i + 1) 10) (vn z) := by
        rw [← e1] at hblk
        exact U8s_reads hblk hlen.symm (by omega)
      have hsz := hbel.size
      generalize wr.setCell ⟨w.heap.size, i, none⟩ (.int .u8 (y : Int)) = w1 at hsl hbel hsz
      refine (joined_c _ _ _ _ _ (HV.out.below hbel) hsl (by omega)).mono ?_
      rintro e w2 ⟨g, n, rfl, hn2, hg, hb2, hbel2⟩
      have HF : Hid (n = (bs ++ vn z).length ∧ w.heap.size ≤ g ∧ Blk w2 g 5 (U8s (bs ++ vn z)).toArray ∧ Below w.heap.size w w2) := ⟨hn2, by omega, hb2, below_trans hbel hbel2⟩
      clear hn2 hb2 hbel2 hbel hsl hblk
      go_wp2_with fail
      go_ret
      exact ⟨g, n, rfl, HF.out⟩
    · have hdy : decide ((y : Int) < 128) = false := by simp; omega
      have HS := Lib.hid S
      have hor := u8_or128 y
      clear S
      go_wp2_with fail
      go_roundg (gk - 1)
      case measure => omega
      case rel => exact ⟨i + 1, y / 128, by omega, PutSt.more HS.out hz hy (by omega) hig, by simp, rfl, rfl, HS.out.next (by omega) hy⟩

/-- Bytes in a new block, and no error. -/
def FreshE (w : World) (bs : List Nat) (e : Ending) (w' : World) : Prop :=
  ∃ g n, e = .returned (.tuple #[.slice (some ⟨g, 0, none⟩) n n, .int .i64 0]) ∧ n = bs.length ∧ w.heap.size ≤ g ∧ Blk w' g 5 (U8s bs).toArray ∧ Below w.heap.size w w'

set_option maxHeartbeats 1000000 in
set_option maxRecDepth 100000 in
theorem num_neg (v : Value) (n : Int) (w : World) (h : n < 0) :
    Calls Tryd.prog 93 #[v, .int .i64 n] w fun e w' => e = .returned (.tuple #[.slice none 0 0, .int .i64 1]) ∧ w' = w := by
  have hd : decide (n < 0) = true := by simpa using h
  go_enter Tryd.func93, Tryd.ntmps93
  go_wp2_with fail
  go_ret2
  exact ⟨rfl, rfl⟩

set_option maxHeartbeats 1000000 in
set_option maxRecDepth 100000 in
theorem num_c (v : Value) (bs : List Nat) (n : Nat) (w : World) (hv : SlB w v bs) (hl : bs.length ≤ 140737488355328) (hn : n < 9223372036854775808) :
    Calls Tryd.prog 93 #[v, .int .i64 (n : Int)] w (FreshE w (bs ++ vn n)) := by
  have HV := Lib.hid hv
  clear hv
  go_enter Tryd.func93, Tryd.ntmps93
  go_wp2_with fail
  refine (put_c _ _ n _ HV.out hl (by omega)).mono ?_
  rintro e w2 ⟨g, n2, rfl, hf⟩
  have HF := Lib.hid hf
  clear hf
  go_wp2_with fail
  go_ret2
  exact ⟨g, n2, rfl, HF.out⟩

theorem xor_ones (k a : Nat) (h : a < 2 ^ k) : a ^^^ (2 ^ k - 1) = 2 ^ k - 1 - a := by
  have e : (BitVec.ofNat k a ^^^ BitVec.allOnes k) = ~~~ BitVec.ofNat k a := BitVec.xor_allOnes
  have e2 := congrArg BitVec.toNat e
  rw [BitVec.toNat_xor, BitVec.toNat_allOnes, BitVec.toNat_not, BitVec.toNat_ofNat, Nat.mod_eq_of_lt h] at e2
  exact e2

theorem zz_bits (n : Int) (h1 : -9223372036854775808 ≤ n) (h2 : n < 9223372036854775808) :
    bits BinOp.xor IntKind.u64 (IntKind.u64.wrap (IntKind.u64.wrap n * 2)) (IntKind.u64.wrap (n / 9223372036854775808)) = ((zz n : Nat) : Int) := by
  rw [IntKind.wrap_u64, IntKind.wrap_u64, IntKind.wrap_u64]
  unfold zz
  by_cases h : 0 ≤ n
  · have e1 : n % 18446744073709551616 * 2 % 18446744073709551616 = (((2 * n).toNat : Nat) : Int) := by omega
    have e2 : n / 9223372036854775808 % 18446744073709551616 = ((0 : Nat) : Int) := by omega
    rw [if_pos h, e1, e2, u64_xor_nat _ _ (by omega) (by omega), Nat.xor_zero]
  · have e1 : n % 18446744073709551616 * 2 % 18446744073709551616 = (((2 * n + 18446744073709551616).toNat : Nat) : Int) := by omega
    have e2 : n / 9223372036854775808 % 18446744073709551616 = ((2 ^ 64 - 1 : Nat) : Int) := by omega
    rw [if_neg h, e1, e2, u64_xor_nat _ _ (by omega) (by omega), xor_ones 64 _ (by omega)]
    omega

set_option maxHeartbeats 1000000 in
set_option maxRecDepth 100000 in
theorem int_c (v : Value) (bs : List Nat) (n : Int) (w : World) (hv : SlB w v bs) (hl : bs.length ≤ 140737488355328) (h1 : -9223372036854775808 ≤ n) (h2 : n < 9223372036854775808) :
    Calls Tryd.prog 94 #[v, .int .i64 n] w (Fresh w (bs ++ vn (zz n))) := by
  have HV := Lib.hid hv
  clear hv
  go_enter Tryd.func94, Tryd.ntmps94
  go_wp2_with fail
  rw [zz_bits n h1 h2]
  refine (put_c _ _ (zz n) _ HV.out hl (zz_lt h1 h2)).mono ?_
  rintro e w2 ⟨g, n2, rfl, hf⟩
  have HF := Lib.hid hf
  clear hf
  go_wp2_with fail
  go_ret
  exact ⟨g, n2, rfl, HF.out⟩

/-- The table lies in block 0. -/
def Tab (w : World) : Prop := ∀ i, i < 16 → w.cell? ⟨0, i, none⟩ = some (.int .u32 ((nibs.getD i 0 : Nat) : Int))

theorem Tab.below {w w' : World} (h : Tab w) (hb : Below w.heap.size w w') : Tab w' := fun i hi =>
  (hb.cell (World.block_lt_of_cell? w _ (h i hi))).trans (h i hi)
theorem Tab.draw {w : World} (h : Tab w) (n : Nat) : Tab (w.drewN n) := h

theorem nib_step {w : World} (h : Tab w) {m : Nat} (hm : m < 4294967296) : ∃ k t m2 : Nat, bits BinOp.and IntKind.u32 (m : Int) 15 = (k : Int) ∧ k < 16 ∧ w.cell? ⟨0, k, none⟩ = some (.int .u32 (t : Int)) ∧ bits BinOp.xor IntKind.u32 ((m : Int) / 16) (t : Int) = (m2 : Int) ∧ m2 = cb4 m := by
  have hk : m % 16 < 16 := Nat.mod_lt _ (by omega)
  have ht : ∀ k, k < 16 → nibs.getD k 0 < 4294967296 := by decide
  refine ⟨m % 16, nibs.getD (m % 16) 0, cb4 m, ?_, hk, h _ hk, ?_, rfl⟩
  · have := u32_and_nat m 15 hm (by omega)
    rw [show ((15 : Nat) : Int) = 15 from rfl] at this
    rw [this, show (15 : Nat) = 2 ^ 4 - 1 from rfl, Nat.and_two_pow_sub_one_eq_mod]
  · have e : (m : Int) / 16 = ((m / 16 : Nat) : Int) := by omega
    rw [e, u32_xor_nat _ _ (by omega) (ht _ hk), cb4_tab, Nat.shiftRight_eq_div_pow]

set_option maxHeartbeats 1000000 in
set_option maxRecDepth 100000 in
theorem sum_c (v : Value) (bs : List Nat) (w : World) (hv : SlB w v bs) (ht : Tab w) (hn : bs.length ≤ 281474976710656) (hby : ∀ x ∈ bs, x < 256) :
    Calls Tryd.prog 55 #[v] w fun e w' => e = .returned (.int .i64 ((crc bs : Nat) : Int)) ∧ w' = w := by
  obtain ⟨A, c, rfl, hc, hA, hr⟩ := hv
  have HR := Lib.hid hr
  have HT := Lib.hid ht
  have HB := Lib.hid hby
  clear hr ht hby
  go_enter Tryd.func55, Tryd.ntmps55
  go_wp2_with fail
  go_loopg [3, 5, 8] bs.length (fun gg s3 _ s8 wr => ∃ i : Nat, i + gg = bs.length ∧ s3 = .int .u32 ((creg 4294967295 (bs.take i) : Nat) : Int) ∧ s8 = .int .i64 (i : Int) ∧ wr = w)
  case atStart => exact ⟨0, by omega, rfl, rfl, rfl⟩
  case round =>
    obtain ⟨i, hig, rfl, rfl, rfl⟩ := hrel
    cases gk with
    | zero =>
      have ei : i = bs.length := by omega
      subst ei
      have hd : decide (bs.length < bs.length) = false := by simp
      rw [List.take_length]
      have hlt := creg_lt (s := 4294967295) (by omega) HB.out
      generalize hcc : creg 4294967295 bs = s at hlt
      have HC := Lib.hid hcc
      clear hcc
      have hfin : wrap64 (bits BinOp.xor IntKind.u32 IntKind.u32.max (s : Int)) = ((s ^^^ 4294967295 : Nat) : Int) := by
        have e : IntKind.u32.max = ((4294967295 : Nat) : Int) := rfl
        have hlt2 : s ^^^ 4294967295 < 4294967296 := Nat.xor_lt_two_pow (n := 32) hlt (by omega)
        rw [e, u32_xor_nat _ _ (by omega) hlt, Nat.xor_comm, IntWalk.wrap64_in _ ⟨by omega, by omega⟩]
      go_wp2_with fail
      go_ret
      refine ⟨?_, rfl⟩
      simp only [crc, HC.out, ← hfin]
      rfl
    | succ gk =>
      have hil : i < bs.length := by omega
      have hd : decide (i < bs.length) = true := by simpa using hil
      have hii : (i : Int) < (bs.length : Int) := by omega
      obtain ⟨b, o, e, hbB, hcell⟩ := HR.out.spot hil
      rw [U8s_get bs i hil] at hcell
      have hx : bs.getD i 0 < 256 := by rw [List.getD_eq_getElem?_getD, List.getElem?_eq_getElem hil]; exact HB.out _ (List.getElem_mem hil)
      have hlt := creg_lt (s := 4294967295) (l := bs.take i) (by omega) (fun x hx => HB.out x (List.mem_of_mem_take hx))
      have hnext : creg 4294967295 (bs.take (i + 1)) = cby (creg 4294967295 (bs.take i)) (bs.getD i 0) := by
        rw [List.take_add_one, List.getElem?_eq_getElem hil, creg_append, List.getD_eq_getElem?_getD, List.getElem?_eq_getElem hil]
        rfl
      have HN := Lib.hid hnext
      clear hnext
      subst e
      generalize creg 4294967295 (bs.take i) = s at hlt HN
      generalize bs.getD i 0 = x at hcell hx HN
      obtain ⟨m1, hm1⟩ : ∃ m, m = s ^^^ x := ⟨_, rfl⟩
      have hl1 : m1 < 4294967296 := by rw [hm1]; exact Nat.xor_lt_two_pow (n := 32) hlt (by omega)
      have hx1 : bits BinOp.xor IntKind.u32 (s : Int) (x : Int) = (m1 : Int) := by rw [u32_xor_nat s x hlt (by omega), hm1]
      obtain ⟨k1, t1, m2, ha1, hk1, hc1, hs1, hm2⟩ := nib_step HT.out hl1
      obtain ⟨k2, t2, m3, ha2, hk2, hc2, hs2, hm3⟩ := nib_step (m := m2) HT.out (by rw [hm2]; exact cb4_lt hl1)
      have HM : Hid (m3 = cby s x) := by rw [hm3, hm2, hm1]; exact rfl
      have hk1' : (k1 : Int) < 16 := by omega
      have hk2' : (k2 : Int) < 16 := by omega
      clear hm1 hm2 hm3
      go_wp2_with fail
      go_roundg gk
      case measure => omega
      case rel => exact ⟨i + 1, by omega, by rw [HN.out, HM.out], rfl, rfl⟩

/-- A byte of a number. -/
def byteAt (s i : Nat) : Nat := s / 2 ^ (8 * i) % 256
theorem le4_at (s : Nat) : le4 s = [byteAt s 0, byteAt s 1, byteAt s 2, byteAt s 3] := by
  simp [le4, byteAt]

/-- In the midst: i bytes stand. -/
def SumRow (s i : Nat) : List Nat := (List.range 4).map fun k => if k < i then byteAt s k else 0
theorem SumRow_set (s i : Nat) (h : i < 4) : (SumRow s i).set i (byteAt s i) = SumRow s (i + 1) := by
  have : i = 0 ∨ i = 1 ∨ i = 2 ∨ i = 3 := by omega
  rcases this with rfl | rfl | rfl | rfl <;> rfl
theorem SumRow_len (s i : Nat) : (SumRow s i).length = 4 := by simp [SumRow]
theorem SumRow_all (s : Nat) : SumRow s 4 = le4 s := by rw [le4_at]; rfl
theorem SumRow_zero (s : Nat) : SumRow s 0 = [0, 0, 0, 0] := rfl

structure SumSt (w : World) (s i : Nat) (wr : World) : Prop where
  res : ∃ cs, Blk wr w.heap.size 44 cs ∧ cs.size = 4 ∧ ∀ j, j < 4 → (cs[j]?).isSome = true
  row : Blk wr (w.heap.size + 1) 44 (U8s (SumRow s i)).toArray
  below : Below w.heap.size w wr

theorem set4 {w : World} {g : Nat} {cs : Array Value} (h : Blk w g 44 cs) (hs : cs.size = 4) (a b c d : Value) :
    Blk ((((w.setCell ⟨g, 0, none⟩ a).setCell ⟨g, 1, none⟩ b).setCell ⟨g, 2, none⟩ c).setCell ⟨g, 3, none⟩ d) g 44 #[a, b, c, d] := by
  have h4 := (((h.set_ 0 a).set_ 1 b).set_ 2 c).set_ 3 d
  have e : (((cs.setIfInBounds 0 a).setIfInBounds 1 b).setIfInBounds 2 c).setIfInBounds 3 d = #[a, b, c, d] := by
    match cs, hs with
    | ⟨[_, _, _, _]⟩, _ => rfl
  rw [e] at h4
  exact h4

theorem SumSt.next {w wr : World} {s i : Nat} (h : SumSt w s i wr) (hi : i < 4) : SumSt w s (i + 1) (wr.setCell ⟨w.heap.size + 1, i, none⟩ (.int .u8 ((byteAt s i : Nat) : Int))) := by
  obtain ⟨cs, h1, h2, h3⟩ := h.res
  refine ⟨⟨cs, h1.far (p := ⟨w.heap.size + 1, i, none⟩) (by simp) _, h2, h3⟩, ?_, h.below.setCell (p := ⟨w.heap.size + 1, i, none⟩) (by simp) _⟩
  have := h.row.set_ i (.int .u8 ((byteAt s i : Nat) : Int))
  rw [List.setIfInBounds_toArray, ← U8s_set, SumRow_set s i hi] at this
  exact this

set_option maxHeartbeats 1000000 in
set_option maxRecDepth 100000 in
theorem sumb_c (v : Value) (bs : List Nat) (w : World) (hv : SlB w v bs) (ht : Tab w) (hn : bs.length ≤ 281474976710656) (hby : ∀ x ∈ bs, x < 256) :
    Calls Tryd.prog 30 #[v] w fun e w' => ∃ a b c d : Nat, e = .returned (.agg #[.int .u8 (a : Int), .int .u8 (b : Int), .int .u8 (c : Int), .int .u8 (d : Int)]) ∧ [a, b, c, d] = le4 (crc bs) ∧ Below w.heap.size w w' := by
  have HV := Lib.hid hv
  have HT := Lib.hid ht
  have HB := Lib.hid hby
  clear hv ht hby
  go_enter Tryd.func30, Tryd.ntmps30
  go_wp2_with fail
  have hb1 : Below w.heap.size w ((w.alloc (.cells #[.int .u8 0, .int .u8 0, .int .u8 0, .int .u8 0] 44)).alloc (.cells #[.int .u8 0, .int .u8 0, .int .u8 0, .int .u8 0] 44)) := ((Below.refl _ _).alloc (Nat.le_refl _) _).alloc (by simp) _
  have S0 : ∀ s, SumSt w s 0 ((w.alloc (.cells #[.int .u8 0, .int .u8 0, .int .u8 0, .int .u8 0] 44)).alloc (.cells #[.int .u8 0, .int .u8 0, .int .u8 0, .int .u8 0] 44)) := fun s =>
    ⟨⟨_, (Blk.new _ _ _).alloc _, rfl, by decide⟩, by have := Blk.new (w.alloc (.cells #[.int .u8 0, .int .u8 0, .int .u8 0, .int .u8 0] 44)) 44 #[.int .u8 0, .int .u8 0, .int .u8 0, .int .u8 0]; simpa [SumRow_zero, U8s] using this, hb1⟩
  generalize (w.alloc (.cells #[.int .u8 0, .int .u8 0, .int .u8 0, .int .u8 0] 44)).alloc (.cells #[.int .u8 0, .int .u8 0, .int .u8 0, .int .u8 0] 44) = w1 at S0 hb1
  refine (sum_c v bs w1 (HV.out.below hb1) (HT.out.below hb1) hn HB.out).mono ?_
  rintro e w2 ⟨rfl, rfl⟩
  have S1 := S0 (crc bs)
  have hlt := crc_lt HB.out
  clear S0 hb1
  generalize hcc : crc bs = s at hlt S1
  have HC := Lib.hid hcc
  clear hcc
  go_wp2_with fail
  go_loopg [5, 8] 4 (fun gg _ s8 wr => ∃ i : Nat, i + gg = 4 ∧ s8 = .int .i64 (i : Int) ∧ SumSt w s i wr)
  case atStart => exact ⟨0, rfl, rfl, S1⟩
  case round =>
    obtain ⟨i, hig, rfl, S⟩ := hrel
    clear S1
    cases gk with
    | zero =>
      obtain rfl : i = 4 := by omega
      have hrow := S.row
      rw [SumRow_all] at hrow
      have e4 := le4_at s
      obtain ⟨a, ha⟩ : ∃ a, a = byteAt s 0 := ⟨_, rfl⟩
      obtain ⟨b, hb⟩ : ∃ b, b = byteAt s 1 := ⟨_, rfl⟩
      obtain ⟨c, hc⟩ : ∃ c, c = byteAt s 2 := ⟨_, rfl⟩
      obtain ⟨d, hd⟩ : ∃ d, d = byteAt s 3 := ⟨_, rfl⟩
      rw [← ha, ← hb, ← hc, ← hd] at e4
      rw [e4] at hrow
      have c0 : wr.cell? ⟨w.heap.size + 1, 0, none⟩ = some (.int .u8 (a : Int)) := hrow.cell 0
      have c1 : wr.cell? ⟨w.heap.size + 1, 1, none⟩ = some (.int .u8 (b : Int)) := hrow.cell 1
      have c2 : wr.cell? ⟨w.heap.size + 1, 2, none⟩ = some (.int .u8 (c : Int)) := hrow.cell 2
      have c3 : wr.cell? ⟨w.heap.size + 1, 3, none⟩ = some (.int .u8 (d : Int)) := hrow.cell 3
      obtain ⟨cs, hcs, hcz, hsome⟩ := S.res
      have q0 := hcs.frozen 0
      have q1 := hcs.frozen 1
      have q2 := hcs.frozen 2
      have q3 := hcs.frozen 3
      obtain ⟨x0, hx0⟩ := Option.isSome_iff_exists.1 (hsome 0 (by omega))
      obtain ⟨x1, hx1⟩ := Option.isSome_iff_exists.1 (hsome 1 (by omega))
      obtain ⟨x2, hx2⟩ := Option.isSome_iff_exists.1 (hsome 2 (by omega))
      obtain ⟨x3, hx3⟩ := Option.isSome_iff_exists.1 (hsome 3 (by omega))
      have r0 : wr.cell? ⟨w.heap.size, 0, none⟩ = some x0 := (hcs.cell 0).trans hx0
      have r1 : wr.cell? ⟨w.heap.size, 1, none⟩ = some x1 := (hcs.cell 1).trans hx1
      have r2 : wr.cell? ⟨w.heap.size, 2, none⟩ = some x2 := (hcs.cell 2).trans hx2
      have r3 : wr.cell? ⟨w.heap.size, 3, none⟩ = some x3 := (hcs.cell 3).trans hx3
      have HS := Lib.hid S.below
      have HBK := Lib.hid (set4 hcs hcz (.int .u8 (a : Int)) (.int .u8 (b : Int)) (.int .u8 (c : Int)) (.int .u8 (d : Int)))
      have HE : Hid ([a, b, c, d] = le4 (crc bs)) := by rw [HC.out]; exact e4.symm
      clear ha hb hc hd e4 hrow hcs hcz hsome hx0 hx1 hx2 hx3 S HC
      go_wp2_with fail
      (try simp only [Exit.inBlock, Exit.then])
      refine bodyPost_ret (results_cell_row rfl _ _ w.heap.size 44 _ (0, 0) _ rfl HBK.out Tryd.underlying44 rfl (by kernel_rfl)) rfl ?_
      exact ⟨a, b, c, d, rfl, HE.out, (((HS.out.setCell (p := ⟨w.heap.size, 0, none⟩) (Nat.le_refl _) _).setCell (p := ⟨w.heap.size, 1, none⟩) (Nat.le_refl _) _).setCell (p := ⟨w.heap.size, 2, none⟩) (Nat.le_refl _) _).setCell (p := ⟨w.heap.size, 3, none⟩) (Nat.le_refl _) _⟩
    | succ gk =>
      have hd : decide ((i : Int) < 4) = true := by simp; omega
      have hi4 : i < 4 := by omega
      have hii : (i : Int) < 4 := by omega
      have hc : wr.cell? ⟨w.heap.size + 1, i, none⟩ = some (.int .u8 (((SumRow s i).getD i 0 : Nat) : Int)) := by rw [S.row.cell, List.getElem?_toArray, U8s_get _ _ (by rw [SumRow_len]; omega)]
      have hf : wr.frozen? ⟨w.heap.size + 1, i, none⟩ = false := S.row.frozen i
      generalize (((SumRow s i).getD i 0 : Nat) : Int) = old at hc
      have HS := Lib.hid S
      clear S
      go_wp2_with fail
      go_roundg gk
      case measure => omega
      case rel =>
        have e : (s : Int) / 2 ^ (8 * i) % 256 = ((byteAt s i : Nat) : Int) := by unfold byteAt; push_cast; rfl
        refine ⟨i + 1, by omega, rfl, ?_⟩
        rw [e]
        exact HS.out.next hi4

theorem arr4 : Tryd.prog.arrayLen 44 = 4 := by kernel_rfl
theorem elem4 : Tryd.prog.elem 44 = 5 := by kernel_rfl
/-- All of an array of four bytes. -/
theorem cut4 (g : Nat) (w : World) : (Instr.sliceAt 44 (.pointer (some ⟨g, 0, none⟩)) none none none).run Tryd.prog w = .ok (.slice (some ⟨g, 0, none⟩) 4 4) w := by
  rw [run_sliceAt_array_all w 44 ⟨g, 0, none⟩ (by rw [arr4, elem4]; exact Tryd.underlying44)]
  rw [elem4, size_u8, arr4]
  simp [Result.andThen, slicedAt, Addr.add]

set_option maxHeartbeats 1000000 in
set_option maxRecDepth 100000 in
theorem frame_c (v : Value) (bs : List Nat) (w : World) (hv : SlB w v bs) (ht : Tab w) (hn : bs.length ≤ 140737488355328) (hby : ∀ x ∈ bs, x < 256) :
    Calls Tryd.prog 15 #[v] w (Fresh w (frame bs)) := by
  have HV := Lib.hid hv
  have HT := Lib.hid ht
  clear hv ht
  go_enter Tryd.func15, Tryd.ntmps15
  go_wp2_with fail
  refine (sumb_c v bs w HV.out HT.out (by omega) hby).mono ?_
  rintro e w1 ⟨a, b, c, d, rfl, he, hb1⟩
  have HB := Lib.hid hb1
  have HE := Lib.hid he
  have hcut := cut4 w1.heap.size
  clear he hb1
  go_wp2_with fail
  have hb2 : Below w.heap.size w (w1.alloc (.cells #[.int .u8 (a : Int), .int .u8 (b : Int), .int .u8 (c : Int), .int .u8 (d : Int)] 44)) := HB.out.alloc HB.out.size _
  have hsl : SlB (w1.alloc (.cells #[.int .u8 (a : Int), .int .u8 (b : Int), .int .u8 (c : Int), .int .u8 (d : Int)] 44)) (.slice (some ⟨w1.heap.size, 0, none⟩) 4 4) (le4 (crc bs)) := by
    rw [← HE.out]
    exact U8s_reads (ys := []) (t := 44) (by have := Blk.new w1 44 #[.int .u8 (a : Int), .int .u8 (b : Int), .int .u8 (c : Int), .int .u8 (d : Int)]; simpa [U8s] using this) rfl (by simp)
  generalize w1.alloc (.cells #[.int .u8 (a : Int), .int .u8 (b : Int), .int .u8 (c : Int), .int .u8 (d : Int)] 44) = w2 at hb2 hsl
  refine (joined_c v _ bs _ w2 (HV.out.below hb2) hsl (by have : (le4 (crc bs)).length = 4 := rfl; omega)).mono ?_
  rintro e w3 ⟨g, n, rfl, h1, h2, h3, h4⟩
  have HF : Hid (n = (frame bs).length ∧ w.heap.size ≤ g ∧ Blk w3 g 5 (U8s (frame bs)).toArray ∧ Below w.heap.size w w3) := ⟨h1, by have := hb2.size; omega, h3, below_trans hb2 h4⟩
  clear h1 h2 h3 h4 hb2 hsl
  go_wp2_with fail
  go_ret
  exact ⟨g, n, rfl, HF.out⟩

theorem SlB.take {w : World} {A : Option Addr} {n c : Nat} {bs : List Nat} (h : SlB w (.slice A n c) bs) {k : Nat} (hk : k ≤ n) : SlB w (.slice A k c) (bs.take k) := by
  obtain ⟨A', c', e, h1, h2, h3⟩ := h
  injection e with e1 e2 e3
  subst e1 e2 e3
  have hl : (bs.take k).length = k := by rw [List.length_take]; omega
  refine ⟨A, c, by rw [hl], by omega, h2, by rw [U8s_length], fun hp => ?_⟩
  obtain ⟨ad, ea, hb, hc⟩ := h3.2 (by omega)
  refine ⟨ad, ea, hb, fun j u hu => hc j u ?_⟩
  have hj := (List.getElem?_eq_some_iff.1 hu).1
  rw [U8s_length, hl] at hj
  rw [← hu]
  simp [U8s, hj]

theorem SlB.drop {w : World} {A : Option Addr} {n c : Nat} {bs : List Nat} (h : SlB w (.slice A n c) bs) {k : Nat} (hk : k ≤ n) (m : Nat) (hm : m = n - k) : SlB w (.slice (if c = k then A else A.map (·.add k)) m (c - k)) (bs.drop k) := by
  obtain ⟨A', c', e, h1, h2, h3⟩ := h
  injection e with e1 e2 e3
  subst e1 e2 e3
  subst hm
  have hl : (bs.drop k).length = bs.length - k := by rw [List.length_drop]
  refine ⟨_, _, by rw [hl], by omega, ?_, ?_⟩
  · intro e
    split at e
    · have := h2 e; omega
    · have := h2 (by simpa using e); omega
  · have := h3.cut hk h1
    rw [hl]
    simpa [U8s] using this

theorem elem22 : Tryd.prog.elem 30 = 5 := by kernel_rfl
/-- 'b[k:]', as an equation. -/
theorem SlB.from_ {w : World} {A : Option Addr} {n c : Nat} {bs : List Nat} (h : SlB w (.slice A n c) bs) (k m : Nat) (x : Int) (hx : x = (k : Int)) (hk : k ≤ n) (hm : m = n - k) :
    ∃ B d, (∀ w', (Instr.sliceAt 30 (.slice A n c) (some (.int .i64 x)) none none).run Tryd.prog w' = .ok (.slice B m d) w') ∧ SlB w (.slice B m d) (bs.drop k) := by
  refine ⟨_, _, fun w' => ?_, h.drop hk m hm⟩
  subst hx hm
  rw [run_sliceAt_slice w' 30 _ _ _ _ (by rw [elem22]; exact Tryd.underlying30), run_slice_l w' 30 A n c (by rw [elem22]; exact Tryd.underlying30) .i64 (k : Int) (by omega) (by omega), elem22, size_u8]
  simp [Result.andThen, sliced]

theorem strOf_toList (xs : List Nat) : (strOf xs).data.toList = xs.map UInt8.ofNat := by simp [strOf]

set_option maxHeartbeats 1000000 in
set_option maxRecDepth 100000 in
theorem equal_c (v u : Value) (xs bs : List Nat) (w : World) (hv : SlB w v xs) (hu : SlB w u bs) (ha : ∀ x ∈ xs, x < 256) (hb : ∀ x ∈ bs, x < 256) :
    Calls Tryd.prog 40 #[v, u] w fun e w' => e = .returned (.bool (decide (xs = bs))) ∧ w' = w := by
  have c1 := hv.conv
  have c2 := hu.conv
  have e : decide (xs = bs) = ((strOf xs).toList == (strOf bs).toList) := by
    by_cases h : xs = bs
    · subst h; simp
    · have : strOf xs ≠ strOf bs := fun e => h ((strOf_inj ha hb).1 e)
      rw [decide_eq_false h]
      refine (beq_eq_false_iff_ne.2 fun e => this ?_).symm
      rw [ByteArray.toList_eq, ByteArray.toList_eq] at e
      exact WideShapes.bytes_inj e
  rw [e]
  clear e hv hu ha hb
  generalize strOf xs = x at c1
  generalize strOf bs = y at c2
  go_enter Tryd.func40, Tryd.ntmps40
  go_wp2_with fail
  go_ret
  exact ⟨rfl, rfl⟩

/-- Open's answer: the bytes ahead of the last four, where those are their sum. -/
def Opened (w : World) (bs : List Nat) (e : Ending) (w' : World) : Prop :=
  Below w.heap.size w w' ∧
  ((bs = frame (bs.take (bs.length - 4)) ∧ 4 ≤ bs.length ∧ ∃ g n, e = .returned (.tuple #[.slice (some ⟨g, 0, none⟩) n n, .bool true]) ∧ n = bs.length - 4 ∧ w.heap.size ≤ g ∧ Blk w' g 5 (U8s (bs.take (bs.length - 4))).toArray) ∨
   (¬ (bs = frame (bs.take (bs.length - 4)) ∧ 4 ≤ bs.length) ∧ e = .returned (.tuple #[.slice none 0 0, .bool false])))

set_option maxHeartbeats 1000000 in
set_option maxRecDepth 100000 in
theorem open_c (v : Value) (bs : List Nat) (w : World) (hv : SlB w v bs) (ht : Tab w) (hn : bs.length ≤ 281474976710656) (hby : ∀ x ∈ bs, x < 256) :
    Calls Tryd.prog 21 #[v] w (Opened w bs) := by
  obtain ⟨A, c, rfl, hc, hA, hr⟩ := hv
  have HR := Lib.hid hr
  have HT := Lib.hid ht
  have HBy := Lib.hid hby
  clear hr ht hby
  rcases Nat.lt_or_ge bs.length 4 with h4 | h4
  · have hd : decide ((bs.length : Int) - 4 < 0) = true := by simp; omega
    go_enter Tryd.func21, Tryd.ntmps21
    go_wp2_with fail
    go_ret2
    exact ⟨Below.refl _ _, .inr ⟨fun h => by omega, rfl⟩⟩
  · have hd : decide ((bs.length : Int) - 4 < 0) = false := by simp; omega
    go_enter Tryd.func21, Tryd.ntmps21
    go_wp2_with fail
    have hs0 : SlB w (.slice A bs.length c) bs := ⟨A, c, rfl, hc, hA, HR.out⟩
    have ht0 := hs0.take (k := bs.length - 4) (by omega)
    have hby0 : ∀ x ∈ bs.take (bs.length - 4), x < 256 := fun x hx => HBy.out x (List.mem_of_mem_take hx)
    refine (sumb_c _ _ w ht0 HT.out (by rw [List.length_take]; omega) hby0).mono ?_
    rintro e w1 ⟨a, b, c', d, rfl, he, hb1⟩
    have HB := Lib.hid hb1
    have HE := Lib.hid he
    have HS0 := Lib.hid hs0
    have HT0 := Lib.hid ht0
    have HBy0 := Lib.hid hby0
    have hcut := cut4 w1.heap.size
    clear he hb1 hs0 ht0 hby0
    go_wp2_with fail
    have hb2 : Below w.heap.size w (w1.alloc (.cells #[.int .u8 (a : Int), .int .u8 (b : Int), .int .u8 (c' : Int), .int .u8 (d : Int)] 44)) := HB.out.alloc HB.out.size _
    have hsl : SlB (w1.alloc (.cells #[.int .u8 (a : Int), .int .u8 (b : Int), .int .u8 (c' : Int), .int .u8 (d : Int)] 44)) (.slice (some ⟨w1.heap.size, 0, none⟩) 4 4) (le4 (crc (bs.take (bs.length - 4)))) := by
      rw [← HE.out]
      exact U8s_reads (ys := []) (t := 44) (by have := Blk.new w1 44 #[.int .u8 (a : Int), .int .u8 (b : Int), .int .u8 (c' : Int), .int .u8 (d : Int)]; simpa [U8s] using this) rfl (by simp)
    generalize w1.alloc (.cells #[.int .u8 (a : Int), .int .u8 (b : Int), .int .u8 (c' : Int), .int .u8 (d : Int)] 44) = w2 at hb2 hsl
    obtain ⟨B, dd, hsli, hdr⟩ := (HS0.out.below hb2).from_ (bs.length - 4) 4 ((bs.length : Int) - 4) (by omega) (by omega) (by omega)
    have htk := HT0.out.below hb2
    have HB2 := Lib.hid hb2
    have HSL := Lib.hid hsl
    have HDR := Lib.hid hdr
    have HTK := Lib.hid htk
    clear hb2 hsl hdr htk HE HB
    have hq1 : 0 ≤ (bs.length : Int) - 4 := by omega
    have hq2 : (bs.length : Int) - 4 ≤ (bs.length : Int) := by omega
    go_quiet ((go_at_call 40; exact Calls.quiet_of_same (equal_c _ _ _ _ _ HSL.out HDR.out (le4_lt _) (fun x hx => HBy.out x (List.mem_of_mem_drop hx)))))
    have key : (decide (le4 (crc (bs.take (bs.length - 4))) = bs.drop (bs.length - 4)) = true ∧ bs = frame (bs.take (bs.length - 4))) ∨ (decide (le4 (crc (bs.take (bs.length - 4))) = bs.drop (bs.length - 4)) = false ∧ ¬ bs = frame (bs.take (bs.length - 4))) := by
      by_cases h : le4 (crc (bs.take (bs.length - 4))) = bs.drop (bs.length - 4)
      · refine .inl ⟨decide_eq_true h, ?_⟩
        unfold frame
        rw [h, List.take_append_drop]
      · refine .inr ⟨decide_eq_false h, fun e => h ?_⟩
        have e2 : frame (bs.take (bs.length - 4)) = bs.take (bs.length - 4) ++ bs.drop (bs.length - 4) := by rw [List.take_append_drop]; exact e.symm
        unfold frame at e2
        exact List.append_cancel_left e2
    rcases key with ⟨k1, k2⟩ | ⟨k1, k2⟩
    · rw [k1]
      have HK := Lib.hid k2
      clear k1 k2
      go_wp2_with fail
      refine (joined_c _ _ _ _ _ (HTK.out.draw nq) (SlB.nil _) (by rw [List.length_take]; simp; omega)).mono ?_
      rintro e w3 ⟨g, n, rfl, h1, h2, h3, h5⟩
      rw [List.append_nil] at h1 h3
      have HF : Hid (n = bs.length - 4 ∧ w.heap.size ≤ g ∧ Blk w3 g 5 (U8s (bs.take (bs.length - 4))).toArray) := ⟨by rw [h1, List.length_take]; omega, Nat.le_trans HB2.out.size h2, h3⟩
      have HF2 : Hid (Below w.heap.size w w3) := below_trans (below_draw HB2.out nq) h5
      clear h1 h2 h3 h5
      go_wp2_with fail
      go_ret2
      exact ⟨HF2.out, .inl ⟨HK.out, h4, g, n, rfl, HF.out⟩⟩
    · rw [k1]
      have HK := Lib.hid k2
      clear k1 k2
      go_wp2_with fail
      go_ret2
      exact ⟨below_draw HB2.out nq, .inr ⟨fun h => HK.out h.1, rfl⟩⟩

end Go.Proofs.YtebdjahcahgafaaDoor

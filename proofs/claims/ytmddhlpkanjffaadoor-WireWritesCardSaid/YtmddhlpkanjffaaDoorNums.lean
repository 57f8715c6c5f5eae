/- Contracts of Num and Int. -/
import Derived.Test.YtmddhlpkanjffaaDoorPut
namespace Go.Proofs.YtmddhlpkanjffaaDoor
open Go.RowKit

/-- Bytes in a new block, and no error. -/
def FreshE (w : World) (bs : List Nat) (e : Ending) (w' : World) : Prop :=
  ∃ g n, e = .returned (.tuple #[.slice (some ⟨g, 0, none⟩) n n, .int .i64 0]) ∧ n = bs.length ∧ w.heap.size ≤ g ∧ Blk w' g 5 (U8s bs).toArray ∧ Below w.heap.size w w'

set_option maxHeartbeats 1000000 in
set_option maxRecDepth 100000 in
theorem num_neg (v : Value) (n : Int) (w : World) (h : n < 0) :
    Calls Tryd.prog 12 #[v, .int .i64 n] w fun e w' => e = .returned (.tuple #[.slice none 0 0, .int .i64 1]) ∧ w' = w := by
  have hd : decide (n < 0) = true := by simpa using h
  go_enter Tryd.func12, Tryd.ntmps12
  go_wp2_with fail
  go_ret2
  exact ⟨rfl, rfl⟩

set_option maxHeartbeats 1000000 in
set_option maxRecDepth 100000 in
theorem num_c (v : Value) (bs : List Nat) (n : Nat) (w : World) (hv : SlB w v bs) (hl : bs.length ≤ 140737488355328) (hn : n < 9223372036854775808) :
    Calls Tryd.prog 12 #[v, .int .i64 (n : Int)] w (FreshE w (bs ++ vn n)) := by
  have HV := Lib.hid hv
  clear hv
  go_enter Tryd.func12, Tryd.ntmps12
  go_wp2_with fail
  refine (put_c _ _ n _ HV.out hl (by omega)).mono ?_
  rintro e w2 ⟨g, n2, rfl, hf⟩
  have HF := Lib.hid hf
  clear hf
  go_wp2_with fail
  go_ret2
  exact ⟨g, n2, rfl, HF.out⟩

theorem xor_ones (k a : Nat) (h : a < 2 ^ k) : a ^^^ (2 ^ k - 1) = 2 ^ k - 1 - a := by
  have e : (BitVec.ofNat k a ^^^ BitVec.allOnes k) = ~~~ BitVec.ofNat k a := BitVec.xor_allOnes
  have e2 := congrArg BitVec.toNat e
  rw [BitVec.toNat_xor, BitVec.toNat_allOnes, BitVec.toNat_not, BitVec.toNat_ofNat, Nat.mod_eq_of_lt h] at e2
  exact e2

theorem zz_bits (n : Int) (h1 : -9223372036854775808 ≤ n) (h2 : n < 9223372036854775808) :
    bits BinOp.xor IntKind.u64 (IntKind.u64.wrap (IntKind.u64.wrap n * 2)) (IntKind.u64.wrap (n / 9223372036854775808)) = ((zz n : Nat) : Int) := by
  rw [IntKind.wrap_u64, IntKind.wrap_u64, IntKind.wrap_u64]
  unfold zz
  by_cases h : 0 ≤ n
  · have e1 : n % 18446744073709551616 * 2 % 18446744073709551616 = (((2 * n).toNat : Nat) : Int) := by omega
    have e2 : n / 9223372036854775808 % 18446744073709551616 = ((0 : Nat) : Int) := by omega
    rw [if_pos h, e1, e2, u64_xor_nat _ _ (by omega) (by omega), Nat.xor_zero]
  · have e1 : n % 18446744073709551616 * 2 % 18446744073709551616 = (((2 * n + 18446744073709551616).toNat : Nat) : Int) := by omega
    have e2 : n / 9223372036854775808 % 18446744073709551616 = ((2 ^ 64 - 1 : Nat) : Int) := by omega
    rw [if_neg h, e1, e2, u64_xor_nat _ _ (by omega) (by omega), xor_ones 64 _ (by omega)]
    omega

set_option maxHeartbeats 1000000 in
set_option maxRecDepth 100000 in
theorem int_c (v : Value) (bs : List Nat) (n : Int) (w : World) (hv : SlB w v bs) (hl : bs.length ≤ 140737488355328) (h1 : -9223372036854775808 ≤ n) (h2 : n < 9223372036854775808) :
    Calls Tryd.prog 13 #[v, .int .i64 n] w (Fresh w (bs ++ vn (zz n))) := by
  have HV := Lib.hid hv
  clear hv
  go_enter Tryd.func13, Tryd.ntmps13
  go_wp2_with fail
  rw [zz_bits n h1 h2]
  refine (put_c _ _ (zz n) _ HV.out hl (zz_lt h1 h2)).mono ?_
  rintro e w2 ⟨g, n2, rfl, hf⟩
  have HF := Lib.hid hf
  clear hf
  go_wp2_with fail
  go_ret
  exact ⟨g, n2, rfl, HF.out⟩

end Go.Proofs.YtmddhlpkanjffaaDoor

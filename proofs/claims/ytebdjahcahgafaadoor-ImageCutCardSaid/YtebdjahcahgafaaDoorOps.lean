/- What Go's bit operations come to on plain numbers. -/
import Derived.WalkKit
namespace Go.Proofs.YtebdjahcahgafaaDoor

theorem i64_and1 (n : Int) : bits .and .i64 n 1 = n % 2 := by
  have h1 : (BitVec.ofInt 64 1).toNat = 2 ^ 1 - 1 := by decide
  have key : (BitVec.ofInt 64 n &&& BitVec.ofInt 64 1).toNat = (n % ((2 ^ 64 : Nat) : Int)).toNat % 2 ^ 1 := by
    rw [BitVec.toNat_and, BitVec.toNat_ofInt, h1, Nat.and_two_pow_sub_one_eq_mod]
  show IntKind.i64.wrap ((BitVec.ofInt 64 n &&& BitVec.ofInt 64 1).toNat : Nat) = n % 2
  rw [key, IntKind.wrap_i64]
  omega

theorem i64_and63 (n : Int) : bits .and .i64 n 63 = n % 64 := by
  have h1 : (BitVec.ofInt 64 63).toNat = 2 ^ 6 - 1 := by decide
  have key : (BitVec.ofInt 64 n &&& BitVec.ofInt 64 63).toNat = (n % ((2 ^ 64 : Nat) : Int)).toNat % 2 ^ 6 := by
    rw [BitVec.toNat_and, BitVec.toNat_ofInt, h1, Nat.and_two_pow_sub_one_eq_mod]
  show IntKind.i64.wrap ((BitVec.ofInt 64 n &&& BitVec.ofInt 64 63).toNat : Nat) = n % 64
  rw [key, IntKind.wrap_i64]
  omega

/-- A bit that is put: 'byte(x>>l&1) << k', with what is there. -/
theorem put_val (b x l k : Nat) (hb : b < 256) (hl : l ≤ 64) (hk : k ≤ 7) :
    bits BinOp.or IntKind.u8 (b : Int) (bits BinOp.and IntKind.i64 ((x : Int) / 2 ^ min l 64) 1 % 256 * 2 ^ k % 256) = ((b ||| ((x / 2 ^ l % 2) <<< k) : Nat) : Int) := by
  rw [i64_and1, Nat.min_eq_left hl]
  have e : ((x : Int) / 2 ^ l) % 2 % 256 * 2 ^ k % 256 = (((x / 2 ^ l % 2) <<< k : Nat) : Int) := by
    have h2 : x / 2 ^ l % 2 < 2 := Nat.mod_lt _ (by omega)
    have h0 : ((x : Int) / 2 ^ l) % 2 = ((x / 2 ^ l % 2 : Nat) : Int) := by push_cast; rfl
    rw [h0, Nat.shiftLeft_eq]
    generalize x / 2 ^ l % 2 = y at h2
    have hp : 2 ^ k ≤ 2 ^ 7 := Nat.pow_le_pow_right (by omega) hk
    have hq : ((2 : Int) ^ k) = ((2 ^ k : Nat) : Int) := by push_cast; rfl
    rw [hq]
    generalize 2 ^ k = z at hp
    have hy : y = 0 ∨ y = 1 := by omega
    rcases hy with rfl | rfl
    · simp
    · have h7 : (2 : Nat) ^ 7 = 128 := by decide
      rw [h7] at hp
      push_cast
      omega
  rw [e]
  have hlt : (x / 2 ^ l % 2) <<< k < 256 := by
    rw [Nat.shiftLeft_eq]
    have hp : 2 ^ k ≤ 2 ^ 7 := Nat.pow_le_pow_right (by omega) hk
    have h2 : x / 2 ^ l % 2 < 2 := Nat.mod_lt _ (by omega)
    have : x / 2 ^ l % 2 * 2 ^ k ≤ 1 * 2 ^ 7 := Nat.mul_le_mul (by omega) hp
    omega
  exact u8_or_nat b _ hb hlt

theorem cast_div (b j : Nat) : (b : Int) / 2 ^ j = ((b / 2 ^ j : Nat) : Int) := by push_cast; rfl

theorem u8_bit (b j : Nat) (hb : b < 256) : bits BinOp.and IntKind.u8 ((b : Int) / 2 ^ j) 1 = ((b / 2 ^ j % 2 : Nat) : Int) := by
  rw [cast_div]
  have h := u8_and_nat (b / 2 ^ j) 1 (Nat.lt_of_le_of_lt (Nat.div_le_self _ _) hb) (by omega)
  rw [nat_mask1] at h
  exact h

/-- A bit that is taken: 'v<<1 | int(b>>j&1)'. -/
theorem take_val (v b j : Nat) (hb : b < 256) (hv : v < 4611686018427387904) :
    bits BinOp.or IntKind.i64 ((v : Int) * 2) (RowKit.wrap64 (bits BinOp.and IntKind.u8 ((b : Int) / 2 ^ j) 1)) = ((2 * v + b / 2 ^ j % 2 : Nat) : Int) := by
  rw [u8_bit b j hb]
  have h2 : b / 2 ^ j % 2 < 2 := Nat.mod_lt _ (by omega)
  generalize b / 2 ^ j % 2 = y at h2
  rw [IntWalk.wrap64_in _ ⟨by omega, by omega⟩]
  have e63 : (2 : Int) ^ 63 = 9223372036854775808 := by decide
  rw [bits_join .i64 63 (by decide) (fun n h0 h1 => by rw [e63] at h1; rw [IntKind.wrap_i64]; omega) 1 ((v : Int) * 2) (y : Int) (by omega) (by omega) (by rw [e63]; omega) (by omega) (by omega) (by rw [e63]; omega)]
  omega

end Go.Proofs.YtebdjahcahgafaaDoor

/- Contracts of ReadNum, ReadInt and ReadText. -/
import Derived.Test.YtebdjahcahgafaaDoorRead
namespace Go.Proofs.YtebdjahcahgafaaDoor
open Go.RowKit

theorem rd_le (most : Nat) (l : List Nat) : ∀ i acc z c, i ≤ most → rd most i acc l = .ok (z, c) → c ≤ most := by
  induction l with
  | nil => intro i acc z c _ h; rw [rd_nil] at h; split at h <;> cases h
  | cons x r ih =>
    intro i acc z c hi h
    rw [rd_cons] at h
    by_cases h1 : i = most
    · rw [if_pos h1] at h; cases h
    rw [if_neg h1] at h
    split at h
    · exact ih _ _ _ _ (by omega) h
    · split at h
      · cases h
      · injection h with h
        injection h with h4 h5
        omega

theorem rdAns_lt {bs : List Nat} {at_ : Int} {most z p : Nat} (hm : most ≤ 10) (h : rdAns bs at_ most = .ok (z, p)) : z < 18446744073709551616 ∧ (most ≤ 9 → z < 9223372036854775808) := by
  unfold rdAns at h
  split at h
  · cases h
  · cases hr : rd most 0 0 (bs.drop at_.toNat) with
    | error e => rw [hr] at h; cases h
    | ok q =>
      obtain ⟨z', c⟩ := q
      rw [hr] at h
      injection h with h
      injection h with h1 h2
      subst h1
      have hl := rd_lt most _ 0 0 z' c hm (by omega) (by decide) (by omega) hr
      have hc := rd_le most _ 0 0 z' c (by omega) hr
      exact ⟨hl.1, fun h9 => hl.2 (by omega)⟩

theorem uz_zero : bits BinOp.xor IntKind.i64 0 (wrap64 (-wrap64 (bits BinOp.and IntKind.u64 0 1))) = 0 := by kernel_rfl

theorem uz_val (z : Nat) (h : z < 18446744073709551616) : bits BinOp.xor IntKind.i64 ((z : Int) / 2) (wrap64 (-wrap64 (bits BinOp.and IntKind.u64 (z : Int) 1))) = uz z := by
  have e1 : bits BinOp.and IntKind.u64 (z : Int) 1 = ((z % 2 : Nat) : Int) := by
    have := u64_and_nat z 1 h (by omega)
    rw [show ((1 : Nat) : Int) = 1 from rfl] at this
    rw [this, show (1 : Nat) = 2 ^ 1 - 1 from rfl, Nat.and_two_pow_sub_one_eq_mod]
  have e3 : wrap64 ((z % 2 : Nat) : Int) = ((z % 2 : Nat) : Int) := IntWalk.wrap64_in _ ⟨by omega, by omega⟩
  have e4 : wrap64 (-((z % 2 : Nat) : Int)) = -((z % 2 : Nat) : Int) := IntWalk.wrap64_in _ ⟨by omega, by omega⟩
  rw [e1, e3, e4]
  have e2 : (z : Int) / 2 = ((z / 2 : Nat) : Int) := by omega
  rw [e2]
  unfold uz
  have hq : z / 2 < 9223372036854775808 := by omega
  generalize z / 2 = q at hq
  have hz : z % 2 = 0 ∨ z % 2 = 1 := by omega
  rcases hz with hz | hz
  · rw [hz, if_pos rfl]
    show IntKind.i64.wrap ((BitVec.ofInt 64 (q : Int) ^^^ BitVec.ofInt 64 (-((0 : Nat) : Int))).toNat : Int) = (q : Int)
    have : (BitVec.ofInt 64 (-((0 : Nat) : Int))) = 0#64 := rfl
    rw [this, BitVec.xor_zero, BitVec.toNat_ofInt, IntKind.wrap_i64]
    omega
  · rw [hz, if_neg (by omega)]
    show IntKind.i64.wrap ((BitVec.ofInt 64 (q : Int) ^^^ BitVec.ofInt 64 (-((1 : Nat) : Int))).toNat : Int) = -(q : Int) - 1
    have : (BitVec.ofInt 64 (-((1 : Nat) : Int))) = BitVec.allOnes 64 := rfl
    rw [this, BitVec.xor_allOnes, BitVec.toNat_not, BitVec.toNat_ofInt, IntKind.wrap_i64]
    omega

/-- What ReadNum answers. -/
def numVal : Except Nat (Nat × Nat) → Value
  | .ok (z, c) => .tuple #[.int .i64 (z : Int), .int .i64 (c : Int), .int .i64 0]
  | .error e => .tuple #[.int .i64 0, .int .i64 0, .int .i64 (e : Int)]
/-- What ReadInt answers. -/
def intVal : Except Nat (Nat × Nat) → Value
  | .ok (z, c) => .tuple #[.int .i64 (uz z), .int .i64 (c : Int), .int .i64 0]
  | .error e => .tuple #[.int .i64 0, .int .i64 0, .int .i64 (e : Int)]

set_option maxHeartbeats 1000000 in
set_option maxRecDepth 100000 in
theorem readnum_c (v : Value) (bs : List Nat) (at_ : Int) (w : World) (hv : SlB w v bs) (hn : bs.length ≤ 281474976710656) (h1 : -9223372036854775808 ≤ at_) (h2 : at_ < 9223372036854775808) (hby : ∀ x ∈ bs, x < 256) :
    Calls Tryd.prog 99 #[v, .int .i64 at_] w fun e w' => e = .returned (numVal (rdAns bs at_ 9)) ∧ Below w.heap.size w w' := by
  have HV := Lib.hid hv
  have HBy := Lib.hid hby
  clear hv hby
  go_enter Tryd.func99, Tryd.ntmps99
  go_wp2_with fail
  refine (read_c v bs at_ 9 w HV.out (by omega) hn h1 h2 HBy.out).mono ?_
  rintro e w1 ⟨rfl, hb⟩
  have HB := Lib.hid hb
  clear hb
  cases hr : rdAns bs at_ 9 with
  | error e =>
    have HR := Lib.hid hr
    clear hr
    simp only [rdVal]
    go_wp2_with fail
    go_ret3
    exact ⟨by rw [HR.out]; rfl, HB.out⟩
  | ok q =>
    obtain ⟨z, p⟩ := q
    have hz := (rdAns_lt (by omega) hr).2 (by omega)
    have HR := Lib.hid hr
    clear hr
    simp only [rdVal]
    go_wp2_with fail
    go_ret3
    exact ⟨by rw [HR.out]; rfl, HB.out⟩

set_option maxHeartbeats 1000000 in
set_option maxRecDepth 100000 in
theorem readint_c (v : Value) (bs : List Nat) (at_ : Int) (w : World) (hv : SlB w v bs) (hn : bs.length ≤ 281474976710656) (h1 : -9223372036854775808 ≤ at_) (h2 : at_ < 9223372036854775808) (hby : ∀ x ∈ bs, x < 256) :
    Calls Tryd.prog 100 #[v, .int .i64 at_] w fun e w' => e = .returned (intVal (rdAns bs at_ 10)) ∧ Below w.heap.size w w' := by
  have HV := Lib.hid hv
  have HBy := Lib.hid hby
  clear hv hby
  go_enter Tryd.func100, Tryd.ntmps100
  go_wp2_with fail
  refine (read_c v bs at_ 10 w HV.out (by omega) hn h1 h2 HBy.out).mono ?_
  rintro e w1 ⟨rfl, hb⟩
  have HB := Lib.hid hb
  clear hb
  cases hr : rdAns bs at_ 10 with
  | error e =>
    have HR := Lib.hid hr
    clear hr
    have hu := uz_zero
    simp only [rdVal]
    go_wp2_with fail
    go_ret3
    exact ⟨by rw [HR.out]; rfl, HB.out⟩
  | ok q =>
    obtain ⟨z, p⟩ := q
    have hz := (rdAns_lt (by omega) hr).1
    have hz2 : z / 2 < 9223372036854775808 := by omega
    have HR := Lib.hid hr
    clear hr
    have hu := uz_val z hz
    simp only [rdVal]
    go_wp2_with fail
    go_ret3
    exact ⟨by rw [HR.out]; rfl, HB.out⟩

end Go.Proofs.YtebdjahcahgafaaDoor

/- The contracts of link's leaves: newer, Newer, pair, countOf, rightSize, with, Last, New. -/
import Derived.Test.YtmlbhlfjaagcaaaDoorFrm
import Derived.Test.YtmlbhlfjaagcaaaDoorOps
import Derived.Test.YtmlbhlfjaagcaaaDoorLMap
import Derived.IntWalk
import Derived.Deep.QuietTactic
import Derived.BigQuiet
namespace Go.Proofs.YtmlbhlfjaagcaaaDoor
open Go.RowKit

/-- How far a is ahead of b, of numbers modulo 65536. -/
def aheadN (a b : Nat) : Nat := (a + (65536 - b)) % 65536
/-- Is a newer than b? -/
def newerN (a b : Nat) : Bool := decide (0 < aheadN a b) && decide (aheadN a b < 32768)
theorem ahead_lt (a b : Nat) : aheadN a b < 65536 := Nat.mod_lt _ (by omega)

theorem u16_wrap (x : Int) : IntKind.u16.wrap x = x % 65536 := by simp [IntKind.wrap, IntKind.bits, IntKind.signed]
theorem u16_sub (a b : Nat) (hb : b < 65536) : IntKind.u16.wrap ((a : Int) - (b : Int)) = ((aheadN a b : Nat) : Int) := by
  rw [u16_wrap]; unfold aheadN; omega

theorem ret_newer {k : Nat} (h1 : decide (0 < k) = true) (h : (((k : Int) < 32768) ↔ k < 32768)) : Ending.returned (.bool (decide ((k : Int) < 32768))) = .returned (.bool (decide (0 < k) && decide (k < 32768))) := by
  rw [h1, Bool.true_and, decide_eq_decide.2 h]

theorem newer_c (a b : Nat) (w : World) (hb : b < 65536) :
    Calls Tryd.prog 25 #[.int .u16 (a : Int), .int .u16 (b : Int)] w fun e w' => e = .returned (.bool (newerN a b)) ∧ w = w' := by
  have e := u16_sub a b hb
  have hl := ahead_lt a b
  unfold newerN
  generalize aheadN a b = k at e hl
  clear hb
  rcases Nat.eq_zero_or_pos k with h | h
  · subst h
    go_enter Tryd.func25, Tryd.ntmps25
    go_wp2_with fail
    go_ret
    exact ⟨by simp, rfl⟩
  · have h1 : decide (0 < k) = true := by simpa using h
    go_enter Tryd.func25, Tryd.ntmps25
    go_wp2_with fail
    go_ret
    exact ⟨ret_newer h1 (by omega), rfl⟩

theorem bnewer_c (a b : Int) (w : World) :
    Calls Tryd.prog 12 #[.int .i64 a, .int .i64 b] w fun e w' => e = .returned (.bool (newerN (a % 65536).toNat (b % 65536).toNat)) ∧ w = w' := by
  have e1 : IntKind.u16.wrap a = (((a % 65536).toNat : Nat) : Int) := by rw [u16_wrap]; omega
  have e2 : IntKind.u16.wrap b = (((b % 65536).toNat : Nat) : Int) := by rw [u16_wrap]; omega
  have hb : (b % 65536).toNat < 65536 := by omega
  generalize (a % 65536).toNat = x at e1
  generalize (b % 65536).toNat = y at e2 hb
  go_enter Tryd.func12, Tryd.ntmps12
  go_wp2_with fail
  refine (newer_c x y _ hb).mono ?_
  rintro e w' ⟨rfl, rfl⟩
  go_wp2_with fail
  go_ret
  exact ⟨rfl, rfl⟩

theorem join8 (a b : Nat) (hb : b < 256) : a * 256 ||| b = a * 256 + b := nat_join 8 _ _ (by omega) (by omega)
theorem join16 (a b : Nat) (hb : b < 65536) : a * 65536 ||| b = a * 65536 + b := nat_join 16 _ _ (by omega) (by omega)

theorem pair_c (a b : Nat) (w : World) (ha : a < 256) (hb : b < 256) :
    Calls Tryd.prog 44 #[.int .u8 (a : Int), .int .u8 (b : Int)] w fun e w' => e = .returned (.int .u16 ((a * 256 + b : Nat) : Int)) ∧ w = w' := by
  have e : bits BinOp.or IntKind.u16 ((a : Int) * 256) (b : Int) = ((a * 256 + b : Nat) : Int) := by
    rw [← join8 a b hb, ← u16_or_nat (a * 256) b (by omega) (by omega), Int.natCast_mul]; rfl
  generalize (a * 256 + b) = k at e
  go_enter Tryd.func44, Tryd.ntmps44
  go_wp2_with fail
  go_ret
  exact ⟨rfl, rfl⟩

/-- How many parts a message of n bytes has. -/
def manyN (n : Nat) : Nat := max 1 ((n + 199) / 200)
theorem many_le {n : Nat} (h : n ≤ 2000) : manyN n ≤ 10 := by unfold manyN; omega
theorem many_pos (n : Nat) : 1 ≤ manyN n := by unfold manyN; omega

theorem count_c (n : Nat) (w : World) (hn : n ≤ 2000) :
    Calls Tryd.prog 31 #[.int .i64 (n : Int)] w fun e w' => e = .returned (.int .i64 (manyN n : Int)) ∧ w = w' := by
  have e1 : (n : Int) + 200 - 1 = ((n + 199 : Nat) : Int) := by omega
  have e2 : (n : Int) + 199 = ((n + 199 : Nat) : Int) := by omega
  obtain ⟨q, hq⟩ : ∃ q : Nat, q = (n + 199) / 200 := ⟨_, rfl⟩
  have e3 : ((n : Int) + 200 - 1).tdiv 200 = (q : Int) := by rw [e1, hq]; rfl
  have e4 : ((n : Int) + 200 - 1) / 200 = (q : Int) := by rw [e1, hq]; rfl
  have e5 : (if (1 : Int) < (q : Int) then (q : Int) else 1) = (manyN n : Int) := by
    unfold manyN; rw [← hq]; split <;> omega
  have hl : q ≤ 10 := by omega
  clear hq e1 e2 
  generalize manyN n = k at e5
  go_enter Tryd.func31, Tryd.ntmps31
  go_wp2_with fail
  go_ret
  exact ⟨rfl, rfl⟩

/-- A part, as a value. -/
abbrev partV (so : Bool) (la bi nu ix ct : Nat) (v : Value) : Value := .agg #[.bool so, .int .u16 (la : Int), .int .u32 (bi : Int), .int .u16 (nu : Int), .int .i64 (ix : Int), .int .i64 (ct : Int), v]
abbrev acksV (so : Bool) (la bi : Nat) : Value := .agg #[.bool so, .int .u16 (la : Int), .int .u32 (bi : Int)]

/-- Has a part of n bytes as many as its place asks for? -/
def rightB (ix ct n : Nat) : Bool := if ix + 1 < ct then decide (n = 200) else decide (n ≤ 200) && (decide (0 < n) || decide (ct = 1))

theorem lbel1 (w : World) (o : Obj) : Below w.heap.size w (w.alloc o) := (Below.refl w.heap.size w).alloc (Nat.le_refl _) o

theorem ret_bool {a b : Bool} (h : a = b) : Ending.returned (.bool a) = .returned (.bool b) := by rw [h]
theorem right_a (ix ct n : Nat) (h : (ix : Int) < (ct : Int) - 1) : ((n : Int) == 200) = rightB ix ct n := by
  unfold rightB; rw [if_pos (by omega), Bool.eq_iff_iff]; simp; omega
theorem right_b (ix ct : Nat) (h : (ct : Int) - 1 ≤ (ix : Int)) : ((ct : Int) == 1) = rightB ix ct 0 := by
  unfold rightB; rw [if_neg (by omega), Bool.eq_iff_iff]; simp; omega
theorem right_d (ix ct n : Nat) (h : (ct : Int) - 1 ≤ (ix : Int)) (h1 : (n : Int) ≤ 200) (h2 : ¬ n = 0) : true = rightB ix ct n := by
  unfold rightB; rw [if_neg (by omega), Bool.eq_iff_iff]; simp; omega
theorem right_e (ix ct n : Nat) (h : (ct : Int) - 1 ≤ (ix : Int)) (h1 : 200 < (n : Int)) : false = rightB ix ct n := by
  unfold rightB; rw [if_neg (by omega), Bool.eq_iff_iff]; simp; omega

theorem right_c (so : Bool) (la bi nu ix ct n c : Nat) (A : Option Addr) (w : World) (hc : ct < 1000) (hn : n < 1000000000000000) :
    Calls Tryd.prog 45 #[partV so la bi nu ix ct (.slice A n c)] w fun e w' => e = .returned (.bool (rightB ix ct n)) ∧ Below w.heap.size w w' := by
  go_enter Tryd.func45, Tryd.ntmps45
  go_wp2_with fail
  · go_ret
    exact ⟨ret_bool (right_a ix ct n (by assumption)), lbel1 _ _⟩
  · go_ret
    rename_i h1 h2 h3
    subst h3
    exact ⟨ret_bool (right_b ix ct h1), lbel1 _ _⟩
  · go_ret
    rename_i h1 h2 h3
    exact ⟨ret_bool (right_d ix ct n h1 h2 h3), lbel1 _ _⟩
  · go_ret
    rename_i h1 h2
    exact ⟨ret_bool (right_e ix ct n h1 h2), lbel1 _ _⟩

/-- The ack bits once a message was told that is k numbers ahead. -/
def withN (b k : Nat) : Nat := (b * 2 ^ min k 32 % 4294967296) ||| (2 ^ min (k - 1) 32 % 4294967296)
theorem with_lt (b k : Nat) : withN b k < 4294967296 :=
  Nat.or_lt_two_pow (n := 32) (Nat.mod_lt _ (by omega)) (Nat.mod_lt _ (by omega))

theorem lbel3 (w : World) (o1 o2 o3 : Obj) : Below w.heap.size w (((w.alloc o1).alloc o2).alloc o3) :=
  (((Below.refl w.heap.size w).alloc (Nat.le_refl _) o1).alloc (by simp) o2).alloc (by simp; omega) o3

theorem with_bits (bi k j : Nat) (hj : j = k - 1) : bits BinOp.or IntKind.u32 ((bi : Int) * 2 ^ min k 32 % 4294967296) (2 ^ min j 32 % 4294967296) = ((withN bi k : Nat) : Int) := by
  subst hj
  unfold withN
  rw [← u32_or_nat _ _ (Nat.mod_lt _ (by omega)) (Nat.mod_lt _ (by omega))]
  congr 1
  
theorem with_c (la bi n : Nat) (w : World) (hl : la < 65536) (hk : 1 ≤ aheadN n la) :
    Calls Tryd.prog 47 #[acksV true la bi, .int .u16 (n : Int)] w fun e w' => e = .returned (acksV true n (withN bi (aheadN n la))) ∧ Below w.heap.size w w' := by
  have e := u16_sub n la hl
  have hj := ahead_lt n la
  generalize aheadN n la = k at e hj hk
  obtain ⟨j, hj1⟩ : ∃ j, j = k - 1 := ⟨_, rfl⟩
  have e1 : IntKind.u16.wrap ((k : Int) - 1) = (j : Int) := by rw [u16_wrap]; omega
  have e2 := with_bits bi k j hj1
  have HB := Lib.hid (lbel3 w)
  clear hj1
  generalize withN bi k = z at e2
  go_enter Tryd.func47, Tryd.ntmps47
  go_wp2_with fail
  exact bodyPost_ret (v := acksV true n z) (by simp [results, Tryd.results47, go_sem]) rfl ⟨rfl, HB.out _ _ _⟩

theorem with0_c (la bi n : Nat) (w : World) :
    Calls Tryd.prog 47 #[acksV false la bi, .int .u16 (n : Int)] w fun e w' => e = .returned (acksV true n 0) ∧ Below w.heap.size w w' := by
  have HB := Lib.hid (lbel3 w)
  go_enter Tryd.func47, Tryd.ntmps47
  go_wp2_with fail
  exact bodyPost_ret (v := acksV true n 0) (by simp [results, Tryd.results47, go_sem]) rfl ⟨rfl, HB.out _ _ _⟩

end Go.Proofs.YtmlbhlfjaagcaaaDoor

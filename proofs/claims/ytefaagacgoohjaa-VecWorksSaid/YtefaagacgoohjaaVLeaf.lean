/- The contracts of vec's leaves: apart, middle, square, plus, less, and the closures of Clamp, Scale and Near. -/
import Derived.Test.YtefaagacgoohjaaMul
import Derived.Test.YtefaagacgoohjaaMem
import Derived.BigQuiet
import Derived.Deep.QuietTactic
import Derived.Laws.Externs
namespace Go.Proofs.Ytefaagacgoohjaa
open Go.RowKit

/-- A pair. -/
abbrev vecV (x y : Int) : Value := .agg #[.int .i64 x, .int .i64 y]
/-- A number of 128 bits. -/
abbrev wideV (n : Nat) : Value := .agg #[.int .u64 ((n / 18446744073709551616 : Nat) : Int), .int .u64 ((n % 18446744073709551616 : Nat) : Int)]

/-- The world's equation, turned about. -/
theorem turn {f : Nat} {args : Array Value} {w : World} {v : Value} (h : Calls Try.prog f args w fun e w' => e = .returned v ∧ w = w') : Calls Try.prog f args w fun e w' => e = .returned v ∧ w' = w := h.mono fun _ _ ⟨a, b⟩ => ⟨a, b.symm⟩

/-- An int. -/
def I64 (a : Int) : Prop := -9223372036854775808 ≤ a ∧ a < 9223372036854775808

theorem apart_c (m n : Int) (w : World) (hm : I64 m) (hn : I64 n) :
    Calls Try.prog 47 #[.int .i64 m, .int .i64 n] w fun e w' => e = .returned (.int .u64 ((m - n).natAbs : Int)) ∧ w = w' := by
  unfold I64 at *
  go_enter Try.func47, Try.ntmps47
  go_wp2
  all_goals
    go_ret
    exact ⟨ret_int (by simp only [IntKind.wrap_u64]; omega), rfl⟩

theorem nat_both (n : Nat) : ∀ a b : Nat, a ≤ n → a + b = 2 * (a &&& b) + (a ^^^ b) := by
  induction n with
  | zero => intro a b h; obtain rfl : a = 0 := by omega
            simp
  | succ n ih =>
    intro a b h
    by_cases ha : a = 0
    · subst ha; simp
    have h1 := ih (a / 2) (b / 2) (by omega)
    have e1 : (a &&& b) / 2 = a / 2 &&& b / 2 := Nat.and_div_two
    have e2 : (a ^^^ b) / 2 = a / 2 ^^^ b / 2 := Nat.xor_div_two
    have e3 : (a ^^^ b) % 2 = 1 ↔ ¬ (a % 2 = 1 ↔ b % 2 = 1) := Nat.xor_mod_two_eq_one
    have e4 : (a &&& b) % 2 = 1 ↔ (a % 2 = 1 ∧ b % 2 = 1) := Nat.and_mod_two_eq_one
    rw [← e1, ← e2] at h1
    omega

theorem ofInt_nat (a : Int) : ((BitVec.ofInt 64 a).toNat : Int) = a % 18446744073709551616 := by
  rw [BitVec.toNat_ofInt]
  omega
theorem mid_int (m n : Int) (hm : I64 m) (hn : I64 n) : 2 * bits .and .i64 m n + bits .xor .i64 m n = m + n ∧ I64 (bits .and .i64 m n) ∧ I64 (bits .xor .i64 m n) := by
  unfold I64 at *
  have a1 := msb_i64 m hm.1 hm.2
  have a2 := msb_i64 n hn.1 hn.2
  have a3 := ofInt_nat m
  have a4 := ofInt_nat n
  rw [and_i64, xor_i64]
  generalize BitVec.ofInt 64 m = x at *
  generalize BitVec.ofInt 64 n = y at *
  have h := nat_both x.toNat x.toNat y.toNat (Nat.le_refl _)
  rw [← BitVec.toNat_and, ← BitVec.toNat_xor] at h
  have m1 : (x &&& y).msb = (x.msb && y.msb) := BitVec.msb_and
  have m2 : (x ^^^ y).msb = (x.msb ^^ y.msb) := BitVec.msb_xor
  have t1 := BitVec.toInt_eq_msb_cond (x &&& y)
  have t2 := BitVec.toInt_eq_msb_cond (x ^^^ y)
  have u1 := (x &&& y).isLt
  have u2 := (x ^^^ y).isLt
  have v1 := BitVec.msb_eq_decide (x &&& y)
  have v2 := BitVec.msb_eq_decide (x ^^^ y)
  rw [m1] at t1 v1
  rw [m2] at t2 v2
  rw [a1, a2] at t1 t2 v1 v2
  generalize (x &&& y).toInt = p at *
  generalize (x ^^^ y).toInt = q at *
  generalize (x &&& y).toNat = pn at *
  generalize (x ^^^ y).toNat = qn at *
  by_cases k1 : m < 0 <;> by_cases k2 : n < 0 <;> simp [k1, k2] at t1 t2 v1 v2 <;> omega

theorem middle_c (m n : Int) (w : World) (hm : I64 m) (hn : I64 n) :
    Calls Try.prog 49 #[.int .i64 m, .int .i64 n] w fun e w' => e = .returned (.int .i64 ((m + n) / 2)) ∧ w = w' := by
  obtain ⟨h0, h2, h3⟩ := mid_int m n hm hn
  have h1 : bits .and .i64 m n + bits .xor .i64 m n / 2 = (m + n) / 2 := by omega
  clear h0
  unfold I64 at *
  go_enter Try.func49, Try.ntmps49
  go_wp2
  go_ret
  exact ⟨rfl, rfl⟩

/-- What Clamp makes of a part. -/
def clampF (n most : Int) : Int := if n < -most then -most else if most < n then most else n

theorem clamp1_c (n most : Int) (g : Nat) (w : World) (hm : I64 most) (h0 : 0 ≤ most) (hg : w.cell? ⟨g, 0, none⟩ = some (.int .i64 most)) :
    Calls Try.prog 29 #[.int .i64 n, .pointer (some ⟨g, 0, none⟩)] w fun e w' => e = .returned (.int .i64 (clampF n most)) ∧ w = w' := by
  unfold I64 at *
  go_enter Try.func29, Try.ntmps29
  go_wp2
  all_goals
    go_ret
    exact ⟨ret_int (by unfold clampF; split <;> (try split) <;> omega), rfl⟩

theorem scale1_c (n k : Int) (g : Nat) (w : World) (hn : I64 n) (hk : I64 k) (hg : w.cell? ⟨g, 0, none⟩ = some (.int .i64 k)) :
    Calls Try.prog 35 #[.int .i64 n, .pointer (some ⟨g, 0, none⟩)] w fun e w' => e = .returned (.int .i64 (mulF n k)) ∧ w = w' := by
  have HM := Lib.hid (fun w => mul_c n k w hn.1 hn.2 hk.1 hk.2)
  unfold I64 at *
  go_enter Try.func35, Try.ntmps35
  go_wp2_with fail
  refine (HM.out _).mono ?_
  rintro e w1 ⟨rfl, rfl⟩
  go_wp2_with fail
  go_ret
  exact ⟨rfl, rfl⟩

theorem near1_c (m n r : Int) (g : Nat) (w : World) (hm : I64 m) (hn : I64 n) (hr : I64 r) (h0 : 0 ≤ r) (hg : w.cell? ⟨g, 0, none⟩ = some (.int .i64 r)) :
    Calls Try.prog 46 #[.int .i64 m, .int .i64 n, .pointer (some ⟨g, 0, none⟩)] w fun e w' => e = .returned (.bool (decide (((m - n).natAbs : Int) ≤ r))) ∧ ∃ k, w' = w.drewN k := by
  have HA := Lib.hid (fun w => apart_c m n w hm hn)
  unfold I64 at *
  go_enter Try.func46, Try.ntmps46
  go_wp2_with fail
  go_quiet ((go_at_call 47; exact Calls.quiet_of_same (turn (HA.out _))))
  go_wp2_with fail
  go_ret
  exact ⟨rfl, _, rfl⟩

theorem square_c (n : Int) (w : World) (hn : I64 n) :
    Calls Try.prog 39 #[.int .i64 n] w fun e w' => e = .returned (wideV (n.natAbs * n.natAbs)) ∧ Below w.heap.size w w' := by
  have HA := Lib.hid (fun w => apart_c n 0 w hn (by unfold I64; omega))
  rw [Int.sub_zero] at HA
  have HM := Lib.hid (fun w => Try.bits_Mul64 n.natAbs n.natAbs (by unfold I64 at hn; omega) (by unfold I64 at hn; omega) w)
  clear hn
  generalize n.natAbs * n.natAbs = p at *
  go_enter Try.func39, Try.ntmps39
  go_wp2_with (first | (go_at_call 47; refine (HA.out _).mono ?_; rintro e w1 ⟨rfl, rfl⟩) | (go_at_call 52; refine (HM.out _).mono ?_; rintro e w1 ⟨rfl, rfl⟩))
  exact bodyPost_ret (v := wideV p) (by simp [results, Try.results39, go_sem]) rfl ⟨rfl, (Below.refl _ _).alloc (Nat.le_refl _) _⟩

theorem add64 (x y c : Nat) (hx : x < 18446744073709551616) (hy : y < 18446744073709551616) (hc : c ≤ 1) (w : World) :
    (callFunc 59 #[.int .u64 x, .int .u64 y, .int .u64 c]).run Try.prog w =
      .ok (.value (.tuple #[.int .u64 (((x + y + c) % 18446744073709551616 : Nat) : Int), .int .u64 (((x + y + c) / 18446744073709551616 : Nat) : Int)])) w := by
  rw [run_callFunc_extern Try.func59 (by kernel_rfl) (by kernel_rfl) (by kernel_rfl) (e := add64Entry) (by kernel_rfl), run_add64 x y c (by omega) (by omega) (by omega) (by omega)]
  simp only [Result.andThen]
  congr 5 <;> omega

theorem plus_c (a b : Nat) (w : World) (h : a + b < 340282366920938463463374607431768211456) :
    Calls Try.prog 40 #[wideV a, wideV b] w fun e w' => e = .returned (wideV (a + b)) ∧ Below w.heap.size w w' := by
  obtain ⟨ah, hah⟩ : ∃ x, x = a / 18446744073709551616 := ⟨_, rfl⟩
  obtain ⟨al, hal⟩ : ∃ x, x = a % 18446744073709551616 := ⟨_, rfl⟩
  obtain ⟨bh, hbh⟩ : ∃ x, x = b / 18446744073709551616 := ⟨_, rfl⟩
  obtain ⟨bl, hbl⟩ : ∃ x, x = b % 18446744073709551616 := ⟨_, rfl⟩
  obtain ⟨cl, hcl⟩ : ∃ x, x = (a + b) % 18446744073709551616 := ⟨_, rfl⟩
  obtain ⟨ch, hch⟩ : ∃ x, x = (a + b) / 18446744073709551616 := ⟨_, rfl⟩
  obtain ⟨cc, hcc⟩ : ∃ x, x = (al + bl + 0) / 18446744073709551616 := ⟨_, rfl⟩
  have q1 := add64 al bl 0 (by omega) (by omega) (by omega)
  have q2 := add64 ah bh cc (by omega) (by omega) (by omega)
  rw [show (al + bl + 0) % 18446744073709551616 = cl by omega, ← hcc] at q1
  rw [show (ah + bh + cc) % 18446744073709551616 = ch by omega, show (ah + bh + cc) / 18446744073709551616 = 0 by omega] at q2
  simp only [Int.natCast_zero] at q1 q2
  unfold wideV
  rw [← hah, ← hal, ← hbh, ← hbl, ← hcl, ← hch]
  clear hah hal hbh hbl hcl hch hcc
  go_enter Try.func40, Try.ntmps40
  go_wp2_with (first | rw [q1] | rw [q2])
  exact bodyPost_ret (v := .agg #[.int .u64 (ch : Int), .int .u64 (cl : Int)]) (by simp [results, Try.results40, go_sem]) rfl ⟨rfl, ((((Below.refl _ _).alloc (Nat.le_refl _) _).alloc (by simp) _).alloc (by simp; omega) _)⟩

theorem less_c (a b : Nat) (w : World) :
    Calls Try.prog 41 #[wideV a, wideV b] w fun e w' => e = .returned (.bool (decide (a < b))) ∧ Below w.heap.size w w' := by
  obtain ⟨ah, hah⟩ : ∃ x, x = a / 18446744073709551616 := ⟨_, rfl⟩
  obtain ⟨al, hal⟩ : ∃ x, x = a % 18446744073709551616 := ⟨_, rfl⟩
  obtain ⟨bh, hbh⟩ : ∃ x, x = b / 18446744073709551616 := ⟨_, rfl⟩
  obtain ⟨bl, hbl⟩ : ∃ x, x = b % 18446744073709551616 := ⟨_, rfl⟩
  have hb : ∀ o1 o2 : Obj, Below w.heap.size w ((w.alloc o1).alloc o2) := fun o1 o2 => ((Below.refl _ _).alloc (Nat.le_refl _) _).alloc (by simp) _
  have HB := Lib.hid hb
  clear hb
  by_cases h1 : ah < bh
  · have e1 : decide (a < b) = true := decide_eq_true (by omega)
    unfold wideV
    rw [← hah, ← hal, ← hbh, ← hbl, e1]
    clear hah hal hbh hbl e1
    go_enter Try.func41, Try.ntmps41
    go_wp2_with fail
    go_ret
    exact ⟨rfl, HB.out _ _⟩
  by_cases h2 : bh < ah
  · have e1 : decide (a < b) = false := decide_eq_false (by omega)
    have d1 : decide ((ah : Int) < bh) = false := decide_eq_false (by omega)
    have d2 : decide ((ah : Int) = bh) = false := decide_eq_false (by omega)
    unfold wideV
    rw [← hah, ← hal, ← hbh, ← hbl, e1]
    clear hah hal hbh hbl e1
    go_enter Try.func41, Try.ntmps41
    go_wp2_with fail
    go_ret
    exact ⟨rfl, HB.out _ _⟩
  obtain rfl : ah = bh := by omega
  have e1 : decide (a < b) = decide (al < bl) := decide_eq_decide.2 (by omega)
  unfold wideV
  rw [← hah, ← hal, ← hbh, ← hbl, e1]
  clear hah hal hbh hbl e1 h1 h2
  go_enter Try.func41, Try.ntmps41
  go_wp2_with fail
  go_ret
  exact ⟨rfl, HB.out _ _⟩
end Go.Proofs.Ytefaagacgoohjaa

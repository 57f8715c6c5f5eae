/- Whole numbers as floats: what the operations give on words that read as whole numbers below 2^53. Plain: nothing of the program. -/
import Derived.Laws.FloatArith
import Derived.Laws.ComplexArith
namespace Go.Proofs.Ytkekidgakmhicaa
open Ieee

/-- The datum d stands for the whole number i. -/
def IsNum (d : Datum) (i : Int) : Prop := ∃ (s : Bool) (k : Nat), d = .number s (i.natAbs * 2 ^ k) (-(k : Int)) ∧ (s = true → i ≤ 0) ∧ (s = false → 0 ≤ i)

/-- b is a float64's word that reads as the whole number i. -/
def Num (b : Nat) (i : Int) : Prop := IsNum (double.read b) i ∧ b < 18446744073709551616

theorem log2_mul_pow (m k : Nat) (hm : 0 < m) : (m * 2 ^ k).log2 = m.log2 + k := by
  have h0 : m * 2 ^ k ≠ 0 := Nat.mul_ne_zero (by omega) (Nat.ne_of_gt (Nat.two_pow_pos k))
  have h1 : 2 ^ m.log2 ≤ m := Nat.log2_self_le (by omega)
  have h2 : m < 2 ^ (m.log2 + 1) := Nat.lt_log2_self
  have h3 : 2 ^ (m.log2 + k) ≤ m * 2 ^ k := by rw [Nat.pow_add]; exact Nat.mul_le_mul_right _ h1
  have h4 : m * 2 ^ k < 2 ^ (m.log2 + k + 1) := by
    rw [show m.log2 + k + 1 = (m.log2 + 1) + k by omega, Nat.pow_add]
    exact Nat.mul_lt_mul_of_pos_right h2 (Nat.two_pow_pos k)
  have h5 := (Nat.le_log2 h0).2 h3
  have h6 := (Nat.log2_lt h0).2 h4
  omega

theorem cut_even (s : Bool) (n d : Nat) : Toward.even.cut s (n * 2 ^ d) d = n := by
  rcases Nat.eq_zero_or_pos n with rfl | hn
  · simp [Toward.cut]
  have e : min d ((n * 2 ^ d).log2 + 2) = d := by rw [log2_mul_pow n d hn]; omega
  have hp : 0 < 2 ^ d := Nat.two_pow_pos d
  simp only [Toward.cut, e, Nat.one_shiftLeft, Nat.mul_div_cancel n hp, Nat.mul_mod_left]
  have h1 : ¬ (2 ^ d < 2 * 0) := by omega
  have h2 : (2 ^ d == 2 * 0) = false := by simp
  simp [h2]

theorem cut_zero (s : Bool) (n d : Nat) : Toward.zero.cut s (n * 2 ^ d) d = n := by
  rcases Nat.eq_zero_or_pos n with rfl | hn
  · simp [Toward.cut]
  have e : min d ((n * 2 ^ d).log2 + 2) = d := by rw [log2_mul_pow n d hn]; omega
  have hp : 0 < 2 ^ d := Nat.two_pow_pos d
  simp only [Toward.cut, e, Nat.one_shiftLeft, Nat.mul_div_cancel n hp]
  simp

theorem least : double.leastPlace = -1074 := by decide
theorem binade_ : double.binade = 4503599627370496 := by decide
theorem infRung_ : double.infRung = 9218868437227405312 := by decide
theorem signWeight_ : double.signWeight = 9223372036854775808 := by decide

theorem mant (m : Nat) (hm : 0 < m) (h : m < 9007199254740992) : m.log2 ≤ 52 ∧ 4503599627370496 ≤ m * 2 ^ (52 - m.log2) ∧ m * 2 ^ (52 - m.log2) < 9007199254740992 := by
  have h0 : m ≠ 0 := by omega
  have h1 : 2 ^ m.log2 ≤ m := Nat.log2_self_le h0
  have h2 : m < 2 ^ (m.log2 + 1) := Nat.lt_log2_self
  have hl : m.log2 < 53 := (Nat.log2_lt h0).2 (by simpa using h)
  refine ⟨by omega, ?_, ?_⟩
  · calc 4503599627370496 = 2 ^ m.log2 * 2 ^ (52 - m.log2) := by rw [← Nat.pow_add, show m.log2 + (52 - m.log2) = 52 by omega]
      _ ≤ _ := Nat.mul_le_mul_right _ h1
  · calc m * 2 ^ (52 - m.log2) < 2 ^ (m.log2 + 1) * 2 ^ (52 - m.log2) := Nat.mul_lt_mul_of_pos_right h2 (Nat.two_pow_pos _)
      _ = 9007199254740992 := by rw [← Nat.pow_add, show m.log2 + 1 + (52 - m.log2) = 53 by omega]

theorem kept (s : Bool) (m k e : Nat) (he : e ≤ 52) : Toward.even.cut s ((m * 2 ^ k) <<< (-(k : Int) - ((e : Int) - 52)).toNat) ((e : Int) - 52 - -(k : Int)).toNat = m * 2 ^ (52 - e) := by
  rw [Nat.shiftLeft_eq]
  by_cases hk : k ≤ 52 - e
  · rw [show ((e : Int) - 52 - -(k : Int)).toNat = 0 by omega, show (-(k : Int) - ((e : Int) - 52)).toNat = 52 - e - k by omega, Nat.mul_assoc, ← Nat.pow_add,
      show k + (52 - e - k) = 52 - e by omega]
    have := cut_even s (m * 2 ^ (52 - e)) 0
    rwa [Nat.pow_zero, Nat.mul_one] at this
  · rw [show (-(k : Int) - ((e : Int) - 52)).toNat = 0 by omega, Nat.pow_zero, Nat.mul_one]
    obtain ⟨d, hd⟩ : ∃ d, k = (52 - e) + d := ⟨k - (52 - e), by omega⟩
    rw [show ((e : Int) - 52 - -(k : Int)).toNat = d by omega, hd, Nat.pow_add, ← Nat.mul_assoc]
    exact cut_even s _ d

theorem nearest_eq (s : Bool) (m k : Nat) (hm : 0 < m) (h : m < 9007199254740992) :
    double.nearest s (m * 2 ^ k) (-(k : Int)) = double.word s ((m.log2 + 1022) * 4503599627370496 + m * 2 ^ (52 - m.log2)) := by
  obtain ⟨hl, h1, h2⟩ := mant m hm h
  have h0 : m * 2 ^ k ≠ 0 := Nat.mul_ne_zero (by omega) (Nat.ne_of_gt (Nat.two_pow_pos k))
  have hlast : max (-(k : Int) + ((m.log2 + k : Nat) : Int) - (double.fractionBits : Int)) (-1074) = (m.log2 : Int) - 52 := by
    rw [show ((double.fractionBits : Nat) : Int) = 52 by rfl]; omega
  unfold Format.nearest
  rw [if_neg h0, log2_mul_pow m k hm, least, hlast]
  show double.word s (min (((m.log2 : Int) - 52 - -1074).toNat * double.binade + Toward.even.cut s ((m * 2 ^ k) <<< (-(k : Int) - ((m.log2 : Int) - 52)).toNat) ((m.log2 : Int) - 52 - -(k : Int)).toNat) double.infRung) = _
  rw [kept s m k m.log2 hl, binade_, infRung_, show ((m.log2 : Int) - 52 - -1074).toNat = m.log2 + 1022 by omega, Nat.min_eq_left (by omega)]

theorem word_parts (s : Bool) (R : Nat) (h : R < 9223372036854775808) : double.word s R / 9223372036854775808 = s.toNat ∧ double.word s R % 9223372036854775808 = R := by
  unfold Format.word
  rw [signWeight_]
  cases s with
  | false => rw [if_neg (by decide)]; exact ⟨Nat.div_eq_of_lt h, Nat.mod_eq_of_lt h⟩
  | true =>
    rw [if_pos rfl]
    exact ⟨by rw [Nat.add_div_left _ (by decide), Nat.div_eq_of_lt h]; rfl, by rw [Nat.add_mod_left, Nat.mod_eq_of_lt h]⟩

theorem read_parts (s : Bool) (R e q : Nat) (hlt : R < 9223372036854775808) (r1 : ¬ (R < 4503599627370496)) (r2 : R < 9218868437227405312) (r3 : 4503599627370496 + R % 4503599627370496 = q) (r4 : R / 4503599627370496 - 1 = e + 1022) :
    double.read (double.word s R) = .number s q ((e : Int) - 52) := by
  obtain ⟨hd, hm⟩ := word_parts s R hlt
  unfold Format.read
  rw [signWeight_, hd, hm, binade_, infRung_, least]
  simp only []
  rw [if_neg r1, if_pos r2, r3, r4]
  have r5 : (-1074 : Int) + ((e + 1022 : Nat) : Int) = (e : Int) - 52 := by omega
  rw [r5]
  cases s <;> rfl

theorem read_word (s : Bool) (e q : Nat) (he : e ≤ 52) (h1 : 4503599627370496 ≤ q) (h2 : q < 9007199254740992) :
    double.read (double.word s ((e + 1022) * 4503599627370496 + q)) = .number s q ((e : Int) - 52) :=
  read_parts s _ e q (by omega) (by omega) (by omega) (by omega) (by omega)

/-- What is written of a whole number reads as it. -/
theorem write_num {d : Datum} {i : Int} (h : IsNum d i) (hi : i.natAbs < 9007199254740992) : Num (double.write d) i := by
  refine ⟨?_, double.write_lt d⟩
  obtain ⟨s, k, rfl, h1, h2⟩ := h
  show IsNum (double.read (double.nearest s (i.natAbs * 2 ^ k) (-(k : Int)))) i
  rcases Nat.eq_zero_or_pos i.natAbs with h0 | hp
  · have : i = 0 := by omega
    subst this
    refine ⟨s, 1074, ?_, h1, h2⟩
    have e : double.nearest s ((0 : Int).natAbs * 2 ^ k) (-(k : Int)) = double.word s 0 := by
      unfold Format.nearest; simp
    rw [e]
    simp only [Int.natAbs_zero, Nat.zero_mul]
    cases s <;> decide
  · rw [nearest_eq s _ k hp hi]
    obtain ⟨hl, q1, q2⟩ := mant i.natAbs hp hi
    rw [read_word s _ _ hl q1 q2]
    exact ⟨s, 52 - i.natAbs.log2, by congr 1; omega, h1, h2⟩

theorem signed_num {s : Bool} {i : Int} (k up : Nat) (h1 : s = true → i ≤ 0) (h2 : s = false → 0 ≤ i) : signed s (i.natAbs * 2 ^ k) up = i * 2 ^ (k + up) := by
  unfold signed
  rw [Nat.shiftLeft_eq, Nat.mul_assoc, ← Nat.pow_add]
  cases s with
  | true =>
    have := h1 rfl
    rw [if_pos rfl, Int.natCast_mul, show ((i.natAbs : Nat) : Int) = -i by omega]
    push_cast
    rw [Int.neg_mul, Int.neg_neg]
  | false =>
    have := h2 rfl
    rw [if_neg (by simp), Int.natCast_mul, show ((i.natAbs : Nat) : Int) = i by omega]
    push_cast; rfl

theorem pow_pos' (K : Nat) : (0 : Int) < 2 ^ K := by
  have : (0 : Int) < ((2 ^ K : Nat) : Int) := by have := Nat.two_pow_pos K; omega
  simpa using this

theorem isNum_sum {d e : Datum} {x y : Int} (hd : IsNum d x) (he : IsNum e y) : ∃ r, d.sum e = some r ∧ IsNum r (x + y) := by
  obtain ⟨s, k, rfl, h1, h2⟩ := hd
  obtain ⟨t, l, rfl, g1, g2⟩ := he
  have hb : min (-(k : Int)) (-(l : Int)) = -((max k l : Nat) : Int) := by omega
  have ht : signed s (x.natAbs * 2 ^ k) (-(k : Int) - min (-(k : Int)) (-(l : Int))).toNat + signed t (y.natAbs * 2 ^ l) (-(l : Int) - min (-(k : Int)) (-(l : Int))).toNat = (x + y) * 2 ^ max k l := by
    rw [hb, signed_num _ _ h1 h2, signed_num _ _ g1 g2, show k + (-(k : Int) - -((max k l : Nat) : Int)).toNat = max k l by omega, show l + (-(l : Int) - -((max k l : Nat) : Int)).toNat = max k l by omega, Int.add_mul]
  refine ⟨_, rfl, ?_⟩
  show IsNum (.number (if signed s (x.natAbs * 2 ^ k) _ + signed t (y.natAbs * 2 ^ l) _ = 0 then s && t else decide (signed s (x.natAbs * 2 ^ k) _ + signed t (y.natAbs * 2 ^ l) _ < 0)) (signed s (x.natAbs * 2 ^ k) _ + signed t (y.natAbs * 2 ^ l) _).natAbs (min (-(k : Int)) (-(l : Int)))) (x + y)
  rw [ht, hb]
  have hp := pow_pos' (max k l)
  refine ⟨if (x + y) * 2 ^ max k l = 0 then s && t else decide ((x + y) * 2 ^ max k l < 0), max k l, ?_, ?_, ?_⟩
  · rw [Int.natAbs_mul, Int.natAbs_pow]; rfl
  · intro h
    split at h
    · rename_i h0
      have : x + y = 0 := by
        rcases Int.mul_eq_zero.1 h0 with h' | h'
        · exact h'
        · omega
      omega
    · rcases Int.lt_or_le (x + y) 0 with hn | hn
      · omega
      · have := Int.mul_nonneg hn (Int.le_of_lt hp)
        simp at h; omega
  · intro h
    split at h
    · rename_i h0
      have : x + y = 0 := by
        rcases Int.mul_eq_zero.1 h0 with h' | h'
        · exact h'
        · omega
      omega
    · rcases Int.lt_or_le (x + y) 0 with hn | hn
      · have := Int.mul_neg_of_neg_of_pos hn hp
        simp at h; omega
      · exact hn

theorem isNum_opposite {d : Datum} {x : Int} (hd : IsNum d x) : IsNum d.opposite (-x) := by
  obtain ⟨s, k, rfl, h1, h2⟩ := hd
  refine ⟨!s, k, by rw [Int.natAbs_neg]; rfl, ?_, ?_⟩
  · intro h; have := h2 (by simpa using h); omega
  · intro h; have := h1 (by simpa using h); omega

theorem isNum_product {d e : Datum} {x y : Int} (hd : IsNum d x) (he : IsNum e y) : ∃ r, d.product e = some r ∧ IsNum r (x * y) := by
  obtain ⟨s, k, rfl, h1, h2⟩ := hd
  obtain ⟨t, l, rfl, g1, g2⟩ := he
  refine ⟨_, rfl, s ^^ t, k + l, ?_, ?_, ?_⟩
  · rw [Int.natAbs_mul, Nat.pow_add, show -(k : Int) + -(l : Int) = -((k + l : Nat) : Int) by omega]
    congr 1
    rw [Nat.mul_assoc, Nat.mul_assoc]
    congr 1
    rw [← Nat.mul_assoc, Nat.mul_comm (2 ^ k), Nat.mul_assoc]
  · intro h
    cases s <;> cases t <;> simp at h
    · exact Int.mul_nonpos_of_nonneg_of_nonpos (h2 rfl) (g1 rfl)
    · exact Int.mul_nonpos_of_nonpos_of_nonneg (h1 rfl) (g2 rfl)
  · intro h
    cases s <;> cases t <;> simp at h
    · exact Int.mul_nonneg (h2 rfl) (g2 rfl)
    · exact Int.mul_nonneg_of_nonpos_of_nonpos (h1 rfl) (g1 rfl)

theorem isNum_order {d e : Datum} {x y : Int} (hd : IsNum d x) (he : IsNum e y) : d.order e = some (compare x y) := by
  obtain ⟨s, k, rfl, h1, h2⟩ := hd
  obtain ⟨t, l, rfl, g1, g2⟩ := he
  have hb : min (-(k : Int)) (-(l : Int)) = -((max k l : Nat) : Int) := by omega
  show some (compare (signed s (x.natAbs * 2 ^ k) (-(k : Int) - min (-(k : Int)) (-(l : Int))).toNat) (signed t (y.natAbs * 2 ^ l) (-(l : Int) - min (-(k : Int)) (-(l : Int))).toNat)) = _
  rw [hb, signed_num _ _ h1 h2, signed_num _ _ g1 g2, show k + (-(k : Int) - -((max k l : Nat) : Int)).toNat = max k l by omega, show l + (-(l : Int) - -((max k l : Nat) : Int)).toNat = max k l by omega]
  have hp := pow_pos' (max k l)
  generalize (2 : Int) ^ max k l = p at hp
  congr 1
  rcases Int.lt_trichotomy x y with h | rfl | h
  · have := Int.mul_lt_mul_of_pos_right h hp
    rw [Std.compare_eq_lt.2 h, Std.compare_eq_lt.2 this]
  · simp
  · have := Int.mul_lt_mul_of_pos_right h hp
    rw [Std.compare_eq_gt.2 h, Std.compare_eq_gt.2 this]

theorem isNum_toInt {d : Datum} {x : Int} (hd : IsNum d x) : d.toInt .zero = some x ∧ IsNum (d.integral .zero) x := by
  obtain ⟨s, k, rfl, h1, h2⟩ := hd
  have e : (Datum.number s (x.natAbs * 2 ^ k) (-(k : Int))).integral .zero = .number s x.natAbs 0 := by
    show Datum.number s (Toward.zero.cut s ((x.natAbs * 2 ^ k) <<< (-(k : Int)).toNat) (- -(k : Int)).toNat) 0 = _
    rw [show (-(k : Int)).toNat = 0 by omega, show (- -(k : Int)).toNat = k by omega, Nat.shiftLeft_zero, cut_zero]
  constructor
  · unfold Datum.toInt
    rw [e]
    show some (signed s x.natAbs 0) = some x
    have := signed_num 0 0 h1 h2
    simpa using this
  · rw [e]
    exact ⟨s, 0, by simp, h1, h2⟩

/-! On words. -/
theorem num_add {a b : Nat} {x y : Int} (ha : Num a x) (hb : Num b y) (h : (x + y).natAbs < 9007199254740992) : ∃ r, floatBits .add .f64 a b = some r ∧ Num r (x + y) := by
  obtain ⟨d, e, hd⟩ := isNum_sum ha.1 hb.1
  exact ⟨double.write d, by show ((double.read a).sum (double.read b)).map double.write = _; rw [e]; rfl, write_num hd h⟩
theorem num_sub {a b : Nat} {x y : Int} (ha : Num a x) (hb : Num b y) (h : (x - y).natAbs < 9007199254740992) : ∃ r, floatBits .sub .f64 a b = some r ∧ Num r (x - y) := by
  obtain ⟨d, e, hd⟩ := isNum_sum ha.1 (isNum_opposite hb.1)
  exact ⟨double.write d, by show ((double.read a).sum (double.read b).opposite).map double.write = _; rw [e]; rfl, write_num hd h⟩
theorem num_mul {a b : Nat} {x y : Int} (ha : Num a x) (hb : Num b y) (h : (x * y).natAbs < 9007199254740992) : ∃ r, floatBits .mul .f64 a b = some r ∧ Num r (x * y) := by
  obtain ⟨d, e, hd⟩ := isNum_product ha.1 hb.1
  exact ⟨double.write d, by show ((double.read a).product (double.read b)).map double.write = _; rw [e]; rfl, write_num hd h⟩
theorem num_order {a b : Nat} {x y : Int} (ha : Num a x) (hb : Num b y) : FloatKind.f64.format.order a b = some (compare x y) := isNum_order ha.1 hb.1
theorem num_eq {a b : Nat} {x y : Int} (ha : Num a x) (hb : Num b y) : (FloatKind.f64.format.order a b == some .eq) = decide (x = y) := by
  rw [num_order ha hb]
  rcases Int.lt_trichotomy x y with h | h | h
  · rw [Std.compare_eq_lt.2 h, decide_eq_false (by omega)]; rfl
  · rw [h, decide_eq_true rfl, Std.compare_self]; rfl
  · rw [Std.compare_eq_gt.2 h, decide_eq_false (by omega)]; rfl
theorem num_lt {a b : Nat} {x y : Int} (ha : Num a x) (hb : Num b y) : (FloatKind.f64.format.order a b == some .lt) = decide (x < y) := by
  rw [num_order ha hb]
  rcases Int.lt_trichotomy x y with h | h | h
  · rw [Std.compare_eq_lt.2 h, decide_eq_true h]; rfl
  · rw [h, decide_eq_false (by omega), Std.compare_self]; rfl
  · rw [Std.compare_eq_gt.2 h, decide_eq_false (by omega)]; rfl
theorem num_gt {a b : Nat} {x y : Int} (ha : Num a x) (hb : Num b y) : (FloatKind.f64.format.order a b == some .gt) = decide (y < x) := by
  rw [num_order ha hb]
  rcases Int.lt_trichotomy x y with h | h | h
  · rw [Std.compare_eq_lt.2 h, decide_eq_false (by omega)]; rfl
  · rw [h, decide_eq_false (by omega), Std.compare_self]; rfl
  · rw [Std.compare_eq_gt.2 h, decide_eq_true h]; rfl
theorem num_le {a b : Nat} {x y : Int} (ha : Num a x) (hb : Num b y) : (FloatKind.f64.format.order a b == some .lt || FloatKind.f64.format.order a b == some .eq) = decide (x ≤ y) := by
  rw [num_lt ha hb, num_eq ha hb]
  by_cases h : x ≤ y
  · rw [decide_eq_true h]; rcases Int.lt_or_eq_of_le h with h | h <;> simp [h]
  · rw [decide_eq_false h, decide_eq_false (by omega), decide_eq_false (by omega)]; rfl
theorem num_ge {a b : Nat} {x y : Int} (ha : Num a x) (hb : Num b y) : (FloatKind.f64.format.order a b == some .gt || FloatKind.f64.format.order a b == some .eq) = decide (y ≤ x) := by
  rw [num_gt ha hb, num_eq ha hb]
  by_cases h : y ≤ x
  · rw [decide_eq_true h]; rcases Int.lt_or_eq_of_le h with h | h <;> simp [h]
  · rw [decide_eq_false h, decide_eq_false (by omega), decide_eq_false (by omega)]; rfl
theorem num_of_int (n : Int) (h : n.natAbs < 9007199254740992) : Num (floatOfInt .f64 n) n := by
  refine write_num (d := .number (n < 0) n.natAbs 0) ⟨decide (n < 0), 0, by simp, ?_, ?_⟩ h
  · intro h; simp at h; omega
  · intro h; simp at h; omega
theorem num_to_int {b : Nat} {x : Int} (h : Num b x) (h1 : -9223372036854775808 ≤ x) (h2 : x < 9223372036854775808) : floatToIntVal .f64 b .i64 = some x := by
  have e := (isNum_toInt h.1).1
  have hd : (FloatKind.f64.decode b).toInt .zero = some x := e
  unfold floatToIntVal
  rw [hd]
  have k1 : IntKind.i64.min = -9223372036854775808 := rfl
  have k2 : IntKind.i64.max = 9223372036854775807 := rfl
  simp only [k1, k2]
  rw [if_pos (by omega)]
theorem num_zero : Num 0 0 := by
  have := num_of_int 0 (by decide)
  rwa [show floatOfInt .f64 0 = 0 by decide] at this
theorem num_trunc {b : Nat} {x : Int} (h : Num b x) (hx : x.natAbs < 9007199254740992) : ∃ r, Num r x ∧ ∀ (P : Program) (w : World), (Extern.MathFloor.toIntegral "math.archTrunc" .zero #[.float .f64 b]).run P w = .ok (.float .f64 r) w := by
  refine ⟨double.write ((double.read b).integral .zero), write_num (isNum_toInt h.1).2 hx, fun P w => ?_⟩
  obtain ⟨s, k, e, _⟩ := h.1
  have hd : FloatKind.f64.decode b = .number s (x.natAbs * 2 ^ k) (-(k : Int)) := e
  delta Extern.MathFloor.toIntegral
  delta Extern.MathFloor.toIntegral.match_2
  simp only []
  rw [dif_pos (by rfl)]
  delta Extern.MathFloor.toIntegral._sparseCasesOn_2 Extern.MathFloor.toIntegral._sparseCasesOn_3
  dsimp only [Array.getLit, List.getElem_toArray, List.getElem_cons_zero]
  rw [hd, e]
  rfl
theorem read_neg (b : Nat) : double.read (b ^^^ 9223372036854775808) = (double.read b).opposite := by
  have e1 : (b ^^^ 9223372036854775808) % 9223372036854775808 = b % 9223372036854775808 := by
    have := Nat.xor_mod_two_pow (a := b) (b := 9223372036854775808) (n := 63)
    rw [show (2 : Nat) ^ 63 = 9223372036854775808 by decide, Nat.mod_self, Nat.xor_zero] at this
    exact this
  have e2 : (b ^^^ 9223372036854775808) / 9223372036854775808 = (b / 9223372036854775808) ^^^ 1 := by
    have := Nat.xor_div_two_pow (a := b) (b := 9223372036854775808) (n := 63)
    rw [show (2 : Nat) ^ 63 = 9223372036854775808 by decide, Nat.div_self (by decide)] at this
    exact this
  have e3 : (((b / 9223372036854775808) ^^^ 1) % 2 == 1) = !(b / 9223372036854775808 % 2 == 1) := by
    have := Nat.xor_mod_two_eq_one (a := b / 9223372036854775808) (b := 1)
    rcases Nat.mod_two_eq_zero_or_one (b / 9223372036854775808) with h | h
    · rw [h] at this ⊢; simp at this ⊢; exact this
    · rw [h] at this ⊢; simp at this ⊢; omega
  unfold Format.read
  rw [signWeight_, e1, e2, e3]
  simp only []
  split
  · rfl
  · split
    · rfl
    · split
      · rfl
      · rfl
theorem num_neg {b : Nat} {x : Int} (h : Num b x) : Num (Op.negFloat .f64 b) (-x) := by
  have e : Op.negFloat .f64 b = b ^^^ 9223372036854775808 := rfl
  rw [e]
  refine ⟨by rw [read_neg]; exact isNum_opposite h.1, Nat.xor_lt_two_pow (n := 64) h.2 (by decide)⟩
theorem num_abs {b : Nat} {x : Int} (h : Num b x) : Num (b % 9223372036854775808) (x.natAbs : Int) := by
  have hr : double.read (b % 9223372036854775808) = match double.read b with | .number _ m p => .number false m p | .infinity _ => .infinity false | .nan _ t => .nan false t := by
    have e1 : b % 9223372036854775808 % 9223372036854775808 = b % 9223372036854775808 := Nat.mod_mod _ _
    have e2 : b % 9223372036854775808 / 9223372036854775808 = 0 := Nat.div_eq_of_lt (Nat.mod_lt _ (by decide))
    unfold Format.read
    rw [signWeight_, e1, e2]
    simp only []
    split
    · rfl
    · split
      · rfl
      · split
        · rfl
        · rfl
  refine ⟨?_, Nat.lt_of_lt_of_le (Nat.mod_lt _ (by decide)) (by decide)⟩
  obtain ⟨s, k, e, _⟩ := h.1
  rw [hr, e]
  exact ⟨false, k, by simp, by simp, by omega⟩
/-- The greater of two: one word that reads as it. -/
theorem num_max {a b : Nat} {x y : Int} (ha : Num a x) (hb : Num b y) : ∃ r, Num r (max x y) ∧ ∀ (P : Program) (w : World) (ts : Array TypeId) (t : TypeId), (Builtin.max_ ts t #[.float .f64 a, .float .f64 b]).run P w = .ok (.float .f64 r) w := by
  have ho := num_order ha hb
  rcases Int.lt_trichotomy x y with h | h | h
  · rw [Std.compare_eq_lt.2 h] at ho
    refine ⟨b, by rw [Int.max_eq_right (by omega)]; exact hb, fun P w ts t => ?_⟩
    simp [Builtin.max_, Builtin.max2, ho]
  · subst h
    rw [Std.compare_self] at ho
    refine ⟨if (FloatKind.f64.decode a).neg then b else a, ?_, fun P w ts t => ?_⟩
    · rw [Int.max_self]; split <;> assumption
    · simp [Builtin.max_, Builtin.max2, ho]
  · rw [Std.compare_eq_gt.2 h] at ho
    refine ⟨a, by rw [Int.max_eq_left (by omega)]; exact ha, fun P w ts t => ?_⟩
    simp [Builtin.max_, Builtin.max2, ho]

/-! On complex numbers. -/
structure Cx (a b : Nat) (x y : Int) : Prop where
  re : Num a x
  im : Num b y
theorem cx_add {a b c d : Nat} {x y u v : Int} (h : Cx a b x y) (k : Cx c d u v) (h1 : (x + u).natAbs < 9007199254740992) (h2 : (y + v).natAbs < 9007199254740992) :
    ∃ p q, cSumBits .add .f64 a b c d = some (p, q) ∧ Cx p q (x + u) (y + v) := by
  obtain ⟨p, e1, n1⟩ := num_add h.re k.re h1
  obtain ⟨q, e2, n2⟩ := num_add h.im k.im h2
  exact ⟨p, q, by simp [cSumBits, e1, e2], n1, n2⟩
theorem cx_sub {a b c d : Nat} {x y u v : Int} (h : Cx a b x y) (k : Cx c d u v) (h1 : (x - u).natAbs < 9007199254740992) (h2 : (y - v).natAbs < 9007199254740992) :
    ∃ p q, cSumBits .sub .f64 a b c d = some (p, q) ∧ Cx p q (x - u) (y - v) := by
  obtain ⟨p, e1, n1⟩ := num_sub h.re k.re h1
  obtain ⟨q, e2, n2⟩ := num_sub h.im k.im h2
  exact ⟨p, q, by simp [cSumBits, e1, e2], n1, n2⟩
theorem cx_mul {a b c d : Nat} {x y u v : Int} (h : Cx a b x y) (k : Cx c d u v) (h1 : (x * u).natAbs < 4503599627370496) (h2 : (y * v).natAbs < 4503599627370496) (h3 : (x * v).natAbs < 4503599627370496) (h4 : (y * u).natAbs < 4503599627370496) :
    ∃ p q, cMulBits a b c d = some (p, q) ∧ Cx p q (x * u - y * v) (x * v + y * u) := by
  obtain ⟨r1, e1, n1⟩ := num_mul h.re k.re (by omega)
  obtain ⟨r2, e2, n2⟩ := num_mul h.im k.im (by omega)
  obtain ⟨p, e3, n3⟩ := num_sub n1 n2 (by omega)
  obtain ⟨r4, e4, n4⟩ := num_mul h.re k.im (by omega)
  obtain ⟨r5, e5, n5⟩ := num_mul h.im k.re (by omega)
  obtain ⟨q, e6, n6⟩ := num_add n4 n5 (by omega)
  exact ⟨p, q, by simp [cMulBits, e1, e2, e3, e4, e5, e6], n3, n6⟩
end Go.Proofs.Ytkekidgakmhicaa

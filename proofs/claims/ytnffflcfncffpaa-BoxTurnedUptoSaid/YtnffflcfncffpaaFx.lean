/- The plain mathematics of fixed-point numbers: saturation, signs, products and quotients. -/
namespace Go.Proofs.Ytnffflcfncffpaa

/-- Stopped at the ends. -/
def sat (x : Int) : Int := if x < -9223372036854775808 then -9223372036854775808 else if 9223372036854775807 < x then 9223372036854775807 else x
theorem sat_range (x : Int) : -9223372036854775808 ≤ sat x ∧ sat x < 9223372036854775808 := by unfold sat; split <;> (try split) <;> omega
theorem sat_id {x : Int} (h1 : -9223372036854775808 ≤ x) (h2 : x < 9223372036854775808) : sat x = x := by unfold sat; rw [if_neg (by omega), if_neg (by omega)]
theorem sat_mono {x y : Int} (h : x ≤ y) : sat x ≤ sat y := by unfold sat; repeat' split
                                                               all_goals omega
/-- With its sign. -/
def sg (neg : Bool) (n : Nat) : Int := if neg then -(n : Int) else n
/-- Are the signs of two numbers different? -/
def dif (a b : Int) : Bool := decide (a < 0) != decide (b < 0)
/-- Divided by One, towards 0. -/
def tq (x : Int) : Int := if x < 0 then -((-x) / 4294967296) else x / 4294967296

def mulF (a b : Int) : Int := sat (sg (dif a b) (a.natAbs * b.natAbs / 4294967296))
def divF (a b : Int) : Int := sat (sg (dif a b) (a.natAbs * 4294967296 / b.natAbs))
def fromF (n : Int) : Int := sat (n * 4294967296)

theorem mulF_eq (a b : Int) : mulF a b = sat (tq (a * b)) := by
  unfold mulF
  congr 1
  have h : (a * b).natAbs = a.natAbs * b.natAbs := Int.natAbs_mul a b
  rw [← h]
  rcases Int.lt_trichotomy a 0 with ha | ha | ha
  · rcases Int.lt_trichotomy b 0 with hb | hb | hb
    · have hp : 0 < a * b := Int.mul_pos_of_neg_of_neg ha hb
      have hd : dif a b = false := by simp [dif, ha, hb]
      rw [hd]; simp [sg]; unfold tq; generalize a * b = p at *; split <;> omega
    · subst hb; simp [sg, tq]
    · have hp : a * b < 0 := Int.mul_neg_of_neg_of_pos ha hb
      have hd : dif a b = true := by simp [dif, ha]; omega
      rw [hd]; simp [sg]; unfold tq; generalize a * b = p at *; split <;> omega
  · subst ha; simp [sg, tq]
  · rcases Int.lt_trichotomy b 0 with hb | hb | hb
    · have hp : a * b < 0 := Int.mul_neg_of_pos_of_neg ha hb
      have hd : dif a b = true := by simp [dif, hb]; omega
      rw [hd]; simp [sg]; unfold tq; generalize a * b = p at *; split <;> omega
    · subst hb; simp [sg, tq]
    · have hp : 0 < a * b := Int.mul_pos ha hb
      have hd : dif a b = false := by simp [dif]; omega
      rw [hd]; simp [sg]; unfold tq; generalize a * b = p at *; split <;> omega

theorem tq_mono {x y : Int} (h : x ≤ y) : tq x ≤ tq y := by unfold tq; split <;> split <;> omega
theorem tq_neg (x : Int) : tq (-x) = -tq x := by unfold tq; split <;> split <;> omega

end Go.Proofs.Ytnffflcfncffpaa

/- Plain facts on pushes: nobody goes through anybody; a push goes as far as it may; two steps; any order. -/
import Derived.Test.YtnffflcfncffpaaBGo
namespace Go.Proofs.Ytnffflcfncffpaa

theorem inW_iff {ax : Nat} {a : Bx} {d : Int} {b : Bx} : inW ax a d b = true ↔ (0 ≤ gapA ax a b ∧ gapA (1 - ax) a b < 0 ∧ (a.pc ax < b.pc ax ↔ 0 < d)) := by
  unfold inW
  simp only [Bool.and_eq_true, decide_eq_true_eq, beq_iff_eq, decide_eq_decide]

/-- What the state over the first k boxes says. -/
theorem stF_spec (ax : Nat) (a : Bx) (d : Int) (L : List Bx) (k : Nat) :
    (∀ i, i < k → inW ax a d (Bx.at L i) = true → (stF ax a d L k).1 ≤ gapA ax a (Bx.at L i)) ∧
    (((stF ax a d L k).1 = (d.natAbs : Int) ∧ (stF ax a d L k).2 = -1) ∨ ∃ i : Nat, i < k ∧ (stF ax a d L k).2 = (i : Int) ∧ inW ax a d (Bx.at L i) = true ∧ gapA ax a (Bx.at L i) = (stF ax a d L k).1 ∧ (stF ax a d L k).1 < (d.natAbs : Int)) := by
  induction k with
  | zero => exact ⟨fun i hi => absurd hi (by omega), .inl ⟨rfl, rfl⟩⟩
  | succ k ih =>
    obtain ⟨h1, h2⟩ := ih
    by_cases hw : inW ax a d (Bx.at L k) = true
    · by_cases hg : gapA ax a (Bx.at L k) < (stF ax a d L k).1
      · rw [stF_yes hw hg]
        dsimp only
        have hm := (stF_in ax a d L k).2
        refine ⟨fun i hi hi2 => ?_, .inr ⟨k, by omega, rfl, hw, rfl, by omega⟩⟩
        rcases Nat.lt_or_ge i k with h | h
        · have := h1 i h hi2; omega
        · obtain rfl : i = k := by omega
          omega
      · rw [stF_far hg]
        refine ⟨fun i hi hi2 => ?_, ?_⟩
        · rcases Nat.lt_or_ge i k with h | h
          · exact h1 i h hi2
          · obtain rfl : i = k := by omega
            omega
        · rcases h2 with h2 | ⟨i, hi, h2⟩
          · exact .inl h2
          · exact .inr ⟨i, by omega, h2⟩
    · rw [stF_no (by simpa using hw)]
      refine ⟨fun i hi hi2 => ?_, ?_⟩
      · rcases Nat.lt_or_ge i k with h | h
        · exact h1 i h hi2
        · obtain rfl : i = k := by omega
          exact absurd hi2 hw
      · rcases h2 with h2 | ⟨i, hi, h2⟩
        · exact .inl h2
        · exact .inr ⟨i, by omega, h2⟩

/-- A box that was moved along an axis. -/
def Bx.go (ax : Nat) (a : Bx) (m : Int) : Bx := if ax = 0 then ⟨a.x + m, a.y, a.r⟩ else ⟨a.x, a.y + m, a.r⟩
theorem go_pc0 (a : Bx) (m : Int) : (a.go 0 m).pc 0 = a.pc 0 + m ∧ (a.go 0 m).pc 1 = a.pc 1 ∧ (a.go 0 m).r = a.r := ⟨rfl, rfl, rfl⟩
theorem go_pc1 (a : Bx) (m : Int) : (a.go 1 m).pc 1 = a.pc 1 + m ∧ (a.go 1 m).pc 0 = a.pc 0 ∧ (a.go 1 m).r = a.r := ⟨rfl, rfl, rfl⟩

/-- Two boxes stand apart. -/
def Sep (a b : Bx) : Prop := 0 ≤ gapA 0 a b ∨ 0 ≤ gapA 1 a b

theorem gap_go {x u r s W d m : Int} (hr : 1 ≤ r) (hs : 1 ≤ s) (hp : 0 ≤ gapF x u r s) (hw : 0 ≤ W ∧ W ≤ (d.natAbs : Int)) (hi : (x < u ↔ 0 < d) → W ≤ gapF x u r s) (hm : m = if d < 0 then -W else W) : 0 ≤ gapF (x + m) u r s := by
  unfold gapF at *
  subst hm
  by_cases h1 : x < u
  · by_cases h2 : 0 < d
    · have := hi (iff_of_true h1 h2)
      rw [if_neg (by omega)]
      omega
    · split <;> omega
  · by_cases h2 : 0 < d
    · rw [if_neg (by omega)]
      omega
    · have := hi (iff_of_false h1 h2)
      split <;> omega

theorem push_sep0 {a : Bx} {d : Int} {L : List Bx} {i : Nat} (hr : 1 ≤ a.r) (hs : 1 ≤ (Bx.at L i).r) (hi : i < L.length) (h : Sep a (Bx.at L i)) : Sep (a.go 0 (wayF 0 a d L)) (Bx.at L i) := by
  by_cases h1 : 0 ≤ gapA 1 a (Bx.at L i)
  · exact .inr h1
  · have h0 : 0 ≤ gapA 0 a (Bx.at L i) := h.resolve_right h1
    refine .inl ?_
    refine gap_go hr hs h0 (stF_in 0 a d L L.length) (fun hw => (stF_spec 0 a d L L.length).1 i hi (inW_iff.2 ⟨h0, by simp only [Nat.sub_zero]; omega, hw⟩)) rfl
theorem push_sep1 {a : Bx} {d : Int} {L : List Bx} {i : Nat} (hr : 1 ≤ a.r) (hs : 1 ≤ (Bx.at L i).r) (hi : i < L.length) (h : Sep a (Bx.at L i)) : Sep (a.go 1 (wayF 1 a d L)) (Bx.at L i) := by
  by_cases h0 : 0 ≤ gapA 0 a (Bx.at L i)
  · exact .inl h0
  · have h1 : 0 ≤ gapA 1 a (Bx.at L i) := h.resolve_left h0
    refine .inr ?_
    refine gap_go hr hs h1 (stF_in 1 a d L L.length) (fun hw => (stF_spec 1 a d L L.length).1 i hi (inW_iff.2 ⟨h1, by simp only [Nat.sub_self]; omega, hw⟩)) rfl

/-- Do they overlap, over boxes. -/
def meetX (a b : Bx) : Bool := meetB a.x a.y a.r b.x b.y b.r
theorem meetX_false {a b : Bx} (h : Sep a b) : meetX a b = false := by
  unfold meetX meetB
  unfold Sep gapA Bx.pc at h
  simp only [if_true, Nat.one_ne_zero, if_false] at h
  rcases h with h | h
  · rw [decide_eq_false (show ¬ gapF a.x b.x a.r b.r < 0 by omega)]; simp
  · rw [decide_eq_false (show ¬ gapF a.y b.y a.r b.r < 0 by omega)]; simp
theorem sep_of_meet {a b : Bx} (ha : a.right = true) (hb : b.right = true) (h : meetX a b = false) : Sep a b := by
  unfold meetX meetB okB at h
  unfold Bx.right at ha hb
  rw [ha, hb] at h
  simp only [Bool.true_and, Bool.and_eq_false_iff, decide_eq_false_iff_not] at h
  unfold Sep gapA Bx.pc
  simp only [if_true, Nat.one_ne_zero, if_false]
  omega

theorem right_r {b : Bx} (h : b.right = true) : 1 ≤ b.r := (rightB_spec.1 h).1.1
theorem at_right {L : List Bx} {i : Nat} (h : allB L = true) (hi : i < L.length) : (Bx.at L i).right = true := allB_iff.1 h i hi

theorem stops0 {a : Bx} {d : Int} {L : List Bx} {i : Nat} (ha : a.right = true) (hL : allB L = true) (hi : i < L.length) (h : meetX a (Bx.at L i) = false) : meetX (a.go 0 (wayF 0 a d L)) (Bx.at L i) = false :=
  meetX_false (push_sep0 (right_r ha) (right_r (at_right hL hi)) hi (sep_of_meet ha (at_right hL hi) h))
theorem stops1 {a : Bx} {d : Int} {L : List Bx} {i : Nat} (ha : a.right = true) (hL : allB L = true) (hi : i < L.length) (h : meetX a (Bx.at L i) = false) : meetX (a.go 1 (wayF 1 a d L)) (Bx.at L i) = false :=
  meetX_false (push_sep1 (right_r ha) (right_r (at_right hL hi)) hi (sep_of_meet ha (at_right hL hi) h))
theorem stops2 {a : Bx} {bx b2 : Int} {L : List Bx} {i : Nat} (ha : a.right = true) (hL : allB L = true) (hi : i < L.length) (h : meetX a (Bx.at L i) = false) : meetX ⟨a.x + wayF 0 a bx L, a.y + goY a bx b2 L, a.r⟩ (Bx.at L i) = false := by
  have h1 := push_sep0 (d := bx) (right_r ha) (right_r (at_right hL hi)) hi (sep_of_meet ha (at_right hL hi) h)
  have h2 := push_sep1 (a := a.go 0 (wayF 0 a bx L)) (d := b2) (show 1 ≤ a.r from right_r ha) (right_r (at_right hL hi)) hi h1
  exact meetX_false h2

/-- The way's sign. -/
theorem way_sign (ax : Nat) (a : Bx) (d : Int) (L : List Bx) : wayF ax a d L = 0 ∨ (0 < wayF ax a d L ↔ 0 < d) := by
  have := stF_in ax a d L L.length
  unfold wayF
  split <;> omega

/-- The bit that tells the axis. -/
theorem and_one (a : Int) : bits .and .i64 a 1 = a % 2 := by
  rw [and_i64]
  have a3 := ofInt_nat a
  generalize BitVec.ofInt 64 a = x at *
  have e1 : (BitVec.ofInt 64 1).toNat = 1 := by decide
  have h : (x &&& BitVec.ofInt 64 1).toNat = x.toNat % 2 := by
    rw [BitVec.toNat_and, e1, Nat.and_one_is_mod]
  rw [BitVec.toInt_eq_toNat_cond, h]
  split <;> omega

/-- A push that is stopped leaves no gap, and one step more makes them overlap. -/
theorem full_gap {x u r s W d : Int} (hr : 1 ≤ r) (hs : 1 ≤ s) (hp : 0 ≤ gapF x u r s) (hW : gapF x u r s = W) (hi : x < u ↔ 0 < d) (hd : W < (d.natAbs : Int)) :
    gapF (x + if d < 0 then -W else W) u r s = 0 ∧ gapF (x + (if d < 0 then -W else W) + if d < 0 then -1 else 1) u r s = -1 ∧ d ≠ 0 ∧ (if d < 0 then -W else W) ≠ d := by
  unfold gapF at *
  split <;> omega
end Go.Proofs.Ytnffflcfncffpaa

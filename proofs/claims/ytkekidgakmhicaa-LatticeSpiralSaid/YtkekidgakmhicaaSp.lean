/- The spiral, run by run. Plain: nothing of the program. -/
namespace Go.Proofs.Ytkekidgakmhicaa

/-- How long the run k is; what number it begins with; its step; its corner. -/
def rL (k : Nat) : Nat := k / 2 + 1
def rN : Nat → Nat
  | 0 => 0
  | k + 1 => rN k + rL k
def sx (k : Nat) : Int := if k % 4 = 0 then 1 else if k % 4 = 2 then -1 else 0
def sy (k : Nat) : Int := if k % 4 = 1 then 1 else if k % 4 = 3 then -1 else 0
def cx : Nat → Int
  | 0 => 0
  | k + 1 => cx k + sx k * (rL k : Int)
def cy : Nat → Int
  | 0 => 0
  | k + 1 => cy k + sy k * (rL k : Int)

theorem sx_next (k : Nat) : sx (k + 1) = -sy k := by
  unfold sx sy
  have h : k % 4 = 0 ∨ k % 4 = 1 ∨ k % 4 = 2 ∨ k % 4 = 3 := by omega
  rcases h with h | h | h | h
  · rw [show (k + 1) % 4 = 1 by omega, h]; decide
  · rw [show (k + 1) % 4 = 2 by omega, h]; decide
  · rw [show (k + 1) % 4 = 3 by omega, h]; decide
  · rw [show (k + 1) % 4 = 0 by omega, h]; decide
theorem sy_next (k : Nat) : sy (k + 1) = sx k := by
  unfold sx sy
  have h : k % 4 = 0 ∨ k % 4 = 1 ∨ k % 4 = 2 ∨ k % 4 = 3 := by omega
  rcases h with h | h | h | h
  · rw [show (k + 1) % 4 = 1 by omega, h]; decide
  · rw [show (k + 1) % 4 = 2 by omega, h]; decide
  · rw [show (k + 1) % 4 = 3 by omega, h]; decide
  · rw [show (k + 1) % 4 = 0 by omega, h]; decide
theorem rL_next (k : Nat) : rL (k + 1) = if sy k = 0 then rL k else rL k + 1 := by
  unfold rL sy
  have h : k % 4 = 0 ∨ k % 4 = 1 ∨ k % 4 = 2 ∨ k % 4 = 3 := by omega
  rcases h with h | h | h | h <;> rw [h] <;> simp <;> omega
theorem unit (k : Nat) : (sx k = 1 ∧ sy k = 0) ∨ (sx k = 0 ∧ sy k = 1) ∨ (sx k = -1 ∧ sy k = 0) ∨ (sx k = 0 ∧ sy k = -1) := by
  unfold sx sy
  have h : k % 4 = 0 ∨ k % 4 = 1 ∨ k % 4 = 2 ∨ k % 4 = 3 := by omega
  rcases h with h | h | h | h <;> rw [h] <;> simp

theorem rN_ge (k : Nat) : k ≤ rN k := by
  induction k with
  | zero => exact Nat.le_refl _
  | succ k ih => simp only [rN, rL]; omega
theorem rN_mono {j k : Nat} (h : j ≤ k) : rN j ≤ rN k := by
  induction h with
  | refl => exact Nat.le_refl _
  | step _ ih => simp only [rN]; omega
theorem cx_le (k : Nat) : -(rN k : Int) ≤ cx k ∧ cx k ≤ (rN k : Int) := by
  induction k with
  | zero => decide
  | succ k ih =>
    simp only [cx, rN]
    rcases unit k with ⟨h, _⟩ | ⟨h, _⟩ | ⟨h, _⟩ | ⟨h, _⟩ <;> rw [h] <;> omega
theorem cy_le (k : Nat) : -(rN k : Int) ≤ cy k ∧ cy k ≤ (rN k : Int) := by
  induction k with
  | zero => decide
  | succ k ih =>
    simp only [cy, rN]
    rcases unit k with ⟨_, h⟩ | ⟨_, h⟩ | ⟨_, h⟩ | ⟨_, h⟩ <;> rw [h] <;> omega

/-- The cell i steps behind the corner. -/
def ax (k i : Nat) : Int := cx k + sx k * (i : Int)
def ay (k i : Nat) : Int := cy k + sy k * (i : Int)
theorem ax_le (k i : Nat) : -((rN k + i : Nat) : Int) ≤ ax k i ∧ ax k i ≤ ((rN k + i : Nat) : Int) := by
  have := cx_le k
  unfold ax
  rcases unit k with ⟨h, _⟩ | ⟨h, _⟩ | ⟨h, _⟩ | ⟨h, _⟩ <;> rw [h] <;> omega
theorem ay_le (k i : Nat) : -((rN k + i : Nat) : Int) ≤ ay k i ∧ ay k i ≤ ((rN k + i : Nat) : Int) := by
  have := cy_le k
  unfold ay
  rcases unit k with ⟨_, h⟩ | ⟨_, h⟩ | ⟨_, h⟩ | ⟨_, h⟩ <;> rw [h] <;> omega

/-! What the four runs of a ring look like. -/
theorem s0 (t : Nat) : sx (4 * t) = 1 ∧ sy (4 * t) = 0 ∧ rL (4 * t) = 2 * t + 1 := by
  unfold sx sy rL; rw [show 4 * t % 4 = 0 by omega]; exact ⟨by decide, by decide, by omega⟩
theorem s1 (t : Nat) : sx (4 * t + 1) = 0 ∧ sy (4 * t + 1) = 1 ∧ rL (4 * t + 1) = 2 * t + 1 := by
  unfold sx sy rL; rw [show (4 * t + 1) % 4 = 1 by omega]; exact ⟨by decide, by decide, by omega⟩
theorem s2 (t : Nat) : sx (4 * t + 2) = -1 ∧ sy (4 * t + 2) = 0 ∧ rL (4 * t + 2) = 2 * t + 2 := by
  unfold sx sy rL; rw [show (4 * t + 2) % 4 = 2 by omega]; exact ⟨by decide, by decide, by omega⟩
theorem s3 (t : Nat) : sx (4 * t + 3) = 0 ∧ sy (4 * t + 3) = -1 ∧ rL (4 * t + 3) = 2 * t + 2 := by
  unfold sx sy rL; rw [show (4 * t + 3) % 4 = 3 by omega]; exact ⟨by decide, by decide, by omega⟩

theorem ring_next (t : Nat) (h : cx (4 * t) = -(t : Int) ∧ cy (4 * t) = -(t : Int) ∧ rN (4 * t) = 4 * (t * t) + 2 * t) :
    (cx (4 * t + 1) = (t : Int) + 1 ∧ cy (4 * t + 1) = -(t : Int) ∧ rN (4 * t + 1) = 4 * (t * t) + 4 * t + 1) ∧
    (cx (4 * t + 2) = (t : Int) + 1 ∧ cy (4 * t + 2) = (t : Int) + 1 ∧ rN (4 * t + 2) = 4 * (t * t) + 6 * t + 2) ∧
    (cx (4 * t + 3) = -((t : Int) + 1) ∧ cy (4 * t + 3) = (t : Int) + 1 ∧ rN (4 * t + 3) = 4 * (t * t) + 8 * t + 4) ∧
    (cx (4 * t + 4) = -((t : Int) + 1) ∧ cy (4 * t + 4) = -((t : Int) + 1) ∧ rN (4 * t + 4) = 4 * (t * t) + 10 * t + 6) := by
  obtain ⟨a, b, c⟩ := h
  obtain ⟨x0, y0, l0⟩ := s0 t
  obtain ⟨x1, y1, l1⟩ := s1 t
  obtain ⟨x2, y2, l2⟩ := s2 t
  obtain ⟨x3, y3, l3⟩ := s3 t
  have A1 : cx (4 * t + 1) = (t : Int) + 1 := by show cx (4 * t) + sx (4 * t) * _ = _; rw [a, x0, l0]; omega
  have B1 : cy (4 * t + 1) = -(t : Int) := by show cy (4 * t) + sy (4 * t) * _ = _; rw [b, y0]; omega
  have C1 : rN (4 * t + 1) = 4 * (t * t) + 4 * t + 1 := by show rN (4 * t) + rL (4 * t) = _; rw [c, l0]; omega
  have A2 : cx (4 * t + 2) = (t : Int) + 1 := by show cx (4 * t + 1) + sx (4 * t + 1) * _ = _; rw [A1, x1]; omega
  have B2 : cy (4 * t + 2) = (t : Int) + 1 := by show cy (4 * t + 1) + sy (4 * t + 1) * (rL (4 * t + 1) : Int) = _; rw [B1, y1, l1]; omega
  have C2 : rN (4 * t + 2) = 4 * (t * t) + 6 * t + 2 := by show rN (4 * t + 1) + rL (4 * t + 1) = _; rw [C1, l1]; omega
  have A3 : cx (4 * t + 3) = -((t : Int) + 1) := by show cx (4 * t + 2) + sx (4 * t + 2) * (rL (4 * t + 2) : Int) = _; rw [A2, x2, l2]; omega
  have B3 : cy (4 * t + 3) = (t : Int) + 1 := by show cy (4 * t + 2) + sy (4 * t + 2) * _ = _; rw [B2, y2]; omega
  have C3 : rN (4 * t + 3) = 4 * (t * t) + 8 * t + 4 := by show rN (4 * t + 2) + rL (4 * t + 2) = _; rw [C2, l2]; omega
  refine ⟨⟨A1, B1, C1⟩, ⟨A2, B2, C2⟩, ⟨A3, B3, C3⟩, ?_, ?_, ?_⟩
  · show cx (4 * t + 3) + sx (4 * t + 3) * _ = _; rw [A3, x3]; omega
  · show cy (4 * t + 3) + sy (4 * t + 3) * (rL (4 * t + 3) : Int) = _; rw [B3, y3, l3]; omega
  · show rN (4 * t + 3) + rL (4 * t + 3) = _; rw [C3, l3]; omega
theorem ring0 (t : Nat) : cx (4 * t) = -(t : Int) ∧ cy (4 * t) = -(t : Int) ∧ rN (4 * t) = 4 * (t * t) + 2 * t := by
  induction t with
  | zero => decide
  | succ t ih =>
    obtain ⟨a, b, c⟩ := (ring_next t ih).2.2.2
    refine ⟨by rw [show 4 * (t + 1) = 4 * t + 4 by omega, a]; omega, by rw [show 4 * (t + 1) = 4 * t + 4 by omega, b]; omega, ?_⟩
    rw [show 4 * (t + 1) = 4 * t + 4 by omega, c, Nat.mul_add, Nat.add_mul]
    omega
theorem ring1 (t : Nat) : cx (4 * t + 1) = (t : Int) + 1 ∧ cy (4 * t + 1) = -(t : Int) ∧ rN (4 * t + 1) = 4 * (t * t) + 4 * t + 1 := (ring_next t (ring0 t)).1
theorem ring2 (t : Nat) : cx (4 * t + 2) = (t : Int) + 1 ∧ cy (4 * t + 2) = (t : Int) + 1 ∧ rN (4 * t + 2) = 4 * (t * t) + 6 * t + 2 := (ring_next t (ring0 t)).2.1
theorem ring3 (t : Nat) : cx (4 * t + 3) = -((t : Int) + 1) ∧ cy (4 * t + 3) = (t : Int) + 1 ∧ rN (4 * t + 3) = 4 * (t * t) + 8 * t + 4 := (ring_next t (ring0 t)).2.2.1

/-- Where a cell is once the run k leads east from 0. -/
def wx (k : Nat) (x y : Int) : Int := (x - cx k) * sx k + (y - cy k) * sy k
def wy (k : Nat) (x y : Int) : Int := (y - cy k) * sx k - (x - cx k) * sy k
def On (k : Nat) (x y : Int) : Prop := wy k x y = 0 ∧ 0 ≤ wx k x y ∧ wx k x y ≤ (rL k : Int)

theorem four (k : Nat) : ∃ t, k = 4 * t ∨ k = 4 * t + 1 ∨ k = 4 * t + 2 ∨ k = 4 * t + 3 := ⟨k / 4, by omega⟩

/-- Where a cell lies that is i steps on run k. -/
theorem here (k i : Nat) (hi : i ≤ rL k) : wx k (ax k i) (ay k i) = (i : Int) ∧ wy k (ax k i) (ay k i) = 0 ∧ On k (ax k i) (ay k i) := by
  have e1 : wx k (ax k i) (ay k i) = (i : Int) := by
    unfold wx ax ay
    rcases unit k with ⟨h1, h2⟩ | ⟨h1, h2⟩ | ⟨h1, h2⟩ | ⟨h1, h2⟩ <;> rw [h1, h2] <;> omega
  have e2 : wy k (ax k i) (ay k i) = 0 := by
    unfold wy ax ay
    rcases unit k with ⟨h1, h2⟩ | ⟨h1, h2⟩ | ⟨h1, h2⟩ | ⟨h1, h2⟩ <;> rw [h1, h2] <;> omega
  exact ⟨e1, e2, e2, by omega, by omega⟩

/-- What lies on a run behind its corner lies on none before it. -/
theorem apart {j k i : Nat} (hj : j < k) (h1 : 1 ≤ i) (h2 : i ≤ rL k) : ¬ On j (ax k i) (ay k i) := by
  rintro ⟨a, b, c⟩
  obtain ⟨u, hu⟩ := four j
  obtain ⟨t, ht⟩ := four k
  unfold wy ax ay at a
  unfold wx ax ay at b c
  rcases hu with rfl | rfl | rfl | rfl <;> rcases ht with rfl | rfl | rfl | rfl <;>
    simp only [s0, s1, s2, s3, ring0, ring1, ring2, ring3] at a b c h2 <;> omega

/-- The ring of a cell, by its number. -/
theorem ring (k i : Nat) (h : 1 ≤ i ∨ k = 0 ∧ i = 0) (h2 : i ≤ rL k) (K : Int) (hK : K = max (ax k i).natAbs (ay k i).natAbs) :
    ((rN k + i : Nat) : Int) < (2 * K + 1) * (2 * K + 1) ∧ (0 < K → (2 * K - 1) * (2 * K - 1) ≤ ((rN k + i : Nat) : Int)) := by
  have e1 : (2 * K + 1) * (2 * K + 1) = 4 * (K * K) + 4 * K + 1 := by grind
  have e2 : (2 * K - 1) * (2 * K - 1) = 4 * (K * K) - 4 * K + 1 := by grind
  rw [e1, e2]
  obtain ⟨t, ht⟩ := four k
  have e3 : ((t : Int) + 1) * ((t : Int) + 1) = (t : Int) * t + 2 * t + 1 := by grind
  unfold ax ay at hK
  have ec : ((t * t : Nat) : Int) = (t : Int) * t := by push_cast; rfl
  have hc : K = (t : Int) ∨ K = (t : Int) + 1 := by
    rcases ht with rfl | rfl | rfl | rfl <;> simp only [s0, s1, s2, s3, ring0, ring1, ring2, ring3] at hK h2 <;> omega
  rcases hc with rfl | rfl
  · rcases ht with rfl | rfl | rfl | rfl <;> simp only [s0, s1, s2, s3, ring0, ring1, ring2, ring3] at hK h2 ⊢ <;> generalize t * t = T at * <;> generalize (t : Int) * t = S at * <;> omega
  · rw [e3]
    rcases ht with rfl | rfl | rfl | rfl <;> simp only [s0, s1, s2, s3, ring0, ring1, ring2, ring3] at hK h2 ⊢ <;> generalize t * t = T at * <;> generalize (t : Int) * t = S at * <;> omega

/-- The next number's cell lies beside. -/
theorem beside {k i k' i' : Nat} (h2 : i ≤ rL k) (g : 1 ≤ i' ∨ k' = 0 ∧ i' = 0) (g2 : i' ≤ rL k') (hn : rN k' + i' = rN k + i + 1) :
    max (ax k' i' - ax k i).natAbs (ay k' i' - ay k i).natAbs = 1 ∧ (ax k i = ax k' i' ∨ ay k i = ay k' i') := by
  have hg : 1 ≤ i' := by
    rcases g with g | ⟨rfl, rfl⟩
    · exact g
    · simp [rN] at hn
  have hk : k ≤ k' := by
    rcases Nat.lt_or_ge k' k with h | h
    · have := rN_mono (show k' + 1 ≤ k from h)
      simp only [rN] at this
      omega
    · exact h
  have hk2 : k' ≤ k + 1 := by
    rcases Nat.lt_or_ge (k + 1) k' with h | h
    · have := rN_mono (show k + 1 + 1 ≤ k' from h)
      simp only [rN, rL] at this
      simp only [rL] at h2
      omega
    · exact h
  rcases Nat.lt_or_ge k k' with hlt | hge
  · obtain rfl : k' = k + 1 := by omega
    simp only [rN] at hn
    obtain rfl : i' = 1 := by omega
    obtain rfl : i = rL k := by omega
    unfold ax ay
    simp only [cx, cy]
    rcases unit (k + 1) with ⟨h1, h2⟩ | ⟨h1, h2⟩ | ⟨h1, h2⟩ | ⟨h1, h2⟩ <;> rw [h1, h2] <;> omega
  · obtain rfl : k' = k := by omega
    obtain rfl : i' = i + 1 := by omega
    unfold ax ay
    rcases unit k' with ⟨h1, h2⟩ | ⟨h1, h2⟩ | ⟨h1, h2⟩ | ⟨h1, h2⟩ <;> rw [h1, h2] <;> omega
end Go.Proofs.Ytkekidgakmhicaa

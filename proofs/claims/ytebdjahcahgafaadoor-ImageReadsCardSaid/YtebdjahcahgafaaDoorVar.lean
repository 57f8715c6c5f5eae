/- Numbers in bytes, seven bits a byte, as plain lists: how they are written, how they are read, there and back. -/
namespace Go.Proofs.YtebdjahcahgafaaDoor

/-- The bytes of a number. -/
def vn (z : Nat) : List Nat := if z < 128 then [z] else (z % 128 + 128) :: vn (z / 128)
termination_by z
decreasing_by omega

theorem vn_small {z : Nat} (h : z < 128) : vn z = [z] := by rw [vn, if_pos h]
theorem vn_big {z : Nat} (h : ¬ z < 128) : vn z = (z % 128 + 128) :: vn (z / 128) := by rw [vn, if_neg h]

theorem vn_lt (z : Nat) : ∀ x ∈ vn z, x < 256 := by
  induction z using vn.induct with
  | case1 z h => rw [vn_small h]; intro x hx; simp at hx; omega
  | case2 z h ih =>
    rw [vn_big h]
    intro x hx
    rcases List.mem_cons.1 hx with rfl | hx
    · omega
    · exact ih x hx

theorem vn_pos (z : Nat) : 0 < (vn z).length := by
  rw [vn]; split <;> simp

theorem vn_long (z : Nat) : ∀ k, z < 128 ^ (k + 1) → (vn z).length ≤ k + 1 := by
  induction z using vn.induct with
  | case1 z h => intro k _; rw [vn_small h]; simp
  | case2 z h ih =>
    intro k hk
    rw [vn_big h]
    cases k with
    | zero => omega
    | succ k =>
      have := ih k (by rw [Nat.pow_succ] at hk; omega)
      simp only [List.length_cons]
      omega

theorem vn_len10 {z : Nat} (h : z < 18446744073709551616) : (vn z).length ≤ 10 := vn_long z 9 (by omega)
theorem vn_len9 {z : Nat} (h : z < 9223372036854775808) : (vn z).length ≤ 9 := vn_long z 8 (by omega)

/-- What the bytes say: the number and how many bytes it has, or which error. -/
def rd (most : Nat) : Nat → Nat → List Nat → Except Nat (Nat × Nat)
  | i, _, [] => if i = most then .error 20 else .error 3
  | i, z, x :: r =>
    if i = most then .error 20
    else if 128 ≤ x then rd most (i + 1) (z + x % 128 * 128 ^ i) r
    else if (x = 0 ∧ 0 < i) ∨ (i = 9 ∧ 1 < x) then .error 20
    else .ok (z + x * 128 ^ i, i + 1)

theorem rd_nil (most i z : Nat) : rd most i z [] = if i = most then .error 20 else .error 3 := by rw [rd]
theorem rd_cons (most i z x : Nat) (r : List Nat) : rd most i z (x :: r) = if i = most then .error 20 else if 128 ≤ x then rd most (i + 1) (z + x % 128 * 128 ^ i) r else if (x = 0 ∧ 0 < i) ∨ (i = 9 ∧ 1 < x) then .error 20 else .ok (z + x * 128 ^ i, i + 1) := by rw [rd]

theorem rd_vn (most : Nat) (r : List Nat) (z : Nat) : ∀ i acc, i + (vn z).length ≤ most → (z ≠ 0 ∨ i = 0) → z * 128 ^ i < 18446744073709551616 →
    rd most i acc (vn z ++ r) = .ok (acc + z * 128 ^ i, i + (vn z).length) := by
  induction z using vn.induct with
  | case1 z h =>
    intro i acc hm h0 hb
    rw [vn_small h] at hm ⊢
    simp only [List.length_singleton] at hm
    rw [List.singleton_append, rd_cons, if_neg (by omega), if_neg (by omega), if_neg]
    · simp
    · rintro (⟨h1, h2⟩ | ⟨rfl, h2⟩)
      · omega
      · have : (128 : Nat) ^ 9 = 9223372036854775808 := by decide
        omega
  | case2 z h ih =>
    intro i acc hm h0 hb
    rw [vn_big h] at hm ⊢
    simp only [List.length_cons] at hm
    have e : z * 128 ^ i = z % 128 * 128 ^ i + z / 128 * 128 ^ (i + 1) := by
      have hz : z = z % 128 + 128 * (z / 128) := by omega
      conv => lhs; rw [hz]
      rw [Nat.add_mul, Nat.pow_succ, Nat.mul_comm 128, Nat.mul_assoc, Nat.mul_comm 128 (128 ^ i)]
    rw [List.cons_append, rd_cons, if_neg (by omega), if_pos (by omega), ih (i + 1) _ (by omega) (by omega) (by omega)]
    simp only [List.length_cons]
    have e2 : (z % 128 + 128) % 128 = z % 128 := by omega
    rw [e2, e]
    congr 2 <;> omega

/-- What was written is read, whatever stands behind. -/
theorem rd_num {z : Nat} (h : z < 9223372036854775808) (r : List Nat) : rd 9 0 0 (vn z ++ r) = .ok (z, (vn z).length) := by
  have := rd_vn 9 r z 0 0 (by have := vn_len9 h; omega) (.inr rfl) (by omega)
  simpa using this
theorem rd_int {z : Nat} (h : z < 18446744073709551616) (r : List Nat) : rd 10 0 0 (vn z ++ r) = .ok (z, (vn z).length) := by
  have := rd_vn 10 r z 0 0 (by have := vn_len10 h; omega) (.inr rfl) (by omega)
  simpa using this

/-- What is read was written just so. -/
theorem rd_just (most : Nat) (l : List Nat) : ∀ i acc z c, (∀ x ∈ l, x < 256) → rd most i acc l = .ok (z, c) →
    ∃ y, z = acc + y * 128 ^ i ∧ c = i + (vn y).length ∧ (vn y) = l.take (c - i) ∧ c - i ≤ l.length ∧ (0 < i → y ≠ 0) ∧ c ≤ most + 0 ∨ most < i := by
  induction l with
  | nil => intro i acc z c _ h; rw [rd_nil] at h; split at h <;> cases h
  | cons x r ih =>
    intro i acc z c hx h
    rw [rd_cons] at h
    by_cases h1 : i = most
    · rw [if_pos h1] at h; cases h
    rw [if_neg h1] at h
    by_cases hm : most < i
    · exact ⟨0, .inr hm⟩
    by_cases h2 : 128 ≤ x
    · rw [if_pos h2] at h
      obtain ⟨y, hy⟩ := ih (i + 1) _ z c (fun u hu => hx u (List.mem_cons_of_mem _ hu)) h
      rcases hy with ⟨e1, e2, e3, e4, e5, e6⟩ | hlt
      · have hx0 := hx x List.mem_cons_self
        have hy0 : y ≠ 0 := e5 (by omega)
        have hb : ¬ (x % 128 + 128 * y < 128) := by omega
        have hv : vn (x % 128 + 128 * y) = x :: vn y := by
          rw [vn_big hb]
          congr 1
          · omega
          · congr 1; omega
        refine ⟨x % 128 + 128 * y, .inl ⟨?_, ?_, ?_, ?_, ?_, e6⟩⟩
        · rw [e1, Nat.pow_succ, Nat.add_mul, Nat.mul_comm 128 y, Nat.mul_assoc y, Nat.mul_comm 128 (128 ^ i)]; omega
        · rw [hv, e2]; simp only [List.length_cons]; omega
        · rw [hv, e3]
          have : c - i = (c - (i + 1)) + 1 := by have := vn_pos y; omega
          rw [this, List.take_succ_cons]
        · simp only [List.length_cons]; omega
        · intro _; omega
      · omega
    · rw [if_neg h2] at h
      by_cases h3 : (x = 0 ∧ 0 < i) ∨ (i = 9 ∧ 1 < x)
      · rw [if_pos h3] at h; cases h
      · rw [if_neg h3] at h
        injection h with h
        injection h with h4 h5
        subst h4 h5
        refine ⟨x, .inl ⟨rfl, ?_, ?_, ?_, ?_, ?_⟩⟩
        · rw [vn_small (by omega)]; simp
        · rw [vn_small (by omega)]
          have : i + 1 - i = 1 := by omega
          rw [this]; simp
        · simp only [List.length_cons]; omega
        · omega
        · omega

theorem rd_back {most : Nat} {l : List Nat} {z c : Nat} (hl : ∀ x ∈ l, x < 256) (h : rd most 0 0 l = .ok (z, c)) : c = (vn z).length ∧ vn z = l.take c ∧ c ≤ l.length ∧ c ≤ most := by
  obtain ⟨y, hy⟩ := rd_just most l 0 0 z c hl h
  rcases hy with ⟨e1, e2, e3, e4, _, e6⟩ | hlt
  · have : z = y := by simpa using e1
    subst this
    exact ⟨by omega, by simpa using e3, by omega, by omega⟩
  · omega

theorem rd_lt (most : Nat) (l : List Nat) : ∀ i acc z c, most ≤ 10 → i ≤ most → acc < 128 ^ i → i ≤ 9 → rd most i acc l = .ok (z, c) → z < 18446744073709551616 ∧ (c ≤ 9 → z < 9223372036854775808) := by
  induction l with
  | nil => intro i acc z c _ _ _ _ h; rw [rd_nil] at h; split at h <;> cases h
  | cons x r ih =>
    intro i acc z c hm him ha hi h
    rw [rd_cons] at h
    by_cases h1 : i = most
    · rw [if_pos h1] at h; cases h
    rw [if_neg h1] at h
    have hp : 0 < 128 ^ i := Nat.pow_pos (by omega)
    have hp9 : 128 ^ i ≤ 128 ^ 9 := Nat.pow_le_pow_right (by omega) hi
    have e9 : (128 : Nat) ^ 9 = 9223372036854775808 := by decide
    by_cases h2 : 128 ≤ x
    · rw [if_pos h2] at h
      by_cases hi9 : i = 9
      · subst hi9
        -- ten bytes or more: the eleventh is not read
        exfalso
        have : rd most 10 (acc + x % 128 * 128 ^ 9) r = .ok (z, c) := h
        cases r with
        | nil => rw [rd_nil] at this; split at this <;> cases this
        | cons y r =>
          rw [rd_cons] at this
          by_cases hmm : 10 = most
          · rw [if_pos hmm] at this; cases this
          · omega
      · refine ih (i + 1) _ z c hm (by omega) ?_ (by omega) h
        have : x % 128 < 128 := Nat.mod_lt _ (by omega)
        have : x % 128 * 128 ^ i ≤ 127 * 128 ^ i := Nat.mul_le_mul_right _ (by omega)
        rw [Nat.pow_succ]; omega
    · rw [if_neg h2] at h
      by_cases h3 : (x = 0 ∧ 0 < i) ∨ (i = 9 ∧ 1 < x)
      · rw [if_pos h3] at h; cases h
      · rw [if_neg h3] at h
        injection h with h
        injection h with h4 h5
        subst h4 h5
        by_cases hi9 : i = 9
        · subst hi9
          have : x ≤ 1 := by omega
          have : x * 128 ^ 9 ≤ 1 * 128 ^ 9 := Nat.mul_le_mul_right _ this
          refine ⟨by omega, fun h => by omega⟩
        · have h8 : 128 ^ (i + 1) ≤ 128 ^ 9 := Nat.pow_le_pow_right (by omega) (by omega)
          have : x * 128 ^ i ≤ 127 * 128 ^ i := Nat.mul_le_mul_right _ (by omega)
          rw [Nat.pow_succ] at h8
          exact ⟨by omega, fun _ => by omega⟩

theorem rd_lt64 {l : List Nat} {z c : Nat} (h : rd 10 0 0 l = .ok (z, c)) : z < 18446744073709551616 := (rd_lt 10 l 0 0 z c (by omega) (by omega) (by decide) (by omega) h).1

theorem rd_errs (most : Nat) (l : List Nat) : ∀ i acc e, rd most i acc l = .error e → e = 20 ∨ e = 3 := by
  induction l with
  | nil => intro i acc e h; rw [rd_nil] at h; split at h <;> injection h with h <;> omega
  | cons x r ih =>
    intro i acc e h
    rw [rd_cons] at h
    split at h
    · injection h with h; omega
    · split at h
      · exact ih _ _ _ h
      · split at h
        · injection h with h; omega
        · cases h

/-- Any number as one from 0 on. -/
def zz (n : Int) : Nat := if 0 ≤ n then (2 * n).toNat else (-2 * n - 1).toNat
/-- The way back. -/
def uz (z : Nat) : Int := if z % 2 = 0 then ((z / 2 : Nat) : Int) else -((z / 2 : Nat) : Int) - 1
theorem uz_zz (n : Int) : uz (zz n) = n := by
  unfold uz zz
  split <;> split <;> omega
theorem zz_uz (z : Nat) : zz (uz z) = z := by
  unfold uz zz
  split <;> split <;> omega
theorem zz_lt {n : Int} (h1 : -9223372036854775808 ≤ n) (h2 : n < 9223372036854775808) : zz n < 18446744073709551616 := by
  unfold zz
  split <;> omega

end Go.Proofs.YtebdjahcahgafaaDoor

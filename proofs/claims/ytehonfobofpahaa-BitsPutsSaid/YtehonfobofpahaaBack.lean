/- Plain facts: which bits a row has behind a put, and which number is taken of them. -/
import Derived.Test.YtehonfobofpahaaBits
namespace Go.Proofs.Ytehonfobofpahaa

theorem bit_eq (a i : Nat) : a / 2 ^ i % 2 = (a.testBit i).toNat := by
  rw [Nat.testBit_eq_decide_div_mod_eq]
  have : a / 2 ^ i % 2 < 2 := Nat.mod_lt _ (by omega)
  by_cases h : a / 2 ^ i % 2 = 1
  · simp [h]
  · have h0 : a / 2 ^ i % 2 = 0 := by omega
    simp [h0]

theorem bitAt_eq (bs : List Nat) (k : Nat) : bitAt bs k = ((bs.getD (k / 8) 0).testBit (7 - k % 8)).toNat := bit_eq _ _

theorem bitAt_lt (bs : List Nat) (k : Nat) : bitAt bs k < 2 := Nat.mod_lt _ (by omega)

theorem testBit_one_shift {x j i : Nat} (hx : x < 2) : (x <<< j).testBit i = (decide (i = j) && decide (x = 1)) := by
  rw [Nat.testBit_shiftLeft]
  have hx' : x = 0 ∨ x = 1 := by omega
  by_cases h : i = j
  · subst h
    rcases hx' with rfl | rfl <;> simp
  · rcases hx' with rfl | rfl
    · simp
    · by_cases h2 : j ≤ i
      · have h3 : (1 : Nat).testBit (i - j) = false := by
          rw [Nat.testBit_eq_decide_div_mod_eq]
          have : 1 / 2 ^ (i - j) = 0 := Nat.div_eq_of_lt (Nat.one_lt_two_pow (by omega))
          simp [this]
        simp [h, h3]
      · simp [h, h2]

theorem bitAt_put1 {bs : List Nat} {n x : Nat} (h : bs.length = (n + 7) / 8) (hx : x < 2) (hz : bitAt bs n = 0) (k : Nat) : bitAt (put1 bs n x) k = if k = n then x else bitAt bs k := by
  have hl := room_len h
  have hg : (put1 bs n x).getD (k / 8) 0 = if k / 8 = n / 8 then bs.getD (n / 8) 0 ||| (x <<< (7 - n % 8)) else bs.getD (k / 8) 0 := by
    unfold put1
    rw [hl, Nat.add_sub_cancel, List.getD_eq_getElem?_getD, List.getElem?_set]
    by_cases e : n / 8 = k / 8
    · rw [if_pos e, if_pos (by omega), if_pos e.symm, room_getD]; rfl
    · rw [if_neg e, if_neg (fun q => e q.symm), ← List.getD_eq_getElem?_getD, room_getD]
  rw [bitAt_eq, hg]
  by_cases e : k / 8 = n / 8
  · rw [if_pos e, Nat.testBit_or, testBit_one_shift hx]
    by_cases ek : k = n
    · subst ek
      rw [bitAt_eq] at hz
      have hb : (bs.getD (k / 8) 0).testBit (7 - k % 8) = false := by
        cases hb : (bs.getD (k / 8) 0).testBit (7 - k % 8) with
        | false => rfl
        | true => rw [hb] at hz; simp at hz
      rw [hb]
      have hx' : x = 0 ∨ x = 1 := by omega
      rcases hx' with rfl | rfl <;> simp
    · rw [if_neg ek]
      have hne : ¬ (7 - k % 8 = 7 - n % 8) := by omega
      rw [bitAt_eq, ← e]
      simp [hne]
  · rw [if_neg e, if_neg (by rintro rfl; exact e rfl), bitAt_eq]

/-- Behind its n bits a row has none. -/
def Clean (bs : List Nat) (n : Nat) : Prop := ∀ k, n ≤ k → bitAt bs k = 0

theorem Clean.nil : Clean [] 0 := fun k _ => by simp [bitAt]

theorem bits_putN {x s : Nat} : ∀ {bs : List Nat} {n : Nat}, Row bs n → Clean bs n →
    Clean (putN bs n x s) (n + s) ∧ (∀ k, k < n → bitAt (putN bs n x s) k = bitAt bs k) ∧ (∀ i, i < s → bitAt (putN bs n x s) (n + i) = x / 2 ^ (s - 1 - i) % 2) := by
  induction s with
  | zero => intro bs n hr hc; exact ⟨hc, fun _ _ => rfl, fun i hi => by omega⟩
  | succ s ih =>
    intro bs n hr hc
    have hx : x / 2 ^ s % 2 < 2 := Nat.mod_lt _ (by omega)
    have hb := bitAt_put1 hr.len hx (hc n (Nat.le_refl _))
    have hc' : Clean (put1 bs n (x / 2 ^ s % 2)) (n + 1) := fun k hk => by rw [hb, if_neg (by omega)]; exact hc k (by omega)
    obtain ⟨h1, h2, h3⟩ := ih (hr.put1 hx) hc'
    show Clean (putN (put1 bs n (x / 2 ^ s % 2)) (n + 1) x s) (n + (s + 1)) ∧ (∀ k, k < n → bitAt (putN (put1 bs n (x / 2 ^ s % 2)) (n + 1) x s) k = bitAt bs k) ∧ (∀ i, i < s + 1 → bitAt (putN (put1 bs n (x / 2 ^ s % 2)) (n + 1) x s) (n + i) = x / 2 ^ (s + 1 - 1 - i) % 2)
    refine ⟨by rw [show n + (s + 1) = n + 1 + s by omega]; exact h1, fun k hk => ?_, fun i hi => ?_⟩
    · rw [h2 k (by omega), hb, if_neg (by omega)]
    · cases i with
      | zero => rw [h2 (n + 0) (by omega), hb, if_pos (by omega)]; simp
      | succ i => rw [show n + (i + 1) = n + 1 + i by omega, h3 i (by omega), show s + 1 - 1 - (i + 1) = s - 1 - i by omega]

theorem tk_of {bs : List Nat} {x s : Nat} : ∀ {k v : Nat}, (∀ i, i < s → bitAt bs (k + i) = x / 2 ^ (s - 1 - i) % 2) → tk bs k v s = v * 2 ^ s + x % 2 ^ s := by
  induction s with
  | zero => intro k v _; simp [tk, Nat.mod_one]
  | succ s ih =>
    intro k v h
    have h0 := h 0 (by omega)
    have e := ih (k := k + 1) (v := 2 * v + bitAt bs k) (fun i hi => by rw [show k + 1 + i = k + (i + 1) by omega, h (i + 1) (by omega), show s + 1 - 1 - (i + 1) = s - 1 - i by omega])
    show tk bs (k + 1) (2 * v + bitAt bs k) s = _
    rw [e, Nat.mod_pow_succ]
    rw [Nat.add_zero] at h0
    rw [h0, show s + 1 - 1 - 0 = s by omega, Nat.pow_succ, Nat.add_mul, Nat.mul_comm 2 v, Nat.mul_assoc v 2, Nat.mul_comm 2 (2 ^ s), Nat.mul_comm (x / 2 ^ s % 2)]
    omega

/-- How many bits were put. -/
def total (ps : List (Nat × Nat)) : Nat := (ps.map (·.2)).sum

/-- A row that holds the numbers ps, one behind the other. -/
structure HoldsPs (bs : List Nat) (n : Nat) (ps : List (Nat × Nat)) : Prop where
  row : Row bs n
  clean : Clean bs n
  n_eq : n = total ps
  each : ∀ j, (h : j < ps.length) → ps[j].1 < 2 ^ ps[j].2 ∧ ∀ i, i < ps[j].2 → bitAt bs (total (ps.take j) + i) = ps[j].1 / 2 ^ (ps[j].2 - 1 - i) % 2

theorem HoldsPs.nil : HoldsPs [] 0 [] := ⟨Row.nil, Clean.nil, rfl, fun j h => by simp at h⟩

theorem total_append (a b : List (Nat × Nat)) : total (a ++ b) = total a + total b := by simp [total]

theorem total_take_succ (ps : List (Nat × Nat)) (j : Nat) (h : j < ps.length) : total (ps.take (j + 1)) = total (ps.take j) + ps[j].2 := by
  rw [List.take_succ_eq_append_getElem h, total_append]
  simp [total]

theorem total_take_le (ps : List (Nat × Nat)) (j : Nat) : total (ps.take j) ≤ total ps := by
  have : total ps = total (ps.take j) + total (ps.drop j) := by rw [← total_append, List.take_append_drop]
  omega

theorem HoldsPs.snoc {bs : List Nat} {n x s : Nat} {ps : List (Nat × Nat)} (h : HoldsPs bs n ps) (hx : x < 2 ^ s) : HoldsPs (putN bs n x s) (n + s) (ps ++ [(x, s)]) := by
  obtain ⟨h1, h2, h3⟩ := bits_putN (x := x) (s := s) h.row h.clean
  refine ⟨h.row.putN, h1, by rw [total_append, h.n_eq]; simp [total], fun j hj => ?_⟩
  by_cases e : j < ps.length
  · rw [List.getElem_append_left e]
    refine ⟨(h.each j e).1, fun i hi => ?_⟩
    have ht : (ps ++ [(x, s)]).take j = ps.take j := List.take_append_of_le_length (by omega)
    have hle : total (ps.take j) + ps[j].2 ≤ n := by
      rw [h.n_eq, ← total_take_succ ps j e]; exact total_take_le _ _
    rw [ht, h2 _ (by omega)]
    exact (h.each j e).2 i hi
  · have ej : j = ps.length := by simp at hj; omega
    subst ej
    simp only [List.getElem_concat_length, List.take_left']
    refine ⟨hx, fun i hi => ?_⟩
    rw [← h.n_eq]
    exact h3 i hi

theorem HoldsPs.taken {bs : List Nat} {n : Nat} {ps : List (Nat × Nat)} (h : HoldsPs bs n ps) (j : Nat) (hj : j < ps.length) : tk bs (total (ps.take j)) 0 ps[j].2 = ps[j].1 := by
  rw [tk_of (h.each j hj).2, Nat.zero_mul, Nat.zero_add, Nat.mod_eq_of_lt (h.each j hj).1]

end Go.Proofs.Ytehonfobofpahaa

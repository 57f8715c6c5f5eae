/- Plain mathematics: digits doubled thirty-two times. -/
import Derived.Test.YtebabgonffbdhaaDoorDig
namespace Go.Proofs.YtebabgonffbdhaaDoor

/-- The number that digits say, the first one highest. -/
def dvl : List Nat → Nat
  | [] => 0
  | d :: l => d * 10 ^ l.length + dvl l
def Ten (l : List Nat) : Prop := ∀ d ∈ l, d < 10
theorem dvl_lt : ∀ l : List Nat, Ten l → dvl l < 10 ^ l.length
  | [], _ => by simp [dvl]
  | d :: l, h => by
    have h1 := dvl_lt l (fun x hx => h x (by simp [hx]))
    have h2 := h d (by simp)
    simp only [dvl, List.length_cons, Nat.pow_succ]
    have : d * 10 ^ l.length ≤ 9 * 10 ^ l.length := Nat.mul_le_mul_right _ (by omega)
    omega
/-- The values of digits. -/
def vals (l : List Nat) : List Nat := l.map (· - 48)
theorem vals_len (l : List Nat) : (vals l).length = l.length := by simp [vals]
theorem vals_ten {l : List Nat} (h : allD l) : Ten (vals l) := by
  intro d hd
  obtain ⟨c, hc, rfl⟩ := List.mem_map.1 hd
  have := h c hc
  omega
theorem fnn_dvl : ∀ l : List Nat, fnn l = dvl (vals l) * 4294967296 / 10 ^ l.length
  | [] => by simp [fnn, vals, dvl]
  | c :: l => by
    have hp : 0 < 10 ^ l.length := Nat.pow_pos (by omega)
    have e : dvl (vals l) * 4294967296 + (c - 48) * 4294967296 * 10 ^ l.length = ((c - 48) * 10 ^ l.length + dvl (vals l)) * 4294967296 := by
      rw [Nat.add_mul, Nat.mul_right_comm (c - 48)]
      exact Nat.add_comm _ _
    have ev : dvl (vals (c :: l)) = (c - 48) * 10 ^ l.length + dvl (vals l) := by rw [← vals_len l]; rfl
    show (fnn l + (c - 48) * 4294967296) / 10 = _
    rw [fnn_dvl l, ev, ← Nat.add_mul_div_right _ _ hp, Nat.div_div_eq_div_mul, e, List.length_cons, Nat.pow_succ]

/-- One pass of doubling, places from j on done. -/
structure Dbl (r0 r : List Nat) (j over : Nat) : Prop where
  len : r.length = r0.length
  ten : Ten r
  le : j ≤ r0.length
  same : r.take j = r0.take j
  sum : dvl (r.drop j) + over * 10 ^ (r0.length - j) = 2 * dvl (r0.drop j)
  ov : over ≤ 1
theorem Dbl.start {r0 : List Nat} (h : Ten r0) : Dbl r0 r0 r0.length 0 := ⟨rfl, h, Nat.le_refl _, rfl, by simp [dvl], by omega⟩
theorem Dbl.get {r0 r : List Nat} {j over : Nat} (h : Dbl r0 r (j + 1) over) : r.getD j 0 = r0.getD j 0 := by
  have := congrArg (fun l => l.getD j 0) h.same
  simpa [List.getD_eq_getElem?_getD, List.getElem?_take] using this
theorem drop_cons (l : List Nat) (j : Nat) (h : j < l.length) : l.drop j = l.getD j 0 :: l.drop (j + 1) := by
  rw [List.drop_eq_getElem_cons h, getD_at _ _ h]
theorem Dbl.step {r0 r : List Nat} {j over : Nat} (h : Dbl r0 r (j + 1) over) : Dbl r0 (r.set j ((2 * r.getD j 0 + over) % 10)) j ((2 * r.getD j 0 + over) / 10) := by
  have hj : j < r0.length := h.le
  have hjr : j < r.length := by rw [h.len]; exact hj
  have hd : r.getD j 0 < 10 := by rw [getD_at _ _ hjr]; exact h.ten _ (List.getElem_mem _)
  have hov := h.ov
  refine ⟨by rw [List.length_set, h.len], ?_, by omega, ?_, ?_, by omega⟩
  · intro d hdm
    rcases List.mem_or_eq_of_mem_set hdm with h1 | rfl
    · exact h.ten d h1
    · omega
  · rw [List.take_set_of_le (Nat.le_refl _)]
    have := congrArg (List.take j) h.same
    rwa [List.take_take, List.take_take, Nat.min_eq_left (by omega)] at this
  · have e1 : (r.set j ((2 * r.getD j 0 + over) % 10)).drop j = ((2 * r.getD j 0 + over) % 10) :: r.drop (j + 1) := by
      rw [drop_cons _ j (by rw [List.length_set]; exact hjr), List.drop_set_of_lt (by omega)]
      congr 1
      rw [getD_at _ _ (by rw [List.length_set]; exact hjr), List.getElem_set_self]
    have hs := h.sum
    have hg := h.get
    rw [e1, drop_cons r0 j hj, dvl, dvl, List.length_drop, List.length_drop, h.len, ← hg, show r0.length - j = (r0.length - (j + 1)) + 1 by omega, Nat.pow_succ]
    generalize r.getD j 0 = d at *
    generalize 10 ^ (r0.length - (j + 1)) = M at *
    generalize dvl (r.drop (j + 1)) = A at *
    generalize dvl (r0.drop (j + 1)) = B at *
    have k1 : (2 * d + over) % 10 * M + (2 * d + over) / 10 * (M * 10) = (2 * d + over) * M := by
      have : 2 * d + over = (2 * d + over) % 10 + (2 * d + over) / 10 * 10 := by omega
      conv => rhs; rw [this, Nat.add_mul, Nat.mul_assoc, Nat.mul_comm 10 M]
    rw [Nat.add_mul, Nat.mul_assoc] at k1
    have k2 : 2 * (d * M + B) = 2 * (d * M) + 2 * B := by omega
    omega
theorem Dbl.done {r0 r : List Nat} {over : Nat} (h : Dbl r0 r 0 over) : dvl r + over * 10 ^ r0.length = 2 * dvl r0 := by simpa using h.sum

/-- After k passes. -/
structure Pass (W R0 M k w R : Nat) : Prop where
  eq : w * M + R = (W * M + R0) * 2 ^ k
  lt : R < M
theorem Pass.start (W R0 M : Nat) (h : R0 < M) : Pass W R0 M 0 W R0 := ⟨by simp, h⟩
theorem Pass.step {W R0 M k w R R' over : Nat} (h : Pass W R0 M k w R) (hd : R' + over * M = 2 * R) (hl : R' < M) : Pass W R0 M (k + 1) (2 * w + over) R' := by
  refine ⟨?_, hl⟩
  rw [Nat.pow_succ, ← Nat.mul_assoc, ← h.eq, Nat.add_mul, Nat.mul_assoc]
  generalize w * M = a at *
  generalize over * M = b at *
  omega
theorem Pass.bound {W R0 M k w R : Nat} (h : Pass W R0 M k w R) (hR : R0 < M) : w < (W + 1) * 2 ^ k := by
  have h1 : w * M ≤ (W * M + R0) * 2 ^ k := by have := h.eq; omega
  have h2 : (W * M + R0) * 2 ^ k < (W + 1) * M * 2 ^ k := Nat.mul_lt_mul_of_pos_right (by rw [Nat.add_mul]; omega) (Nat.two_pow_pos k)
  have h3 : w * M < (W + 1) * 2 ^ k * M := by rw [Nat.mul_right_comm]; omega
  exact Nat.lt_of_mul_lt_mul_right h3
theorem Pass.done {W R0 M w R : Nat} (h : Pass W R0 M 32 w R) : w = W * 4294967296 + R0 * 4294967296 / M := by
  have hM : 0 < M := by have := h.lt; omega
  have h1 := h.eq
  have h2 : w = (W * M + R0) * 4294967296 / M := by
    rw [show (W * M + R0) * 4294967296 = w * M + R from h1.symm, Nat.add_comm, Nat.add_mul_div_right _ _ hM, Nat.div_eq_of_lt h.lt, Nat.zero_add]
  rw [h2, Nat.add_mul, Nat.mul_right_comm, Nat.add_comm, Nat.add_mul_div_right _ _ hM, Nat.add_comm]

end Go.Proofs.YtebabgonffbdhaaDoor

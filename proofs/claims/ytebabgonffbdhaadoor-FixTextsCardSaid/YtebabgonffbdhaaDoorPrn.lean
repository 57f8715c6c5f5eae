/- Plain mathematics: the text of a number. -/
import Derived.Test.YtebabgonffbdhaaDoorDig
import Derived.Lib.ItoaNum
namespace Go.Proofs.YtebabgonffbdhaaDoor

/-- The digits of f / 2^32 behind the point, at most n. -/
def frd : Nat → Nat → List Nat
  | 0, _ => []
  | n + 1, f => if f = 0 then [] else (48 + f * 10 / 4294967296) :: frd n (f * 10 % 4294967296)
/-- f / 2^32 has at most n digits behind the point. -/
def Few (n f : Nat) : Prop := n ≤ 32 ∧ f < 4294967296 ∧ 2 ^ (32 - n) ∣ f
theorem Few.all {f : Nat} (h : f < 4294967296) : Few 32 f := ⟨by omega, h, by simp⟩
theorem Few.none_ {f : Nat} (h : Few 0 f) : f = 0 := by
  obtain ⟨_, h1, h2⟩ := h
  exact Nat.eq_zero_of_dvd_of_lt h2 h1
theorem Few.next {n f : Nat} (h : Few (n + 1) f) : Few n (f * 10 % 4294967296) := by
  obtain ⟨h0, h1, h2⟩ := h
  refine ⟨by omega, Nat.mod_lt _ (by omega), ?_⟩
  have e : 2 ^ (32 - n) = 2 ^ (32 - (n + 1)) * 2 := by rw [← Nat.pow_succ]; congr 1; omega
  have d1 : 2 ^ (32 - n) ∣ f * 10 := by
    rw [e, show f * 10 = f * 2 * 5 by omega]
    exact Nat.dvd_trans (Nat.mul_dvd_mul_right h2 2) (Nat.dvd_mul_right _ _)
  have d2 : 2 ^ (32 - n) ∣ 4294967296 := by
    rw [show 4294967296 = 2 ^ 32 from rfl]
    exact Nat.pow_dvd_pow 2 (by omega)
  exact (Nat.dvd_mod_iff d2).2 d1
theorem frd_zero (n : Nat) : frd n 0 = [] := by cases n <;> simp [frd]
theorem frd_step {n f : Nat} (h : f ≠ 0) : frd (n + 1) f = (48 + f * 10 / 4294967296) :: frd n (f * 10 % 4294967296) := by simp [frd, h]
theorem frd_len : ∀ n f, (frd n f).length ≤ n
  | 0, _ => by simp [frd]
  | n + 1, f => by
    simp only [frd]
    split
    · simp
    · simp only [List.length_cons]
      have := frd_len n (f * 10 % 4294967296)
      omega
theorem frd_dig : ∀ n f, f < 4294967296 → allD (frd n f)
  | 0, _, _ => by simp [frd, allD]
  | n + 1, f, h => by
    simp only [frd]
    split
    · simp [allD]
    · intro c hc
      rcases List.mem_cons.1 hc with rfl | hc
      · omega
      · exact frd_dig n _ (Nat.mod_lt _ (by omega)) c hc
theorem fnn_frd : ∀ n f, Few n f → fnn (frd n f) = f
  | 0, f, h => by rw [h.none_]; rfl
  | n + 1, f, h => by
    by_cases h0 : f = 0
    · subst h0; rw [frd_zero]; rfl
    · rw [frd_step h0]
      simp only [fnn]
      rw [fnn_frd n _ h.next]
      omega

/-- The digits behind the point, at least one. -/
def frac (f : Nat) : List Nat := if f = 0 then [48] else frd 32 f
theorem frac_dig {f : Nat} (h : f < 4294967296) : allD (frac f) := by
  unfold frac
  split
  · simp [allD]
  · exact frd_dig _ _ h
theorem frac_len {f : Nat} : 1 ≤ (frac f).length ∧ (frac f).length ≤ 32 := by
  unfold frac
  split
  · simp
  · rename_i h
    exact ⟨by rw [frd_step h]; simp, frd_len _ _⟩
theorem fnn_frac {f : Nat} (h : f < 4294967296) : fnn (frac f) = f := by
  unfold frac
  split
  · rename_i h0; subst h0; rfl
  · exact fnn_frd _ _ (Few.all h)

/-- The digits of a whole number. -/
def dd (u : Nat) : List Nat := (Go.Lib.decDigits u).map UInt8.toNat
theorem dd_small {u : Nat} (h : u < 10) : dd u = [48 + u] := by
  rw [dd, Go.Lib.decDigits, dif_pos h]
  simp
  omega
theorem dd_big {u : Nat} (h : ¬ u < 10) : dd u = dd (u / 10) ++ [48 + u % 10] := by
  unfold dd
  rw [Go.Lib.decDigits, dif_neg h]
  simp
  omega
theorem dd_len (u : Nat) : (dd u).length = Go.Lib.nDigits u := by simp [dd, Go.Lib.decDigits_length]
theorem dd_dig (u : Nat) : allD (dd u) := by
  induction u using Nat.strongRecOn with
  | _ u ih =>
    by_cases h : u < 10
    · rw [dd_small h]; intro c hc; simp at hc; omega
    · rw [dd_big h]
      intro c hc
      rcases List.mem_append.1 hc with hc | hc
      · exact ih (u / 10) (by omega) c hc
      · simp at hc; omega
theorem wn_dd (u : Nat) : wn (dd u) = u := by
  induction u using Nat.strongRecOn with
  | _ u ih =>
    by_cases h : u < 10
    · rw [dd_small h]; simp [wn]
    · rw [dd_big h, wn_snoc, ih (u / 10) (by omega)]; omega
/-- The first digit is 0 only of 0. -/
theorem dd_head (u : Nat) : (dd u).getD 0 0 = 48 → u = 0 := by
  induction u using Nat.strongRecOn with
  | _ u ih =>
    by_cases h : u < 10
    · rw [dd_small h]; simp
    · rw [dd_big h]
      have hl : 0 < (dd (u / 10)).length := by rw [dd_len]; exact Go.Lib.nDigits_pos _
      intro hd
      rw [List.getD_eq_getElem?_getD, List.getElem?_append_left hl, ← List.getD_eq_getElem?_getD] at hd
      have := ih (u / 10) (by omega) hd
      omega

def minus (a : Int) : List Nat := if a < 0 then [45] else []
theorem minus_neg {a : Int} (h : a < 0) : minus a = [45] := if_pos h
theorem minus_pos {a : Int} (h : ¬ a < 0) : minus a = [] := if_neg h
/-- The text of a number. -/
def printF (a : Int) : List Nat := minus a ++ dd (a.natAbs / 4294967296) ++ [46] ++ frac (a.natAbs % 4294967296)

end Go.Proofs.YtebabgonffbdhaaDoor

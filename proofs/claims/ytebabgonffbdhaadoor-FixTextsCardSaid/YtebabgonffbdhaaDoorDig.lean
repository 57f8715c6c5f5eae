/- Plain mathematics: digits of texts, and the numbers that they say. -/
namespace Go.Proofs.YtebabgonffbdhaaDoor

theorem getD_at (l : List Nat) (k : Nat) (h : k < l.length) : l.getD k 0 = l[k] := by rw [List.getD_eq_getElem?_getD, List.getElem?_eq_getElem h]; rfl

def isD (c : Nat) : Bool := decide (48 ≤ c) && decide (c ≤ 57)
theorem isD_iff {c : Nat} : isD c = true ↔ 48 ≤ c ∧ c ≤ 57 := by simp [isD]
/-- How many digits a text begins with. -/
def ld : List Nat → Nat
  | [] => 0
  | c :: l => if isD c then ld l + 1 else 0
theorem ld_le (l : List Nat) : ld l ≤ l.length := by
  induction l with
  | nil => exact Nat.le_refl _
  | cons c l ih => simp only [ld, List.length_cons]; split <;> omega
theorem ld_in : ∀ {l : List Nat} {k : Nat}, k < ld l → isD (l.getD k 0) = true
  | [], k, h => by simp [ld] at h
  | c :: l, k, h => by
    simp only [ld] at h
    split at h
    · cases k with
      | zero => simpa
      | succ k => simpa using ld_in (l := l) (k := k) (by omega)
    · omega
theorem ld_out : ∀ {l : List Nat}, ld l < l.length → isD (l.getD (ld l) 0) = false
  | [], h => by simp at h
  | c :: l, h => by
    by_cases hc : isD c = true
    · simp only [ld, hc, if_true, List.length_cons] at h ⊢
      simpa using ld_out (l := l) (by omega)
    · have : isD c = false := by simpa using hc
      simp [ld, this]
/-- Are they all digits? -/
def allD (l : List Nat) : Prop := ∀ c ∈ l, 48 ≤ c ∧ c ≤ 57
theorem allD_iff (l : List Nat) : ld l = l.length ↔ allD l := by
  induction l with
  | nil => simp [ld, allD]
  | cons c l ih =>
    by_cases hc : isD c = true
    · have := isD_iff.1 hc
      simp only [ld, hc, if_true, List.length_cons, Nat.add_right_cancel_iff, ih, allD, List.mem_cons, forall_eq_or_imp]
      exact ⟨fun h => ⟨this, h⟩, fun h => h.2⟩
    · have hc' := hc
      rw [isD_iff] at hc'
      simp only [ld, hc, allD, List.length_cons, List.mem_cons, forall_eq_or_imp]
      constructor
      · intro h; simp at h
      · intro h; exact absurd h.1 hc'
theorem take_ld (l : List Nat) : allD (l.take (ld l)) := by
  intro c hc
  obtain ⟨i, hi, rfl⟩ := List.mem_iff_getElem.1 hc
  have hi' : i < ld l := by simp at hi; omega
  have := isD_iff.1 (ld_in hi')
  rw [List.getElem_take]
  rwa [getD_at _ _ (by have := ld_le l; omega)] at this

/-- The number that digits say. -/
def wn (l : List Nat) : Nat := l.foldl (fun n c => n * 10 + (c - 48)) 0
theorem wn_snoc (l : List Nat) (c : Nat) : wn (l ++ [c]) = wn l * 10 + (c - 48) := by simp [wn]
theorem wn_lt (n : Nat) : ∀ l : List Nat, l.length = n → allD l → wn l < 10 ^ n := by
  induction n with
  | zero => intro l hl _; obtain rfl := List.eq_nil_of_length_eq_zero hl; simp [wn]
  | succ n ih =>
    intro l hl hd
    obtain ⟨l', c, rfl⟩ : ∃ l' c, l = l' ++ [c] := ⟨l.dropLast, l.getLast (by intro h; simp [h] at hl), (List.dropLast_concat_getLast _).symm⟩
    have h1 := ih l' (by simpa using hl) (fun x hx => hd x (by simp [hx]))
    have h2 := hd c (by simp)
    rw [wn_snoc, Nat.pow_succ]
    omega
theorem wn_take (l : List Nat) (k : Nat) (h : k < l.length) : wn (l.take (k + 1)) = wn (l.take k) * 10 + (l.getD k 0 - 48) := by
  rw [List.take_succ_eq_append_getElem h, wn_snoc, getD_at _ _ h]

/-- What digits behind a point say, times 2^32, towards 0. -/
def fnn : List Nat → Nat
  | [] => 0
  | c :: l => (fnn l + (c - 48) * 4294967296) / 10
theorem fnn_lt : ∀ l : List Nat, allD l → fnn l < 4294967296
  | [], _ => by simp [fnn]
  | c :: l, h => by
    have h1 := fnn_lt l (fun x hx => h x (by simp [hx]))
    have h2 := h c (by simp)
    simp only [fnn]
    omega
theorem fnn_drop (l : List Nat) (k : Nat) (h : k < l.length) : fnn (l.drop k) = (fnn (l.drop (k + 1)) + (l.getD k 0 - 48) * 4294967296) / 10 := by
  rw [List.drop_eq_getElem_cons h, getD_at _ _ h]
  rfl

end Go.Proofs.YtebabgonffbdhaaDoor

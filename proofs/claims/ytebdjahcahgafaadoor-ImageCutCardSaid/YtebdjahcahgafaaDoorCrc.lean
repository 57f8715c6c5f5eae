/- The sum of bytes as plain numbers: bit by bit, by nibbles; what the sum of a frame is; which frames differ. -/
namespace Go.Proofs.YtebdjahcahgafaaDoor

/-- One shift of the register. -/
def cb (s : Nat) : Nat := (s >>> 1) ^^^ (if s % 2 = 1 then 3988292384 else 0)
def cb4 (s : Nat) : Nat := cb (cb (cb (cb s)))
def cb8 (s : Nat) : Nat := cb4 (cb4 s)
/-- One byte. -/
def cby (s x : Nat) : Nat := cb8 (s ^^^ x)
/-- The register behind bytes. -/
def creg (s : Nat) (l : List Nat) : Nat := l.foldl cby s
/-- The sum of bytes. -/
def crc (l : List Nat) : Nat := creg 4294967295 l ^^^ 4294967295

/-- The table. -/
def nibs : List Nat := [0, 498536548, 997073096, 651767980, 1994146192, 1802195444, 1303535960, 1342533948, 3988292384, 4027552580, 3604390888, 3412177804, 2607071920, 2262029012, 2685067896, 3183342108]

theorem xor_mod2 (a b : Nat) : (a ^^^ b) % 2 = (a % 2 + b % 2) % 2 := by
  have h := Nat.xor_mod_two_pow (a := a) (b := b) (n := 1)
  simp only [Nat.pow_one] at h
  rw [h]
  have ha : a % 2 = 0 ∨ a % 2 = 1 := by omega
  have hb : b % 2 = 0 ∨ b % 2 = 1 := by omega
  rcases ha with ha | ha <;> rcases hb with hb | hb <;> rw [ha, hb] <;> rfl

theorem xor_zero_of {a b : Nat} (h : a ^^^ b = 0) : a = b := by
  have e : (a ^^^ b) ^^^ b = 0 ^^^ b := by rw [h]
  rwa [Nat.xor_assoc, Nat.xor_self, Nat.xor_zero, Nat.zero_xor] at e

theorem xor4 (a b c d : Nat) : (a ^^^ b) ^^^ (c ^^^ d) = (a ^^^ c) ^^^ (b ^^^ d) := by
  rw [Nat.xor_assoc, Nat.xor_assoc, ← Nat.xor_assoc b c d, Nat.xor_comm b c, Nat.xor_assoc c b d]

theorem cb_xor (a b : Nat) : cb (a ^^^ b) = cb a ^^^ cb b := by
  unfold cb
  rw [Nat.shiftRight_xor_distrib, xor_mod2]
  have ha : a % 2 = 0 ∨ a % 2 = 1 := by omega
  have hb : b % 2 = 0 ∨ b % 2 = 1 := by omega
  rcases ha with ha | ha <;> rcases hb with hb | hb <;> rw [ha, hb] <;> simp only [Nat.reduceAdd, Nat.reduceMod, if_true, if_false, Nat.zero_ne_one, Nat.xor_zero]
  · rw [Nat.xor_assoc]
  · rw [Nat.xor_assoc, Nat.xor_comm (b >>> 1), ← Nat.xor_assoc]
  · rw [xor4, Nat.xor_self, Nat.xor_zero]
theorem cb4_xor (a b : Nat) : cb4 (a ^^^ b) = cb4 a ^^^ cb4 b := by simp only [cb4, cb_xor]
theorem cb8_xor (a b : Nat) : cb8 (a ^^^ b) = cb8 a ^^^ cb8 b := by simp only [cb8, cb4_xor]

theorem cb_even (t : Nat) : cb (2 * t) = t := by
  unfold cb
  rw [if_neg (by omega), Nat.xor_zero, Nat.shiftRight_eq_div_pow]
  omega
theorem cb4_even (t : Nat) : cb4 (16 * t) = t := by
  unfold cb4
  rw [show 16 * t = 2 * (2 * (2 * (2 * t))) by omega, cb_even, cb_even, cb_even, cb_even]
theorem cb8_even (t : Nat) : cb8 (256 * t) = t := by
  unfold cb8
  rw [show 256 * t = 16 * (16 * t) by omega, cb4_even, cb4_even]

theorem split_xor (k s : Nat) : s = (2 ^ k * (s / 2 ^ k)) ^^^ (s % 2 ^ k) := by
  have hlt : s % 2 ^ k < 2 ^ k := Nat.mod_lt _ (Nat.two_pow_pos k)
  have h := Nat.two_pow_add_eq_or_of_lt hlt (s / 2 ^ k)
  have e : 2 ^ k * (s / 2 ^ k) + s % 2 ^ k = s := Nat.div_add_mod _ _
  apply Nat.eq_of_testBit_eq
  intro i
  rw [Nat.testBit_xor, Nat.testBit_two_pow_mul, Nat.testBit_mod_two_pow, Nat.testBit_div_two_pow]
  by_cases hi : i < k
  · simp [hi, Nat.not_le.2 hi]
  · have : k ≤ i := by omega
    simp [hi, this]

theorem cb4_tab (s : Nat) : cb4 s = (s >>> 4) ^^^ nibs.getD (s % 16) 0 := by
  have e := split_xor 4 s
  have h16 : (2 : Nat) ^ 4 = 16 := rfl
  rw [h16] at e
  have hs : cb4 s = cb4 ((16 * (s / 16)) ^^^ (s % 16)) := by rw [← e]
  rw [hs, cb4_xor, cb4_even, Nat.shiftRight_eq_div_pow, h16]
  congr 1
  have hlt : s % 16 < 16 := Nat.mod_lt _ (by omega)
  generalize s % 16 = m at hlt
  have : ∀ m, m < 16 → cb4 m = nibs.getD m 0 := by decide
  exact this m hlt

theorem cb_lt {s : Nat} (h : s < 4294967296) : cb s < 4294967296 := by
  unfold cb
  refine Nat.xor_lt_two_pow (n := 32) ?_ ?_
  · rw [Nat.shiftRight_eq_div_pow]; omega
  · split <;> omega
theorem cb4_lt {s : Nat} (h : s < 4294967296) : cb4 s < 4294967296 := cb_lt (cb_lt (cb_lt (cb_lt h)))
theorem cb8_lt {s : Nat} (h : s < 4294967296) : cb8 s < 4294967296 := cb4_lt (cb4_lt h)
theorem cby_lt {s x : Nat} (h : s < 4294967296) (hx : x < 256) : cby s x < 4294967296 := cb8_lt (Nat.xor_lt_two_pow (n := 32) h (by omega))
theorem creg_lt {l : List Nat} : ∀ {s : Nat}, s < 4294967296 → (∀ x ∈ l, x < 256) → creg s l < 4294967296 := by
  induction l with
  | nil => intro s h _; exact h
  | cons x r ih =>
    intro s h hx
    exact ih (cby_lt h (hx x (List.mem_cons_self))) (fun y hy => hx y (List.mem_cons_of_mem _ hy))
theorem crc_lt {l : List Nat} (h : ∀ x ∈ l, x < 256) : crc l < 4294967296 := Nat.xor_lt_two_pow (n := 32) (creg_lt (by omega) h) (by omega)
theorem creg_append (s : Nat) (a b : List Nat) : creg s (a ++ b) = creg (creg s a) b := by simp [creg]

theorem cb_zero {c : Nat} (h : c < 4294967296) (e : cb c = 0) : c = 0 := by
  unfold cb at e
  rw [Nat.shiftRight_eq_div_pow] at e
  by_cases hc : c % 2 = 1
  · rw [if_pos hc] at e
    have := xor_zero_of e
    omega
  · rw [if_neg hc, Nat.xor_zero] at e
    omega
theorem cb_inj {a b : Nat} (ha : a < 4294967296) (hb : b < 4294967296) (e : cb a = cb b) : a = b := by
  refine xor_zero_of (cb_zero (Nat.xor_lt_two_pow (n := 32) ha hb) ?_)
  rw [cb_xor, e, Nat.xor_self]
theorem cb4_inj {a b : Nat} (ha : a < 4294967296) (hb : b < 4294967296) (e : cb4 a = cb4 b) : a = b :=
  cb_inj ha hb (cb_inj (cb_lt ha) (cb_lt hb) (cb_inj (cb_lt (cb_lt ha)) (cb_lt (cb_lt hb)) (cb_inj (cb_lt (cb_lt (cb_lt ha))) (cb_lt (cb_lt (cb_lt hb))) e)))
theorem cb8_inj {a b : Nat} (ha : a < 4294967296) (hb : b < 4294967296) (e : cb8 a = cb8 b) : a = b := cb4_inj ha hb (cb4_inj (cb4_lt ha) (cb4_lt hb) e)
theorem xor_left_inj {a b x : Nat} (e : a ^^^ x = b ^^^ x) : a = b := by
  have : (a ^^^ x) ^^^ x = (b ^^^ x) ^^^ x := by rw [e]
  rwa [Nat.xor_assoc, Nat.xor_self, Nat.xor_zero, Nat.xor_assoc, Nat.xor_self, Nat.xor_zero] at this
theorem cby_inj {a b x : Nat} (ha : a < 4294967296) (hb : b < 4294967296) (hx : x < 256) (e : cby a x = cby b x) : a = b :=
  xor_left_inj (cb8_inj (Nat.xor_lt_two_pow (n := 32) ha (by omega)) (Nat.xor_lt_two_pow (n := 32) hb (by omega)) e)
theorem creg_inj {l : List Nat} : ∀ {a b : Nat}, a < 4294967296 → b < 4294967296 → (∀ x ∈ l, x < 256) → creg a l = creg b l → a = b := by
  induction l with
  | nil => intro a b _ _ _ e; exact e
  | cons x r ih =>
    intro a b ha hb hx e
    have h0 := hx x List.mem_cons_self
    exact cby_inj ha hb h0 (ih (cby_lt ha h0) (cby_lt hb h0) (fun y hy => hx y (List.mem_cons_of_mem _ hy)) e)

/-- Four bytes as one number, the lowest first. -/
def word (a b c d : Nat) : Nat := a ^^^ (256 * (b ^^^ (256 * (c ^^^ (256 * d)))))
theorem mul256_xor (a b : Nat) : 256 * (a ^^^ b) = (256 * a) ^^^ (256 * b) := by
  have h := Nat.shiftLeft_xor_distrib (a := a) (b := b) (i := 8)
  simp only [Nat.shiftLeft_eq] at h
  rw [Nat.mul_comm 256, Nat.mul_comm 256 a, Nat.mul_comm 256 b]
  exact h
theorem cby_four (s a b c d : Nat) : cby (cby (cby (cby s a) b) c) d = cb8 (cb8 (cb8 (cb8 (s ^^^ word a b c d)))) := by
  unfold cby word
  have step : ∀ s a y, cb8 (s ^^^ (a ^^^ (256 * y))) = cb8 (s ^^^ a) ^^^ y := by
    intro s a y
    rw [← Nat.xor_assoc, cb8_xor, cb8_even]
  rw [step, step, step]
theorem word_lt {a b c d : Nat} (ha : a < 256) (hb : b < 256) (hc : c < 256) (hd : d < 256) : word a b c d < 4294967296 := by
  unfold word
  have h1 : c ^^^ (256 * d) < 65536 := Nat.xor_lt_two_pow (n := 16) (by omega) (by omega)
  have h2 : b ^^^ (256 * (c ^^^ (256 * d))) < 16777216 := Nat.xor_lt_two_pow (n := 24) (by omega) (by omega)
  exact Nat.xor_lt_two_pow (n := 32) (by omega) (by omega)
theorem word_of (s : Nat) (h : s < 4294967296) : word (s % 256) (s / 256 % 256) (s / 65536 % 256) (s / 16777216 % 256) = s := by
  unfold word
  have e : ∀ t, t = (t % 256) ^^^ (256 * (t / 256)) := by
    intro t
    have := split_xor 8 t
    rw [Nat.xor_comm] at this
    exact this
  have e3 : s / 16777216 % 256 = s / 65536 / 256 := by omega
  have e2 : (s / 65536 % 256) ^^^ (256 * (s / 16777216 % 256)) = s / 256 / 256 := by
    rw [e3, ← e]; omega
  have e1 : (s / 256 % 256) ^^^ (256 * (s / 256 / 256)) = s / 256 := (e _).symm
  rw [e2, e1, ← e]
theorem word_xor (a b c d a' b' c' d' : Nat) : word (a ^^^ a') (b ^^^ b') (c ^^^ c') (d ^^^ d') = word a b c d ^^^ word a' b' c' d' := by
  simp only [word, mul256_xor]
  apply Nat.eq_of_testBit_eq
  intro i
  simp only [Nat.testBit_xor]
  cases a.testBit i <;> cases a'.testBit i <;> simp [Bool.xor_comm, Bool.xor_left_comm]
theorem word_inj {a b c d a' b' c' d' : Nat} (ha : a < 256) (hb : b < 256) (hc : c < 256) (ha' : a' < 256) (hb' : b' < 256) (hc' : c' < 256) (e : word a b c d = word a' b' c' d') : a = a' ∧ b = b' ∧ c = c' ∧ d = d' := by
  have key : ∀ x y x' y', x < 256 → x' < 256 → x ^^^ (256 * y) = x' ^^^ (256 * y') → x = x' ∧ y = y' := by
    intro x y x' y' hx hx' e
    have e1 : ∀ x y, x < 256 → (x ^^^ (256 * y)) = 256 * y + x := by
      intro x y hx
      have h := split_xor 8 (256 * y + x)
      have h8 : (2 : Nat) ^ 8 = 256 := rfl
      rw [h8, show (256 * y + x) / 256 = y by omega, show (256 * y + x) % 256 = x by omega, Nat.xor_comm] at h
      exact h.symm
    rw [e1 _ _ hx, e1 _ _ hx'] at e
    omega
  unfold word at e
  obtain ⟨h1, e⟩ := key _ _ _ _ ha ha' e
  obtain ⟨h2, e⟩ := key _ _ _ _ hb hb' e
  obtain ⟨h3, e⟩ := key _ _ _ _ hc hc' e
  exact ⟨h1, h2, h3, e⟩

/-- A number of 32 bits in four bytes, the lowest first. -/
def le4 (s : Nat) : List Nat := [s % 256, s / 256 % 256, s / 65536 % 256, s / 16777216 % 256]
theorem le4_lt (s : Nat) : ∀ x ∈ le4 s, x < 256 := by
  intro x hx
  simp only [le4, List.mem_cons, List.not_mem_nil, or_false] at hx
  rcases hx with rfl | rfl | rfl | rfl <;> exact Nat.mod_lt _ (by omega)

/-- Bytes with their sum. -/
def frame (l : List Nat) : List Nat := l ++ le4 (crc l)
theorem frame_length (l : List Nat) : (frame l).length = l.length + 4 := by simp [frame, le4]
theorem frame_lt {l : List Nat} (h : ∀ x ∈ l, x < 256) : ∀ x ∈ frame l, x < 256 := by
  intro x hx
  rcases List.mem_append.1 hx with hx | hx
  · exact h x hx
  · exact le4_lt _ x hx

/-- The register behind four more bytes. -/
theorem creg_four (s a b c d : Nat) : creg s [a, b, c, d] = cb8 (cb8 (cb8 (cb8 (s ^^^ word a b c d)))) := cby_four s a b c d

/-- The register behind any frame. -/
def rest : Nat := cb8 (cb8 (cb8 (cb8 4294967295)))

theorem creg_frame {l : List Nat} (h : ∀ x ∈ l, x < 256) : creg 4294967295 (frame l) = rest := by
  unfold frame
  rw [creg_append]
  have hl := crc_lt h
  rw [show le4 (crc l) = [crc l % 256, crc l / 256 % 256, crc l / 65536 % 256, crc l / 16777216 % 256] from rfl, creg_four, word_of _ hl]
  unfold crc rest
  rw [← Nat.xor_assoc, Nat.xor_self, Nat.zero_xor]

theorem crc_frame {l : List Nat} (h : ∀ x ∈ l, x < 256) : crc (frame l) = 558161692 := by
  unfold crc
  rw [creg_frame h]
  decide

/-- Four bytes behind others are their sum just where the register behind them is that of a frame. -/
theorem le4_iff {l : List Nat} (h : ∀ x ∈ l, x < 256) {a b c d : Nat} (ha : a < 256) (hb : b < 256) (hc : c < 256) (hd : d < 256) :
    [a, b, c, d] = le4 (crc l) ↔ creg 4294967295 (l ++ [a, b, c, d]) = rest := by
  constructor
  · intro e
    rw [e]
    exact creg_frame h
  · intro e
    rw [creg_append, creg_four] at e
    have hs := creg_lt (s := 4294967295) (by omega) h
    have hw := word_lt ha hb hc hd
    have hx : creg 4294967295 l ^^^ word a b c d < 4294967296 := Nat.xor_lt_two_pow (n := 32) hs hw
    have e1 := cb8_inj hx (by omega) (cb8_inj (cb8_lt hx) (cb8_lt (by omega)) (cb8_inj (cb8_lt (cb8_lt hx)) (cb8_lt (cb8_lt (by omega))) (cb8_inj (cb8_lt (cb8_lt (cb8_lt hx))) (cb8_lt (cb8_lt (cb8_lt (by omega)))) e)))
    have e2 : word a b c d = crc l := by
      have : creg 4294967295 l ^^^ (creg 4294967295 l ^^^ word a b c d) = creg 4294967295 l ^^^ 4294967295 := by rw [e1]
      rwa [← Nat.xor_assoc, Nat.xor_self, Nat.zero_xor] at this
    have e3 := word_of (crc l) (crc_lt h)
    obtain ⟨h1, h2, h3, h4⟩ := word_inj ha hb hc (Nat.mod_lt _ (by omega)) (Nat.mod_lt _ (by omega)) (Nat.mod_lt _ (by omega)) (e2.trans e3.symm)
    rw [h1, h2, h3, h4]
    rfl

/-- Where four bytes beside each other are turned, the register is another, unless nothing was turned. -/
theorem creg_turned {p q : List Nat} {a b c d a' b' c' d' : Nat} (hp : ∀ x ∈ p, x < 256) (hq : ∀ x ∈ q, x < 256) (ha : a < 256) (hb : b < 256) (hc : c < 256) (hd : d < 256) (ha' : a' < 256) (hb' : b' < 256) (hc' : c' < 256) (hd' : d' < 256) :
    creg 4294967295 (p ++ [a, b, c, d] ++ q) = creg 4294967295 (p ++ [a', b', c', d'] ++ q) ↔ (a = a' ∧ b = b' ∧ c = c' ∧ d = d') := by
  constructor
  · intro e
    simp only [creg_append] at e
    have hs := creg_lt (s := 4294967295) (by omega) hp
    have m1 : ∀ x ∈ [a, b, c, d], x < 256 := by intro x hx; simp at hx; rcases hx with rfl | rfl | rfl | rfl <;> assumption
    have m2 : ∀ x ∈ [a', b', c', d'], x < 256 := by intro x hx; simp at hx; rcases hx with rfl | rfl | rfl | rfl <;> assumption
    have e1 := creg_inj (creg_lt hs m1) (creg_lt hs m2) hq e
    rw [creg_four, creg_four] at e1
    have hx : creg 4294967295 p ^^^ word a b c d < 4294967296 := Nat.xor_lt_two_pow (n := 32) hs (word_lt ha hb hc hd)
    have hy : creg 4294967295 p ^^^ word a' b' c' d' < 4294967296 := Nat.xor_lt_two_pow (n := 32) hs (word_lt ha' hb' hc' hd')
    have e2 := cb8_inj hx hy (cb8_inj (cb8_lt hx) (cb8_lt hy) (cb8_inj (cb8_lt (cb8_lt hx)) (cb8_lt (cb8_lt hy)) (cb8_inj (cb8_lt (cb8_lt (cb8_lt hx))) (cb8_lt (cb8_lt (cb8_lt hy))) e1)))
    rw [Nat.xor_comm, Nat.xor_comm (creg 4294967295 p)] at e2
    exact word_inj ha hb hc ha' hb' hc' (xor_left_inj e2)
  · rintro ⟨rfl, rfl, rfl, rfl⟩
    rfl

end Go.Proofs.YtebdjahcahgafaaDoor

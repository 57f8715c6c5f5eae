/- Plain facts: bits that are taken and put again are the same bytes. -/
import Derived.Test.YtehonfobofpahaaBack
namespace Go.Proofs.Ytehonfobofpahaa

theorem tk_split {bs : List Nat} {n : Nat} : ∀ {k v : Nat}, ∃ r, r < 2 ^ n ∧ tk bs k v n = v * 2 ^ n + r := by
  induction n with
  | zero => intro k v; exact ⟨0, by simp, by simp [tk]⟩
  | succ n ih =>
    intro k v
    obtain ⟨r, hr, e⟩ := ih (k := k + 1) (v := 2 * v + bitAt bs k)
    have hb := bitAt_lt bs k
    refine ⟨bitAt bs k * 2 ^ n + r, ?_, ?_⟩
    · have : bitAt bs k * 2 ^ n ≤ 1 * 2 ^ n := Nat.mul_le_mul_right _ (by omega)
      rw [Nat.pow_succ]; omega
    · show tk bs (k + 1) (2 * v + bitAt bs k) n = _
      rw [e, Nat.pow_succ, Nat.add_mul, Nat.mul_comm 2 v, Nat.mul_assoc v 2, Nat.mul_comm 2 (2 ^ n)]
      omega

theorem tk_lt (bs : List Nat) (k n : Nat) : tk bs k 0 n < 2 ^ n := by
  obtain ⟨r, hr, e⟩ := tk_split (bs := bs) (n := n) (k := k) (v := 0)
  omega

theorem tk_bit {bs : List Nat} {n : Nat} : ∀ {k v i : Nat}, i < n → tk bs k v n / 2 ^ (n - 1 - i) % 2 = bitAt bs (k + i) := by
  induction n with
  | zero => intro k v i hi; omega
  | succ n ih =>
    intro k v i hi
    cases i with
    | zero =>
      obtain ⟨r, hr, e⟩ := tk_split (bs := bs) (n := n) (k := k + 1) (v := 2 * v + bitAt bs k)
      show tk bs (k + 1) (2 * v + bitAt bs k) n / 2 ^ (n + 1 - 1 - 0) % 2 = _
      rw [e, show n + 1 - 1 - 0 = n by omega, Nat.mul_comm, Nat.mul_add_div (Nat.two_pow_pos n), Nat.div_eq_of_lt hr]
      have hb := bitAt_lt bs k
      rw [Nat.add_zero, Nat.add_zero]
      omega
    | succ i =>
      have := ih (k := k + 1) (v := 2 * v + bitAt bs k) (i := i) (by omega)
      show tk bs (k + 1) (2 * v + bitAt bs k) n / 2 ^ (n + 1 - 1 - (i + 1)) % 2 = _
      rw [show n + 1 - 1 - (i + 1) = n - 1 - i by omega, this, show k + (i + 1) = k + 1 + i by omega]

/-- The row cs has the first k bits of bs, and no more. -/
structure Copies (cs : List Nat) (bs : List Nat) (k : Nat) : Prop where
  row : Row cs k
  clean : Clean cs k
  same : ∀ t, t < k → bitAt cs t = bitAt bs t

theorem Copies.nil (bs : List Nat) : Copies [] bs 0 := ⟨Row.nil, Clean.nil, fun t ht => by omega⟩

theorem Copies.next {cs bs : List Nat} {k : Nat} (h : Copies cs bs k) (n : Nat) : Copies (putN cs k (tk bs k 0 n) n) bs (k + n) := by
  obtain ⟨h1, h2, h3⟩ := bits_putN (x := tk bs k 0 n) (s := n) h.row h.clean
  refine ⟨h.row.putN, h1, fun t ht => ?_⟩
  by_cases e : t < k
  · rw [h2 t e, h.same t e]
  · obtain ⟨i, rfl⟩ : ∃ i, t = k + i := ⟨t - k, by omega⟩
    rw [h3 i (by omega), tk_bit (by omega)]

theorem byte_ext {a b : Nat} (ha : a < 256) (hb : b < 256) (h : ∀ i, i < 8 → a / 2 ^ i % 2 = b / 2 ^ i % 2) : a = b := by
  have h0 := h 0 (by omega)
  have h1 := h 1 (by omega)
  have h2 := h 2 (by omega)
  have h3 := h 3 (by omega)
  have h4 := h 4 (by omega)
  have h5 := h 5 (by omega)
  have h6 := h 6 (by omega)
  have h7 := h 7 (by omega)
  simp only [show (2 : Nat) ^ 0 = 1 by rfl, show (2 : Nat) ^ 1 = 2 by rfl, show (2 : Nat) ^ 2 = 4 by rfl, show (2 : Nat) ^ 3 = 8 by rfl, show (2 : Nat) ^ 4 = 16 by rfl, show (2 : Nat) ^ 5 = 32 by rfl, show (2 : Nat) ^ 6 = 64 by rfl, show (2 : Nat) ^ 7 = 128 by rfl] at *
  omega

theorem Copies.all {cs bs : List Nat} (h : Copies cs bs (8 * bs.length)) (hby : ∀ i, bs.getD i 0 < 256) : cs = bs := by
  have hl : cs.length = bs.length := by have := h.row.len; omega
  apply List.ext_getElem hl
  intro i h1 h2
  have e1 : cs[i] = cs.getD i 0 := by simp [List.getD, List.getElem?_eq_getElem h1]
  have e2 : bs[i] = bs.getD i 0 := by simp [List.getD, List.getElem?_eq_getElem h2]
  rw [e1, e2]
  refine byte_ext (h.row.byte i) (hby i) fun j hj => ?_
  have := h.same (8 * i + (7 - j)) (by omega)
  unfold bitAt at this
  rw [show (8 * i + (7 - j)) / 8 = i by omega, show 7 - (8 * i + (7 - j)) % 8 = j by omega] at this
  exact this

end Go.Proofs.Ytehonfobofpahaa

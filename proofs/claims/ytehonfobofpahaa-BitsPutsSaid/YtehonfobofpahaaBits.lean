/- Plain facts on bits and bytes, without the program: what putting a bit, and a number, does to a row of bytes. -/
namespace Go.Proofs.Ytehonfobofpahaa

/-- The row with room for the bit number n. -/
def room (bs : List Nat) (n : Nat) : List Nat := if n % 8 = 0 then bs ++ [0] else bs
/-- The row with the bit number n put into its last byte. -/
def put1 (bs : List Nat) (n x : Nat) : List Nat := (room bs n).set ((room bs n).length - 1) ((room bs n).getD ((room bs n).length - 1) 0 ||| (x <<< (7 - n % 8)))
/-- The row with the lowest k bits of v put behind n bits. -/
def putN (bs : List Nat) (n v : Nat) : Nat → List Nat
  | 0 => bs
  | k + 1 => putN (put1 bs n (v / 2 ^ k % 2)) (n + 1) v k

/-- A row of bytes that has n bits. -/
structure Row (bs : List Nat) (n : Nat) : Prop where
  len : bs.length = (n + 7) / 8
  byte : ∀ i, bs.getD i 0 < 256

theorem Row.nil : Row [] 0 := ⟨rfl, fun i => by simp⟩

theorem getD_append_zero (bs : List Nat) (i : Nat) : (bs ++ [0]).getD i 0 = bs.getD i 0 := by
  simp only [List.getD_eq_getElem?_getD, List.getElem?_append]
  split
  · rfl
  · rename_i h
    rw [List.getElem?_eq_none (l := bs) (by omega)]
    cases i - bs.length with
    | zero => rfl
    | succ j => simp

theorem room_getD (bs : List Nat) (n i : Nat) : (room bs n).getD i 0 = bs.getD i 0 := by
  unfold room
  split
  · exact getD_append_zero bs i
  · rfl

theorem room_len {bs : List Nat} {n : Nat} (h : bs.length = (n + 7) / 8) : (room bs n).length = n / 8 + 1 := by
  unfold room
  split
  · simp only [List.length_append, List.length_cons, List.length_nil]; omega
  · omega

theorem put1_len {bs : List Nat} {n : Nat} (x : Nat) (h : bs.length = (n + 7) / 8) : (put1 bs n x).length = (n + 1 + 7) / 8 := by
  unfold put1
  rw [List.length_set, room_len h]; omega

theorem shift_lt {x k : Nat} (hx : x < 2) (hk : k ≤ 7) : x <<< k < 256 := by
  rw [Nat.shiftLeft_eq]
  have : 2 ^ k ≤ 2 ^ 7 := Nat.pow_le_pow_right (by omega) hk
  have : x * 2 ^ k ≤ 1 * 2 ^ 7 := Nat.mul_le_mul (by omega) this
  omega

theorem put1_byte {bs : List Nat} {n x : Nat} (h : ∀ i, bs.getD i 0 < 256) (hx : x < 2) : ∀ i, (put1 bs n x).getD i 0 < 256 := by
  intro i
  unfold put1
  rw [List.getD_eq_getElem?_getD, List.getElem?_set]
  split
  · split
    · simp only [Option.getD_some]
      rw [room_getD]
      exact Nat.or_lt_two_pow (n := 8) (h _) (shift_lt hx (by omega))
    · simp
  · rw [← List.getD_eq_getElem?_getD, room_getD]; exact h i

theorem Row.put1 {bs : List Nat} {n x : Nat} (h : Row bs n) (hx : x < 2) : Row (put1 bs n x) (n + 1) := ⟨put1_len x h.len, put1_byte h.byte hx⟩

theorem Row.putN {n v k : Nat} : ∀ {bs : List Nat}, Row bs n → Row (putN bs n v k) (n + k) := by
  induction k generalizing n with
  | zero => intro bs h; exact h
  | succ k ih => intro bs h; have := ih (n := n + 1) (h.put1 (x := v / 2 ^ k % 2) (by omega)); rw [show n + (k + 1) = n + 1 + k by omega]; exact this

/-- The bit number k of a row of bytes. -/
def bitAt (bs : List Nat) (k : Nat) : Nat := bs.getD (k / 8) 0 / 2 ^ (7 - k % 8) % 2
/-- The number v with the next bits behind it. -/
def tk (bs : List Nat) (k v : Nat) : Nat → Nat
  | 0 => v
  | n + 1 => tk bs (k + 1) (2 * v + bitAt bs k) n

end Go.Proofs.Ytehonfobofpahaa

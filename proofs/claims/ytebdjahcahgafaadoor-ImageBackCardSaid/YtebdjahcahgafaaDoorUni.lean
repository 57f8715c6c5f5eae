/- The contracts of writing, each in one piece: the program's and the document's own. -/
import Derived.Test.YtebdjahcahgafaaDoorOwned
import Derived.Test.YtebdjahcahgafaaDoorRefM
namespace Go.Proofs.YtebdjahcahgafaaDoor
open Go.RowKit

def numE (n : Int) : Int := if n < 0 then 1 else 0
def numB (bs : List Nat) (n : Int) : List Nat := if n < 0 then [] else bs ++ vn n.toNat
def textE (s : ByteArray) : Int := if 65536 < s.size then 2 else 0
def textB (bs : List Nat) (s : ByteArray) : List Nat := if 65536 < s.size then [] else bs ++ (vn s.size ++ bytesOf s)
def openIs (bs : List Nat) : Bool := decide (bs = frame (bs.take (bs.length - 4)) ∧ 4 ≤ bs.length)
def openB (bs : List Nat) : List Nat := if bs = frame (bs.take (bs.length - 4)) ∧ 4 ≤ bs.length then bs.take (bs.length - 4) else []

/-- A slice known whole, in memory that is new since w. -/
def Gave (w : World) (bs : List Nat) (v : Value) (w' : World) : Prop := ∃ A F, FullB w' w.heap.size v bs A F ∧ Below w.heap.size w w'

section
variable {v : Value} {bs : List Nat} {w : World}
theorem app_lt {a b : List Nat} (ha : ∀ x ∈ a, x < 256) (hb : ∀ x ∈ b, x < 256) : ∀ x ∈ a ++ b, x < 256 := fun x hx => by
  rcases List.mem_append.1 hx with h | h
  · exact ha x h
  · exact hb x h

theorem num_u (n : Int) (hv : SlB w v bs) (hl : bs.length ≤ 140737488355318) (hby : ∀ x ∈ bs, x < 256) (h1 : -9223372036854775808 ≤ n) (h2 : n < 9223372036854775808) :
    Calls Tryd.prog 93 #[v, .int .i64 n] w fun e w' => ∃ u, e = .returned (.tuple #[u, .int .i64 (numE n)]) ∧ Gave w (numB bs n) u w' := by
  by_cases hn : n < 0
  · refine (num_neg v n w hn).mono ?_
    rintro e w' ⟨rfl, rfl⟩
    exact ⟨_, by rw [numE, if_pos hn], none, [], by rw [numB, if_pos hn]; exact FullB.nil _ _, Below.refl _ _⟩
  · obtain ⟨m, rfl⟩ : ∃ m : Nat, n = (m : Int) := ⟨n.toNat, by omega⟩
    refine (num_c v bs m w hv (by omega) (by omega)).mono ?_
    rintro e w' ⟨g, l, rfl, hl2, hg, hk, hb⟩
    have hvl := vn_len9 (z := m) (by omega)
    refine ⟨_, by rw [numE, if_neg hn], some ⟨g, 0, none⟩, bs ++ vn m, ?_, hb⟩
    rw [numB, if_neg hn, Int.toNat_natCast]
    exact FullB.exact hk hg hl2 (by rw [List.length_append]; unfold maxLen; omega) (app_lt hby (vn_lt _))

theorem int_u (n : Int) (hv : SlB w v bs) (hl : bs.length ≤ 140737488355318) (hby : ∀ x ∈ bs, x < 256) (h1 : -9223372036854775808 ≤ n) (h2 : n < 9223372036854775808) :
    Calls Tryd.prog 94 #[v, .int .i64 n] w fun e w' => ∃ u, e = .returned u ∧ Gave w (bs ++ vn (zz n)) u w' := by
  refine (int_c v bs n w hv (by omega) h1 h2).mono ?_
  rintro e w' ⟨g, l, rfl, hl2, hg, hk, hb⟩
  have hvl := vn_len10 (zz_lt h1 h2)
  exact ⟨_, rfl, _, _, FullB.exact hk hg hl2 (by rw [List.length_append]; unfold maxLen; omega) (app_lt hby (vn_lt _)), hb⟩

theorem text_u (s : ByteArray) (hv : SlB w v bs) (hl : bs.length ≤ 140737488355318) (hby : ∀ x ∈ bs, x < 256) :
    Calls Tryd.prog 95 #[v, .string s] w fun e w' => ∃ u, e = .returned (.tuple #[u, .int .i64 (textE s)]) ∧ Gave w (textB bs s) u w' := by
  by_cases hn : 65536 < s.size
  · refine (text_long v s w hn).mono ?_
    rintro e w' ⟨rfl, rfl⟩
    exact ⟨_, by rw [textE, if_pos hn], none, [], by rw [textB, if_pos hn]; exact FullB.nil _ _, Below.refl _ _⟩
  · refine (textF_c v bs s w hv (by omega) hby (by omega)).mono ?_
    rintro e w' ⟨u, A, F, rfl, hf, hb⟩
    exact ⟨u, by rw [textE, if_neg hn], A, F, by rw [textB, if_neg hn]; exact hf, hb⟩

theorem frame_u (hv : SlB w v bs) (ht : Tab w) (hl : bs.length ≤ 140737488355318) (hby : ∀ x ∈ bs, x < 256) :
    Calls Tryd.prog 15 #[v] w fun e w' => ∃ u, e = .returned u ∧ Gave w (frame bs) u w' := by
  refine (frame_c v bs w hv ht (by omega) hby).mono ?_
  rintro e w' ⟨g, l, rfl, hl2, hg, hk, hb⟩
  exact ⟨_, rfl, _, _, FullB.exact hk hg hl2 (by rw [frame_length]; unfold maxLen; omega) (frame_lt hby), hb⟩

theorem open_u (hv : SlB w v bs) (ht : Tab w) (hl : bs.length ≤ 140737488355318) (hby : ∀ x ∈ bs, x < 256) :
    Calls Tryd.prog 21 #[v] w fun e w' => ∃ u, e = .returned (.tuple #[u, .bool (openIs bs)]) ∧ Gave w (openB bs) u w' := by
  refine (open_c v bs w hv ht (by omega) hby).mono ?_
  rintro e w' ⟨hb, ⟨h1, h2, g, n, rfl, hn, hg, hk⟩ | ⟨hno, rfl⟩⟩
  · refine ⟨_, by rw [openIs, decide_eq_true ⟨h1, h2⟩], some ⟨g, 0, none⟩, bs.take (bs.length - 4), ?_, hb⟩
    rw [openB, if_pos ⟨h1, h2⟩]
    exact FullB.exact hk hg (by rw [List.length_take]; omega) (by rw [List.length_take]; unfold maxLen; omega) (fun x hx => hby x (List.mem_of_mem_take hx))
  · exact ⟨_, by rw [openIs, decide_eq_false hno], none, [], by rw [openB, if_neg hno]; exact FullB.nil _ _, hb⟩

theorem rnum_u (n : Int) (hv : SlB w v bs) (hl : bs.length ≤ 140737488355318) (h1 : -9223372036854775808 ≤ n) (h2 : n < 9223372036854775808) :
    Calls Tryd.prog 51 #[v, .int .i64 n] w fun e w' => ∃ u, e = .returned (.tuple #[u, .int .i64 (numE n)]) ∧ SlB w' u (numB bs n) ∧ Below w.heap.size w w' := by
  by_cases hn : n < 0
  · refine (rnum_neg v n w hn).mono ?_
    rintro e w' ⟨rfl, rfl⟩
    exact ⟨_, by rw [numE, if_pos hn], by rw [numB, if_pos hn]; exact SlB.nil _, Below.refl _ _⟩
  · obtain ⟨m, rfl⟩ : ∃ m : Nat, n = (m : Int) := ⟨n.toNat, by omega⟩
    refine (rnum_c v bs m w hv hl (by omega)).mono ?_
    rintro e w' ⟨u, rfl, ho, hb⟩
    exact ⟨u, by rw [numE, if_neg hn], by rw [numB, if_neg hn, Int.toNat_natCast]; exact ho.sl, hb⟩

theorem ropen_u (hv : SlB w v bs) (hl : bs.length ≤ 140737488355318) (hby : ∀ x ∈ bs, x < 256) :
    Calls Tryd.prog 35 #[v] w fun e w' => ∃ u, e = .returned (.tuple #[u, .bool (openIs bs)]) ∧ SlB w' u (openB bs) ∧ Below w.heap.size w w' := by
  refine (ropen_c v bs w hv hl hby).mono ?_
  rintro e w' ⟨hb, ⟨h1, h2, u, rfl, ho⟩ | ⟨hno, rfl⟩⟩
  · exact ⟨u, by rw [openIs, decide_eq_true ⟨h1, h2⟩], by rw [openB, if_pos ⟨h1, h2⟩]; exact ho.sl, hb⟩
  · exact ⟨_, by rw [openIs, decide_eq_false hno], by rw [openB, if_neg hno]; exact SlB.nil _, hb⟩
end

/-- Five slices, each made behind the one before, lie apart. -/
theorem apart5 {A : Nat → Option Addr} {LO : Nat → Nat} (hm : ∀ j, j < 5 → LO j ≤ LO (j + 1)) (hA : ∀ j, j < 5 → ∀ p, A j = some p → LO j ≤ p.block ∧ p.block < LO (j + 1)) :
    ∀ a b, a < 5 → b < 5 → a ≠ b → ∀ p q, A a = some p → A b = some q → p.block ≠ q.block := by
  have mono : ∀ d a, a + d ≤ 5 → LO a ≤ LO (a + d) := by
    intro d
    induction d with
    | zero => intro a _; exact Nat.le_refl _
    | succ d ih => intro a h; exact Nat.le_trans (ih a (by omega)) (hm (a + d) (by omega))
  have key : ∀ a b, a < b → b < 5 → ∀ p q, A a = some p → A b = some q → p.block < q.block := by
    intro a b hab hb p q hp hq
    have h1 := (hA a (by omega) p hp).2
    have h2 := (hA b hb q hq).1
    have h3 := mono (b - (a + 1)) (a + 1) (by omega)
    rw [show a + 1 + (b - (a + 1)) = b by omega] at h3
    omega
  intro a b ha hb hne p q hp hq
  rcases Nat.lt_or_gt_of_ne hne with h | h
  · exact Nat.ne_of_lt (key a b h hb p q hp hq)
  · exact Nat.ne_of_gt (key b a h ha q p hq hp)

end Go.Proofs.YtebdjahcahgafaaDoor

/- What was written is read, whatever stands ahead and behind: plain lists. -/
import Derived.Test.YtmddhlpkanjffaaDoorTexts
namespace Go.Proofs.YtmddhlpkanjffaaDoor
open Go.RowKit

theorem there_int (p q : List Nat) {z : Nat} (h : z < 18446744073709551616) : rdAns (p ++ (vn z ++ q)) (p.length : Int) 10 = .ok (z, p.length + (vn z).length) :=
  rdAns_ok (by rw [List.length_append]; omega) (by rw [List.drop_left]; exact rd_int h q)
theorem there_num (p q : List Nat) {z : Nat} (h : z < 9223372036854775808) : rdAns (p ++ (vn z ++ q)) (p.length : Int) 9 = .ok (z, p.length + (vn z).length) :=
  rdAns_ok (by rw [List.length_append]; omega) (by rw [List.drop_left]; exact rd_num h q)
theorem there_text (p s q : List Nat) (h : s.length ≤ 65536) : txAns (p ++ (vn s.length ++ (s ++ q))) (p.length : Int) = .ok (s, p.length + (vn s.length).length + s.length) := by
  unfold txAns
  rw [there_num p (s ++ q) (by omega)]
  show (if 65536 < s.length then _ else _) = _
  rw [if_neg (by omega), if_neg (by simp only [List.length_append]; omega)]
  congr 2
  have e : p ++ (vn s.length ++ (s ++ q)) = (p ++ vn s.length) ++ (s ++ q) := by rw [List.append_assoc]
  rw [e, ← List.length_append, List.drop_left, List.take_left]

/-- What is read was written just so. -/
theorem back_int {l : List Nat} {at_ : Int} {z p : Nat} (hl : ∀ x ∈ l, x < 256) (h : rdAns l at_ 10 = .ok (z, p)) : ∃ k : Nat, at_ = (k : Int) ∧ k ≤ p ∧ p ≤ l.length ∧ vn z = (l.drop k).take (p - k) ∧ z < 18446744073709551616 := by
  have hlt := (rdAns_lt (by omega) h).1
  have hend := rdAns_end hl h
  unfold rdAns at h
  split at h
  · cases h
  · rename_i hn
    cases hr : rd 10 0 0 (l.drop at_.toNat) with
    | error e => rw [hr] at h; cases h
    | ok q =>
      obtain ⟨z', c⟩ := q
      rw [hr] at h
      injection h with h
      injection h with h1 h2
      subst h1
      obtain ⟨b1, b2, b3, _⟩ := rd_back (fun x hx => hl x (List.mem_of_mem_drop hx)) hr
      refine ⟨at_.toNat, by omega, by omega, hend, ?_, hlt⟩
      rw [show p - at_.toNat = c by omega]
      exact b2

end Go.Proofs.YtmddhlpkanjffaaDoor

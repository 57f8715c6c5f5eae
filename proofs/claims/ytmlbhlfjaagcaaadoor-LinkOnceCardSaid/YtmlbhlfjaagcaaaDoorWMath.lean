/- A message all of whose datagrams come is told: what the states are on the way. -/
import Derived.Test.YtmlbhlfjaagcaaaDoorLMath
namespace Go.Proofs.YtmlbhlfjaagcaaaDoor
open Go.RowKit

/-- The part of index i, as it comes of an end that was told nothing. -/
def plainDG (n mn : Nat) (b : List Nat) (i : Nat) : DG := ⟨false, 0, 0, n, i, mn, cutN b i⟩
def partsL (b : List Nat) (D : List Nat) : List (Nat × List Nat) := D.map fun i => (i, cutN b i)
theorem parts_keys (b : List Nat) (D : List Nat) : (partsL b D).map (·.1) = D := by simp [partsL, Function.comp_def]
theorem parts_len (b : List Nat) (D : List Nat) : (partsL b D).length = D.length := by simp [partsL]

/-- Nothing of message n waits, and nothing newer. -/
structure Pre (n : Nat) (c : LS) : Prop where
  so : c.so = false
  old : c.ps ≠ [] → newerN n c.nu = true ∧ n ≠ c.nu
/-- Of message n those of D wait. -/
structure Wt (n mn : Nat) (b : List Nat) (D : List Nat) (c : LS) : Prop where
  so : c.so = false
  ps : c.ps = partsL b D
  nu : c.nu = n
  ct : c.ct = mn
/-- Message n was told last. -/
structure Dn (n : Nat) (c : LS) : Prop where
  so : c.so = true
  la : c.la = n

theorem Pre.none {n : Nat} {c : LS} (h : Pre n c) (mn : Nat) (b : List Nat) (i : Nat) : c.come (plainDG n mn b i) = LS.put { c with ps := [] } (plainDG n mn b i) := by
  unfold LS.come
  rw [if_neg (by rw [h.so]; simp)]
  by_cases hp : c.ps = []
  · have e : ({ c with ps := [] } : LS) = c := by cases c; simp at hp; simp [hp]
    rw [if_neg (by simp [hp]), e]
    unfold LS.same
    rw [if_neg (by simp [hp]), if_neg (by simp [hp])]
  · obtain ⟨h1, h2⟩ := h.old hp
    rw [if_pos ⟨hp, h2⟩, if_neg (by show ¬ (newerN n c.nu = false); rw [h1]; simp)]
    unfold LS.same
    rw [if_neg (by simp), if_neg (by simp)]

theorem Wt.put {n mn : Nat} {b D : List Nat} {c : LS} (h : Wt n mn b D c) {i : Nat} (hi : i ∉ D) : c.come (plainDG n mn b i) = c.put (plainDG n mn b i) := by
  unfold LS.come
  rw [if_neg (by rw [h.so]; simp), if_neg (by rw [h.nu]; exact fun e => e.2 rfl)]
  unfold LS.same
  rw [if_neg (by rw [h.ct]; exact fun e => e.2 rfl), if_neg (by rw [h.ps, parts_keys]; exact hi)]

theorem Wt.again {n mn : Nat} {b D : List Nat} {c : LS} (h : Wt n mn b D c) {i : Nat} (hi : i ∈ D) : c.come (plainDG n mn b i) = ⟨c, 71, none⟩ := by
  unfold LS.come
  rw [if_neg (by rw [h.so]; simp), if_neg (by rw [h.nu]; exact fun e => e.2 rfl)]
  unfold LS.same
  rw [if_neg (by rw [h.ct]; exact fun e => e.2 rfl), if_pos (by rw [h.ps, parts_keys]; exact hi)]

theorem ahead_self (n : Nat) : aheadN n n = 0 ∨ 65536 < n := by unfold aheadN; omega
theorem newer_self {n : Nat} (h : n < 65536) : newerN n n = false := by
  unfold newerN
  have : aheadN n n = 0 := by unfold aheadN; omega
  rw [this]; rfl
theorem Dn.again {n : Nat} {c : LS} (h : Dn n c) (hn : n < 65536) (mn : Nat) (b : List Nat) (i : Nat) : c.come (plainDG n mn b i) = ⟨c, 71, none⟩ := by
  unfold LS.come
  rw [if_pos ⟨h.so, by show newerN n c.la = false; rw [h.la]; exact newer_self hn⟩]

/-- One more part: it waits, or the message is told. -/
theorem put_wait {n mn : Nat} {b D : List Nat} {c : LS} (hso : c.so = false) (hps : c.ps = partsL b D) {i : Nat} (hl : D.length + 1 ≠ mn) :
    ∃ c', c.put (plainDG n mn b i) = ⟨c', 0, none⟩ ∧ Wt n mn b (D ++ [i]) c' := by
  refine ⟨c.wait (plainDG n mn b i), ?_, ⟨hso, ?_, rfl, rfl⟩⟩
  · unfold LS.put
    rw [if_neg]
    show ¬ ((c.ps ++ [_]).length = mn)
    rw [List.length_append, hps, parts_len]; exact hl
  · show c.ps ++ [(i, cutN b i)] = _
    rw [hps]; simp [partsL]

theorem part_get (b : List Nat) : ∀ (D : List Nat) (i : Nat), i ∈ D → partAt (partsL b D) i = cutN b i
  | [], _, h => by cases h
  | a :: D, i, h => by
    show (if a = i then cutN b a else partAt (partsL b D) i) = _
    by_cases e : a = i
    · rw [if_pos e, e]
    · rw [if_neg e]
      rcases List.mem_cons.1 h with h | h
      · exact absurd h.symm e
      · exact part_get b D i h
theorem msg_all (b : List Nat) (D : List Nat) : ∀ k, (∀ i, i < k → i ∈ D) → msgTo (partsL b D) k = b.take (200 * k)
  | 0, _ => by simp [msgTo]
  | k + 1, h => by
    rw [msgTo, msg_all b D k (fun i hi => h i (by omega)), part_get b D k (h k (by omega))]
    unfold cutN
    rw [show 200 * (k + 1) = 200 * k + 200 by omega, List.take_add]
theorem take_many (b : List Nat) : b.take (200 * manyN b.length) = b := List.take_of_length_le (by unfold manyN; omega)

theorem put_tell {n : Nat} {b D : List Nat} {c : LS} (hps : c.ps = partsL b D) {i : Nat} (hl : D.length + 1 = manyN b.length) (hall : ∀ j, j < manyN b.length → j ∈ D ++ [i]) :
    ∃ c', c.put (plainDG n (manyN b.length) b i) = ⟨c', 0, some b⟩ ∧ Dn n c' := by
  refine ⟨(c.wait (plainDG n (manyN b.length) b i)).tell, ?_, ⟨rfl, rfl⟩⟩
  have e : (c.wait (plainDG n (manyN b.length) b i)).ps = partsL b (D ++ [i]) := by
    show c.ps ++ [(i, cutN b i)] = _
    rw [hps]; simp [partsL]
  unfold LS.put
  rw [if_pos]
  · rw [e]
    show RA.mk _ 0 (some (msgTo (partsL b (D ++ [i])) (manyN b.length))) = _
    rw [msg_all b _ _ hall, take_many]
  · rw [e, parts_len, List.length_append]; exact hl

/-- The datagram of an end that was told nothing. -/
theorem recv_plain {s c : LS} {b : List Nat} (hso : s.so = false) (hz : s.zero) (hb : b.length ≤ 2000) {i : Nat} (hi : i < manyN b.length) : c.recv (dgram s b i) = c.come (plainDG s.next (manyN b.length) b i) := by
  unfold LS.recv
  rw [dec_dgram hz hb i hi]
  obtain ⟨h1, h2⟩ := hz hso
  show (c.recd s.so s.la s.bi).come ⟨s.so, s.la, s.bi, s.next, i, manyN b.length, cutN b i⟩ = _
  rw [hso, h1, h2]
  rfl


/-- Of message n (of the bytes b) those of D came; those of left come yet. -/
structure WInv (n : Nat) (b : List Nat) (left D : List Nat) (c : LS) : Prop where
  nd : left.Nodup
  cov : ∀ i, i < manyN b.length → i ∈ left ∨ i ∈ D
  lt : ∀ i ∈ left, i < manyN b.length ∧ i ∉ D
  len : left.length + D.length = manyN b.length
  st0 : D = [] → Pre n c
  st1 : D ≠ [] → left ≠ [] → Wt n (manyN b.length) b D c
  st2 : left = [] → Dn n c

theorem left_perm (left : List Nat) (k : Nat) (hk : k < left.length) : left.Perm (left[k] :: (left.take k ++ left.drop (k + 1))) := by
  have e : left = left.take k ++ left[k] :: left.drop (k + 1) := by
    rw [List.getElem_cons_drop]
    exact (List.take_append_drop k left).symm
  have h : (left.take k ++ left[k] :: left.drop (k + 1)).Perm (left[k] :: (left.take k ++ left.drop (k + 1))) := List.perm_middle
  rw [← e] at h
  exact h

theorem WInv.step {n : Nat} {b left D : List Nat} {c : LS} (I : WInv n b left D c) (hn : n < 65536) {k : Nat} (hk : k < left.length) :
    ∃ c', c.come (plainDG n (manyN b.length) b left[k]) = ⟨c', 0, if left.length = 1 then some b else none⟩ ∧ WInv n b (left.take k ++ left.drop (k + 1)) (D ++ [left[k]]) c' ∧ c'.come (plainDG n (manyN b.length) b left[k]) = ⟨c', 71, none⟩ := by
  have hp := left_perm left k hk
  have hnd := (hp.nodup_iff).1 I.nd
  have hmem : ∀ i, i ∈ left ↔ i = left[k] ∨ i ∈ left.take k ++ left.drop (k + 1) := fun i => by rw [hp.mem_iff, List.mem_cons]
  have hlen : left.length = (left.take k ++ left.drop (k + 1)).length + 1 := by have := hp.length_eq; simpa using this
  have hin : left[k] ∈ left := List.getElem_mem hk
  obtain ⟨hlt, hnD⟩ := I.lt _ hin
  generalize left[k] = i at *
  generalize left.take k ++ left.drop (k + 1) = left' at *
  rw [List.nodup_cons] at hnd
  have hIl := I.len
  have base : ∃ c0 : LS, c.come (plainDG n (manyN b.length) b i) = c0.put (plainDG n (manyN b.length) b i) ∧ c0.so = false ∧ c0.ps = partsL b D := by
    by_cases hD : D = []
    · have P := I.st0 hD
      exact ⟨{ c with ps := [] }, P.none _ _ _, P.so, by rw [hD]; rfl⟩
    · have W := I.st1 hD (fun e => by rw [e] at hin; cases hin)
      exact ⟨c, W.put hnD, W.so, W.ps⟩
  obtain ⟨c0, h1, h2, h3⟩ := base
  have hcov : ∀ j, j < manyN b.length → j ∈ left' ∨ j ∈ D ++ [i] := fun j hj => by
    rcases I.cov j hj with h | h
    · rcases (hmem j).1 h with h | h
      · exact .inr (by simp [h])
      · exact .inl h
    · exact .inr (by simp [h])
  have hlt' : ∀ j ∈ left', j < manyN b.length ∧ j ∉ D ++ [i] := fun j hj => by
    obtain ⟨a1, a2⟩ := I.lt j ((hmem j).2 (.inr hj))
    refine ⟨a1, fun h => ?_⟩
    rcases List.mem_append.1 h with h | h
    · exact a2 h
    · have : j = i := by simpa using h
      exact hnd.1 (this ▸ hj)
  have hlen' : left'.length + (D ++ [i]).length = manyN b.length := by rw [List.length_append]; simp; omega
  by_cases h0 : left' = []
  · have hl1 : left.length = 1 := by rw [hlen, h0]; rfl
    obtain ⟨c', h4, h5⟩ := put_tell (n := n) (c := c0) h3 (i := i) (by omega) (fun j hj => by
      rcases hcov j hj with h | h
      · rw [h0] at h; cases h
      · exact h)
    refine ⟨c', by rw [h1, h4, if_pos hl1], ⟨hnd.2, hcov, hlt', hlen', fun e => by simp at e, fun _ h => absurd h0 h, fun _ => h5⟩, h5.again hn _ _ _⟩
  · have hl1 : left.length ≠ 1 := by
      have : 0 < left'.length := List.length_pos_iff.2 h0
      omega
    have hne : D.length + 1 ≠ manyN b.length := by omega
    obtain ⟨c', h4, h5⟩ := put_wait (n := n) (mn := manyN b.length) (b := b) h2 h3 (i := i) hne
    refine ⟨c', by rw [h1, h4, if_neg hl1], ⟨hnd.2, hcov, hlt', hlen', fun e => by simp at e, fun _ _ => h5, fun h => absurd h h0⟩, h5.again (by simp)⟩

theorem WInv.start {n : Nat} {b : List Nat} {c : LS} (h : Pre n c) : WInv n b (List.range (manyN b.length)) [] c :=
  ⟨List.nodup_range, fun i hi => .inl (by simpa using hi), fun i hi => ⟨by simpa using hi, by simp⟩, by simp, fun _ => h, fun h => absurd rfl h, fun h => by
    have := many_pos b.length
    have : (List.range (manyN b.length)).length = 0 := by rw [h]; rfl
    rw [List.length_range] at this
    omega⟩

theorem Pre.new (n m : Nat) : Pre n (LS.new m) := ⟨rfl, fun h => absurd rfl h⟩
/-- Behind a part of the message ahead. -/
theorem Pre.part {s : LS} {b : List Nat} (hs : s.next < 65536) (hso : s.so = false) (hz : s.zero) (hb : b.length ≤ 2000) (hm : 1 < manyN b.length) (m : Nat) :
    ∃ c, (LS.new m).recv (dgram s b 0) = ⟨c, 0, Option.none⟩ ∧ Pre s.sendS.next c := by
  have h1 := recv_plain (c := LS.new m) hso hz hb (i := 0) (by omega)
  rw [(Pre.new s.next m).none] at h1
  obtain ⟨c, h2, h3⟩ := put_wait (n := s.next) (mn := manyN b.length) (b := b) (D := []) (c := LS.new m) rfl rfl (i := 0) (by simp; omega)
  refine ⟨c, h1.trans h2, ⟨h3.so, fun _ => ?_⟩⟩
  rw [h3.nu]
  have e : aheadN s.sendS.next s.next = 1 := by
    show aheadN ((s.next + 1) % 65536) s.next = 1
    unfold aheadN; omega
  refine ⟨by unfold newerN; rw [e]; rfl, fun h => ?_⟩
  rw [h] at e
  have : aheadN s.next s.next = 0 := by unfold aheadN; omega
  omega

end Go.Proofs.YtmlbhlfjaagcaaaDoor

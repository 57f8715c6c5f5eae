/- A link's state in memory, and the contracts of New, Last, acknowledge. -/
import Derived.Test.YtmlbhlfjaagcaaaDoorLLeaf
import Derived.Carry
namespace Go.Proofs.YtmlbhlfjaagcaaaDoor
open Go.RowKit

/-- An end's state: the next number, how many were sent (of those remembered), which were acked; what was told; the parts that wait, of which message. -/
structure LS where
  next : Nat
  sent : Nat
  ak : List Nat
  so : Bool
  la : Nat
  bi : Nat
  nu : Nat
  ct : Nat
  ps : List (Nat × List Nat)

abbrev linkC (s : LS) (ga gp : Nat) : Array Value := #[.int .u16 (s.next : Int), .int .i64 (s.sent : Int), .map (some ga), .bool s.so, .int .u16 (s.la : Int), .int .u32 (s.bi : Int), .map (some gp), .int .u16 (s.nu : Int), .int .i64 (s.ct : Int)]
def akM (l : List Nat) : List (Int × Value) := l.map fun n : Nat => ((n : Int), Value.agg #[])

/-- A part's bytes, in a block of bytes of U. -/
def PSl (w : World) (U : Nat → Prop) (v : Value) (bs : List Nat) : Prop := SlB w v bs ∧ ∀ A n c, v = .slice (some A) n c → U A.block ∧ ∃ cs, Blk w A.block 5 cs

/-- The map's pairs are the parts. -/
structure PartsAre (w : World) (U : Nat → Prop) (m : List (Int × Value)) (ps : List (Nat × List Nat)) : Prop where
  len : m.length = ps.length
  each : ∀ (i : Nat) (p : Nat × List Nat), ps[i]? = some p → ∃ v, m[i]? = some ((p.1 : Int), v) ∧ PSl w U v p.2

structure LinkAt (w : World) (g ga gp : Nat) (U : Nat → Prop) (s : LS) : Prop where
  blk : Blk w g 64 (linkC s ga gp)
  am : MapI w ga .u16 (akM s.ak)
  pm : ∃ m, MapI w gp .i64 m ∧ PartsAre w U m s.ps
  ne : ga ≠ gp

/-- What a state may be. -/
structure LS.ok (s : LS) : Prop where
  next : s.next < 65536
  sent : s.sent ≤ 64
  la : s.la < 65536
  bi : s.bi < 4294967296
  nu : s.nu < 65536
  ct : s.ct ≤ 10
  ak : ∀ n ∈ s.ak, n < 65536
  ix : ∀ p ∈ s.ps, p.1 < s.ct
  by_ : ∀ p ∈ s.ps, p.2.length ≤ 200 ∧ ∀ x ∈ p.2, x < 256
  one : (s.ps.map (·.1)).Nodup

section
variable {w w' : World} {g ga gp : Nat} {U U' : Nat → Prop} {s : LS} {S : Nat → Prop}
theorem PSl.fr {v : Value} {bs : List Nat} (h : PSl w U v bs) (hf : Fr S w w') (hs : ∀ k cs, U k → Blk w k 5 cs → ¬ S k) : PSl w' U v bs :=
  ⟨h.1.fr hf (fun A n c e => by obtain ⟨h1, cs, h2⟩ := h.2 A n c e; exact hs _ _ h1 h2), fun A n c e => by
    obtain ⟨h1, cs, h2⟩ := h.2 A n c e
    exact ⟨h1, cs, h2.fr hf (hs _ _ h1 h2)⟩⟩
theorem PartsAre.fr {m : List (Int × Value)} {ps : List (Nat × List Nat)} (h : PartsAre w U m ps) (hf : Fr S w w') (hs : ∀ k cs, U k → Blk w k 5 cs → ¬ S k) : PartsAre w' U m ps :=
  ⟨h.len, fun i p hp => by obtain ⟨v, h1, h2⟩ := h.each i p hp; exact ⟨v, h1, h2.fr hf hs⟩⟩
theorem PartsAre.wide {m : List (Int × Value)} {ps : List (Nat × List Nat)} (h : PartsAre w U m ps) (hu : ∀ k, U k → U' k) : PartsAre w U' m ps :=
  ⟨h.len, fun i p hp => by obtain ⟨v, h1, h2⟩ := h.each i p hp; exact ⟨v, h1, h2.1, fun A n c e => by obtain ⟨a, b⟩ := h2.2 A n c e; exact ⟨hu _ a, b⟩⟩⟩
theorem PartsAre.none {U : Nat → Prop} {w : World} : PartsAre w U [] [] := ⟨rfl, fun i p h => by simp at h⟩
theorem LinkAt.fr (h : LinkAt w g ga gp U s) (hf : Fr S w w') (h1 : ¬ S g) (h2 : ¬ S ga) (h3 : ¬ S gp) (hs : ∀ k cs, U k → Blk w k 5 cs → ¬ S k) : LinkAt w' g ga gp U s := by
  obtain ⟨m, hm, hp⟩ := h.pm
  exact ⟨h.blk.fr hf h1, h.am.fr hf h2, ⟨m, hm.fr hf h3, hp.fr hf hs⟩, h.ne⟩
theorem LinkAt.below (h : LinkAt w g ga gp U s) (hf : Below w.heap.size w w') : LinkAt w' g ga gp U s :=
  h.fr (S := fun _ => False) (Fr.of_below hf) (fun h => h) (fun h => h) (fun h => h) (fun _ _ _ _ h => h)
theorem LinkAt.draw (h : LinkAt w g ga gp U s) (n : Nat) : LinkAt (w.drewN n) g ga gp U s :=
  h.fr (S := fun _ => False) (Fr.drewN w n) (fun h => h) (fun h => h) (fun h => h) (fun _ _ _ _ h => h)
theorem LinkAt.wide (h : LinkAt w g ga gp U s) (hu : ∀ k, U k → U' k) : LinkAt w g ga gp U' s := by
  obtain ⟨m, hm, hp⟩ := h.pm
  exact ⟨h.blk, h.am, ⟨m, hm, hp.wide hu⟩, h.ne⟩
theorem LinkAt.ne1 (h : LinkAt w g ga gp U s) : ga ≠ g := h.am.ne_blk h.blk
theorem LinkAt.ne2 (h : LinkAt w g ga gp U s) : gp ≠ g := by obtain ⟨m, hm, _⟩ := h.pm; exact hm.ne_blk h.blk
end

/-- What a new end is. -/
def LS.new (first : Nat) : LS := ⟨first, 0, [], false, 0, 0, 0, 0, []⟩
theorem new_ok {n : Nat} (h : n < 65536) : (LS.new n).ok :=
  ⟨h, by simp [LS.new], by simp [LS.new], by simp [LS.new], by simp [LS.new], by simp [LS.new], by simp [LS.new], by simp [LS.new], by simp [LS.new], by simp [LS.new]⟩

def NewTo (w : World) (n : Nat) (e : Ending) (w' : World) : Prop :=
  ∃ g ga gp, e = .returned (.pointer (some ⟨g, 0, none⟩)) ∧ (∀ U, LinkAt w' g ga gp U (LS.new n)) ∧ w.heap.size ≤ g ∧ w.heap.size ≤ ga ∧ w.heap.size ≤ gp ∧ Below w.heap.size w w'

theorem made_map (w : World) : (Instr.makeMap 58 none).run Tryd.prog w = .ok (.map (some w.heap.size)) (w.alloc (.map #[] 0)) := run_makeMap _ _
theorem made_map2 (w : World) : (Instr.makeMap 59 none).run Tryd.prog w = .ok (.map (some w.heap.size)) (w.alloc (.map #[] 0)) := run_makeMap _ _

theorem lnew_c (x : Int) (w : World) :
    Calls Tryd.prog 10 #[.int .i64 x] w (NewTo w (x % 65536).toNat) := by
  have e1 : IntKind.u16.wrap x = (((x % 65536).toNat : Nat) : Int) := by rw [u16_wrap]; omega
  generalize (x % 65536).toNat = n at e1
  have q1 := made_map
  have q2 := made_map2
  go_enter Tryd.func10, Tryd.ntmps10
  go_wp2_with fail
  go_ret
  refine ⟨w.heap.size + 1 + 1, w.heap.size, w.heap.size + 1, rfl, fun U => ⟨?_, ?_, ⟨[], ?_, PartsAre.none⟩, by omega⟩, by omega, Nat.le_refl _, by omega, lbel3 _ _ _ _⟩
  · have := Blk.new ((w.alloc (.map #[] 0)).alloc (.map #[] 0)) 64 (linkC (LS.new n) w.heap.size (w.heap.size + 1))
    simpa [LS.new, linkC] using this
  · exact ((MapI.new w .u16).alloc _).alloc _
  · have := (MapI.new (w.alloc (.map #[] 0)) .i64).alloc (.cells (linkC (LS.new n) w.heap.size (w.heap.size + 1)) 64)
    simpa [LS.new, linkC] using this

/-- Last: the one that was told last. -/
theorem last_c {g ga gp : Nat} {U : Nat → Prop} {s : LS} {w : World} (h : LinkAt w g ga gp U s) (hl : s.la < 65536) :
    Calls Tryd.prog 16 #[.pointer (some ⟨g, 0, none⟩)] w fun e w' => e = .returned (.tuple #[.int .i64 (s.la : Int), .bool s.so]) ∧ ∃ n, w' = w.drewN n := by
  have c4 : w.cell? ⟨g, 4, none⟩ = some (.int .u16 (s.la : Int)) := h.blk.cell 4
  have c3 : w.cell? ⟨g, 3, none⟩ = some (.bool s.so) := h.blk.cell 3
  clear h
  generalize s.la = la at *
  generalize s.so = so at *
  have e1 : wrap64 (la : Int) = (la : Int) := IntWalk.wrap64_in _ (by omega)
  go_enter Tryd.func16, Tryd.ntmps16
  go_wp2_with fail
  go_quiet (fail)
  go_wp2_with fail
  go_ret2
  exact ⟨rfl, nq, rfl⟩

/-- A number that the other end tells of. -/
def LS.ack (s : LS) (n : Nat) : LS := if 1 ≤ aheadN s.next n ∧ aheadN s.next n ≤ s.sent then { s with ak := if n ∈ s.ak then s.ak else s.ak ++ [n] } else s

theorem mfind_ak (n : Nat) : ∀ (l : List Nat) (i : Nat), mfind (akM l) (n : Int) i = if n ∈ l then some (i + l.idxOf n, .agg #[]) else none
  | [], i => by simp [akM, mfind]
  | a :: l, i => by
    have ih := mfind_ak n l (i + 1)
    unfold akM at ih ⊢
    simp only [List.map_cons, mfind]
    by_cases h : n = a
    · subst h; simp
    · have h1 : ¬ ((n : Int) = (a : Int)) := by omega
      have h2 : ¬ (a = n) := fun e => h e.symm
      rw [if_neg h1, ih]
      by_cases hm : n ∈ l
      · have h3 : (a == n) = false := by simpa using h2
        simp [h, hm, List.idxOf_cons, h3]; omega
      · simp [h, hm]
theorem put_ak (n : Nat) (l : List Nat) : mput (akM l) (n : Int) (.agg #[]) = akM (if n ∈ l then l else l ++ [n]) := by
  unfold mput
  rw [mfind_ak]
  by_cases h : n ∈ l
  · rw [if_pos h, if_pos h]
    have h1 : l.idxOf n < l.length := List.idxOf_lt_length_of_mem h
    have h2 : (akM l)[l.idxOf n]? = some ((n : Int), .agg #[]) := by simp [akM, h1]
    simp only [Nat.zero_add]
    apply List.ext_getElem?
    intro j
    rw [List.getElem?_set]
    by_cases e : l.idxOf n = j
    · subst e; rw [if_pos rfl, if_pos (by simpa [akM] using h1), h2]
    · rw [if_neg e]
  · rw [if_neg h, if_neg h]; simp [akM]


section
variable {w w' : World} {g ga gp : Nat} {U : Nat → Prop} {s : LS}
theorem LS.ack_none (s : LS) (n : Nat) (h : ¬ (1 ≤ aheadN s.next n ∧ aheadN s.next n ≤ s.sent)) : s.ack n = s := by unfold LS.ack; rw [if_neg h]
theorem LS.ack_some (s : LS) (n : Nat) (h : 1 ≤ aheadN s.next n ∧ aheadN s.next n ≤ s.sent) : s.ack n = { s with ak := if n ∈ s.ak then s.ak else s.ak ++ [n] } := by unfold LS.ack; rw [if_pos h]
theorem LS.ack_ok (h : s.ok) {n : Nat} (hn : n < 65536) : (s.ack n).ok := by
  unfold LS.ack
  split
  · refine ⟨h.next, h.sent, h.la, h.bi, h.nu, h.ct, ?_, h.ix, h.by_, h.one⟩
    intro m hm
    simp only at hm
    split at hm
    · exact h.ak m hm
    · rcases List.mem_append.1 hm with h1 | h1
      · exact h.ak m h1
      · have : m = n := by simpa using h1
        omega
  · exact h
theorem LinkAt.set_ak (h : LinkAt w g ga gp U s) {l : List Nat} (hm : MapI w' ga .u16 (akM l)) (hf : Fr (fun i => i = ga) w w') : LinkAt w' g ga gp U { s with ak := l } := by
  obtain ⟨m, h1, h2⟩ := h.pm
  exact ⟨h.blk.fr hf (fun e => h.ne1 e.symm), hm, ⟨m, h1.fr hf (fun e => h.ne e.symm), h2.fr hf (fun k cs _ hk e => h.am.ne_blk hk e.symm)⟩, h.ne⟩
end

theorem zero75 (w : World) : (zeroValue 75).run Tryd.prog w = .ok (.agg #[]) w := by kernel_rfl
theorem und58 : Tryd.prog.underlying 58 = some (.map 57 75) := by kernel_rfl
theorem und59 : Tryd.prog.underlying 59 = some (.map 3 36) := by kernel_rfl
theorem und57 : Tryd.prog.underlying 57 = some (.int .u16) := by kernel_rfl
theorem und3 : Tryd.prog.underlying 3 = some (.int .i64) := by kernel_rfl

def AckTo (w : World) (g ga gp : Nat) (U : Nat → Prop) (s : LS) (e : Ending) (w' : World) : Prop :=
  e = .returned (.tuple #[]) ∧ LinkAt w' g ga gp U s ∧ Fr (fun i => i = ga) w w'

theorem ack_c {g ga gp : Nat} {U : Nat → Prop} {s : LS} {w : World} (n : Nat) (h : LinkAt w g ga gp U s) (hs : s.ok) (hn : n < 65536) :
    Calls Tryd.prog 46 #[.pointer (some ⟨g, 0, none⟩), .int .u16 (n : Int)] w (AckTo w g ga gp U (s.ack n)) := by
  have c0 : w.cell? ⟨g, 0, none⟩ = some (.int .u16 (s.next : Int)) := h.blk.cell 0
  have c1 : w.cell? ⟨g, 1, none⟩ = some (.int .i64 (s.sent : Int)) := h.blk.cell 1
  have c2 : w.cell? ⟨g, 2, none⟩ = some (.map (some ga)) := h.blk.cell 2
  have e1 := u16_sub s.next n hn
  have hl := ahead_lt s.next n
  obtain ⟨w1, hr, hm, hf⟩ := h.am.put und58 und57 (n : Int) (.agg #[])
  rw [put_ak] at hm
  have H := Lib.hid h
  have HM := Lib.hid hm
  have HF := Lib.hid hf
  have hsent := hs.sent
  clear h hm hf hs
  rcases Nat.eq_zero_or_pos (aheadN s.next n) with hz | hz
  · rw [LS.ack_none s n (by omega)]
    rw [hz] at e1
    generalize s.next = nx at *
    generalize s.sent = st at *
    clear hz hl hr
    go_enter Tryd.func46, Tryd.ntmps46
    go_wp2_with fail
    go_end0
    exact ⟨rfl, H.out, Fr.refl _ _⟩
  · by_cases hk : aheadN s.next n ≤ s.sent
    · rw [LS.ack_some s n ⟨hz, hk⟩]
      have HS := Lib.hid (H.out.set_ak HM.out HF.out)
      have e2 : IntKind.i64.wrap ((aheadN s.next n : Nat) : Int) = ((aheadN s.next n : Nat) : Int) := IntWalk.i64_in _ (by omega)
      generalize ({ s with ak := if n ∈ s.ak then s.ak else s.ak ++ [n] } : LS) = s2 at HS
      clear HM H
      generalize aheadN s.next n = k at *
      generalize s.next = nx at *
      generalize s.sent = st at *
      have d1 : decide (0 < k) = true := by simpa using hz
      have d2 : decide (k ≤ st) = true := by simpa using hk
      go_enter Tryd.func46, Tryd.ntmps46
      go_wp2_with fail
      go_end0
      exact ⟨rfl, HS.out, HF.out⟩
    · rw [LS.ack_none s n (by omega)]
      clear HM HF
      generalize aheadN s.next n = k at *
      generalize s.next = nx at *
      generalize s.sent = st at *
      have d1 : decide (0 < k) = true := by simpa using hz
      have d2 : decide (k ≤ st) = false := by simpa using hk
      clear hr
      go_enter Tryd.func46, Tryd.ntmps46
      go_wp2_with fail
      go_end0
      exact ⟨rfl, H.out, Fr.refl _ _⟩

end Go.Proofs.YtmlbhlfjaagcaaaDoor

/- The contracts of record, drop and Acked. -/
import Derived.Test.YtmlbhlfjaagcaaaDoorLState
import Derived.Deep.LoopGhost
import Derived.Deep.DeepCutAuto
namespace Go.Proofs.YtmlbhlfjaagcaaaDoor
open Go.RowKit

/-- The acks of the first k bits. -/
def recTo (s : LS) (la bi : Nat) : Nat → LS
  | 0 => s.ack la
  | k + 1 => if bi / 2 ^ k % 2 = 1 then (recTo s la bi k).ack (aheadN la (k + 1)) else recTo s la bi k
/-- What a datagram's acks do. -/
def LS.recd (s : LS) (so : Bool) (la bi : Nat) : LS := if so then recTo s la bi 32 else s

theorem recTo_ok {s : LS} (h : s.ok) {la bi : Nat} (hl : la < 65536) : ∀ k, (recTo s la bi k).ok
  | 0 => LS.ack_ok h hl
  | k + 1 => by
    unfold recTo
    split
    · exact LS.ack_ok (recTo_ok h hl k) (ahead_lt _ _)
    · exact recTo_ok h hl k
theorem rec_ok {s : LS} (h : s.ok) {so : Bool} {la bi : Nat} (hl : la < 65536) : (s.recd so la bi).ok := by
  unfold LS.recd; split
  · exact recTo_ok h hl 32
  · exact h

theorem back_wrap (la k : Nat) (hk : k < 32) : IntKind.u16.wrap (IntKind.u16.wrap ((la : Int) - (k : Int)) - 1) = ((aheadN la (k + 1) : Nat) : Int) := by
  rw [u16_wrap, u16_wrap]; unfold aheadN; omega

theorem u32_bit (b j : Nat) (hb : b < 4294967296) : bits BinOp.and IntKind.u32 ((b : Int) / 2 ^ j) 1 = ((b / 2 ^ j % 2 : Nat) : Int) := by
  rw [cast_div]
  have h := u32_and_nat (b / 2 ^ j) 1 (Nat.lt_of_le_of_lt (Nat.div_le_self _ _) hb) (by omega)
  rw [nat_mask1] at h
  exact h

def RecTo (w : World) (g ga gp : Nat) (U : Nat → Prop) (s : LS) (e : Ending) (w' : World) : Prop :=
  e = .returned (.tuple #[]) ∧ LinkAt w' g ga gp U s ∧ Fr (fun i => i = ga) w w'

structure RecSt (w : World) (g ga gp : Nat) (U : Nat → Prop) (so : Bool) (la bi : Nat) (h : Nat) (s : LS) (wr : World) : Prop where
  at_ : LinkAt wr g ga gp U s
  blk : Blk wr h 62 #[.bool so, .int .u16 (la : Int), .int .u32 (bi : Int)]
  fr : Fr (fun i => i = ga) w wr

theorem RecSt.step {w wr w1 : World} {g ga gp : Nat} {U : Nat → Prop} {so : Bool} {la bi h : Nat} {s s1 : LS} (S : RecSt w g ga gp U so la bi h s wr) (h1 : LinkAt w1 g ga gp U s1) (h2 : Fr (fun i => i = ga) wr w1) : RecSt w g ga gp U so la bi h s1 w1 :=
  ⟨h1, S.blk.fr h2 (fun e => S.at_.am.ne_blk S.blk e.symm), S.fr.trans h2 (fun _ _ h => h)⟩

set_option maxHeartbeats 1000000 in
theorem rec_c {g ga gp : Nat} {U : Nat → Prop} {s : LS} {w : World} (so : Bool) (la bi : Nat) (h : LinkAt w g ga gp U s) (hs : s.ok) (hl : la < 65536) (hb : bi < 4294967296) :
    Calls Tryd.prog 34 #[.pointer (some ⟨g, 0, none⟩), acksV so la bi] w (RecTo w g ga gp U (s.recd so la bi)) := by
  have S0 : RecSt w g ga gp U so la bi w.heap.size s (w.alloc (.cells #[.bool so, .int .u16 (la : Int), .int .u32 (bi : Int)] 62)) :=
    ⟨h.below (lbel1 _ _), Blk.new w 62 _, Fr.alloc _ _⟩
  have HS := Lib.hid hs
  clear h hs
  cases so with
  | false =>
    show Calls _ _ _ _ (RecTo w g ga gp U s)
    have H := Lib.hid S0
    clear S0
    go_enter Tryd.func34, Tryd.ntmps34
    go_wp2_with fail
    go_end0
    exact ⟨rfl, H.out.at_, H.out.fr⟩
  | true =>
    show Calls _ _ _ _ (RecTo w g ga gp U (recTo s la bi 32))
    have H := Lib.hid S0
    clear S0
    go_enter Tryd.func34, Tryd.ntmps34
    go_wp2_with fail
    refine (ack_c la H.out.at_ HS.out hl).mono ?_
    rintro e w1 ⟨rfl, h1, h2⟩
    have S1 : RecSt w g ga gp U true la bi w.heap.size (recTo s la bi 0) w1 := H.out.step h1 h2
    clear h1 h2 H
    go_wp2_with fail
    go_loopg [12] 32 (fun gg s12 wr => ∃ k : Nat, k + gg = 32 ∧ s12 = .int .i64 (k : Int) ∧ RecSt w g ga gp U true la bi w.heap.size (recTo s la bi k) wr)
    case atStart => exact ⟨0, rfl, rfl, S1⟩
    case round =>
      obtain ⟨k, hk, rfl, S⟩ := hrel
      have hok := Lib.hid (recTo_ok HS.out (la := la) (bi := bi) hl k)
      have hrec : recTo s la bi (k + 1) = if bi / 2 ^ k % 2 = 1 then (recTo s la bi k).ack (aheadN la (k + 1)) else recTo s la bi k := rfl
      have HR := Lib.hid hrec
      clear hrec
      have c1 : wr.cell? ⟨w.heap.size, 1, none⟩ = some (.int .u16 (la : Int)) := S.blk.cell 1
      have c2 : wr.cell? ⟨w.heap.size, 2, none⟩ = some (.int .u32 (bi : Int)) := S.blk.cell 2
      have HSt := Lib.hid S
      clear S
      cases gk with
      | zero =>
        obtain rfl : k = 32 := by omega
        have hd : decide (((32 : Nat) : Int) < 32) = false := by decide
        go_wp2_with fail
        go_end0
        exact ⟨rfl, HSt.out.at_, HSt.out.fr⟩
      | succ gk =>
        have hd : decide ((k : Int) < 32) = true := by simp; omega
        have hk0 : (k : Int) < 32 := by omega
        have e1 := u32_bit bi k hb
        have e2 := back_wrap la k (by omega)
        have e3 : IntKind.u16.wrap (k : Int) = (k : Int) := by rw [u16_wrap]; omega
        rcases Nat.mod_two_eq_zero_or_one (bi / 2 ^ k) with hz | hz
        · rw [hz] at e1
          rw [hz] at HR
          have S2 : Hid (RecSt w g ga gp U true la bi w.heap.size (recTo s la bi (k + 1)) wr) := by rw [HR.out]; exact HSt.out
          clear HR hz HSt
          go_wp2_with fail
          go_roundg gk
          case measure => omega
          case rel => exact ⟨k + 1, by omega, rfl, S2.out⟩
        · rw [hz] at e1
          rw [hz] at HR
          clear hz
          have hal := ahead_lt la (k + 1)
          generalize aheadN la (k + 1) = z at *
          go_wp2_with fail
          refine (ack_c z HSt.out.at_ hok.out hal).mono ?_
          rintro e w2 ⟨rfl, h1, h2⟩
          have S2 : Hid (RecSt w g ga gp U true la bi w.heap.size (recTo s la bi (k + 1)) w2) := by rw [HR.out]; exact HSt.out.step h1 h2
          clear h1 h2 HR HSt
          go_wp2_with fail
          go_roundg gk
          case measure => omega
          case rel => exact ⟨k + 1, by omega, rfl, S2.out⟩

theorem filter_erase : ∀ (ps : List (Nat × List Nat)) (i : Nat) (p : Nat × List Nat), ps[i]? = some p → (ps.map (·.1)).Nodup → ps.filter (fun q => decide (q.1 ≠ p.1)) = ps.eraseIdx i
  | [], _, _, h, _ => by simp at h
  | a :: ps, 0, p, h, hn => by
    have : a = p := by simpa using h
    subst this
    simp only [List.map_cons, List.nodup_cons] at hn
    rw [List.filter_cons_of_neg (by simp), List.eraseIdx_zero, List.tail_cons]
    refine List.filter_eq_self.2 fun q hq => ?_
    simp only [decide_eq_true_eq]
    exact fun e => hn.1 (e ▸ List.mem_map_of_mem hq)
  | a :: ps, i + 1, p, h, hn => by
    have h1 : ps[i]? = some p := by simpa using h
    simp only [List.map_cons, List.nodup_cons] at hn
    have h2 : a.1 ≠ p.1 := fun e => hn.1 (e ▸ List.mem_map_of_mem (List.mem_of_getElem? h1))
    rw [List.filter_cons_of_pos (by simpa using h2), List.eraseIdx_cons_succ, filter_erase ps i p h1 hn.2]

section
variable {w : World} {U : Nat → Prop} {m : List (Int × Value)} {ps : List (Nat × List Nat)}
theorem PartsAre.erase (h : PartsAre w U m ps) (i : Nat) : PartsAre w U (m.eraseIdx i) (ps.eraseIdx i) := by
  refine ⟨by rw [List.length_eraseIdx, List.length_eraseIdx, h.len], fun j p hp => ?_⟩
  rw [List.getElem?_eraseIdx] at hp ⊢
  split at hp
  · rw [if_pos (by assumption)]; exact h.each j p hp
  · rw [if_neg (by assumption)]; exact h.each (j + 1) p hp
theorem PartsAre.key (h : PartsAre w U m ps) {i : Nat} {k : Int} {v : Value} (hm : m[i]? = some (k, v)) : ∃ p, ps[i]? = some p ∧ (p.1 : Int) = k ∧ PSl w U v p.2 := by
  have hl : i < ps.length := by have := (List.getElem?_eq_some_iff.1 hm).1; have := h.len; omega
  obtain ⟨v1, h1, h2⟩ := h.each i _ (List.getElem?_eq_getElem hl)
  rw [hm] at h1
  injection h1 with h1
  injection h1 with h1 h3
  subst h3
  exact ⟨_, List.getElem?_eq_getElem hl, h1.symm, h2⟩
theorem PartsAre.del (h : PartsAre w U m ps) (hn : (ps.map (·.1)).Nodup) (k : Nat) : PartsAre w U (mdel m (k : Int)) (ps.filter fun q => decide (q.1 ≠ k)) := by
  unfold mdel
  cases hf : mfind m (k : Int) 0 with
  | none =>
    have h0 := (mfind_none (k : Int) m 0).1 hf
    have e : ps.filter (fun q => decide (q.1 ≠ k)) = ps := by
      refine List.filter_eq_self.2 fun q hq => ?_
      obtain ⟨i, hi⟩ := List.getElem?_of_mem hq
      obtain ⟨v, h1, _⟩ := h.each i q hi
      have := h0 _ (List.mem_of_getElem? h1)
      simp only [decide_eq_true_eq]
      intro e; exact this (by simp [e])
    rw [e]; exact h
  | some a =>
    obtain ⟨i, v⟩ := a
    obtain ⟨_, h1⟩ := mfind_spec _ _ _ _ _ hf
    obtain ⟨p, h2, h3, _⟩ := h.key h1
    have h3 : p.1 = k := by omega
    subst h3
    rw [filter_erase ps i p (by simpa using h2) hn]
    exact h.erase i
theorem PartsAre.get (h : PartsAre w U m ps) (k : Nat) : (mget m (k : Int)).isSome = (ps.map (·.1)).contains k ∧ ∀ v, mget m (k : Int) = some v → ∃ bs, (k, bs) ∈ ps ∧ PSl w U v bs := by
  unfold mget
  cases hf : mfind m (k : Int) 0 with
  | none =>
    have h0 := (mfind_none (k : Int) m 0).1 hf
    refine ⟨?_, fun v hv => by simp at hv⟩
    have : k ∉ ps.map (·.1) := by
      intro hk
      obtain ⟨q, hq, e⟩ := List.mem_map.1 hk
      obtain ⟨i, hi⟩ := List.getElem?_of_mem hq
      obtain ⟨v, h1, _⟩ := h.each i q hi
      exact h0 _ (List.mem_of_getElem? h1) (by simp only; omega)
    simp [this]
  | some a =>
    obtain ⟨i, v⟩ := a
    obtain ⟨_, h1⟩ := mfind_spec _ _ _ _ _ hf
    obtain ⟨p, h2, h3, h4⟩ := h.key h1
    have h3 : p.1 = k := by omega
    have hm : p ∈ ps := List.mem_of_getElem? h2
    refine ⟨?_, fun v1 hv => ?_⟩
    · simp
      exact ⟨p.2, by rw [← h3]; exact hm⟩
    · have : v = v1 := by simpa using hv
      subst this
      exact ⟨p.2, by rw [← h3]; exact hm, h4⟩
end

theorem filter_step (ps : List (Nat × List Nat)) (k : Nat) : (ps.filter fun q => decide (k ≤ q.1)).filter (fun q => decide (q.1 ≠ k)) = ps.filter fun q => decide (k + 1 ≤ q.1) := by
  rw [List.filter_filter]
  congr 1
  funext q
  rw [Bool.eq_iff_iff]
  simp
  omega
theorem filter_zero (ps : List (Nat × List Nat)) : (ps.filter fun q => decide (0 ≤ q.1)) = ps := List.filter_eq_self.2 fun q _ => by simp
theorem filter_all (ps : List (Nat × List Nat)) (c : Nat) (h : ∀ p ∈ ps, p.1 < c) : (ps.filter fun q => decide (c ≤ q.1)) = [] := List.filter_eq_nil_iff.2 fun q hq => by have := h q hq; simp; omega
theorem filter_nodup (ps : List (Nat × List Nat)) (f : Nat × List Nat → Bool) (h : (ps.map (·.1)).Nodup) : ((ps.filter f).map (·.1)).Nodup :=
  List.Nodup.sublist (List.Sublist.map _ List.filter_sublist) h

/-- In the midst of drop. -/
structure DropSt (w : World) (g ga gp : Nat) (U : Nat → Prop) (s : LS) (k : Nat) (wr : World) : Prop where
  at_ : LinkAt wr g ga gp U { s with ps := s.ps.filter fun q => decide (k ≤ q.1) }
  fr : Fr (fun i => i = gp) w wr

theorem LinkAt.set_ps {w w' : World} {g ga gp : Nat} {U : Nat → Prop} {s : LS} (h : LinkAt w g ga gp U s) {m : List (Int × Value)} {ps : List (Nat × List Nat)} (hm : MapI w' gp .i64 m) (hp : PartsAre w' U m ps) (hf : Fr (fun i => i = gp) w w') : LinkAt w' g ga gp U { s with ps := ps } := by
  exact ⟨h.blk.fr hf (fun e => h.ne2 e.symm), h.am.fr hf h.ne, ⟨m, hm, hp⟩, h.ne⟩
theorem map_ne5 {w : World} {gp : Nat} {q : IntKind} {m : List (Int × Value)} (h : MapI w gp q m) (U : Nat → Prop) : ∀ k cs, U k → Blk w k 5 cs → ¬ (fun i => i = gp) k := fun _ _ _ hk e => h.ne_blk hk e.symm

def DropTo (w : World) (g ga gp : Nat) (U : Nat → Prop) (s : LS) (e : Ending) (w' : World) : Prop :=
  e = .returned (.tuple #[]) ∧ LinkAt w' g ga gp U s ∧ Fr (fun i => i = gp) w w'

set_option maxHeartbeats 1000000 in
theorem drop_c {g ga gp : Nat} {U : Nat → Prop} {s : LS} {w : World} (h : LinkAt w g ga gp U s) (hn : (s.ps.map (·.1)).Nodup) (hx : ∀ p ∈ s.ps, p.1 < s.ct) (hc : s.ct ≤ 10) :
    Calls Tryd.prog 35 #[.pointer (some ⟨g, 0, none⟩)] w (DropTo w g ga gp U { s with ps := [] }) := by
  have c8 : w.cell? ⟨g, 8, none⟩ = some (.int .i64 (s.ct : Int)) := h.blk.cell 8
  have S0 : DropSt w g ga gp U s 0 w := ⟨by rw [filter_zero]; exact h, Fr.refl _ _⟩
  have HE : Hid (s.ps.filter (fun q => decide (s.ct ≤ q.1)) = []) := filter_all _ _ hx
  have HN := Lib.hid hn
  clear h hn hx
  obtain ⟨ct, hct⟩ : ∃ ct, ct = s.ct := ⟨_, rfl⟩
  rw [← hct] at c8 HE hc
  clear hct
  go_enter Tryd.func35, Tryd.ntmps35
  go_wp2_with fail
  go_loopg [7] ct (fun gg s7 wr => ∃ k : Nat, k + gg = ct ∧ s7 = .int .i64 (k : Int) ∧ DropSt w g ga gp U s k wr)
  case atStart => exact ⟨0, by omega, rfl, S0⟩
  case round =>
    obtain ⟨k, hk, rfl, S⟩ := hrel
    have c6 : wr.cell? ⟨g, 6, none⟩ = some (.map (some gp)) := S.at_.blk.cell 6
    have HSt := Lib.hid S
    clear S c8
    cases gk with
    | zero =>
      obtain rfl : k = ct := by omega
      have hd : decide (k < k) = false := by simp
      go_wp2_with fail
      go_end0
      refine ⟨rfl, ?_, HSt.out.fr⟩
      have := HSt.out.at_
      rw [HE.out] at this
      exact this
    | succ gk =>
      have hd : decide (k < ct) = true := by simp; omega
      have hk0 : (k : Int) < 10 := by omega
      obtain ⟨m, hm, hp⟩ := HSt.out.at_.pm
      obtain ⟨w2, hrun, hm2, hf2⟩ := hm.del und59 und3 (k : Int)
      have hp2 := (hp.del (filter_nodup _ _ HN.out) k).fr hf2 (map_ne5 hm U)
      have hp2 : PartsAre w2 U (mdel m (k : Int)) (s.ps.filter fun q => decide (k + 1 ≤ q.1)) := by rw [← filter_step]; exact hp2
      have S2 : Hid (DropSt w g ga gp U s (k + 1) w2) := ⟨HSt.out.at_.set_ps hm2 hp2 hf2, HSt.out.fr.trans hf2 (fun _ _ h => h)⟩
      clear hm2 hf2 hp2 hp hm HSt
      go_wp2_with fail
      go_roundg gk
      case measure => omega
      case rel => exact ⟨k + 1, by omega, rfl, S2.out⟩

end Go.Proofs.YtmlbhlfjaagcaaaDoor

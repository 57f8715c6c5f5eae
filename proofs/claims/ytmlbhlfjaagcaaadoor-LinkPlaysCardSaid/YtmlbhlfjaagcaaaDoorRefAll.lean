/- The contracts of the reference tiltyardref07 but its Receive, and how its states and the program's say the same. -/
import Derived.Test.YtmlbhlfjaagcaaaDoorLAck
import Derived.Test.YtmlbhlfjaagcaaaDoorLTwo
import Derived.Laws.OwnMore
import Derived.Test.YtmlbhlfjaagcaaaDoorRefWrite
import Derived.Deep.MidRow
import Derived.Test.YtmlbhlfjaagcaaaDoorRefOpen
import Derived.Test.YtmlbhlfjaagcaaaDoorLMath
namespace Go.Proofs.YtmlbhlfjaagcaaaDoor
open Go.RowKit

theorem nodup_le : ∀ (ct : Nat) (l : List Nat), l.Nodup → (∀ x ∈ l, x < ct) → l.length ≤ ct
  | 0, [], _, _ => by simp
  | 0, a :: r, _, h => absurd (h a (by simp)) (by omega)
  | ct + 1, l, hn, h => by
    have h2 := nodup_le ct (l.erase ct) (hn.erase ct) (fun x hx => by
      have h3 := (List.Nodup.mem_erase_iff hn).1 hx
      have := h x h3.2
      have := h3.1
      omega)
    by_cases hc : ct ∈ l
    · rw [List.length_erase_of_mem hc] at h2; omega
    · rw [List.erase_of_not_mem hc] at h2; omega
theorem keys_all (ct : Nat) (l : List Nat) (hn : l.Nodup) (hl : ∀ x ∈ l, x < ct) (hlen : l.length = ct) : ∀ i, i < ct → i ∈ l := by
  intro i hi
  refine Decidable.byContradiction fun h => ?_
  have := nodup_le ct (i :: l) (List.nodup_cons.2 ⟨h, hn⟩) (fun x hx => by
    rcases List.mem_cons.1 hx with rfl | hx
    · exact hi
    · exact hl x hx)
  simp at this
  omega

/- The reference's leaves: mod, Newer; its state in memory; New, Last. -/
theorem tmod_cases (x : Int) : (x.tmod 65536 = x % 65536) ∨ (x.tmod 65536 = x % 65536 - 65536 ∧ x % 65536 ≠ 0) := by
  rw [Int.tmod_eq_emod]
  by_cases h : 0 ≤ x ∨ (65536 : Int) ∣ x
  · rw [if_pos h]; left; omega
  · rw [if_neg h]; right; constructor
    · simp
    · intro e; exact h (.inr (Int.dvd_of_emod_eq_zero e))

theorem rmod_c (x : Int) (w : World) :
    Calls Tryd.prog 24 #[.int .i64 x] w fun e w' => e = .returned (.int .i64 (x % 65536)) ∧ w = w' := by
  have h0 := tmod_cases x
  have h1 : -65536 < x.tmod 65536 ∧ x.tmod 65536 < 65536 := by omega
  have h2 : x % 65536 = if x.tmod 65536 < 0 then x.tmod 65536 + 65536 else x.tmod 65536 := by split <;> omega
  rw [h2]
  clear h2 h0
  generalize hk : x.tmod 65536 = k at *
  have e1 : IntKind.i64.wrap k = k := IntWalk.i64_in _ (by omega)
  by_cases hn : k < 0
  · rw [if_pos hn]
    have d1 : decide (k < 0) = true := by simpa using hn
    go_enter Tryd.func24, Tryd.ntmps24
    go_wp2_with fail
    go_ret
    exact ⟨rfl, rfl⟩
  · rw [if_neg hn]
    have d1 : decide (k < 0) = false := by simpa using hn
    go_enter Tryd.func24, Tryd.ntmps24
    go_wp2_with fail
    go_ret
    exact ⟨rfl, rfl⟩

theorem rnewer_c (a b : Int) (w : World) :
    Calls Tryd.prog 13 #[.int .i64 a, .int .i64 b] w fun e w' => e = .returned (.bool (newerN (a % 65536).toNat (b % 65536).toNat)) ∧ w = w' := by
  have hk : (a % 65536 - b % 65536) % 65536 = ((aheadN (a % 65536).toNat (b % 65536).toNat : Nat) : Int) := by unfold aheadN; omega
  have hl := ahead_lt (a % 65536).toNat (b % 65536).toNat
  unfold newerN
  generalize aheadN (a % 65536).toNat (b % 65536).toNat = k at hk hl
  have e1 : IntKind.i64.wrap (a % 65536 - b % 65536) = a % 65536 - b % 65536 := IntWalk.i64_in _ (by omega)
  go_enter Tryd.func13, Tryd.ntmps13
  go_wp2_with fail
  refine (rmod_c a _).mono ?_
  rintro e w' ⟨rfl, rfl⟩
  go_wp2_with fail
  refine (rmod_c b _).mono ?_
  rintro e w' ⟨rfl, rfl⟩
  go_wp2_with fail
  refine (rmod_c _ _).mono ?_
  rintro e w' ⟨rfl, rfl⟩
  rw [hk]
  clear e1 hk
  by_cases hz : 1 ≤ (k : Int)
  · have d1 : decide (1 ≤ (k : Int)) = true := by simpa using hz
    go_wp2_with fail
    go_ret
    refine ⟨?_, rfl⟩
    have h1 : decide (0 < k) = true := by simp; omega
    rw [h1, Bool.true_and]
    have : decide ((k : Int) ≤ 32767) = decide (k < 32768) := decide_eq_decide.2 (by omega)
    rw [this]
    rfl
  · have d1 : decide (1 ≤ (k : Int)) = false := by simpa using hz
    go_wp2_with fail
    go_ret
    refine ⟨?_, rfl⟩
    have h1 : decide (0 < k) = false := by simp; omega
    rw [h1, Bool.false_and]
    rfl

/-- The reference's state. -/
structure RS where
  next : Nat
  sent : List Nat
  heard : List Bool
  told : List Nat
  bits : List Bool
  waits : Bool
  n : Nat
  parts : List (List Nat)
  there : List Bool
/-- Its values: of the slices Sent, Heard, Told, Parts, There. -/
structure RV where
  s : Value
  h : Value
  t : Value
  p : Value
  e : Value
abbrev nilV : Value := .slice none 0 0
abbrev refC (s : RS) (v : RV) : Array Value := (.int .i64 (s.next : Int) :: v.s :: v.h :: v.t :: (s.bits.map Value.bool ++ [.bool s.waits, .int .i64 (s.n : Int), v.p, v.e])).toArray
def RS.new (first : Nat) : RS := ⟨first, [], [], [], List.replicate 32 false, false, 0, [], []⟩
def RV.new : RV := ⟨nilV, nilV, nilV, nilV, nilV⟩

theorem rnew_c (x : Int) (w : World) :
    Calls Tryd.prog 11 #[.int .i64 x] w fun e w' => e = .returned (.pointer (some ⟨w.heap.size, 0, none⟩)) ∧ w' = w.alloc (.cells (refC (RS.new (x % 65536).toNat) RV.new) 70) := by
  have e1 : x % 65536 = (((x % 65536).toNat : Nat) : Int) := by omega
  generalize (x % 65536).toNat = n at e1
  go_enter Tryd.func11, Tryd.ntmps11
  go_wp2_with fail
  refine (rmod_c x _).mono ?_
  rintro e w' ⟨rfl, rfl⟩
  rw [e1]
  go_wp2_with fail
  go_ret
  exact ⟨rfl, rfl⟩

def RBools (l : List Bool) : List Value := l.map Value.bool
theorem RBools_length (l : List Bool) : (RBools l).length = l.length := by simp [RBools]
theorem RBools_append (a b : List Bool) : RBools (a ++ b) = RBools a ++ RBools b := by simp [RBools]

/-- What a state of the reference may be. -/
structure RS.ok (s : RS) : Prop where
  next : s.next < 65536
  sent : ∀ x ∈ s.sent, x < 65536
  heard : s.heard.length = s.sent.length
  told : ∀ x ∈ s.told, x < 65536
  bits : s.bits.length = 32
  n : s.n < 65536
  same : s.there.length = s.parts.length
  many : s.parts.length ≤ 10
  by_ : ∀ p ∈ s.parts, ∀ x ∈ p, x < 256

/-- The reference lies in memory: its slices in blocks of V, each in its own. -/
structure RefAt (w : World) (g : Nat) (V : Nat → Prop) (v : RV) (s : RS) : Prop where
  blk : Blk w g 70 (refC s v)
  sent : w.ownsRow 0 3 1 v.s s.sent.length (I64s s.sent)
  heard : w.ownsRow 0 4 1 v.h s.heard.length (RBools s.heard)
  told : w.ownsRow 0 3 1 v.t s.told.length (I64s s.told)
  st : ∀ k, v.s.ownBlock = some k → v.t.ownBlock ≠ some k
  vs : ∀ k, v.s.ownBlock = some k → V k
  vh : ∀ k, v.h.ownBlock = some k → V k
  vt : ∀ k, v.t.ownBlock = some k → V k
  vp : s.waits = true → ∃ kp ke, v.p = .slice (some ⟨kp, 0, none⟩) s.parts.length s.parts.length ∧ v.e = .slice (some ⟨ke, 0, none⟩) s.parts.length s.parts.length ∧ Blk w kp 9 (s.parts.map fun p => Value.string (strOf p)).toArray ∧ Blk w ke 4 (RBools s.there).toArray ∧ V kp ∧ V ke ∧ v.h.ownBlock ≠ some ke

/- The contracts of the reference's Last and Acked. -/
section
variable {w w' : World} {g : Nat} {V V' : Nat → Prop} {v : RV} {s : RS} {S : Nat → Prop}
theorem RefAt.fr (h : RefAt w g V v s) (hf : Fr S w w') (h1 : ¬ S g) (h2 : ∀ k, V k → ¬ S k) : RefAt w' g V v s :=
  ⟨h.blk.fr hf h1, ownsRow_fr h.sent hf (fun k e => h2 k (h.vs k e)), ownsRow_fr h.heard hf (fun k e => h2 k (h.vh k e)), ownsRow_fr h.told hf (fun k e => h2 k (h.vt k e)), h.st, h.vs, h.vh, h.vt, fun hw => by
    obtain ⟨kp, ke, a, b, c, d, e, f, i⟩ := h.vp hw
    exact ⟨kp, ke, a, b, c.fr hf (h2 _ e), d.fr hf (h2 _ f), e, f, i⟩⟩
theorem RefAt.below (h : RefAt w g V v s) (hf : Below w.heap.size w w') : RefAt w' g V v s :=
  h.fr (S := fun _ => False) (Fr.of_below hf) (fun h => h) (fun _ _ h => h)
theorem RefAt.draw (h : RefAt w g V v s) (n : Nat) : RefAt (w.drewN n) g V v s :=
  h.fr (S := fun _ => False) (Fr.drewN w n) (fun h => h) (fun _ _ h => h)
theorem RefAt.wide (h : RefAt w g V v s) (hu : ∀ k, V k → V' k) : RefAt w g V' v s :=
  ⟨h.blk, h.sent, h.heard, h.told, h.st, fun k e => hu k (h.vs k e), fun k e => hu k (h.vh k e), fun k e => hu k (h.vt k e), fun hw => by
    obtain ⟨kp, ke, a, b, c, d, e, f, i⟩ := h.vp hw
    exact ⟨kp, ke, a, b, c, d, hu _ e, hu _ f, i⟩⟩
end

/-- The number told last. -/
def RS.last (s : RS) : Nat := s.told.getLastD 0

theorem own_row {w : World} {t : TypeId} {v : Value} {l : List Value} {n : Nat} (h : w.ownsRow 0 t 1 v n l) {j : Nat} {x : Value} (hj : l[j]? = some x) : ∃ r c, v = .slice (some ⟨r, 0, none⟩) n c ∧ w.cell? ⟨r, j, none⟩ = some x := by
  have hl : j < l.length := (List.getElem?_eq_some_iff.1 hj).1
  have hn := h.1
  obtain ⟨r, c, hv, _, _⟩ := h.form (by omega)
  refine ⟨r, c, hv, ?_⟩
  have hc := h.cells (g := r) (by rw [hv]; rfl) j x hj
  rw [addr0] at hc
  exact hc
theorem last_at {l : List Nat} (h : l ≠ []) : (I64s l)[l.length - 1]? = some (.int .i64 ((l.getLastD 0 : Nat) : Int)) := by
  have : l[l.length - 1]? = some (l.getLastD 0) := by
    rw [← List.getLast?_eq_getElem?, List.getLast?_eq_some_getLast h, List.getLastD_eq_getLast?, List.getLast?_eq_some_getLast h]; rfl
  simp [I64s, this]

theorem rlast_c {g : Nat} {V : Nat → Prop} {v : RV} {s : RS} {w : World} (h : RefAt w g V v s) (hn : s.told.length < 8796093022208) :
    Calls Tryd.prog 17 #[.pointer (some ⟨g, 0, none⟩)] w fun e w' => e = .returned (.tuple #[.int .i64 (s.last : Int), .bool (!s.told.isEmpty)]) ∧ ∃ n, w' = w.drewN n := by
  have c3 : w.cell? ⟨g, 3, none⟩ = some v.t := h.blk.cell 3
  by_cases ht : s.told = []
  · have hv : ∃ A c, v.t = .slice A 0 c := by
      have := own_slice h.told; rw [ht] at this; exact this
    obtain ⟨A, c, hv⟩ := hv
    rw [hv] at c3
    clear h hv
    unfold RS.last
    rw [ht]
    go_enter Tryd.func17, Tryd.ntmps17
    go_wp2_with fail
    go_ret2
    exact ⟨rfl, 0, rfl⟩
  · obtain ⟨r, c, hv, hc⟩ := own_row h.told (last_at ht)
    rw [hv] at c3
    have hp : 0 < s.told.length := List.length_pos_iff.2 ht
    have he : s.told.isEmpty = false := by simpa using ht
    rw [he]
    unfold RS.last
    generalize s.told.getLastD 0 = x at hc
    clear h hv ht he
    generalize s.told.length = m at *
    have d1 : decide ((m : Int) = 0) = false := by simp; omega
    have e1 : wrap64 ((m : Int) - 1) = ((m - 1 : Nat) : Int) := by rw [IntWalk.wrap64_in _ (by omega)]; omega
    have e2 : m - 1 < m := by omega
    go_enter Tryd.func17, Tryd.ntmps17
    go_wp2_with fail
    go_quiet (fail)
    go_wp2_with fail
    go_ret2
    exact ⟨rfl, nq, rfl⟩

def pickT (p : Nat × Bool) : Option Nat := if p.2 then some p.1 else none
def rackTo (s : RS) (k : Nat) : List Nat := (((s.sent.zip s.heard).take k).drop (s.sent.length - 64)).filterMap pickT
/-- Those of the last 64 that were acked. -/
def RS.acked (s : RS) : List Nat := rackTo s s.sent.length
theorem rackTo_len (s : RS) (k : Nat) : (rackTo s k).length ≤ k := by
  unfold rackTo
  refine Nat.le_trans (List.length_filterMap_le _ _) ?_
  simp; omega
theorem rackTo_zero (s : RS) : rackTo s (s.sent.length - 64) = [] := by
  unfold rackTo
  rw [List.drop_eq_nil_of_le (by simp; omega)]; rfl
theorem rackTo_succ (s : RS) (k : Nat) (h : s.heard.length = s.sent.length) {x : Nat} {b : Bool} (h0 : s.sent.length - 64 ≤ k) (hx : s.sent[k]? = some x) (hb : s.heard[k]? = some b) : rackTo s (k + 1) = rackTo s k ++ if b then [x] else [] := by
  have hk : k < s.sent.length := (List.getElem?_eq_some_iff.1 hx).1
  have hz : (s.sent.zip s.heard)[k]? = some (x, b) := by rw [List.getElem?_zip_eq_some]; exact ⟨hx, hb⟩
  unfold rackTo
  rw [List.take_add_one, hz, List.drop_append_of_le_length (by simp; omega), List.filterMap_append]
  congr 1
  cases b <;> rfl

structure RAckSt (w : World) (s : RS) (k : Nat) (v : Value) (wr : World) : Prop where
  own : wr.ownsRow w.heap.size 3 1 v (rackTo s k).length (I64s (rackTo s k))
  below : Below w.heap.size w wr

set_option maxHeartbeats 2000000 in
set_option maxRecDepth 100000 in
theorem racked_c {g : Nat} {V : Nat → Prop} {v : RV} {s : RS} {w : World} (h : RefAt w g V v s) (hs : s.ok) (hn : s.sent.length < 8796093022208) :
    Calls Tryd.prog 20 #[.pointer (some ⟨g, 0, none⟩)] w (AckedTo w s.acked) := by
  obtain ⟨i0, hi, hz0, hz1, hz2⟩ := info_parts infoI64
  have H := Lib.hid h
  have HS := Lib.hid hs
  obtain ⟨A, c, hv⟩ := own_slice h.sent
  have c1 : w.cell? ⟨g, 1, none⟩ = some v.s := h.blk.cell 1
  rw [hv] at c1
  have HV := Lib.hid hv
  have S0 : Hid (RAckSt w s (s.sent.length - 64) nilV w) := ⟨by rw [rackTo_zero]; exact World.ownsRow_nil _ _ _ _, Below.refl _ _⟩
  unfold RS.acked
  obtain ⟨st, hst⟩ : ∃ st, st = s.sent.length := ⟨_, rfl⟩
  rw [← hst] at c1 hn S0
  rw [← hst]
  have HST := Lib.hid hst
  clear hst h hs hv
  have e1 : wrap64 ((st : Int) - 64) = (st : Int) - 64 := IntWalk.wrap64_in _ (by omega)
  have e2 : (if (64 : Int) < (st : Int) then (st : Int) - 64 else 0) = ((st - 64 : Nat) : Int) := by split <;> omega
  go_enter Tryd.func20, Tryd.ntmps20
  go_wp2_with fail
  go_loopg [3, 4] (st - (st - 64)) (fun gg s3 s4 wr => ∃ k : Nat, k + gg = st ∧ st - 64 ≤ k ∧ s4 = .int .i64 (k : Int) ∧ RAckSt w s k s3 wr)
  case atStart => exact ⟨st - 64, by omega, by omega, by go_num, S0.out⟩
  case round =>
    obtain ⟨k, hk, hk0, rfl, S⟩ := hrel
    have HSt := Lib.hid S
    clear S c1 S0 e1 e2
    have HL := Lib.hid (H.out.below HSt.out.below)
    have c1 : wr.cell? ⟨g, 1, none⟩ = some (.slice A st c) := by rw [HST.out, ← HV.out]; exact HL.out.blk.cell 1
    cases gk with
    | zero =>
      obtain rfl : k = st := by omega
      have hd : decide (k < k) = false := by simp
      go_wp2_with fail
      go_ret
      exact ⟨_, rfl, HSt.out.own, HSt.out.below⟩
    | succ gk =>
      have hd : decide (k < st) = true := by simp; omega
      obtain ⟨x, hx⟩ : ∃ x, s.sent[k]? = some x := ⟨_, List.getElem?_eq_getElem (by rw [← HST.out]; omega)⟩
      obtain ⟨b, hb⟩ : ∃ b, s.heard[k]? = some b := ⟨_, List.getElem?_eq_getElem (by rw [HS.out.heard, ← HST.out]; omega)⟩
      obtain ⟨r1, d1, hv1, hc1⟩ := own_row HL.out.sent (j := k) (x := .int .i64 (x : Int)) (by simp [I64s, hx])
      obtain ⟨r2, d2, hv2, hc2⟩ := own_row HL.out.heard (j := k) (x := .bool b) (by simp [RBools, hb])
      have c2 : wr.cell? ⟨g, 2, none⟩ = some (.slice (some ⟨r2, 0, none⟩) st d2) := by rw [HST.out, ← HS.out.heard, ← hv2]; exact HL.out.blk.cell 2
      have hsucc := rackTo_succ s k HS.out.heard (by rw [← HST.out]; exact hk0) hx hb
      have hlen := rackTo_len s k
      have HSU := Lib.hid hsucc
      obtain ⟨rfl, rfl⟩ : A = some ⟨r1, 0, none⟩ ∧ c = d1 := by
        have := HV.out.symm.trans hv1
        injection this with q1 q2 q3
        exact ⟨q1, q3⟩
      have hkl : k < st := by omega
      clear hsucc hx hb hv1 hv2
      cases b with
      | true =>
        have HSU := Lib.hid (show rackTo s (k + 1) = rackTo s k ++ [x] from HSU.out)
        go_wp2_with (at_builtin; refine wpList_append_own_at _ rfl (.tmp 28) (.tmp 36) 43 rfl w.heap.size 3 i0 (.int .i64 0) 1 8 Tryd.underlying43 hi hz0 hz1 hz2 rfl (by decide) _ _ _ rfl (HSt.out.own.alloc _) ⟨wr.heap.size, 0, none⟩ 1 1 [.int .i64 (x : Int)] rfl rfl (cell_one_at _ _ _ _ (by simp)) ?c2 ?c3 ?c4 ?c5 ?_)
        case c2 => first | rfl | (intro u hu; simp at hu; subst hu; rfl)
        case c3 => unfold maxLen; omega
        case c4 => omega
        case c5 => have := HSt.out.below.size; simp; omega
        intro v9 w9 hown9 hgrow9 _ _
        have S9 : Hid (RAckSt w s (k + 1) v9 w9) := by
          refine ⟨?_, ?_⟩
          · rw [HSU.out, I64s_append, List.length_append]; exact hown9
          · exact below_kept HSt.out.below (by have := HSt.out.below.size; simp; omega) hgrow9 (fun q hq => (HSt.out.own.lt q hq).1)
        clear hown9 hgrow9 HSt HSU
        go_wp2_with fail
        go_roundg gk
        case measure => omega
        case rel => exact ⟨k + 1, by omega, by omega, by go_num, S9.out⟩
      | false =>
        have S9 : Hid (RAckSt w s (k + 1) u3 wr) := by
          refine ⟨?_, HSt.out.below⟩
          rw [HSU.out]
          simpa using HSt.out.own
        clear HSt HSU
        go_wp2_with fail
        go_roundg gk
        case measure => omega
        case rel => exact ⟨k + 1, by omega, by omega, by go_num, S9.out⟩

/- The contract of the reference's hear. -/
/-- Does a datagram say of x that it was told? (n: the last that was told) -/
def saidB (bs : List Nat) (n x : Nat) : Bool :=
  decide (aheadN n x = 0) || (decide (aheadN n x ≤ 32) && decide (bs.getD (6 - (aheadN n x - 1) / 8) 0 / 2 ^ ((aheadN n x - 1) % 8) % 2 = 1))
def saysN (bs : List Nat) : Nat := bs.getD 1 0 * 256 + bs.getD 2 0
def hearTo (s : RS) (bs : List Nat) (k : Nat) : List Bool := s.heard.mapIdx fun i b => b || (decide (s.sent.length - 64 ≤ i ∧ i < k) && saidB bs (saysN bs) (s.sent.getD i 0))
/-- What hear makes of the state. -/
def RS.hear (s : RS) (bs : List Nat) : RS := if bs.getD 0 0 = 0 then s else { s with heard := hearTo s bs s.sent.length }

theorem hearTo_len (s : RS) (bs : List Nat) (k : Nat) : (hearTo s bs k).length = s.heard.length := by simp [hearTo]
theorem hearTo_zero (s : RS) (bs : List Nat) : hearTo s bs (s.sent.length - 64) = s.heard := by
  unfold hearTo
  apply List.ext_getElem?
  intro i
  rw [List.getElem?_mapIdx]
  have : ¬ (s.sent.length - 64 ≤ i ∧ i < s.sent.length - 64) := by omega
  simp only [decide_eq_false this, Bool.false_and, Bool.or_false]
  simp
theorem hearTo_succ (s : RS) (bs : List Nat) (k : Nat) (h : s.heard.length = s.sent.length) (h0 : s.sent.length - 64 ≤ k) (hk : k < s.sent.length) :
    hearTo s bs (k + 1) = if saidB bs (saysN bs) (s.sent.getD k 0) then (hearTo s bs k).set k true else hearTo s bs k := by
  apply List.ext_getElem?
  intro i
  have hi : (if saidB bs (saysN bs) (s.sent.getD k 0) then (hearTo s bs k).set k true else hearTo s bs k)[i]? = if saidB bs (saysN bs) (s.sent.getD k 0) = true ∧ k = i then some true else (hearTo s bs k)[i]? := by
    split
    · rename_i hs
      rw [List.getElem?_set, hearTo_len]
      by_cases e : k = i
      · rw [if_pos e, if_pos (by omega), if_pos ⟨hs, e⟩]
      · rw [if_neg e, if_neg (fun q => e q.2)]
    · rename_i hs
      rw [if_neg (fun q => hs q.1)]
  rw [hi]
  unfold hearTo
  rw [List.getElem?_mapIdx, List.getElem?_mapIdx]
  by_cases e : k = i
  · subst e
    have hb : ∃ b, s.heard[k]? = some b := ⟨_, List.getElem?_eq_getElem (by omega)⟩
    obtain ⟨b, hb⟩ := hb
    rw [hb]
    have h1 : s.sent.length - 64 ≤ k ∧ k < k + 1 := by omega
    have h2 : ¬ (s.sent.length - 64 ≤ k ∧ k < k) := by omega
    by_cases hs : saidB bs (saysN bs) (s.sent.getD k 0) = true
    · rw [if_pos ⟨hs, rfl⟩]; simp only [Option.map_some, hs, decide_eq_true h1, Bool.and_true, Bool.or_true]
    · rw [if_neg (fun q => hs q.1)]
      have hs' : saidB bs (saysN bs) (s.sent.getD k 0) = false := by simpa using hs
      simp only [Option.map_some, hs', Bool.and_false]
  · rw [if_neg (fun q => e q.2)]
    have : (s.sent.length - 64 ≤ i ∧ i < k + 1) ↔ (s.sent.length - 64 ≤ i ∧ i < k) := by omega
    simp only [this]

section
variable {w : World} {g : Nat} {V : Nat → Prop} {v : RV} {s : RS}
/-- A cell of Heard is set. -/
theorem RefAt.set_heard (h : RefAt w g V v s) {r c k : Nat} (hv : v.h = .slice (some ⟨r, 0, none⟩) s.heard.length c) :
    RefAt (w.setCell ⟨r, k, none⟩ (.bool true)) g V v { s with heard := s.heard.set k true } ∧ Fr (fun i => i = r) w (w.setCell ⟨r, k, none⟩ (.bool true)) := by
  have hf : Fr (fun i => i = r) w (w.setCell ⟨r, k, none⟩ (.bool true)) := Fr.set (S := fun i => i = r) w rfl _
  have hb : v.h.ownBlock = some r := by rw [hv]; rfl
  have e : RBools (s.heard.set k true) = (RBools s.heard).set k (.bool true) := by simp [RBools, List.map_set]
  refine ⟨⟨h.blk.fr hf (fun e => ?_), ownsRow_fr h.sent hf (fun q e1 e2 => ?_), ?_, ownsRow_fr h.told hf (fun q e1 e2 => ?_), h.st, h.vs, h.vh, h.vt, fun hw => ?_⟩, hf⟩
  · exact own_ne_blk h.heard h.blk (by decide) (by rw [hb, e])
  · exact own_ne_own h.sent h.heard (by decide) r hb (by rw [e1, e2])
  · rw [e, List.length_set]
    have h2 := h.heard
    rw [hv] at h2 ⊢
    exact (h2.stored k (.bool true)).1
  · exact own_ne_own h.told h.heard (by decide) r hb (by rw [e1, e2])
  · obtain ⟨kp, ke, a, b, c, d, e, f, i⟩ := h.vp hw
    exact ⟨kp, ke, a, b, c.fr hf (fun q => own_ne_blk h.heard c (by decide) (by rw [hb, q])), d.fr hf (fun q => i (by rw [hb, q])), e, f, i⟩
end

theorem own_free {w : World} {base n : Nat} {t : TypeId} {v : Value} {xs : List Value} {r : Nat} (h : w.ownsRow base t 1 v n xs) (hv : v.ownBlock = some r) (k : Nat) : w.frozen? ⟨r, k, none⟩ = false := by
  rcases h.2 with ⟨rfl, _⟩ | ⟨g', cap, cur, rfl, _, hh, _⟩
  · simp [Value.ownBlock] at hv
  · have : g' = r := by simpa [Value.ownBlock] using hv
    subst this
    exact Blk.frozen hh k

structure HearSt (w : World) (g : Nat) (V : Nat → Prop) (v : RV) (s : RS) (bs : List Nat) (k : Nat) (wr : World) : Prop where
  at_ : RefAt wr g V v { s with heard := hearTo s bs k }
  fr : Fr (fun i => v.h.ownBlock = some i) w wr

def HearTo (w : World) (g : Nat) (V : Nat → Prop) (v : RV) (s : RS) (e : Ending) (w' : World) : Prop :=
  e = .returned (.tuple #[]) ∧ RefAt w' g V v s ∧ Fr (fun i => v.h.ownBlock = some i) w w'

set_option maxHeartbeats 2000000 in
set_option maxRecDepth 100000 in
theorem rhear_c {g base : Nat} {V : Nat → Prop} {v : RV} {s : RS} {w : World} {vb : Value} {bs : List Nat} (h : RefAt w g V v s) (hs : s.ok) (hn : s.sent.length < 8796093022208) (hb : OwnB w base vb bs) (hl : 7 ≤ bs.length) (hby : ∀ x ∈ bs, x < 256) :
    Calls Tryd.prog 40 #[.pointer (some ⟨g, 0, none⟩), vb] w (HearTo w g V v (s.hear bs)) := by
  obtain ⟨q, cb, rfl, _, _⟩ := World.ownsRow.form hb (by omega)
  have hcb : ∀ j, j < bs.length → w.cell? ⟨q, j, none⟩ = some (.int .u8 ((bs.getD j 0 : Nat) : Int)) ∧ bs.getD j 0 < 256 := by
    intro j hj
    have hc := World.ownsRow.cells hb (g := q) rfl j (.int .u8 ((bs.getD j 0 : Nat) : Int)) (by simp [U8s, hj])
    rw [addr0] at hc
    refine ⟨hc, hby _ ?_⟩
    rw [List.getD_eq_getElem?_getD, List.getElem?_eq_getElem hj]; simp
  have HC := Lib.hid hcb
  obtain ⟨b0, lb0⟩ := hcb 0 (by omega)
  obtain ⟨b1, lb1⟩ := hcb 1 (by omega)
  obtain ⟨b2, lb2⟩ := hcb 2 (by omega)
  have H := Lib.hid h
  have HS := Lib.hid hs
  have HB := Lib.hid hb
  clear h hs hb hcb hby
  by_cases hz : bs.getD 0 0 = 0
  · unfold RS.hear
    rw [if_pos hz]
    rw [hz] at b0
    generalize bs.length = bl at *
    have e1 : 0 < bl := by omega
    clear HC HS HB b1 b2
    go_enter Tryd.func40, Tryd.ntmps40
    go_wp2_with fail
    go_end0
    exact ⟨rfl, H.out, Fr.refl _ _⟩
  · unfold RS.hear
    rw [if_neg hz]
    obtain ⟨st, hst⟩ : ∃ st, st = s.sent.length := ⟨_, rfl⟩
    rw [← hst] at hn ⊢
    have d0 : (((bs.getD 0 0 : Nat) : Int) == 0) = false := by rw [beq_eq_false_iff_ne]; omega
    obtain ⟨A, c, hv⟩ := own_slice H.out.sent
    have c1 : w.cell? ⟨g, 1, none⟩ = some v.s := H.out.blk.cell 1
    rw [hv, ← hst] at c1
    have HV := Lib.hid hv
    have S0 : Hid (HearSt w g V v s bs (st - 64) w) := ⟨by rw [hst, hearTo_zero]; exact H.out, Fr.refl _ _⟩
    have HST := Lib.hid hst
    clear hv hst hz
    obtain ⟨n, hsn⟩ : ∃ n, n = saysN bs := ⟨_, rfl⟩
    have e3 : IntKind.i64.wrap (((bs.getD 1 0 : Nat) : Int) * 256 + ((bs.getD 2 0 : Nat) : Int)) = (n : Int) := by rw [IntWalk.i64_in _ (by omega), hsn]; unfold saysN; omega
    have e4 : ((bs.getD 1 0 : Nat) : Int) * 256 + ((bs.getD 2 0 : Nat) : Int) = (n : Int) := by rw [hsn]; unfold saysN; omega
    have hnn : n < 65536 := by rw [hsn]; unfold saysN; omega
    have HSN := Lib.hid hsn
    clear hsn
    generalize bs.getD 0 0 = y0 at *
    generalize bs.getD 1 0 = y1 at *
    generalize bs.getD 2 0 = y2 at *
    obtain ⟨bl, hbl⟩ : ∃ bl, bl = bs.length := ⟨_, rfl⟩
    rw [← hbl] at hl ⊢
    have HBL := Lib.hid hbl
    clear hbl
    have l0 : 0 < bl := by omega
    have l1 : 1 < bl := by omega
    have l2 : 2 < bl := by omega
    have e1 : wrap64 ((st : Int) - 64) = (st : Int) - 64 := IntWalk.wrap64_in _ (by omega)
    have e2 : (if (64 : Int) < (st : Int) then (st : Int) - 64 else 0) = ((st - 64 : Nat) : Int) := by split <;> omega
    go_enter Tryd.func40, Tryd.ntmps40
    go_wp2_with fail
    go_quiet (fail)
    go_wp2_with fail
    clear b0 b1 b2 e1 e2 e3 e4 d0 c1 lb0 lb1 lb2
    go_loopg [5] (st - (st - 64)) (fun gg s5 wr => ∃ k : Nat, k + gg = st ∧ st - 64 ≤ k ∧ s5 = .int .i64 (k : Int) ∧ HearSt w g V v s bs k wr)
    case atStart => exact ⟨st - 64, by omega, by omega, by go_num, S0.out.at_.draw _, Fr.drewN _ _⟩
    case round =>
      obtain ⟨k, hk, hk0, rfl, S⟩ := hrel
      have HSt := Lib.hid S
      clear S S0
      have c1 : wr.cell? ⟨g, 1, none⟩ = some (.slice A st c) := by rw [HST.out, ← HV.out]; exact HSt.out.at_.blk.cell 1
      cases gk with
      | zero =>
        obtain rfl : k = st := by omega
        have hd : decide (k < k) = false := by simp
        go_wp2_with fail
        go_end0
        exact ⟨rfl, HSt.out.at_, HSt.out.fr⟩
      | succ gk =>
        have hd : decide (k < st) = true := by simp; omega
        obtain ⟨x, hx⟩ : ∃ x, s.sent[k]? = some x := ⟨_, List.getElem?_eq_getElem (by rw [← HST.out]; omega)⟩
        have hxx : s.sent.getD k 0 = x := by rw [List.getD_eq_getElem?_getD, hx]; rfl
        have hxl : x < 65536 := HS.out.sent x (List.mem_of_getElem? hx)
        obtain ⟨r1, d1, hv1, hc1⟩ := own_row HSt.out.at_.sent (j := k) (x := .int .i64 (x : Int)) (by simp [I64s, hx])
        have hsucc := hearTo_succ s bs k HS.out.heard (by rw [← HST.out]; exact hk0) (by rw [← HST.out]; omega)
        rw [hxx, ← HSN.out] at hsucc
        have HSU := Lib.hid hsucc
        obtain ⟨rfl, rfl⟩ : A = some ⟨r1, 0, none⟩ ∧ c = d1 := by
          have := HV.out.symm.trans hv1
          injection this with q1 q2 q3
          exact ⟨q1, q3⟩
        have hhl : (hearTo s bs k).length = st := by rw [hearTo_len, HS.out.heard, ← HST.out]
        obtain ⟨r2, d2, hv2⟩ : ∃ r2 d2, v.h = .slice (some ⟨r2, 0, none⟩) st d2 := by
          obtain ⟨r2, d2, h2, _, _⟩ := HSt.out.at_.heard.form (by show 0 < (hearTo s bs k).length; omega)
          exact ⟨r2, d2, by rw [h2]; show _ = Value.slice _ _ _; rw [← hhl]⟩
        have c2 : wr.cell? ⟨g, 2, none⟩ = some (.slice (some ⟨r2, 0, none⟩) st d2) := by rw [← hv2]; exact HSt.out.at_.blk.cell 2
        have hkl : k < st := by omega
        have hm : ((n : Int) - (x : Int)) % 65536 = ((aheadN n x : Nat) : Int) := by unfold aheadN; omega
        have e1 : wrap64 ((n : Int) - (x : Int)) = (n : Int) - (x : Int) := IntWalk.wrap64_in _ (by omega)
        clear hsucc hx hxx hv1
        go_wp2_with fail
        refine (rmod_c _ _).mono ?_
        rintro e w' ⟨rfl, rfl⟩
        rw [hm]
        clear hm e1
        have hfz : wr.frozen? ⟨r2, k, none⟩ = false := own_free HSt.out.at_.heard (by rw [hv2]; rfl) k
        obtain ⟨bo, hbo⟩ : ∃ bo, (hearTo s bs k)[k]? = some bo := ⟨_, List.getElem?_eq_getElem (by omega)⟩
        have hc2 : wr.cell? ⟨r2, k, none⟩ = some (.bool bo) := by
          obtain ⟨r, d, h1, h2⟩ := own_row HSt.out.at_.heard (j := k) (x := .bool bo) (by simp [RBools, hbo])
          rw [hv2] at h1
          injection h1 with q1 q2 q3
          injection q1 with q1
          injection q1 with q1
          rw [q1]; exact h2
        have SS : Hid (saidB bs n x = true → HearSt w g V v s bs (k + 1) (wr.setCell ⟨r2, k, none⟩ (.bool true))) := fun hs => by
          have hh := HSU.out
          rw [if_pos hs] at hh
          obtain ⟨h1, h2⟩ := HSt.out.at_.set_heard (r := r2) (c := d2) (k := k) (by rw [hv2]; show _ = Value.slice _ (hearTo s bs k).length _; rw [hhl])
          refine ⟨by rw [hh]; exact h1, HSt.out.fr.trans h2 (fun i _ e => by rw [hv2]; have e : i = r2 := e; rw [e]; rfl)⟩
        have SN : Hid (saidB bs n x = false → HearSt w g V v s bs (k + 1) wr) := fun hs => by
          have hh := HSU.out
          rw [if_neg (by rw [hs]; simp)] at hh
          exact ⟨by rw [hh]; exact HSt.out.at_, HSt.out.fr⟩
        have HCB : Hid (∀ j, j < bl → wr.cell? ⟨q, j, none⟩ = some (.int .u8 ((bs.getD j 0 : Nat) : Int)) ∧ bs.getD j 0 < 256) := fun j hj => by
          have hj' : j < bs.length := by rw [← HBL.out]; exact hj
          obtain ⟨_, h2⟩ := HC.out j hj'
          refine ⟨?_, h2⟩
          have hq : v.h.ownBlock ≠ some q := own_ne_own H.out.heard HB.out (by decide) q rfl
          have hc := World.ownsRow.cells (ownsRow_fr HB.out HSt.out.fr (fun i e1 e2 => hq (by rw [e2]; exact e1.symm))) (g := q) rfl j (.int .u8 ((bs.getD j 0 : Nat) : Int)) (by simp [U8s, hj'])
          rw [addr0] at hc
          exact hc
        unfold saidB at SS SN
        have hkk := ahead_lt n x
        generalize aheadN n x = kk at *
        clear HSt HSU HC hhl hbo hv2
        by_cases hz : kk = 0
        · subst hz
          have S9 := Lib.hid (SS.out (by simp))
          clear SS SN HCB
          go_wp2_with fail
          go_roundg gk
          case measure => omega
          case rel => exact ⟨k + 1, by omega, by omega, by go_num, S9.out⟩
        · have f1 : ((kk : Int) == 0) = false := by rw [beq_eq_false_iff_ne]; omega
          by_cases hle : kk ≤ 32
          · have f2 : decide (kk ≤ 32) = true := by simpa using hle
            obtain ⟨m, hm⟩ : ∃ m, m = (kk - 1) / 8 := ⟨_, rfl⟩
            obtain ⟨p, hp⟩ : ∃ p, p = (kk - 1) % 8 := ⟨_, rfl⟩
            have q0 : (kk : Int) - 1 = ((kk - 1 : Nat) : Int) := by omega
            have q1 : ((kk : Int) - 1).tdiv 8 = (m : Int) := by rw [q0, hm]; rfl
            have q2 : ((kk : Int) - 1) / 8 = (m : Int) := by rw [q0, hm]; rfl
            have q3 : ((kk : Int) - 1).tmod 8 = (p : Int) := by rw [q0, hp]; rfl
            have q4 : ((kk : Int) - 1) % 8 = (p : Int) := by rw [q0, hp]; rfl
            have q5 : (6 : Int) - (m : Int) = ((6 - m : Nat) : Int) := by omega
            have hm6 : 6 - m < bl := by omega
            obtain ⟨cm, lm⟩ := HCB.out (6 - m) hm6
            have hbit := u8_bit (bs.getD (6 - m) 0) p lm
            have hp8 : p < 8 := by omega
            rw [← hm, ← hp] at SS SN
            clear hm hp q0 HCB
            obtain ⟨j6, hj6⟩ : ∃ j6, j6 = 6 - m := ⟨_, rfl⟩
            rw [← hj6] at q5 hm6 cm lm hbit SS SN
            have hj7 : j6 ≤ 6 := by omega
            clear hj6
            generalize bs.getD j6 0 = z at *
            have hy2 : z / 2 ^ p % 2 < 2 := Nat.mod_lt _ (by omega)
            generalize hy : z / 2 ^ p % 2 = y at *
            by_cases h1 : y = 1
            · subst h1
              have S9 := Lib.hid (SS.out (by simp [hle]))
              clear SS SN
              go_wp2_with fail
              go_roundg gk
              case measure => omega
              case rel => exact ⟨k + 1, by omega, by omega, by go_num, S9.out⟩
            · obtain rfl : y = 0 := by omega
              have S9 := Lib.hid (SN.out (by simp [hz]))
              clear SS SN
              go_wp2_with fail
              go_roundg gk
              case measure => omega
              case rel => exact ⟨k + 1, by omega, by omega, by go_num, S9.out⟩
          · have f2 : decide (kk ≤ 32) = false := by simpa using hle
            have S9 := Lib.hid (SN.out (by simp [hz, hle]))
            clear SS SN HCB
            go_wp2_with fail
            go_roundg gk
            case measure => omega
            case rel => exact ⟨k + 1, by omega, by omega, by go_num, S9.out⟩

/- The contract of the reference's head. -/
def rhTo (b : List Bool) (n : Nat) : Nat → List Nat
  | 0 => [1, n / 256, n % 256, 0, 0, 0, 0]
  | k + 1 => if b.getD k false then (rhTo b n k).set (6 - k / 8) ((rhTo b n k).getD (6 - k / 8) 0 ||| 2 ^ (k % 8)) else rhTo b n k
/-- What was told, in seven bytes. -/
def RS.head (s : RS) : List Nat := if s.told = [] then [0, 0, 0, 0, 0, 0, 0] else rhTo s.bits s.last 32
theorem rhTo_len (b : List Bool) (n k : Nat) : (rhTo b n k).length = 7 := by
  induction k with
  | zero => rfl
  | succ k ih => unfold rhTo; split <;> simp [ih]
theorem rhTo_lt (b : List Bool) (n k : Nat) (hn : n < 65536) : ∀ x ∈ rhTo b n k, x < 256 := by
  induction k with
  | zero => intro x hx; simp only [rhTo, List.mem_cons, List.not_mem_nil, or_false] at hx; omega
  | succ k ih =>
    unfold rhTo
    split
    · intro x hx
      rcases List.mem_or_eq_of_mem_set hx with h | h
      · exact ih x h
      · subst h
        have h8 : (256 : Nat) = 2 ^ 8 := by decide
        rw [h8]
        refine Nat.or_lt_two_pow ?_ (Nat.pow_lt_pow_right (by omega) (by omega))
        rw [← h8, List.getD_eq_getElem?_getD, List.getElem?_eq_getElem (by rw [rhTo_len]; omega)]
        exact ih _ (List.getElem_mem _)
    · exact ih

theorem hmake (w : World) : (Instr.makeSlice 36 (.int .i64 7) (.int .i64 7)).run Tryd.prog w = .ok (.slice (some ⟨w.heap.size, 0, none⟩) 7 7) (w.alloc (.cells (U8s [0, 0, 0, 0, 0, 0, 0]).toArray 5)) := by
  obtain ⟨i, hi, hz, hs, hb⟩ := info_parts infoU8
  have h := run_make (P := Tryd.prog) w 36 5 i (.int .u8 0) Tryd.underlying36 hi hz .i64 .i64 7 7 (by omega) (by omega) (by rw [hb]; omega) (by omega)
  rw [hs, Nat.mul_one] at h
  rw [h]
  have e : madeCells (Value.int IntKind.u8 0).cells (Int.toNat 7) = (U8s [0, 0, 0, 0, 0, 0, 0]).toArray := by
    apply Array.toList_inj.1
    exact toList_madeCells_one _ _
  rw [e]
  rfl

theorem bit_at {s : RS} (v : RV) (hb : s.bits.length = 32) {k : Nat} (hk : k < 32) : (refC s v)[4 + k]? = some (.bool (s.bits.getD k false)) := by
  have h1 : (s.bits.map Value.bool ++ [.bool s.waits, .int .i64 (s.n : Int), v.p, v.e])[k]? = some (.bool (s.bits.getD k false)) := by
    rw [List.getElem?_append_left (by simp; omega)]
    rw [List.getElem?_map, List.getD_eq_getElem?_getD, List.getElem?_eq_getElem (by omega)]
    rfl
  have e : 4 + k = k + 1 + 1 + 1 + 1 := by omega
  unfold refC
  rw [List.getElem?_toArray, e]
  simpa using h1

theorem or_bit (z p : Nat) (hz : z < 256) (hp : p ≤ 7) : bits BinOp.or IntKind.u8 (z : Int) ((2 : Int) ^ p % 256) = ((z ||| 2 ^ p : Nat) : Int) := by
  have h1 : 2 ^ p < 256 := by
    have : 2 ^ p ≤ 2 ^ 7 := Nat.pow_le_pow_right (by omega) hp
    have h7 : (2 : Nat) ^ 7 = 128 := by decide
    omega
  have h2 : (2 : Int) ^ p % 256 = ((2 ^ p : Nat) : Int) := by
    have : (2 : Int) ^ p = ((2 ^ p : Nat) : Int) := by push_cast; rfl
    rw [this]
    generalize 2 ^ p = y at h1
    omega
  rw [h2]
  exact u8_or_nat z (2 ^ p) hz h1

/-- In the midst of head. -/
structure RhSt (w : World) (l : List Nat) (wr : World) : Prop where
  bk : Blk wr w.heap.size 5 (U8s l).toArray
  below : Below w.heap.size w wr
theorem RhSt.set {w wr : World} {l : List Nat} (h : RhSt w l wr) (j x : Nat) : RhSt w (l.set j x) (wr.setCell ⟨w.heap.size, j, none⟩ (.int .u8 (x : Int))) := by
  refine ⟨?_, h.below.setCell (Nat.le_refl _) _⟩
  have := h.bk.set_ j (.int .u8 (x : Int))
  have e : ((U8s l).toArray).setIfInBounds j (.int .u8 (x : Int)) = (U8s (l.set j x)).toArray := by simp [U8s, List.map_set]
  rw [e] at this
  exact this

set_option maxHeartbeats 2000000 in
set_option maxRecDepth 100000 in
theorem rhead_c {g : Nat} {V : Nat → Prop} {v : RV} {s : RS} {w : World} (h : RefAt w g V v s) (hs : s.ok) (hn : s.told.length < 8796093022208) :
    Calls Tryd.prog 37 #[.pointer (some ⟨g, 0, none⟩)] w (Made w s.head) := by
  have hmk := hmake w
  have H := Lib.hid h
  have HS := Lib.hid hs
  have S0 : Hid (RhSt w [0, 0, 0, 0, 0, 0, 0] (w.alloc (.cells (U8s [0, 0, 0, 0, 0, 0, 0]).toArray 5))) := ⟨Blk.new w 5 _, (Below.refl _ _).alloc (Nat.le_refl _) _⟩
  have HA := Lib.hid (h.below S0.out.below)
  obtain ⟨w1, hw1⟩ : ∃ w1, w1 = w.alloc (.cells (U8s [0, 0, 0, 0, 0, 0, 0]).toArray 5) := ⟨_, rfl⟩
  rw [← hw1] at hmk S0 HA
  clear h hs hw1
  have c3 : w1.cell? ⟨g, 3, none⟩ = some v.t := HA.out.blk.cell 3
  unfold RS.head
  by_cases ht : s.told = []
  · rw [if_pos ht]
    have hv : ∃ A c, v.t = .slice A 0 c := by
      have := own_slice H.out.told; rw [ht] at this; exact this
    obtain ⟨A, c, hv⟩ := hv
    rw [hv] at c3
    clear hv ht
    go_enter Tryd.func37, Tryd.ntmps37
    go_wp2_with fail
    go_ret
    exact ⟨_, rfl, OwnB.blk S0.out.bk (Nat.le_refl _) rfl (by unfold maxLen; decide), S0.out.below⟩
  · rw [if_neg ht]
    obtain ⟨r, c, hv, hc⟩ := own_row HA.out.told (last_at ht)
    rw [hv] at c3
    have hp : 0 < s.told.length := List.length_pos_iff.2 ht
    have hx : s.last < 65536 := by
      refine HS.out.told _ ?_
      unfold RS.last
      rw [List.getLastD_eq_getLast?, List.getLast?_eq_some_getLast ht]
      exact List.getLast_mem ht
    change w1.cell? ⟨r, s.told.length - 1, none⟩ = some (.int .i64 (s.last : Int)) at hc
    generalize s.last = x at *
    clear hv ht
    generalize s.told.length = m at *
    have d1 : ((m : Int) == 0) = false := by rw [beq_eq_false_iff_ne]; omega
    have e1 : wrap64 ((m : Int) - 1) = ((m - 1 : Nat) : Int) := by rw [IntWalk.wrap64_in _ (by omega)]; omega
    have e2 : m - 1 < m := by omega
    have b0 : w1.cell? ⟨w.heap.size, 0, none⟩ = some (.int .u8 0) := S0.out.bk.cell 0
    have f0 := S0.out.bk.frozen 0
    have b1 : w1.cell? ⟨w.heap.size, 1, none⟩ = some (.int .u8 0) := S0.out.bk.cell 1
    have f1 := S0.out.bk.frozen 1
    have b2 : w1.cell? ⟨w.heap.size, 2, none⟩ = some (.int .u8 0) := S0.out.bk.cell 2
    have f2 := S0.out.bk.frozen 2
    go_enter Tryd.func37, Tryd.ntmps37
    go_wp2_with fail
    go_quiet (fail)
    go_wp2_with fail
    have S1 : Hid (RhSt w (rhTo s.bits x 0) ((((w1.drewN nq).setCell ⟨w.heap.size, 0, none⟩ (.int .u8 1)).setCell ⟨w.heap.size, 1, none⟩ (.int .u8 ((x : Int) / 256))).setCell ⟨w.heap.size, 2, none⟩ (.int .u8 ((x : Int) % 256)))) := by
      have h0 : RhSt w [0, 0, 0, 0, 0, 0, 0] (w1.drewN nq) := ⟨S0.out.bk, below_draw S0.out.below nq⟩
      exact ((h0.set 0 1).set 1 (x / 256)).set 2 (x % 256)
    clear b0 b1 b2 f0 f1 f2 e1 e2 d1 S0 hc c3 hmk
    go_loopg [5] 32 (fun gg s5 wr => ∃ k : Nat, k + gg = 32 ∧ s5 = .int .i64 (k : Int) ∧ RhSt w (rhTo s.bits x k) wr)
    case atStart => exact ⟨0, by omega, rfl, S1.out⟩
    case round =>
      obtain ⟨k, hk, rfl, S⟩ := hrel
      have HSt := Lib.hid S
      clear S S1
      cases gk with
      | zero =>
        obtain rfl : k = 32 := by omega
        go_wp2_with fail
        go_ret
        exact ⟨_, rfl, OwnB.blk HSt.out.bk (Nat.le_refl _) (rhTo_len _ _ _).symm (by rw [rhTo_len]; unfold maxLen; decide), HSt.out.below⟩
      | succ gk =>
        have hd : decide (k < 32) = true := by simp; omega
        have hkl : k < 32 := by omega
        have cb : wr.cell? ⟨g, 4 + k, none⟩ = some (.bool (s.bits.getD k false)) := ((H.out.below HSt.out.below).blk.cell (4 + k)).trans (bit_at v HS.out.bits hkl)
        have hsucc : Hid (rhTo s.bits x (k + 1) = if s.bits.getD k false then (rhTo s.bits x k).set (6 - k / 8) ((rhTo s.bits x k).getD (6 - k / 8) 0 ||| 2 ^ (k % 8)) else rhTo s.bits x k) := rfl
        by_cases hb : s.bits.getD k false = true
        · rw [hb] at cb
          rw [if_pos hb] at hsucc
          obtain ⟨j6, hj6⟩ : ∃ j6, j6 = 6 - k / 8 := ⟨_, rfl⟩
          obtain ⟨p, hp8⟩ : ∃ p, p = k % 8 := ⟨_, rfl⟩
          obtain ⟨m8, hm8⟩ : ∃ m8, m8 = k / 8 := ⟨_, rfl⟩
          have q1 : ((k : Int)).tdiv 8 = (m8 : Int) := by rw [hm8]; rfl
          have q2 : ((k : Int)) / 8 = (m8 : Int) := by rw [hm8]; rfl
          have q3 : ((k : Int)).tmod 8 = (p : Int) := by rw [hp8]; rfl
          have q4 : ((k : Int)) % 8 = (p : Int) := by rw [hp8]; rfl
          have q5 : (6 : Int) - (m8 : Int) = (j6 : Int) := by omega
          have hj7 : j6 < 7 := by omega
          have hp7 : p ≤ 7 := by omega
          rw [← hj6, ← hp8] at hsucc
          clear hj6 hp8 hm8
          obtain ⟨z, hz⟩ : ∃ z, z = (rhTo s.bits x k).getD j6 0 := ⟨_, rfl⟩
          have hzl : z < 256 := by
            rw [hz, List.getD_eq_getElem?_getD, List.getElem?_eq_getElem (by rw [rhTo_len]; exact hj7)]
            exact rhTo_lt _ _ _ hx _ (List.getElem_mem _)
          have cz : wr.cell? ⟨w.heap.size, j6, none⟩ = some (.int .u8 (z : Int)) := by
            rw [HSt.out.bk.cell j6, hz]
            simp [U8s, rhTo_len, hj7]
          have fz := HSt.out.bk.frozen j6
          rw [← hz] at hsucc
          have S9 : Hid (RhSt w (rhTo s.bits x (k + 1)) (wr.setCell ⟨w.heap.size, j6, none⟩ (.int .u8 (bits BinOp.or IntKind.u8 (z : Int) ((2 : Int) ^ p % 256)))).drew) := by
            rw [hsucc, or_bit z p hzl hp7]
            have h9 := HSt.out.set j6 (z ||| 2 ^ p)
            exact ⟨h9.bk, below_draw h9.below 1⟩
          clear hz hsucc hb HSt
          go_wp2_with fail
          go_region
          go_wp2_with fail
          go_roundg gk
          case measure => omega
          case rel => exact ⟨k + 1, by omega, by go_num, S9.out⟩
        · have hb' : s.bits.getD k false = false := by simpa using hb
          rw [hb'] at cb
          rw [if_neg hb] at hsucc
          have S9 : Hid (RhSt w (rhTo s.bits x (k + 1)) wr) := by rw [hsucc]; exact HSt.out
          clear HSt hsucc hb
          go_wp2_with fail
          go_roundg gk
          case measure => omega
          case rel => exact ⟨k + 1, by omega, by go_num, S9.out⟩

/- The contract of the reference's note. -/
/-- The bits, shifted by j; the one before is told. -/
def noteBits (b : List Bool) (j : Nat) : List Bool := (List.range 32).map fun i => decide (i + 1 = j) || (decide (j ≤ i) && b.getD (i - j) false)
/-- On the way there: k bits are shifted. -/
def shTo (b : List Bool) (j k : Nat) : List Bool := (List.range 32).map fun i => decide (j ≤ i ∧ i < j + k) && b.getD (i - j) false
def RS.note (s : RS) (n : Nat) : RS := { s with told := s.told ++ [n], bits := if s.told = [] then s.bits else noteBits s.bits (aheadN n s.last) }
theorem shTo_len (b : List Bool) (j k : Nat) : (shTo b j k).length = 32 := by simp [shTo]
theorem noteBits_len (b : List Bool) (j : Nat) : (noteBits b j).length = 32 := by simp [noteBits]
theorem shTo_zero (b : List Bool) (j : Nat) : shTo b j 0 = List.replicate 32 false := by
  apply List.ext_getElem?
  intro i
  unfold shTo
  rw [List.getElem?_map, List.getElem?_replicate]
  by_cases hi : i < 32
  · have h : ¬ (j ≤ i ∧ i < j + 0) := by omega
    rw [List.getElem?_range hi, if_pos hi]
    simp only [Option.map_some, decide_eq_false h, Bool.false_and]
  · rw [List.getElem?_eq_none (by simp; omega), if_neg hi]; rfl
theorem shTo_succ (b : List Bool) (j k : Nat) (h : k + j < 32) : shTo b j (k + 1) = (shTo b j k).set (k + j) (b.getD k false) := by
  apply List.ext_getElem?
  intro i
  rw [List.getElem?_set, shTo_len]
  unfold shTo
  rw [List.getElem?_map, List.getElem?_map]
  by_cases hi : i < 32
  · rw [List.getElem?_range hi]
    by_cases e : k + j = i
    · subst e
      have h1 : j ≤ k + j ∧ k + j < j + (k + 1) := by omega
      rw [if_pos rfl, if_pos h]
      simp only [Option.map_some, decide_eq_true h1, Bool.true_and, Nat.add_sub_cancel]
    · have h1 : (j ≤ i ∧ i < j + (k + 1)) ↔ (j ≤ i ∧ i < j + k) := by omega
      rw [if_neg e]
      show some (decide (j ≤ i ∧ i < j + (k + 1)) && b.getD (i - j) false) = some (decide (j ≤ i ∧ i < j + k) && b.getD (i - j) false)
      rw [decide_eq_decide.2 h1]
  · rw [List.getElem?_eq_none (by simp; omega), if_neg (by omega)]; rfl
theorem shTo_note (b : List Bool) (j k : Nat) (hj : 1 ≤ j) (hk : 32 ≤ k + j) : noteBits b j = if j ≤ 32 then (shTo b j k).set (j - 1) true else shTo b j k := by
  apply List.ext_getElem?
  intro i
  have hx : (if j ≤ 32 then (shTo b j k).set (j - 1) true else shTo b j k)[i]? = if i < 32 then some (decide (i + 1 = j) || (decide (j ≤ i ∧ i < j + k) && b.getD (i - j) false)) else none := by
    have hs : (shTo b j k)[i]? = if i < 32 then some (decide (j ≤ i ∧ i < j + k) && b.getD (i - j) false) else none := by
      unfold shTo
      rw [List.getElem?_map]
      by_cases hi : i < 32
      · rw [List.getElem?_range hi, if_pos hi]; rfl
      · rw [List.getElem?_eq_none (by simp; omega), if_neg hi]; rfl
    split
    · rw [List.getElem?_set, shTo_len, hs]
      by_cases e : j - 1 = i
      · have e1 : i + 1 = j := by omega
        rw [if_pos e, if_pos (by omega), if_pos (by omega), decide_eq_true e1]; rfl
      · have e1 : ¬ (i + 1 = j) := by omega
        rw [if_neg e, decide_eq_false e1]; rfl
    · rw [hs]
      by_cases hi : i < 32
      · have e1 : ¬ (i + 1 = j) := by omega
        rw [if_pos hi, if_pos hi, decide_eq_false e1]; rfl
      · rw [if_neg hi, if_neg hi]
  rw [hx]
  unfold noteBits
  rw [List.getElem?_map]
  by_cases hi : i < 32
  · rw [List.getElem?_range hi, if_pos hi]
    have h1 : (j ≤ i ∧ i < j + k) ↔ j ≤ i := by omega
    simp only [Option.map_some, h1]
  · rw [List.getElem?_eq_none (by simp; omega), if_neg hi]; rfl

section
variable {w w' : World} {g : Nat} {V : Nat → Prop} {v : RV} {s : RS}
/-- A number is told: Told has grown. -/
theorem RefAt.tell (h : RefAt w g V v s) {n : Nat} {t' : Value} (ho : w'.ownsRow 0 3 1 t' (s.told.length + 1) (I64s s.told ++ [.int .i64 (n : Int)])) (hg : w.grownBy w' v.t.ownBlock) (hb : t'.ownBlock = v.t.ownBlock ∨ ∃ k, t'.ownBlock = some k ∧ w.heap.size ≤ k) :
    RefAt (w'.setCell ⟨g, 3, none⟩ t') g (fun k => V k ∨ w.heap.size ≤ k) { v with t := t' } { s with told := s.told ++ [n] } ∧ Fr (fun i => i = g ∨ v.t.ownBlock = some i) w (w'.setCell ⟨g, 3, none⟩ t') := by
  have hf : Fr (fun i => v.t.ownBlock = some i) w w' := Fr.of_grown hg (fun i _ e => e)
  have hgt : v.t.ownBlock ≠ some g := own_ne_blk h.told h.blk (by decide)
  have hf2 : Fr (fun i => i = g) w' (w'.setCell ⟨g, 3, none⟩ t') := Fr.set (S := fun i => i = g) w' rfl _
  have b1 : Blk w' g 70 (refC s v) := h.blk.fr hf hgt
  have hne : ∀ k cs t, Blk w k t cs → t ≠ 70 → k ≠ g := fun k cs t hk ht e => hk.ne_ h.blk ht e
  refine ⟨⟨?_, ?_, ?_, ?_, ?_, fun k e => .inl (h.vs k e), fun k e => .inl (h.vh k e), ?_, fun hw => ?_⟩, ?_⟩
  · have := b1.set_ 3 t'
    simpa using this
  · refine ownsRow_fr (ownsRow_fr h.sent hf (fun k e => h.st k e)) hf2 (fun k e e2 => ?_)
    have e2 : k = g := e2
    exact own_ne_blk h.sent h.blk (by decide) (by rw [e, e2])
  · refine ownsRow_fr (ownsRow_fr h.heard hf (fun k e e2 => own_ne_own h.heard h.told (by decide) k e2 e)) hf2 (fun k e e2 => ?_)
    have e2 : k = g := e2
    exact own_ne_blk h.heard h.blk (by decide) (by rw [e, e2])
  · have e : I64s (s.told ++ [n]) = I64s s.told ++ [.int .i64 (n : Int)] := by rw [I64s_append]; rfl
    show (w'.setCell ⟨g, 3, none⟩ t').ownsRow 0 3 1 t' (s.told ++ [n]).length (I64s (s.told ++ [n]))
    rw [e, List.length_append]
    exact ownsRow_setCell_other ho (own_ne_blk ho b1 (by decide)) t'
  · intro k e e2
    rcases hb with hb | ⟨k2, hb, hk2⟩
    · exact h.st k e (hb.symm.trans e2)
    · have : k2 = k := by have := hb.symm.trans e2; injection this
      have := (h.sent.lt k e).2
      omega
  · intro k e
    rcases hb with hb | ⟨k2, hb, hk2⟩
    · exact .inl (h.vt k (hb.symm.trans e))
    · have : k2 = k := by have := hb.symm.trans e; injection this
      exact .inr (by omega)
  · obtain ⟨kp, ke, a, b, c, d, e, f, i⟩ := h.vp hw
    refine ⟨kp, ke, a, b, (c.fr hf (fun q => own_ne_blk h.told c (by decide) q)).fr hf2 (hne _ _ _ c (by decide)), (d.fr hf (fun q => own_ne_blk h.told d (by decide) q)).fr hf2 (hne _ _ _ d (by decide)), .inl e, .inl f, i⟩
  · exact (hf.mono (fun i _ e => .inr e)).trans hf2 (fun i _ e => .inl e)
end

def NoteTo (w : World) (g : Nat) (V : Nat → Prop) (v : RV) (s : RS) (e : Ending) (w' : World) : Prop :=
  e = .returned (.tuple #[]) ∧ (∃ t', RefAt w' g (fun k => V k ∨ w.heap.size ≤ k) { v with t := t' } s) ∧ Fr (fun i => i = g ∨ v.t.ownBlock = some i) w w'

set_option maxHeartbeats 2000000 in
set_option maxRecDepth 100000 in
theorem rnote0_c {g n : Nat} {V : Nat → Prop} {v : RV} {s : RS} {w : World} (h : RefAt w g V v s) (ht : s.told = []) :
    Calls Tryd.prog 41 #[.pointer (some ⟨g, 0, none⟩), .int .i64 (n : Int)] w (NoteTo w g V v (s.note n)) := by
  obtain ⟨i0, hi, hz0, hz1, hz2⟩ := info_parts infoI64
  have H := Lib.hid h
  have c3 : w.cell? ⟨g, 3, none⟩ = some v.t := H.out.blk.cell 3
  have f3 := H.out.blk.frozen 3
  clear h
  unfold RS.note
  · rw [if_pos ht]
    obtain ⟨A, c, hv⟩ : ∃ A c, v.t = .slice A 0 c := by
      have := own_slice H.out.told; rw [ht] at this; exact this
    have HO : Hid (w.ownsRow 0 3 1 (.slice A 0 c) 0 (I64s s.told)) := by have := H.out.told; rw [hv, ht] at this; rw [ht]; exact this
    have HV := Lib.hid hv
    rw [hv] at c3
    have HT := Lib.hid ht
    clear hv ht
    go_enter Tryd.func41, Tryd.ntmps41
    go_wp2_with (at_builtin; refine wpList_append_own_at _ rfl (.tmp 57) (.tmp 59) 43 rfl 0 3 i0 (.int .i64 0) 1 8 Tryd.underlying43 hi hz0 hz1 hz2 rfl (by decide) _ _ _ rfl (HO.out.alloc _) ⟨w.heap.size, 0, none⟩ 1 1 [.int .i64 (n : Int)] rfl rfl (cell_one_at _ _ _ _ (by simp)) ?c2 ?c3 ?c4 ?c5 ?_)
    case c2 => first | rfl | (intro u hu; simp at hu; subst hu; rfl)
    case c3 => unfold maxLen; omega
    case c4 => omega
    case c5 => omega
    intro v9 w9 hown9 hgrow9 _ hb9
    obtain ⟨A9, c9, rfl⟩ := own_slice hown9
    have HR := Lib.hid (H.out.fr (S := fun _ => False) (Fr.alloc w (.cells #[.int .i64 (n : Int)] 3)) (fun h => h) (fun _ _ h => h))
    rw [← HV.out] at hgrow9 hb9
    have hb2 : (Value.slice A9 1 c9).ownBlock = v.t.ownBlock ∨ ∃ k, (Value.slice A9 1 c9).ownBlock = some k ∧ (w.alloc (.cells #[.int .i64 (n : Int)] 3)).heap.size ≤ k := by
      rcases hb9 with h | h
      · exact .inl h
      · exact .inr ⟨w.heap.size + 1, h, by simp⟩
    obtain ⟨T1, T2⟩ := HR.out.tell (n := n) (by rw [HT.out] at hown9 ⊢; exact hown9) hgrow9 hb2
    have hgb : Blk w9 g 70 (refC s v) := HR.out.blk.fr (S := fun i => v.t.ownBlock = some i) (Fr.of_grown hgrow9 (fun i _ e => e)) (own_ne_blk HR.out.told HR.out.blk (by decide))
    have k3 : w9.cell? ⟨g, 3, none⟩ = some v.t := hgb.cell 3
    have k3f := hgb.frozen 3
    have T1 := Lib.hid T1
    have T2 := Lib.hid T2
    clear hown9 hgrow9 hb9 hb2 hgb c3 f3
    go_wp2_with fail
    go_end0
    refine ⟨rfl, ⟨_, T1.out.wide (fun k => ?_)⟩, (Fr.alloc w _).trans T2.out (fun i _ e => e)⟩
    rintro (e | e)
    · exact .inl e
    · exact .inr (by simp at e; omega)

/- The contract of the reference's note, where something was told. -/
theorem rmod_s (x y : Int) (w : World) (h : x % 65536 = y) : Calls Tryd.prog 24 #[.int .i64 x] w fun e w' => e = .returned (.int .i64 y) ∧ w' = w := by
  refine (rmod_c x w).mono ?_
  rintro e w' ⟨rfl, rfl⟩
  exact ⟨by rw [h], rfl⟩

/-- In the midst of note: the array is filled. -/
structure NtSt (w : World) (g : Nat) (l : List Bool) (wr : World) : Prop where
  bk : Blk wr w.heap.size 67 (RBools l).toArray
  below : Below w.heap.size w wr
theorem NtSt.set {w wr : World} {g : Nat} {l : List Bool} (h : NtSt w g l wr) (j : Nat) (x : Bool) : NtSt w g (l.set j x) (wr.setCell ⟨w.heap.size, j, none⟩ (.bool x)) := by
  refine ⟨?_, h.below.setCell (Nat.le_refl _) _⟩
  have := h.bk.set_ j (.bool x)
  have e : ((RBools l).toArray).setIfInBounds j (.bool x) = (RBools (l.set j x)).toArray := by simp [RBools, List.map_set]
  rw [e] at this
  exact this

/-- The cells from o on are others. -/
def setFrom (cs : Array Value) (o : Nat) : List Value → Array Value
  | [] => cs
  | v :: r => setFrom (cs.setIfInBounds o v) (o + 1) r
theorem Blk.setCells {g : Nat} {t : TypeId} : ∀ (vs : List Value) (o : Nat) (cs : Array Value) (w : World), Blk w g t cs → Blk (w.setCells g o vs) g t (setFrom cs o vs)
  | [], _, _, _, h => h
  | v :: r, o, cs, w, h => by
    rw [World.setCells]
    exact Blk.setCells r (o + 1) _ _ (h.set_ o v)
theorem Fr.setCells {g : Nat} : ∀ (vs : List Value) (o : Nat) (w : World), Fr (fun i => i = g) w (w.setCells g o vs)
  | [], _, _ => Fr.refl _ _
  | v :: r, o, w => by
    rw [World.setCells]
    exact (Fr.set (S := fun i => i = g) w (p := ⟨g, o, none⟩) rfl v).trans (Fr.setCells r (o + 1) _) (fun _ _ h => h)
theorem setFrom_app : ∀ (vs pre old post : List Value), old.length = vs.length → setFrom (pre ++ old ++ post).toArray pre.length vs = (pre ++ vs ++ post).toArray
  | [], pre, old, post, h => by
    have : old = [] := List.length_eq_zero_iff.1 h
    subst this; rfl
  | v :: r, pre, [], post, h => by simp at h
  | v :: r, pre, x :: old, post, h => by
    unfold setFrom
    have e : ((pre ++ x :: old ++ post).toArray).setIfInBounds pre.length v = ((pre ++ [v]) ++ old ++ post).toArray := by
      simp
    rw [e]
    have := setFrom_app r (pre ++ [v]) old post (by simpa using h)
    rw [List.length_append] at this
    rw [show pre.length + 1 = pre.length + [v].length from rfl, this]
    simp
theorem setBits (s : RS) (v : RV) (l : List Bool) (hb : s.bits.length = 32) (hl : l.length = 32) : setFrom (refC s v) 4 (RBools l) = refC { s with bits := l } v := by
  have := setFrom_app (RBools l) [.int .i64 (s.next : Int), v.s, v.h, v.t] (RBools s.bits) [.bool s.waits, .int .i64 (s.n : Int), v.p, v.e] (by simp [RBools, hb, hl])
  exact this
theorem info67 : (Tryd.prog.info? 67).map (·.size) = some 32 := by kernel_rfl
theorem loads67 {w : World} {b : Nat} {l : List Bool} (h : Blk w b 67 (RBools l).toArray) : w.rangeAt b 0 (RBools l) := fun j x hx => by
  rw [Nat.zero_add, h.cell j]
  simpa using hx
theorem stores67 {w : World} {g : Nat} {s : RS} {v : RV} {l : List Bool} (h : Blk w g 70 (refC s v)) (hb : s.bits.length = 32) (hl : l.length = 32) : w.there g 4 (RBools l).toArray.size ∧ (RBools l).toArray.all (·.oneCell') = true := by
  refine ⟨fun j hj => ⟨?_, h.frozen _⟩, all_oneCell_toArray (fun x hx => ?_)⟩
  · have hj : j < 32 := by simpa [RBools_length, hl] using hj
    rw [h.cell (4 + j), bit_at v hb hj]; rfl
  · obtain ⟨b, _, rfl⟩ := List.mem_map.1 hx; rfl
theorem RefAt.setBits {w : World} {g : Nat} {V : Nat → Prop} {v : RV} {s : RS} (h : RefAt w g V v s) {l : List Bool} (hb : s.bits.length = 32) (hl : l.length = 32) : RefAt (w.setCells g 4 (RBools l)) g V v { s with bits := l } := by
  have hf := Fr.setCells (g := g) (RBools l) 4 w
  refine ⟨?_, ownsRow_fr h.sent hf (fun k e e2 => ?_), ownsRow_fr h.heard hf (fun k e e2 => ?_), ownsRow_fr h.told hf (fun k e e2 => ?_), h.st, h.vs, h.vh, h.vt, fun hw => ?_⟩
  · rw [← Go.Proofs.YtmlbhlfjaagcaaaDoor.setBits s v l hb hl]
    exact Blk.setCells _ _ _ _ h.blk
  · exact own_ne_blk h.sent h.blk (by decide) (e2 ▸ e)
  · exact own_ne_blk h.heard h.blk (by decide) (e2 ▸ e)
  · exact own_ne_blk h.told h.blk (by decide) (e2 ▸ e)
  · obtain ⟨kp, ke, a, b, c, d, e, f, i⟩ := h.vp hw
    exact ⟨kp, ke, a, b, c.fr hf (fun q => c.ne_ h.blk (by decide) q), d.fr hf (fun q => d.ne_ h.blk (by decide) q), e, f, i⟩

set_option maxHeartbeats 2000000 in
set_option maxRecDepth 100000 in
theorem rnote1_c {g n : Nat} {V : Nat → Prop} {v : RV} {s : RS} {w : World} (h : RefAt w g V v s) (hs : s.ok) (hn : s.told.length < 8796093022208) (hnl : n < 65536) (ht : s.told ≠ []) (hj : 1 ≤ aheadN n s.last) :
    Calls Tryd.prog 41 #[.pointer (some ⟨g, 0, none⟩), .int .i64 (n : Int)] w (NoteTo w g V v (s.note n)) := by
  obtain ⟨i0, hi, hz0, hz1, hz2⟩ := info_parts infoI64
  have H := Lib.hid h
  have HS := Lib.hid hs
  have c3 : w.cell? ⟨g, 3, none⟩ = some v.t := H.out.blk.cell 3
  unfold RS.note
  rw [if_neg ht]
  obtain ⟨r, c, hv, hc⟩ := own_row h.told (last_at ht)
  rw [hv] at c3
  have hp : 0 < s.told.length := List.length_pos_iff.2 ht
  have hx : s.last < 65536 := by
    refine hs.told _ ?_
    unfold RS.last
    rw [List.getLastD_eq_getLast?, List.getLast?_eq_some_getLast ht]
    exact List.getLast_mem ht
  change w.cell? ⟨r, s.told.length - 1, none⟩ = some (.int .i64 (s.last : Int)) at hc
  have hm : ((n : Int) - (s.last : Int)) % 65536 = ((aheadN n s.last : Nat) : Int) := by unfold aheadN; omega
  have hjl := ahead_lt n s.last
  have HV := Lib.hid hv
  have e1 : IntKind.i64.wrap ((n : Int) - (s.last : Int)) = (n : Int) - (s.last : Int) := IntWalk.i64_in _ (by omega)
  clear h hs hv
  generalize aheadN n s.last = j at *
  generalize s.last = x at *
  obtain ⟨m, hmm⟩ : ∃ m, m = s.told.length := ⟨_, rfl⟩
  rw [← hmm] at c3 hc hn hp
  have HM := Lib.hid hmm
  clear hmm ht
  have d1 : ((m : Int) == 0) = false := by rw [beq_eq_false_iff_ne]; omega
  have d2 : decide (0 < m) = true := by simpa using hp
  have e2 : IntKind.i64.wrap ((m : Int) - 1) = ((m - 1 : Nat) : Int) := by rw [IntWalk.i64_in _ (by omega)]; omega
  have e3 : m - 1 < m := by omega
  go_enter Tryd.func41, Tryd.ntmps41
  go_wp2_with fail
  go_quiet ((go_at_call 24; exact Calls.quiet_of_same (rmod_s _ _ _ hm)))
  go_wp2_with fail
  have S1 : Hid (NtSt w g (shTo s.bits j 0) ((w.drewN nq).alloc (.cells (RBools (List.replicate 32 false)).toArray 67))) := by
    rw [shTo_zero]
    exact ⟨Blk.new (w.drewN nq) 67 _, (below_draw (Below.refl _ _) nq).alloc (Nat.le_refl _) _⟩
  clear e1 e2 e3 d1 d2 hm hc c3
  go_loopg [6] (32 - j) (fun gg s6 wr => ∃ k : Nat, k + gg = 32 - j ∧ s6 = .int .i64 (k : Int) ∧ NtSt w g (shTo s.bits j k) wr)
  case atStart => exact ⟨0, by omega, rfl, S1.out⟩
  case round =>
    obtain ⟨k, hk, rfl, S⟩ := hrel
    have HSt := Lib.hid S
    clear S S1
    have e1 : IntKind.i64.wrap ((k : Int) + (j : Int)) = ((k + j : Nat) : Int) := by rw [IntWalk.i64_in _ (by omega)]; omega
    cases gk with
    | zero =>
      have hd : decide (k + j < 32) = false := by simp; omega
      have HSN := Lib.hid (shTo_note s.bits j k hj (by omega))
      by_cases hj32 : j ≤ 32
      · have d3 : decide (j ≤ 32) = true := by simpa using hj32
        have S9 : Hid (NtSt w g (noteBits s.bits j) (wr.setCell ⟨w.heap.size, j - 1, none⟩ (.bool true))) := by rw [HSN.out, if_pos hj32]; exact HSt.out.set _ _
        obtain ⟨bo, cz⟩ : ∃ bo, wr.cell? ⟨w.heap.size, j - 1, none⟩ = some (.bool bo) := ⟨_, (HSt.out.bk.cell (j - 1)).trans (by simp only [List.getElem?_toArray, RBools, List.getElem?_map]; rw [List.getElem?_eq_getElem (by rw [shTo_len]; omega)]; rfl)⟩
        have fz := HSt.out.bk.frozen (j - 1)
        clear HSt
        go_upto_region 9 with (fail)
        clear cz fz
        generalize wr.setCell ⟨w.heap.size, j - 1, none⟩ (.bool true) = W at S9 ⊢
        have R9 := H.out.below S9.out.below
        have hl := loads67 S9.out.bk
        have hst := stores67 (l := noteBits s.bits j) R9.blk HS.out.bits (noteBits_len _ _)
        have hin : (Tryd.prog.info? 67).map (·.size) = some (RBools (noteBits s.bits j)).length := by rw [RBools_length, noteBits_len]; exact info67
        have HL := Lib.hid hl
        have HST := Lib.hid hst
        clear hl hst
        have RB := Lib.hid (R9.setBits HS.out.bits (noteBits_len s.bits j))
        have FB := Lib.hid ((Fr.of_below (S := fun i => i = g) S9.out.below).trans (Fr.setCells (g := g) (RBools (noteBits s.bits j)) 4 W) (fun _ _ h => h))
        clear S9 R9 HSN
        generalize noteBits s.bits j = nb at *
        go_upto_region 10 with (first | (refine wpList_load_mid (by rfl) 67 (.tmp 5) (by rfl) w.heap.size 0 (by rfl) (RBools nb) _ HL.out Tryd.underlying67 (by rfl) hin ?_) | (refine wpList_store_mid (by rfl) 67 (.tmp 52) (.tmp 50) (by rfl) g 4 (RBools nb).toArray (by rfl) (by rfl) HST.out.1 hin HST.out.2 ?_))
        clear HL HST hin
        simp only [Act.put]
        generalize W.setCells g 4 (RBools nb) = W2 at *
        have c3 : W2.cell? ⟨g, 3, none⟩ = some v.t := RB.out.blk.cell 3
        rw [HV.out, ← HM.out] at c3
        have HO : Hid (W2.ownsRow 0 3 1 (.slice (some ⟨r, 0, none⟩) m c) m (I64s s.told)) := by have := RB.out.told; rw [HV.out] at this; rw [HM.out]; exact this
        have hsz : w.heap.size ≤ W2.heap.size := FB.out.size
        go_wp2_with (at_builtin; refine wpList_append_own_at _ rfl (.tmp 57) (.tmp 59) 43 rfl 0 3 i0 (.int .i64 0) 1 8 Tryd.underlying43 hi hz0 hz1 hz2 rfl (by decide) _ _ _ rfl (HO.out.alloc _) ⟨W2.heap.size, 0, none⟩ 1 1 [.int .i64 (n : Int)] rfl rfl (cell_one_at _ _ _ _ (by simp)) ?c2 ?c3 ?c4 ?c5 ?_)
        case c2 => first | rfl | (intro u hu; simp at hu; subst hu; rfl)
        case c3 => unfold maxLen; omega
        case c4 => omega
        case c5 => omega
        intro v9 w9 hown9 hgrow9 _ hb9
        obtain ⟨A9, c9, rfl⟩ := own_slice hown9
        have HR := Lib.hid (RB.out.fr (S := fun _ => False) (Fr.alloc W2 (.cells #[.int .i64 (n : Int)] 3)) (fun h => h) (fun _ _ h => h))
        have HV2 : Hid (v.t = .slice (some ⟨r, 0, none⟩) m c) := by rw [HM.out]; exact HV.out
        rw [← HV2.out] at hgrow9 hb9
        have hb2 : (Value.slice A9 (m + 1) c9).ownBlock = v.t.ownBlock ∨ ∃ k, (Value.slice A9 (m + 1) c9).ownBlock = some k ∧ (W2.alloc (.cells #[.int .i64 (n : Int)] 3)).heap.size ≤ k := by
          rcases hb9 with h | h
          · exact .inl h
          · exact .inr ⟨W2.heap.size + 1, h, by simp⟩
        obtain ⟨T1, T2⟩ := HR.out.tell (n := n) (by show w9.ownsRow 0 3 1 _ (s.told.length + 1) _; rw [← HM.out]; exact hown9) hgrow9 hb2
        have hgb : Blk w9 g 70 (refC { s with bits := nb } v) := HR.out.blk.fr (S := fun i => v.t.ownBlock = some i) (Fr.of_grown hgrow9 (fun i _ e => e)) (own_ne_blk HR.out.told HR.out.blk (by decide))
        have k3 : w9.cell? ⟨g, 3, none⟩ = some v.t := hgb.cell 3
        have k3f := hgb.frozen 3
        have T1 := Lib.hid T1
        have T2 := Lib.hid T2
        clear hown9 hgrow9 hb9 hb2 hgb c3
        go_wp2_with fail
        go_end0
        refine ⟨rfl, ⟨_, T1.out.wide (fun k => ?_)⟩, ((FB.out.mono (fun i _ e => .inl e)).trans (Fr.alloc (S := fun i => i = g ∨ v.t.ownBlock = some i) W2 _) (fun i _ e => e)).trans T2.out (fun i _ e => e)⟩
        rintro (e | e)
        · exact .inl e
        · exact .inr (by simp at e; omega)
      · have d3 : decide (j ≤ 32) = false := by simpa using hj32
        have S9 : Hid (NtSt w g (noteBits s.bits j) wr) := by rw [HSN.out, if_neg hj32]; exact HSt.out
        clear HSt
        go_upto_region 9 with (fail)
        generalize wr = W at S9 ⊢
        have R9 := H.out.below S9.out.below
        have hl := loads67 S9.out.bk
        have hst := stores67 (l := noteBits s.bits j) R9.blk HS.out.bits (noteBits_len _ _)
        have hin : (Tryd.prog.info? 67).map (·.size) = some (RBools (noteBits s.bits j)).length := by rw [RBools_length, noteBits_len]; exact info67
        have HL := Lib.hid hl
        have HST := Lib.hid hst
        clear hl hst
        have RB := Lib.hid (R9.setBits HS.out.bits (noteBits_len s.bits j))
        have FB := Lib.hid ((Fr.of_below (S := fun i => i = g) S9.out.below).trans (Fr.setCells (g := g) (RBools (noteBits s.bits j)) 4 W) (fun _ _ h => h))
        clear S9 R9 HSN
        generalize noteBits s.bits j = nb at *
        go_upto_region 10 with (first | (refine wpList_load_mid (by rfl) 67 (.tmp 5) (by rfl) w.heap.size 0 (by rfl) (RBools nb) _ HL.out Tryd.underlying67 (by rfl) hin ?_) | (refine wpList_store_mid (by rfl) 67 (.tmp 52) (.tmp 50) (by rfl) g 4 (RBools nb).toArray (by rfl) (by rfl) HST.out.1 hin HST.out.2 ?_))
        clear HL HST hin
        simp only [Act.put]
        generalize W.setCells g 4 (RBools nb) = W2 at *
        have c3 : W2.cell? ⟨g, 3, none⟩ = some v.t := RB.out.blk.cell 3
        rw [HV.out, ← HM.out] at c3
        have HO : Hid (W2.ownsRow 0 3 1 (.slice (some ⟨r, 0, none⟩) m c) m (I64s s.told)) := by have := RB.out.told; rw [HV.out] at this; rw [HM.out]; exact this
        have hsz : w.heap.size ≤ W2.heap.size := FB.out.size
        go_wp2_with (at_builtin; refine wpList_append_own_at _ rfl (.tmp 57) (.tmp 59) 43 rfl 0 3 i0 (.int .i64 0) 1 8 Tryd.underlying43 hi hz0 hz1 hz2 rfl (by decide) _ _ _ rfl (HO.out.alloc _) ⟨W2.heap.size, 0, none⟩ 1 1 [.int .i64 (n : Int)] rfl rfl (cell_one_at _ _ _ _ (by simp)) ?c2 ?c3 ?c4 ?c5 ?_)
        case c2 => first | rfl | (intro u hu; simp at hu; subst hu; rfl)
        case c3 => unfold maxLen; omega
        case c4 => omega
        case c5 => omega
        intro v9 w9 hown9 hgrow9 _ hb9
        obtain ⟨A9, c9, rfl⟩ := own_slice hown9
        have HR := Lib.hid (RB.out.fr (S := fun _ => False) (Fr.alloc W2 (.cells #[.int .i64 (n : Int)] 3)) (fun h => h) (fun _ _ h => h))
        have HV2 : Hid (v.t = .slice (some ⟨r, 0, none⟩) m c) := by rw [HM.out]; exact HV.out
        rw [← HV2.out] at hgrow9 hb9
        have hb2 : (Value.slice A9 (m + 1) c9).ownBlock = v.t.ownBlock ∨ ∃ k, (Value.slice A9 (m + 1) c9).ownBlock = some k ∧ (W2.alloc (.cells #[.int .i64 (n : Int)] 3)).heap.size ≤ k := by
          rcases hb9 with h | h
          · exact .inl h
          · exact .inr ⟨W2.heap.size + 1, h, by simp⟩
        obtain ⟨T1, T2⟩ := HR.out.tell (n := n) (by show w9.ownsRow 0 3 1 _ (s.told.length + 1) _; rw [← HM.out]; exact hown9) hgrow9 hb2
        have hgb : Blk w9 g 70 (refC { s with bits := nb } v) := HR.out.blk.fr (S := fun i => v.t.ownBlock = some i) (Fr.of_grown hgrow9 (fun i _ e => e)) (own_ne_blk HR.out.told HR.out.blk (by decide))
        have k3 : w9.cell? ⟨g, 3, none⟩ = some v.t := hgb.cell 3
        have k3f := hgb.frozen 3
        have T1 := Lib.hid T1
        have T2 := Lib.hid T2
        clear hown9 hgrow9 hb9 hb2 hgb c3
        go_wp2_with fail
        go_end0
        refine ⟨rfl, ⟨_, T1.out.wide (fun k => ?_)⟩, ((FB.out.mono (fun i _ e => .inl e)).trans (Fr.alloc (S := fun i => i = g ∨ v.t.ownBlock = some i) W2 _) (fun i _ e => e)).trans T2.out (fun i _ e => e)⟩
        rintro (e | e)
        · exact .inl e
        · exact .inr (by simp at e; omega)
    | succ gk =>
      have hd : decide (k + j < 32) = true := by simp; omega
      have hkl : k < 32 := by omega
      have hkj : k + j < 32 := by omega
      have cb : wr.cell? ⟨g, 4 + k, none⟩ = some (.bool (s.bits.getD k false)) := ((H.out.below HSt.out.below).blk.cell (4 + k)).trans (bit_at v HS.out.bits hkl)
      have S9 : Hid (NtSt w g (shTo s.bits j (k + 1)) (wr.setCell ⟨w.heap.size, k + j, none⟩ (.bool (s.bits.getD k false)))) := by rw [shTo_succ _ _ _ hkj]; exact HSt.out.set _ _
      obtain ⟨bo, cz⟩ : ∃ bo, wr.cell? ⟨w.heap.size, k + j, none⟩ = some (.bool bo) := ⟨_, (HSt.out.bk.cell (k + j)).trans (by simp only [List.getElem?_toArray, RBools, List.getElem?_map]; rw [List.getElem?_eq_getElem (by rw [shTo_len]; omega)]; rfl)⟩
      have fz := HSt.out.bk.frozen (k + j)
      generalize s.bits.getD k false = bb at *
      clear HSt
      go_wp2_with fail
      go_roundg gk
      case measure => omega
      case rel => exact ⟨k + 1, by omega, by go_num, S9.out⟩

/- The reference and the program: state by state, the same answers. -/
def RS.sendS (s : RS) : RS := { s with next := (s.next + 1) % 65536, sent := s.sent ++ [s.next], heard := s.heard ++ [false] }
/-- The reference's datagram of index i. -/
def rgram (s : RS) (b : List Nat) (i : Nat) : List Nat := frame (s.head ++ [s.next / 256, s.next % 256, i, manyN b.length] ++ cutN b i)
/-- What the reference's Receive answers. -/
structure RRA where
  st : RS
  err : Nat
  msg : Option (List Nat)
def RS.place (s : RS) (g : DG) : RS := { s with parts := s.parts.set g.ix g.bs, there := s.there.set g.ix true }
def RS.put (s : RS) (g : DG) : RRA := if (s.place g).there.all id = true then ⟨({ s.place g with waits := false } : RS).note g.nu, 0, some (s.place g).parts.flatten⟩ else ⟨s.place g, 0, none⟩
def RS.fresh (s : RS) (g : DG) : RS := { s with waits := true, n := g.nu, parts := List.replicate g.ct [], there := List.replicate g.ct false }
def RS.begins (s : RS) (g : DG) : RS := if s.waits = true then s else s.fresh g
def RS.same (s : RS) (g : DG) : RRA := if s.waits = true ∧ s.parts.length ≠ g.ct then ⟨s, 70, none⟩ else if s.waits = true ∧ s.there.getD g.ix false = true then ⟨s, 71, none⟩ else (s.begins g).put g
def RS.come (s : RS) (g : DG) : RRA :=
  if s.told ≠ [] ∧ newerN g.nu s.last = false then ⟨s, 71, none⟩
  else if s.waits = true ∧ s.n ≠ g.nu then (if newerN g.nu s.n = false then ⟨s, 71, none⟩ else RS.same { s with waits := false } g)
  else s.same g
def RS.recv (s : RS) (d : List Nat) : RRA := match decD d with
  | none => ⟨s, 70, none⟩
  | some g => (s.hear (bodyL d)).come g

/-- The two states say the same. -/
structure Twin (s : LS) (r : RS) : Prop where
  next : r.next = s.next
  cnt : s.sent = min r.sent.length 64
  sent : ∀ k, 1 ≤ k → k ≤ s.sent → r.sent[r.sent.length - k]? = some (aheadN s.next k)
  heard : ∀ k, 1 ≤ k → k ≤ s.sent → r.heard[r.sent.length - k]? = some (decide (aheadN s.next k ∈ s.ak))
  ak : ∀ n ∈ s.ak, 1 ≤ aheadN s.next n ∧ aheadN s.next n ≤ s.sent
  nd : s.ak.Nodup
  so : s.so = !r.told.isEmpty
  la : s.la = r.last
  bits : ∀ k, k < 32 → r.bits.getD k false = s.bi.testBit k
  waits : r.waits = !s.ps.isEmpty
  n : s.ps ≠ [] → r.n = s.nu ∧ r.parts = (List.range s.ct).map (partAt s.ps) ∧ r.there = (List.range s.ct).map (fun i => decide (i ∈ s.ps.map (·.1)))

theorem twin_new (n : Nat) : Twin (LS.new n) (RS.new n) := by
  refine ⟨rfl, rfl, fun k h1 h2 => ?_, fun k h1 h2 => ?_, (fun n h => by cases h), List.nodup_nil, rfl, rfl, fun k hk => ?_, rfl, fun h => absurd rfl h⟩
  · have : k ≤ 0 := h2; omega
  · have : k ≤ 0 := h2; omega
  · show (List.replicate 32 false).getD k false = Nat.testBit 0 k
    rw [Nat.zero_testBit, List.getD_eq_getElem?_getD, List.getElem?_replicate, if_pos hk]; rfl

theorem rnew_ok {n : Nat} (h : n < 65536) : (RS.new n).ok :=
  ⟨h, by simp [RS.new], rfl, by simp [RS.new], by simp [RS.new], by simp [RS.new], rfl, by simp [RS.new], by simp [RS.new]⟩
theorem rsend_ok {r : RS} (h : r.ok) : r.sendS.ok := by
  refine ⟨Nat.mod_lt _ (by omega), fun x hx => ?_, ?_, h.told, h.bits, h.n, h.same, h.many, h.by_⟩
  · rcases List.mem_append.1 hx with h1 | h1
    · exact h.sent x h1
    · rw [List.mem_singleton.1 h1]; exact h.next
  · show (r.heard ++ [false]).length = (r.sent ++ [r.next]).length
    rw [List.length_append, List.length_append, h.heard]; rfl

theorem ahead_succ {n k : Nat} (_hn : n < 65536) (_h1 : 1 ≤ k) (_h2 : k ≤ 64) : aheadN ((n + 1) % 65536) k = aheadN n (k - 1) := by unfold aheadN; omega
theorem ahead_same (n : Nat) (_hn : n < 65536) : aheadN n n = 0 := by unfold aheadN; omega
theorem ahead_back {n k : Nat} (_hn : n < 65536) (_hk : k < 65536) : aheadN n (aheadN n k) = k := by unfold aheadN; omega
theorem ahead_inj {n a b : Nat} (_hn : n < 65536) (_ha : a < 65536) (_hb : b < 65536) (h : aheadN n a = aheadN n b) : a = b := by unfold aheadN at h; omega
theorem ahead_next {n x : Nat} (_hn : n < 65536) (_hx : x < 65536) (h : aheadN n x < 65535) : aheadN ((n + 1) % 65536) x = aheadN n x + 1 := by unfold aheadN at *; omega

theorem twin_send {s : LS} {r : RS} (h : Twin s r) (hs : s.ok) (hr : r.ok) : Twin s.sendS r.sendS := by
  have hnx := hs.next
  have hst := hs.sent
  have hcn := h.cnt
  have hlen : (r.sent ++ [r.next]).length = r.sent.length + 1 := by simp
  refine ⟨?_, ?_, fun k h1 h2 => ?_, fun k h1 h2 => ?_, fun n hn => ?_, h.nd.erase _, h.so, h.la, h.bits, h.waits, h.n⟩
  · show (r.next + 1) % 65536 = (s.next + 1) % 65536
    rw [h.next]
  · show min (s.sent + 1) 64 = min (r.sent ++ [r.next]).length 64
    rw [hlen]; omega
  · have h2 : k ≤ min (s.sent + 1) 64 := h2
    show (r.sent ++ [r.next])[(r.sent ++ [r.next]).length - k]? = some (aheadN ((s.next + 1) % 65536) k)
    rw [hlen, ahead_succ hnx h1 (by omega)]
    by_cases e : k = 1
    · subst e
      rw [List.getElem?_append_right (by omega)]
      simp only [Nat.add_sub_cancel, Nat.sub_self]
      have e0 : aheadN s.next 0 = s.next := by unfold aheadN; omega
      rw [e0, ← h.next]; rfl
    · rw [List.getElem?_append_left (by omega), show r.sent.length + 1 - k = r.sent.length - (k - 1) by omega]
      exact h.sent (k - 1) (by omega) (by omega)
  · have h2 : k ≤ min (s.sent + 1) 64 := h2
    show (r.heard ++ [false])[(r.sent ++ [r.next]).length - k]? = some (decide (aheadN ((s.next + 1) % 65536) k ∈ s.ak.erase (aheadN s.next 64)))
    rw [hlen, ahead_succ hnx h1 (by omega)]
    by_cases e : k = 1
    · subst e
      rw [List.getElem?_append_right (by rw [hr.heard]; omega), hr.heard]
      simp only [Nat.add_sub_cancel, Nat.sub_self]
      have : aheadN s.next 0 = s.next := by unfold aheadN; omega
      rw [this]
      have hno : s.next ∉ s.ak.erase (aheadN s.next 64) := fun hm => by
        have := (h.ak _ (List.mem_of_mem_erase hm)).1
        rw [ahead_same _ hnx] at this
        omega
      rw [decide_eq_false hno]; rfl
    · rw [List.getElem?_append_left (by rw [hr.heard]; omega), show r.sent.length + 1 - k = r.sent.length - (k - 1) by omega, h.heard (k - 1) (by omega) (by omega)]
      congr 1
      refine decide_eq_decide.2 ?_
      rw [List.Nodup.mem_erase_iff h.nd]
      refine ⟨fun hm => ⟨fun e2 => ?_, hm⟩, fun hm => hm.2⟩
      have := ahead_inj hnx (by omega) (by omega) e2
      omega
  · have hn : n ∈ s.ak.erase (aheadN s.next 64) := hn
    rw [List.Nodup.mem_erase_iff h.nd] at hn
    have h1 := h.ak n hn.2
    have hl := hs.ak n hn.2
    have h3 : aheadN s.next n ≠ 64 := fun e => hn.1 (by rw [← e, ahead_back hnx hl])
    show 1 ≤ aheadN ((s.next + 1) % 65536) n ∧ aheadN ((s.next + 1) % 65536) n ≤ min (s.sent + 1) 64
    rw [ahead_next hnx hl (by omega)]
    omega

theorem twin_acked {s : LS} {r : RS} (h : Twin s r) (hr : r.ok) : r.acked = s.acked := by
  have hcn := h.cnt
  have key : ((r.sent.zip r.heard).take r.sent.length).drop (r.sent.length - 64) = (List.range s.sent).map fun i => (s.num i, decide (s.num i ∈ s.ak)) := by
    apply List.ext_getElem?
    intro i
    rw [List.getElem?_drop, List.getElem?_map, List.take_of_length_le (by simp; omega)]
    by_cases hi : i < s.sent
    · rw [List.getElem?_range hi]
      have e : r.sent.length - 64 + i = r.sent.length - (s.sent - i) := by omega
      rw [e]
      refine List.getElem?_zip_eq_some.2 ⟨h.sent _ (by omega) (by omega), h.heard _ (by omega) (by omega)⟩
    · rw [List.getElem?_eq_none (by simp [hr.heard]; omega), List.getElem?_eq_none (by simp; omega)]; rfl
  unfold RS.acked rackTo LS.acked ackTo
  rw [key]
  generalize List.range s.sent = L
  induction L with
  | nil => rfl
  | cons a L ih =>
    simp only [List.map_cons, List.filterMap_cons, pickT, List.filter_cons] at ih ⊢
    by_cases hm : s.num a ∈ s.ak
    · simp only [decide_eq_true hm, if_true, ih]
    · simp only [decide_eq_false hm, ih]; rfl

theorem mem_ack (s : LS) (x n : Nat) : n ∈ (s.ack x).ak ↔ n ∈ s.ak ∨ (n = x ∧ 1 ≤ aheadN s.next x ∧ aheadN s.next x ≤ s.sent) := by
  unfold LS.ack
  split
  · rename_i hc
    show n ∈ (if x ∈ s.ak then s.ak else s.ak ++ [x]) ↔ _
    split
    · rename_i hx
      refine ⟨.inl, fun h => h.elim id fun h => h.1 ▸ hx⟩
    · rw [List.mem_append, List.mem_singleton]
      exact ⟨fun h => h.elim .inl fun h => .inr ⟨h, hc⟩, fun h => h.elim .inl fun h => .inr h.1⟩
  · rename_i hc
    exact ⟨.inl, fun h => h.elim id fun h => absurd h.2 hc⟩
theorem ack_else (s : LS) (x : Nat) : s.ack x = { s with ak := (s.ack x).ak } := by unfold LS.ack; split <;> rfl
theorem ack_nd {s : LS} (h : s.ak.Nodup) (x : Nat) : (s.ack x).ak.Nodup := by
  unfold LS.ack
  split
  · show (if x ∈ s.ak then s.ak else s.ak ++ [x]).Nodup
    split
    · exact h
    · rename_i hx
      refine List.nodup_append.2 ⟨h, by simp, fun a ha b hb => ?_⟩
      rw [List.mem_singleton.1 hb]
      exact fun e => hx (e ▸ ha)
  · exact h
theorem recTo_else (s : LS) (la bi : Nat) : ∀ k, recTo s la bi k = { s with ak := (recTo s la bi k).ak }
  | 0 => ack_else s la
  | k + 1 => by
    unfold recTo
    split
    · rw [ack_else, recTo_else s la bi k]
    · exact recTo_else s la bi k
theorem recTo_nd {s : LS} (h : s.ak.Nodup) (la bi : Nat) : ∀ k, (recTo s la bi k).ak.Nodup
  | 0 => ack_nd h la
  | k + 1 => by
    unfold recTo
    split
    · exact ack_nd (recTo_nd h la bi k) _
    · exact recTo_nd h la bi k
theorem mem_recTo (s : LS) (la bi n : Nat) : ∀ k, n ∈ (recTo s la bi k).ak ↔ n ∈ s.ak ∨ ((1 ≤ aheadN s.next n ∧ aheadN s.next n ≤ s.sent) ∧ (n = la ∨ ∃ j, j < k ∧ bi / 2 ^ j % 2 = 1 ∧ n = aheadN la (j + 1)))
  | 0 => by
    unfold recTo
    rw [mem_ack]
    refine or_congr Iff.rfl ⟨fun h => ⟨h.1 ▸ h.2, .inl h.1⟩, fun h => ?_⟩
    rcases h.2 with e | ⟨j, hj, _⟩
    · exact ⟨e, e ▸ h.1⟩
    · omega
  | k + 1 => by
    have ih := mem_recTo s la bi n k
    have e1 : (recTo s la bi k).next = s.next := by rw [recTo_else]
    have e2 : (recTo s la bi k).sent = s.sent := by rw [recTo_else]
    unfold recTo
    split
    · rename_i hb
      rw [mem_ack, ih, e1, e2]
      constructor
      · rintro ((h | h) | h)
        · exact .inl h
        · refine .inr ⟨h.1, h.2.imp id ?_⟩
          rintro ⟨j, h1, h2⟩
          exact ⟨j, by omega, h2⟩
        · exact .inr ⟨h.1 ▸ h.2, .inr ⟨k, by omega, hb, h.1⟩⟩
      · rintro (h | ⟨h0, h | ⟨j, h1, h2, h3⟩⟩)
        · exact .inl (.inl h)
        · exact .inl (.inr ⟨h0, .inl h⟩)
        · by_cases e : j = k
          · subst e
            exact .inr ⟨h3, h3 ▸ h0⟩
          · exact .inl (.inr ⟨h0, .inr ⟨j, by omega, h2, h3⟩⟩)
    · rename_i hb
      rw [ih]
      refine or_congr Iff.rfl (and_congr Iff.rfl (or_congr Iff.rfl ⟨?_, ?_⟩))
      · rintro ⟨j, h1, h2⟩
        exact ⟨j, by omega, h2⟩
      · rintro ⟨j, h1, h2, h3⟩
        by_cases e : j = k
        · subst e; exact absurd h2 hb
        · exact ⟨j, by omega, h2, h3⟩

theorem four_bits (b3 b4 b5 b6 : Nat) (_h3 : b3 < 256) (h4 : b4 < 256) (h5 : b5 < 256) (h6 : b6 < 256) (p : Nat) (hp : p < 8) :
    ((b3 * 256 + b4) * 65536 + (b5 * 256 + b6)) / 2 ^ p % 2 = b6 / 2 ^ p % 2 ∧ ((b3 * 256 + b4) * 65536 + (b5 * 256 + b6)) / 2 ^ (8 + p) % 2 = b5 / 2 ^ p % 2 ∧
    ((b3 * 256 + b4) * 65536 + (b5 * 256 + b6)) / 2 ^ (16 + p) % 2 = b4 / 2 ^ p % 2 ∧ ((b3 * 256 + b4) * 65536 + (b5 * 256 + b6)) / 2 ^ (24 + p) % 2 = b3 / 2 ^ p % 2 := by
  obtain rfl | rfl | rfl | rfl | rfl | rfl | rfl | rfl : p = 0 ∨ p = 1 ∨ p = 2 ∨ p = 3 ∨ p = 4 ∨ p = 5 ∨ p = 6 ∨ p = 7 := by omega
  all_goals (refine ⟨?_, ?_, ?_, ?_⟩ <;> simp only [Nat.reducePow, Nat.reduceAdd] <;> omega)
theorem said_bit {b : List Nat} (hb : ∀ x ∈ b, x < 256) (j : Nat) (hj : j < 32) : b.getD (6 - j / 8) 0 / 2 ^ (j % 8) % 2 = (dgOf b).bi / 2 ^ j % 2 := by
  have h := four_bits _ _ _ _ (getD_lt hb 3) (getD_lt hb 4) (getD_lt hb 5) (getD_lt hb 6) (j % 8) (by omega)
  have e : j = 8 * (j / 8) + j % 8 := by omega
  show _ = ((b.getD 3 0 * 256 + b.getD 4 0) * 65536 + (b.getD 5 0 * 256 + b.getD 6 0)) / 2 ^ j % 2
  obtain h0 | h0 | h0 | h0 : j / 8 = 0 ∨ j / 8 = 1 ∨ j / 8 = 2 ∨ j / 8 = 3 := by omega
  all_goals (rw [h0] at e; generalize j % 8 = p at *; subst e; rw [h0])
  · rw [← h.1]; simp
  · rw [← h.2.1]
  · rw [← h.2.2.1]
  · rw [← h.2.2.2]
theorem said_iff {b : List Nat} (hb : ∀ x ∈ b, x < 256) {x : Nat} (hx : x < 65536) : saidB b (saysN b) x = true ↔ (x = (dgOf b).la ∨ ∃ j, j < 32 ∧ (dgOf b).bi / 2 ^ j % 2 = 1 ∧ x = aheadN (dgOf b).la (j + 1)) := by
  have hla : saysN b = (dgOf b).la := rfl
  have hl : (dgOf b).la < 65536 := by
    have := getD_lt hb 1; have := getD_lt hb 2
    show b.getD 1 0 * 256 + b.getD 2 0 < 65536
    omega
  rw [hla]
  generalize (dgOf b).la = la at *
  unfold saidB
  rw [Bool.or_eq_true, Bool.and_eq_true, decide_eq_true_eq, decide_eq_true_eq, decide_eq_true_eq]
  constructor
  · rintro (h | ⟨h1, h2⟩)
    · left; unfold aheadN at h; omega
    · by_cases h0 : aheadN la x = 0
      · left; unfold aheadN at h0; omega
      · refine .inr ⟨aheadN la x - 1, by omega, ?_, ?_⟩
        · rw [← said_bit hb _ (by omega)]; exact h2
        · rw [show aheadN la x - 1 + 1 = aheadN la x by omega, ahead_back hl hx]
  · rintro (h | ⟨j, h1, h2, h3⟩)
    · left; rw [h]; exact ahead_same _ hl
    · have e : aheadN la x = j + 1 := by rw [h3, ahead_back hl (by omega)]
      refine .inr ⟨by omega, ?_⟩
      rw [e, Nat.add_sub_cancel, said_bit hb _ h1]
      exact h2

theorem twin_hear {s : LS} {r : RS} (h : Twin s r) (hs : s.ok) (_hr : r.ok) {b : List Nat} (hb : ∀ x ∈ b, x < 256) (h0 : b.getD 0 0 ≤ 1) : Twin (s.recd (dgOf b).so (dgOf b).la (dgOf b).bi) (r.hear b) := by
  unfold LS.recd RS.hear
  by_cases hz : b.getD 0 0 = 0
  · have : (dgOf b).so = false := by show decide (b.getD 0 0 = 1) = false; rw [hz]; rfl
    rw [this, if_pos hz]; exact h
  · have : (dgOf b).so = true := by show decide (b.getD 0 0 = 1) = true; rw [decide_eq_true_eq]; omega
    rw [this, if_neg hz, if_pos rfl]
    have hm := fun n => mem_recTo s (dgOf b).la (dgOf b).bi n 32
    have hn := recTo_nd h.nd (dgOf b).la (dgOf b).bi 32
    rw [recTo_else]
    generalize (recTo s (dgOf b).la (dgOf b).bi 32).ak = A at *
    refine ⟨h.next, h.cnt, h.sent, fun k h1 h2 => ?_, fun n hn => ?_, hn, h.so, h.la, h.bits, h.waits, h.n⟩
    · have h2 : k ≤ s.sent := h2
      have hcn := h.cnt
      have hst := hs.sent
      show (hearTo r b r.sent.length)[r.sent.length - k]? = some (decide (aheadN s.next k ∈ A))
      unfold hearTo
      rw [List.getElem?_mapIdx, h.heard k h1 h2]
      have hw : r.sent.length - 64 ≤ r.sent.length - k ∧ r.sent.length - k < r.sent.length := by omega
      have hg : r.sent.getD (r.sent.length - k) 0 = aheadN s.next k := by rw [List.getD_eq_getElem?_getD, h.sent k h1 h2]; rfl
      simp only [Option.map_some, decide_eq_true hw, Bool.true_and, hg]
      congr 1
      rw [Bool.eq_iff_iff, Bool.or_eq_true, decide_eq_true_eq, decide_eq_true_eq, said_iff hb (ahead_lt _ _), hm, ahead_back hs.next (by omega)]
      refine or_congr Iff.rfl ⟨fun h => ⟨by omega, h⟩, fun h => h.2⟩
    · rcases (hm n).1 hn with h1 | h1
      · exact h.ak n h1
      · exact h1.1
theorem rhear_ok {r : RS} (h : r.ok) (b : List Nat) : (r.hear b).ok := by
  unfold RS.hear; split
  · exact h
  · exact ⟨h.next, h.sent, by rw [← h.heard]; exact hearTo_len r b _, h.told, h.bits, h.n, h.same, h.many, h.by_⟩

theorem with_bit (bi j k : Nat) (hk : k < 32) (hj : 1 ≤ j) : (withN bi j).testBit k = (decide (k + 1 = j) || (decide (j ≤ k) && bi.testBit (k - j))) := by
  unfold withN
  rw [Nat.testBit_or, show (4294967296 : Nat) = 2 ^ 32 from rfl, Nat.testBit_mod_two_pow, Nat.testBit_mod_two_pow, Nat.testBit_mul_two_pow, Nat.testBit_two_pow, decide_eq_true hk, Bool.true_and, Bool.true_and, Bool.or_comm]
  congr 1
  · refine decide_eq_decide.2 ?_; omega
  · by_cases h : j ≤ k
    · rw [show min j 32 = j by omega]
    · have h1 : ¬ (min j 32 ≤ k) := by omega
      rw [decide_eq_false h, decide_eq_false h1]; rfl
theorem note_bit (b : List Bool) (j k : Nat) (hk : k < 32) : (noteBits b j).getD k false = (decide (k + 1 = j) || (decide (j ≤ k) && b.getD (k - j) false)) := by
  unfold noteBits
  rw [List.getD_eq_getElem?_getD, List.getElem?_map, List.getElem?_range hk]; rfl

theorem parts_flat (ps : List (Nat × List Nat)) : ∀ k, ((List.range k).map (partAt ps)).flatten = msgTo ps k
  | 0 => rfl
  | k + 1 => by
    rw [List.range_succ, List.map_append, List.flatten_append, parts_flat ps k]
    simp [msgTo]
theorem partAt_add (ps : List (Nat × List Nat)) (x : Nat) (b : List Nat) (i : Nat) : partAt (ps ++ [(x, b)]) i = if i ∈ ps.map (·.1) then partAt ps i else if x = i then b else [] := by
  induction ps with
  | nil => simp [partAt]
  | cons p r ih =>
    rw [List.cons_append]
    unfold partAt
    by_cases e : p.1 = i
    · simp [e]
    · rw [if_neg e, if_neg e, ih]
      have : (i ∈ (p :: r).map (·.1)) ↔ i ∈ r.map (·.1) := by
        rw [List.map_cons, List.mem_cons]
        exact ⟨fun h => h.elim (fun q => absurd q.symm e) id, .inr⟩
      by_cases h : i ∈ r.map (·.1)
      · rw [if_pos h, if_pos (this.2 h)]
      · rw [if_neg h, if_neg (fun q => h (this.1 q))]
theorem set_parts (ps : List (Nat × List Nat)) (x : Nat) (b : List Nat) (ct : Nat) (hx : x ∉ ps.map (·.1)) : ((List.range ct).map (partAt ps)).set x b = (List.range ct).map (partAt (ps ++ [(x, b)])) := by
  apply List.ext_getElem?
  intro i
  rw [List.getElem?_set, List.getElem?_map, List.getElem?_map]
  by_cases hi : i < ct
  · rw [List.getElem?_range hi]
    simp only [Option.map_some, partAt_add]
    by_cases e : x = i
    · subst e
      rw [if_pos rfl, if_pos (by simpa using hi), if_neg hx, if_pos rfl]
    · rw [if_neg e, if_neg e]
      split
      · rfl
      · rename_i hm; rw [part_none ps i hm]
  · rw [List.getElem?_eq_none (by simp; omega)]
    split
    · rw [if_neg (by simp; omega)]; rfl
    · rfl
theorem set_there (ps : List (Nat × List Nat)) (x : Nat) (b : List Nat) (ct : Nat) : ((List.range ct).map (fun i => decide (i ∈ ps.map (·.1)))).set x true = (List.range ct).map (fun i => decide (i ∈ (ps ++ [(x, b)]).map (·.1))) := by
  apply List.ext_getElem?
  intro i
  rw [List.getElem?_set, List.getElem?_map, List.getElem?_map]
  by_cases hi : i < ct
  · rw [List.getElem?_range hi]
    simp only [Option.map_some]
    by_cases e : x = i
    · subst e
      rw [if_pos rfl, if_pos (by simpa using hi)]
      simp
    · rw [if_neg e]
      congr 1
      refine decide_eq_decide.2 ?_
      rw [List.map_append, List.mem_append]
      exact ⟨.inl, fun h => h.elim id fun h => absurd (by simpa using h) (fun q : i = x => e q.symm)⟩
  · rw [List.getElem?_eq_none (by simp; omega)]
    split
    · rw [if_neg (by simp; omega)]; rfl
    · rfl
theorem all_there (ps : List (Nat × List Nat)) (ct : Nat) (hn : (ps.map (·.1)).Nodup) (hx : ∀ p ∈ ps, p.1 < ct) : ((List.range ct).map (fun i => decide (i ∈ ps.map (·.1)))).all id = true ↔ ps.length = ct := by
  have hx' : ∀ x ∈ ps.map (·.1), x < ct := fun x h => by obtain ⟨q, h1, rfl⟩ := List.mem_map.1 h; exact hx q h1
  rw [List.all_eq_true]
  constructor
  · intro h
    have h1 : ∀ i, i < ct → i ∈ ps.map (·.1) := fun i hi => by
      have := h (decide (i ∈ ps.map (·.1))) (List.mem_map.2 ⟨i, List.mem_range.2 hi, rfl⟩)
      simpa using this
    have h2 := nodup_le ct _ hn hx'
    have h3 : ct ≤ (ps.map (·.1)).length := by
      have := List.Nodup.length_le_of_subset (l₁ := List.range ct) (l₂ := ps.map (·.1)) List.nodup_range (fun i hi => h1 i (List.mem_range.1 hi))
      simpa using this
    rw [List.length_map] at h2 h3
    omega
  · intro h b hb
    obtain ⟨i, hi, rfl⟩ := List.mem_map.1 hb
    exact decide_eq_true (keys_all ct _ hn hx' (by rw [List.length_map]; exact h) i (List.mem_range.1 hi))

/-- Equal answers, and states that say the same. -/
structure TwinA (a : RA) (b : RRA) : Prop where
  st : Twin a.st b.st
  ok : b.st.ok
  err : a.err = b.err
  msg : a.msg = b.msg

theorem range_const {α : Type} (n : Nat) (f : Nat → α) (c : α) (h : ∀ i, f i = c) : (List.range n).map f = List.replicate n c := by
  rw [show f = fun _ => c from funext h]
  apply List.ext_getElem?
  intro i
  rw [List.getElem?_map, List.getElem?_replicate]
  by_cases hi : i < n
  · rw [List.getElem?_range hi, if_pos hi]; rfl
  · rw [List.getElem?_eq_none (by simp; omega), if_neg hi]; rfl

theorem rlast_ok {r : RS} (h : r.ok) : r.last < 65536 := by
  unfold RS.last
  rw [List.getLastD_eq_getLast?]
  cases e : r.told.getLast? with
  | none => simp
  | some x => exact h.told x (List.mem_of_getLast? e)

theorem twin_begins {s : LS} {r : RS} (h : Twin s r) (_hr : r.ok) {g : DG} (_hg : g.ok) (hnu : s.ps ≠ [] → s.nu = g.nu) (hct : ¬ (s.ps ≠ [] ∧ g.ct ≠ s.ct)) :
    (r.begins g).waits = true ∧ (r.begins g).n = g.nu ∧ (r.begins g).parts = (List.range g.ct).map (partAt s.ps) ∧ (r.begins g).there = (List.range g.ct).map (fun i => decide (i ∈ s.ps.map (·.1))) ∧ (r.begins g).next = r.next ∧ (r.begins g).sent = r.sent ∧ (r.begins g).heard = r.heard ∧ (r.begins g).told = r.told ∧ (r.begins g).bits = r.bits := by
  unfold RS.begins
  have hw := h.waits
  by_cases hp : s.ps = []
  · have : r.waits = false := by rw [hw, hp]; rfl
    rw [this, if_neg (by simp), hp]
    refine ⟨rfl, rfl, ?_, ?_, rfl, rfl, rfl, rfl, rfl⟩
    · exact (range_const _ _ _ (fun i => rfl)).symm
    · exact (range_const _ _ _ (fun i => by simp)).symm
  · have e1 : r.waits = true := by rw [hw]; simpa using hp
    obtain ⟨h1, h2, h3⟩ := h.n hp
    have e2 : g.ct = s.ct := Decidable.byContradiction fun e => hct ⟨hp, e⟩
    rw [if_pos e1, e2, ← hnu hp]
    exact ⟨e1, h1, h2, h3, rfl, rfl, rfl, rfl, rfl⟩

theorem twin_put {s : LS} {r : RS} (h : Twin s r) (hs : s.ok) (hr : r.ok) (hz : s.zero) {g : DG} (hg : g.ok) (hnu : s.ps ≠ [] → s.nu = g.nu) (hct : ¬ (s.ps ≠ [] ∧ g.ct ≠ s.ct)) (hix : g.ix ∉ s.ps.map (·.1)) (hah : s.so = true → 1 ≤ aheadN g.nu s.la) : TwinA (s.put g) ((r.begins g).put g) := by
  obtain ⟨b1, b2, b3, b4, b5, b6, b7, b8, b9⟩ := twin_begins h hr hg hnu hct
  have hokw := wait_ok hs hg hct hix
  have hlt := rlast_ok hr
  generalize r.begins g = q at *
  have p1 : (q.place g).parts = (List.range g.ct).map (partAt (s.wait g).ps) := by
    show q.parts.set g.ix g.bs = _
    rw [b3]; exact set_parts s.ps g.ix g.bs g.ct hix
  have p2 : (q.place g).there = (List.range g.ct).map (fun i => decide (i ∈ (s.wait g).ps.map (·.1))) := by
    show q.there.set g.ix true = _
    rw [b4]; exact set_there s.ps g.ix g.bs g.ct
  have p3 := all_there (s.wait g).ps g.ct hokw.one (fun p hp => hokw.ix p hp)
  have hby : ∀ p ∈ (q.place g).parts, ∀ x ∈ p, x < 256 := by
    rw [p1]
    intro p hp
    obtain ⟨i, _, rfl⟩ := List.mem_map.1 hp
    exact part_all (fun l => ∀ x ∈ l, x < 256) (by simp) _ i (fun p hp => (hokw.by_ p hp).2)
  have hqok : (q.place g).ok := by
    refine ⟨?_, ?_, ?_, ?_, ?_, ?_, ?_, ?_, hby⟩
    · show q.next < 65536; rw [b5]; exact hr.next
    · show ∀ x ∈ q.sent, _; rw [b6]; exact hr.sent
    · show q.heard.length = q.sent.length; rw [b6, b7]; exact hr.heard
    · show ∀ x ∈ q.told, _; rw [b8]; exact hr.told
    · show q.bits.length = 32; rw [b9]; exact hr.bits
    · show q.n < 65536; rw [b2]; exact hg.nu
    · rw [p1, p2]; simp
    · rw [p1]; simp; exact hg.ct
  unfold LS.put RS.put
  rw [p2]
  by_cases hall : (s.wait g).ps.length = g.ct
  · rw [if_pos hall, if_pos (p3.2 hall)]
    refine ⟨?_, ?_, rfl, ?_⟩
    · refine ⟨?_, ?_, ?_, ?_, h.ak, h.nd, ?_, ?_, fun k hk => ?_, rfl, fun e => absurd rfl e⟩
      · exact b5.trans h.next
      · show s.sent = min q.sent.length 64; rw [b6]; exact h.cnt
      · show ∀ k, 1 ≤ k → k ≤ s.sent → q.sent[q.sent.length - k]? = some (aheadN s.next k); rw [b6]; exact h.sent
      · show ∀ k, 1 ≤ k → k ≤ s.sent → q.heard[q.sent.length - k]? = some (decide (aheadN s.next k ∈ s.ak)); rw [b6, b7]; exact h.heard
      · show true = !(q.told ++ [g.nu]).isEmpty; simp
      · show g.nu = (q.told ++ [g.nu]).getLastD 0; simp
      · show (if q.told = [] then q.bits else noteBits q.bits (aheadN g.nu q.last)).getD k false = (if s.so then withN s.bi (aheadN g.nu s.la) else 0).testBit k
        have el : q.last = s.la := by show q.told.getLastD 0 = _; rw [b8]; exact h.la.symm
        rw [el, b8, b9]
        by_cases ht : r.told = []
        · have hso : s.so = false := by rw [h.so, ht]; rfl
          rw [if_pos ht, hso, h.bits k hk, (hz hso).2]; rfl
        · have hso : s.so = true := by rw [h.so]; simpa using ht
          rw [if_neg ht, hso, if_pos rfl, with_bit _ _ _ hk (hah hso), note_bit _ _ _ hk]
          congr 1
          by_cases hj : aheadN g.nu s.la ≤ k
          · rw [h.bits _ (by omega)]
          · rw [decide_eq_false hj]; rfl
    · refine ⟨hqok.next, hqok.sent, hqok.heard, fun x hx => ?_, ?_, hqok.n, hqok.same, hqok.many, hqok.by_⟩
      · rcases List.mem_append.1 hx with h1 | h1
        · exact hqok.told x h1
        · rw [List.mem_singleton.1 h1]; exact hg.nu
      · show (if q.told = [] then q.bits else noteBits q.bits (aheadN g.nu q.last)).length = 32
        split
        · exact hqok.bits
        · exact noteBits_len _ _
    · show some (msgTo (s.wait g).ps g.ct) = some (q.place g).parts.flatten
      rw [p1, parts_flat]
  · rw [if_neg hall, if_neg (fun e => hall (p3.1 e))]
    refine ⟨?_, hqok, rfl, rfl⟩
    refine ⟨b5.trans h.next, ?_, ?_, ?_, h.ak, h.nd, ?_, ?_, fun k hk => ?_, ?_, fun _ => ⟨b2, p1, p2⟩⟩
    · show s.sent = min q.sent.length 64; rw [b6]; exact h.cnt
    · show ∀ k, 1 ≤ k → k ≤ s.sent → q.sent[q.sent.length - k]? = some (aheadN s.next k); rw [b6]; exact h.sent
    · show ∀ k, 1 ≤ k → k ≤ s.sent → q.heard[q.sent.length - k]? = some (decide (aheadN s.next k ∈ s.ak)); rw [b6, b7]; exact h.heard
    · show s.so = !q.told.isEmpty; rw [b8]; exact h.so
    · show s.la = q.told.getLastD 0; rw [b8]; exact h.la
    · show q.bits.getD k false = s.bi.testBit k; rw [b9]; exact h.bits k hk
    · show q.waits = !(s.ps ++ [(g.ix, g.bs)]).isEmpty; rw [b1]; simp

theorem twin_same {s : LS} {r : RS} (h : Twin s r) (hs : s.ok) (hr : r.ok) (hz : s.zero) {g : DG} (hg : g.ok) (hnu : s.ps ≠ [] → s.nu = g.nu) (hah : s.so = true → 1 ≤ aheadN g.nu s.la) : TwinA (s.same g) (r.same g) := by
  unfold LS.same RS.same
  have hw : r.waits = true ↔ s.ps ≠ [] := by rw [h.waits]; simp
  have c1 : (s.ps ≠ [] ∧ g.ct ≠ s.ct) ↔ (r.waits = true ∧ r.parts.length ≠ g.ct) := by
    rw [hw]
    refine and_congr_right fun hp => ?_
    rw [(h.n hp).2.1]
    simp only [List.length_map, List.length_range]
    exact ⟨fun e q => e q.symm, fun e q => e q.symm⟩
  by_cases hc : s.ps ≠ [] ∧ g.ct ≠ s.ct
  · rw [if_pos hc, if_pos (c1.1 hc)]
    exact ⟨h, hr, rfl, rfl⟩
  · rw [if_neg hc, if_neg (fun e => hc (c1.2 e))]
    have c2 : (g.ix ∈ s.ps.map (·.1)) ↔ (r.waits = true ∧ r.there.getD g.ix false = true) := by
      rw [hw]
      by_cases hp : s.ps = []
      · rw [hp]; simp
      · have e2 : g.ct = s.ct := Decidable.byContradiction fun e => hc ⟨hp, e⟩
        rw [(h.n hp).2.2, List.getD_eq_getElem?_getD, List.getElem?_map, List.getElem?_range (by rw [← e2]; exact hg.ix)]
        simp only [Option.map_some, Option.getD_some, decide_eq_true_eq]
        exact ⟨fun e => ⟨hp, e⟩, fun e => e.2⟩
    by_cases hi : g.ix ∈ s.ps.map (·.1)
    · rw [if_pos hi, if_pos (c2.1 hi)]
      exact ⟨h, hr, rfl, rfl⟩
    · rw [if_neg hi, if_neg (fun e => hi (c2.2 e))]
      exact twin_put h hs hr hz hg hnu hc hi hah

theorem twin_come {s : LS} {r : RS} (h : Twin s r) (hs : s.ok) (hr : r.ok) (hz : s.zero) {g : DG} (hg : g.ok) : TwinA (s.come g) (r.come g) := by
  unfold LS.come RS.come
  have hw : r.waits = true ↔ s.ps ≠ [] := by rw [h.waits]; simp
  have c0 : (s.so = true ∧ newerN g.nu s.la = false) ↔ (r.told ≠ [] ∧ newerN g.nu r.last = false) := by
    rw [h.so, h.la]; simp
  by_cases hc : s.so = true ∧ newerN g.nu s.la = false
  · rw [if_pos hc, if_pos (c0.1 hc)]
    exact ⟨h, hr, rfl, rfl⟩
  · rw [if_neg hc, if_neg (fun e => hc (c0.2 e))]
    have hah : s.so = true → 1 ≤ aheadN g.nu s.la := fun e => newer_pos (by
      cases hn : newerN g.nu s.la with
      | true => rfl
      | false => exact absurd ⟨e, hn⟩ hc)
    have c1 : (s.ps ≠ [] ∧ g.nu ≠ s.nu) ↔ (r.waits = true ∧ r.n ≠ g.nu) := by
      rw [hw]
      refine and_congr_right fun hp => ?_
      rw [(h.n hp).1]
      exact ⟨fun e q => e q.symm, fun e q => e q.symm⟩
    by_cases h1 : s.ps ≠ [] ∧ g.nu ≠ s.nu
    · rw [if_pos h1, if_pos (c1.1 h1), (h.n h1.1).1]
      by_cases h2 : newerN g.nu s.nu = false
      · rw [if_pos h2, if_pos h2]
        exact ⟨h, hr, rfl, rfl⟩
      · rw [if_neg h2, if_neg h2]
        refine twin_same (s := { s with ps := [] }) (r := { r with waits := false }) ⟨h.next, h.cnt, h.sent, h.heard, h.ak, h.nd, h.so, h.la, h.bits, rfl, fun e => absurd rfl e⟩ (drop_ok hs) ⟨hr.next, hr.sent, hr.heard, hr.told, hr.bits, hr.n, hr.same, hr.many, hr.by_⟩ hz hg (fun e => absurd rfl e) hah
    · rw [if_neg h1, if_neg (fun e => h1 (c1.2 e))]
      exact twin_same h hs hr hz hg (fun hp => Decidable.byContradiction fun e => h1 ⟨hp, fun q => e q.symm⟩) hah

theorem twin_recv {s : LS} {r : RS} (h : Twin s r) (hs : s.ok) (hr : r.ok) (hz : s.zero) {d : List Nat} (hd : ∀ x ∈ d, x < 256) : TwinA (s.recv d) (r.recv d) := by
  unfold LS.recv RS.recv
  cases e : decD d with
  | none => exact ⟨h, hr, rfl, rfl⟩
  | some g =>
    have hg := dec_ok hd e
    have e2 : g = dgOf (bodyL d) ∧ (bodyL d).getD 0 0 ≤ 1 := by
      unfold decD at e
      split at e
      · rename_i hc
        injection e with e
        refine ⟨e.symm, ?_⟩
        have := hc.2
        unfold formB at this
        simp only [Bool.and_eq_true, decide_eq_true_eq] at this
        exact this.2.1.1
      · cases e
    have hb : ∀ x ∈ bodyL d, x < 256 := fun x hx => hd x (List.mem_of_mem_take hx)
    have h1 := twin_hear h hs hr hb e2.2
    rw [← e2.1] at h1
    exact twin_come h1 (rec_ok hs hg.la) (rhear_ok hr _) (zero_recd hz _ _ _) hg

theorem byte_bits {x y : Nat} (hx : x < 256) (hy : y < 256) (h : ∀ p, p < 8 → x.testBit p = y.testBit p) : x = y := by
  apply Nat.eq_of_testBit_eq
  intro p
  by_cases hp : p < 8
  · exact h p hp
  · have e : (2 : Nat) ^ 8 ≤ 2 ^ p := Nat.pow_le_pow_right (by omega) (by omega)
    have e8 : (2 : Nat) ^ 8 = 256 := rfl
    rw [Nat.testBit_lt_two_pow (by omega), Nat.testBit_lt_two_pow (by omega)]
theorem rh_bit (b : List Bool) (n q p : Nat) (hq : q < 4) (hp : p < 8) : ∀ k, k ≤ 32 → ((rhTo b n k).getD (6 - q) 0).testBit p = (decide (8 * q + p < k) && b.getD (8 * q + p) false)
  | 0, _ => by
    have : (rhTo b n 0).getD (6 - q) 0 = 0 := by
      obtain rfl | rfl | rfl | rfl : q = 0 ∨ q = 1 ∨ q = 2 ∨ q = 3 := by omega
      all_goals rfl
    rw [this, Nat.zero_testBit, decide_eq_false (by omega)]; rfl
  | k + 1, hk => by
    have ih := rh_bit b n q p hq hp k (by omega)
    have hlen := rhTo_len b n k
    unfold rhTo
    split
    · rename_i hb
      rw [List.getD_eq_getElem?_getD, List.getElem?_set]
      by_cases e : 6 - k / 8 = 6 - q
      · rw [if_pos e, if_pos (by omega), Option.getD_some, e, Nat.testBit_or, ih, Nat.testBit_two_pow]
        have hkq : k / 8 = q := by omega
        by_cases e2 : k % 8 = p
        · have : 8 * q + p = k := by omega
          have hlt : k < k + 1 := by omega
          rw [this, decide_eq_true e2, Bool.or_true, decide_eq_true hlt, hb]; rfl
        · rw [decide_eq_false e2, Bool.or_false]
          congr 1
          refine decide_eq_decide.2 ?_; omega
      · rw [if_neg e, ← List.getD_eq_getElem?_getD, ih]
        congr 1
        refine decide_eq_decide.2 ?_; omega
    · rename_i hb
      rw [ih]
      by_cases e : 8 * q + p = k
      · have hb' : b.getD k false = false := by simpa using hb
        rw [e, hb', Bool.and_false, Bool.and_false]
      · congr 1
        refine decide_eq_decide.2 ?_; omega
theorem rh_far (b : List Bool) (n i : Nat) (hi : i < 3) : ∀ k, k ≤ 32 → (rhTo b n k).getD i 0 = [1, n / 256, n % 256].getD i 0
  | 0, _ => by
    obtain rfl | rfl | rfl : i = 0 ∨ i = 1 ∨ i = 2 := by omega
    all_goals rfl
  | k + 1, hk => by
    have ih := rh_far b n i hi k (by omega)
    unfold rhTo
    split
    · rw [List.getD_eq_getElem?_getD, List.getElem?_set, if_neg (by omega), ← List.getD_eq_getElem?_getD, ih]
    · exact ih
theorem seven {l : List Nat} (h : l.length = 7) : l = [l.getD 0 0, l.getD 1 0, l.getD 2 0, l.getD 3 0, l.getD 4 0, l.getD 5 0, l.getD 6 0] := by
  match l, h with
  | [a, b, c, d, e, f, g], _ => rfl

theorem byte_at8 {bi : Nat} (q p : Nat) (hp : p < 8) : (bi / 2 ^ (8 * q) % 256).testBit p = bi.testBit (8 * q + p) := by
  rw [show (256 : Nat) = 2 ^ 8 from rfl, Nat.testBit_mod_two_pow, decide_eq_true hp, Bool.true_and, Nat.testBit_div_two_pow, Nat.add_comm]

theorem twin_head {s : LS} {r : RS} (h : Twin s r) (hs : s.ok) (hr : r.ok) (hz : s.zero) (nu ix ct : Nat) : r.head ++ [nu / 256, nu % 256, ix, ct] = headL s.so s.la s.bi nu ix ct := by
  unfold RS.head headL
  by_cases ht : r.told = []
  · have hso : s.so = false := by rw [h.so, ht]; rfl
    obtain ⟨e1, e2⟩ := hz hso
    rw [if_pos ht, hso, e1, e2]; rfl
  · have hso : s.so = true := by rw [h.so]; simpa using ht
    rw [if_neg ht, hso, if_pos rfl, seven (rhTo_len r.bits r.last 32), rh_far _ _ 0 (by omega) 32 (by omega), rh_far _ _ 1 (by omega) 32 (by omega), rh_far _ _ 2 (by omega) 32 (by omega)]
    have hbi := hs.bi
    have hby : ∀ i, (rhTo r.bits r.last 32).getD i 0 < 256 := fun i => getD_lt (rhTo_lt _ _ _ (rlast_ok hr)) i
    have key : ∀ q, q < 4 → (rhTo r.bits r.last 32).getD (6 - q) 0 = s.bi / 2 ^ (8 * q) % 256 := fun q hq =>
      byte_bits (hby _) (Nat.mod_lt _ (by omega)) fun p hp => by
        rw [rh_bit _ _ q p hq hp 32 (Nat.le_refl _), byte_at8 q p hp, decide_eq_true (by omega), Bool.true_and]
        exact h.bits _ (by omega)
    have k0 := key 0 (by omega)
    have k1 := key 1 (by omega)
    have k2 := key 2 (by omega)
    have k3 := key 3 (by omega)
    simp only [Nat.reduceSub, Nat.reduceMul, Nat.reducePow, Nat.sub_zero, Nat.mul_zero, Nat.div_one] at k0 k1 k2 k3
    rw [k0, k1, k2, k3, ← h.la]
    have e3 : s.bi / 16777216 % 256 = s.bi / 16777216 := by omega
    rw [e3]
    rfl
theorem twin_gram {s : LS} {r : RS} (h : Twin s r) (hs : s.ok) (hr : r.ok) (hz : s.zero) (b : List Nat) (i : Nat) : rgram r b i = dgram s b i := by
  unfold rgram dgram
  rw [twin_head h hs hr hz, h.next]

/- The contract of the reference's formed. -/
def FormTo (w : World) (d : List Nat) (e : Ending) (w' : World) : Prop :=
  Below w.heap.size w w' ∧ ((decD d = some (dgOf (bodyL d)) ∧ ∃ v, e = .returned (.tuple #[v, .bool true]) ∧ OwnB w' w.heap.size v (bodyL d)) ∨ (decD d = none ∧ e = .returned (.tuple #[.slice none 0 0, .bool false])))

theorem dec_of {d : List Nat} (h : opens d) : decD d = if formB (bodyL d) = true then some (dgOf (bodyL d)) else none := by
  unfold decD
  by_cases hf : formB (bodyL d) = true
  · rw [if_pos ⟨h, hf⟩, if_pos hf]
  · rw [if_neg (fun e => hf e.2), if_neg hf]
theorem dec_closed {d : List Nat} (h : ¬ opens d) : decD d = none := by
  unfold decD; rw [if_neg (fun e => h e.1)]
theorem form_iff (b : List Nat) : formB b = true ↔ 11 ≤ b.length ∧ b.getD 0 0 ≤ 1 ∧ (b.getD 0 0 = 0 → ∀ i, 1 ≤ i → i < 7 → b.getD i 0 = 0) ∧ 1 ≤ b.getD 10 0 ∧ b.getD 10 0 ≤ 10 ∧ b.getD 9 0 < b.getD 10 0 ∧ b.length - 11 ≤ 200 ∧ (b.getD 9 0 ≠ b.getD 10 0 - 1 → b.length - 11 = 200) ∧ (b.getD 9 0 = b.getD 10 0 - 1 → 1 < b.getD 10 0 → b.length - 11 ≠ 0) := by
  have e1 : (dgOf b).so = decide (b.getD 0 0 = 1) := rfl
  have e2 : (dgOf b).la = b.getD 1 0 * 256 + b.getD 2 0 := rfl
  have e3 : (dgOf b).bi = (b.getD 3 0 * 256 + b.getD 4 0) * 65536 + (b.getD 5 0 * 256 + b.getD 6 0) := rfl
  have e4 : (dgOf b).ix = b.getD 9 0 := rfl
  have e5 : (dgOf b).ct = b.getD 10 0 := rfl
  unfold formB
  rw [e1, e2, e3, e4, e5]
  have hz : (b.getD 0 0 = 0 → ∀ i, 1 ≤ i → i < 7 → b.getD i 0 = 0) ↔ (b.getD 0 0 = 0 → b.getD 1 0 = 0 ∧ b.getD 2 0 = 0 ∧ b.getD 3 0 = 0 ∧ b.getD 4 0 = 0 ∧ b.getD 5 0 = 0 ∧ b.getD 6 0 = 0) := by
    refine imp_congr_right fun _ => ⟨fun h => ⟨h 1 (by omega) (by omega), h 2 (by omega) (by omega), h 3 (by omega) (by omega), h 4 (by omega) (by omega), h 5 (by omega) (by omega), h 6 (by omega) (by omega)⟩, fun h i h1 h2 => ?_⟩
    obtain rfl | rfl | rfl | rfl | rfl | rfl : i = 1 ∨ i = 2 ∨ i = 3 ∨ i = 4 ∨ i = 5 ∨ i = 6 := by omega
    · exact h.1
    · exact h.2.1
    · exact h.2.2.1
    · exact h.2.2.2.1
    · exact h.2.2.2.2.1
    · exact h.2.2.2.2.2
  rw [hz]
  generalize b.getD 0 0 = b0, b.getD 1 0 = b1, b.getD 2 0 = b2, b.getD 3 0 = b3, b.getD 4 0 = b4, b.getD 5 0 = b5, b.getD 6 0 = b6, b.getD 9 0 = b9, b.getD 10 0 = b10, b.length = n
  unfold rightB
  simp only [Bool.and_eq_true, Bool.or_eq_true, decide_eq_true_eq]
  split
  · simp only [decide_eq_true_eq]; omega
  · simp only [Bool.and_eq_true, Bool.or_eq_true, decide_eq_true_eq]; omega

/-- In the midst of formed: the bytes. -/
structure FmSt (w : World) (q cb : Nat) (b : List Nat) (wr : World) : Prop where
  own : OwnB wr w.heap.size (.slice (some ⟨q, 0, none⟩) b.length cb) b
  below : Below w.heap.size w wr
theorem FmSt.at_ {w wr : World} {q cb : Nat} {b : List Nat} (S : FmSt w q cb b wr) (j : Nat) (hj : j < b.length) : wr.cell? ⟨q, j, none⟩ = some (.int .u8 ((b.getD j 0 : Nat) : Int)) := by
  have hc := World.ownsRow.cells S.own (g := q) rfl j (.int .u8 ((b.getD j 0 : Nat) : Int)) (by simp [U8s, hj])
  rw [addr0] at hc
  exact hc

set_option maxHeartbeats 4000000 in
set_option maxRecDepth 100000 in
theorem rform_c (v : Value) (d : List Nat) (w : World) (hv : SlB w v d) (hn : d.length ≤ 140737488355318) (hby : ∀ x ∈ d, x < 256) :
    Calls Tryd.prog 39 #[v] w (FormTo w d) := by
  have HO := Lib.hid (ropen_c v d w hv hn hby)
  have HBy : Hid (∀ j, (bodyL d).getD j 0 < 256) := fun j => getD_lt (fun x hx => hby x (List.mem_of_mem_take hx)) j
  have HLn : Hid ((bodyL d).length ≤ 140737488355318) := by show _ ≤ _; rw [List.length_take]; omega
  clear hv hby
  go_enter Tryd.func39, Tryd.ntmps39
  go_wp2_with fail
  refine HO.out.mono ?_
  rintro e w1 ⟨hb, ⟨h1, h2, v1, rfl, hown⟩ | ⟨h1, rfl⟩⟩
  · have HD := Lib.hid (dec_of (d := d) ⟨h1, h2⟩)
    have HF := Lib.hid (form_iff (bodyL d))
    change OwnB w1 w.heap.size v1 (bodyL d) at hown
    obtain ⟨b, hbd⟩ : ∃ b, b = bodyL d := ⟨_, rfl⟩
    rw [← hbd] at HD HF hown HBy HLn
    have HBd := Lib.hid hbd
    clear hbd
    obtain ⟨A1, c1, rfl⟩ := own_slice hown
    have HB := Lib.hid hb
    have HW := Lib.hid hown
    clear h1 h2 hb hown HO hn
    obtain ⟨n, hnb⟩ : ∃ n, n = b.length := ⟨_, rfl⟩
    have HN := Lib.hid hnb
    rw [← hnb]
    by_cases h11 : n < 11
    · have d1 : decide (n < 11) = true := by simpa using h11
      clear hnb
      go_wp2_with fail
      go_ret2
      refine ⟨HB.out, .inr ⟨?_, rfl⟩⟩
      rw [HD.out, if_neg]
      intro hf
      have := (HF.out.1 hf).1
      have := HN.out
      omega
    · have d1 : decide (n < 11) = false := by simpa using h11
      obtain ⟨q, cq, hq, _, _⟩ := World.ownsRow.form HW.out (by omega)
      injection hq with q1 q2 q3
      subst q1 q3
      have S0 : Hid (FmSt w q c1 b w1) := ⟨HW.out, HB.out⟩
      have c0 : w1.cell? ⟨q, 0, none⟩ = some (.int .u8 ((b.getD 0 0 : Nat) : Int)) := S0.out.at_ 0 (by omega)
      have l0 := HBy.out 0
      have hn0 : 0 < n := by omega
      clear hnb q2
      by_cases h1 : b.getD 0 0 ≤ 1
      · have d2 : decide (1 < b.getD 0 0) = false := by rw [decide_eq_false_iff_not]; omega
        have HZ := Lib.hid l0
        obtain ⟨x0, hx0⟩ : ∃ x0, x0 = b.getD 0 0 := ⟨_, rfl⟩
        rw [← hx0] at c0 d2 h1 l0
        have HX0 := Lib.hid hx0
        clear hx0
        have I0 : Hid (x0 = 0 → ∀ i, 1 ≤ i → i < 1 → b.getD i 0 = 0) := fun _ i h1 h2 => absurd h2 (by omega)
        go_wp2_with fail
        go_loopg [6] 6 (fun gg s6 wr => ∃ k : Nat, k + gg = 7 ∧ 1 ≤ k ∧ s6 = .int .i64 (k : Int) ∧ wr = w1 ∧ (x0 = 0 → ∀ i, 1 ≤ i → i < k → b.getD i 0 = 0))
        case atStart => exact ⟨1, by omega, by omega, rfl, rfl, I0.out⟩
        case round =>
          obtain ⟨k, hk, hk1, rfl, rfl, hI⟩ := hrel
          have HI := Lib.hid hI
          clear hI I0
          cases gk with
          | zero =>
            obtain rfl : k = 7 := by omega
            have c9 : wr.cell? ⟨q, 9, none⟩ = some (.int .u8 ((b.getD 9 0 : Nat) : Int)) := S0.out.at_ 9 (by have := HN.out; omega)
            have c10 : wr.cell? ⟨q, 10, none⟩ = some (.int .u8 ((b.getD 10 0 : Nat) : Int)) := S0.out.at_ 10 (by have := HN.out; omega)
            have l9 := HBy.out 9
            have l10 := HBy.out 10
            have hlen := HLn.out
            rw [← HN.out] at hlen
            have n9 : 9 < n := by omega
            have n10 : 10 < n := by omega
            have e11 : IntKind.i64.wrap ((n : Int) - 11) = ((n - 11 : Nat) : Int) := by rw [IntWalk.i64_in _ (by omega)]; omega
            have HE : Hid (decD d = if (1 ≤ b.getD 10 0 ∧ b.getD 10 0 ≤ 10 ∧ b.getD 9 0 < b.getD 10 0 ∧ n - 11 ≤ 200 ∧ (b.getD 9 0 ≠ b.getD 10 0 - 1 → n - 11 = 200) ∧ (b.getD 9 0 = b.getD 10 0 - 1 → 1 < b.getD 10 0 → n - 11 ≠ 0)) then some (dgOf b) else none) := by
              show _ = _
              rw [HD.out]
              have hi : formB b = true ↔ (1 ≤ b.getD 10 0 ∧ b.getD 10 0 ≤ 10 ∧ b.getD 9 0 < b.getD 10 0 ∧ n - 11 ≤ 200 ∧ (b.getD 9 0 ≠ b.getD 10 0 - 1 → n - 11 = 200) ∧ (b.getD 9 0 = b.getD 10 0 - 1 → 1 < b.getD 10 0 → n - 11 ≠ 0)) := by
                rw [HF.out, ← HN.out, ← HX0.out]
                exact ⟨fun h => h.2.2.2, fun h => ⟨by omega, h1, HI.out, h⟩⟩
              by_cases hf : formB b = true
              · rw [if_pos hf, if_pos (hi.1 hf)]
              · rw [if_neg hf, if_neg (fun e => hf (hi.2 e))]
            generalize b.getD 9 0 = ix at *
            generalize b.getD 10 0 = ct at *
            obtain ⟨sz, hsz⟩ : ∃ sz, sz = n - 11 := ⟨_, rfl⟩
            rw [← hsz] at e11 HE
            clear HI HD HF HBy hsz
            have e1 : IntKind.i64.wrap ((ct : Int) - 1) = (ct : Int) - 1 := IntWalk.i64_in _ (by omega)
            by_cases t1 : ct < 1
            · have f1 : decide ((ct : Int) < 1) = true := by rw [decide_eq_true_eq]; omega
              go_wp2_with fail
              go_ret2
              exact ⟨HB.out, .inr ⟨by rw [HE.out, if_neg (by omega)], rfl⟩⟩
            · have f1 : decide ((ct : Int) < 1) = false := by rw [decide_eq_false_iff_not]; omega
              by_cases t2 : 10 < ct
              · have f2 : decide ((10 : Int) < (ct : Int)) = true := by rw [decide_eq_true_eq]; omega
                go_wp2_with fail
                go_ret2
                exact ⟨HB.out, .inr ⟨by rw [HE.out, if_neg (by omega)], rfl⟩⟩
              · have f2 : decide ((10 : Int) < (ct : Int)) = false := by rw [decide_eq_false_iff_not]; omega
                by_cases t3 : ct ≤ ix
                · have f3 : decide (ct ≤ ix) = true := by rw [decide_eq_true_eq]; omega
                  go_wp2_with fail
                  go_ret2
                  exact ⟨HB.out, .inr ⟨by rw [HE.out, if_neg (by omega)], rfl⟩⟩
                · have f3 : decide (ct ≤ ix) = false := by rw [decide_eq_false_iff_not]; omega
                  by_cases t4 : 200 < sz
                  · have f4 : decide ((200 : Int) < (sz : Int)) = true := by rw [decide_eq_true_eq]; omega
                    go_wp2_with fail
                    go_ret2
                    exact ⟨HB.out, .inr ⟨by rw [HE.out, if_neg (by omega)], rfl⟩⟩
                  · have f4 : decide ((200 : Int) < (sz : Int)) = false := by rw [decide_eq_false_iff_not]; omega
                    by_cases t5 : ix + 1 = ct
                    · have f5 : ((ix : Int) == (ct : Int) - 1) = true := by rw [beq_iff_eq]; omega
                      by_cases t7 : ct ≤ 1
                      · have f7 : decide ((1 : Int) < (ct : Int)) = false := by rw [decide_eq_false_iff_not]; omega
                        go_wp2_with fail
                        go_ret2
                        refine ⟨HB.out, .inl ⟨by rw [HE.out, if_pos (by omega), HBd.out], .slice (some ⟨q, 0, none⟩) n c1, rfl, ?_⟩⟩
                        rw [← HBd.out, HN.out]; exact HW.out
                      · have f7 : decide ((1 : Int) < (ct : Int)) = true := by rw [decide_eq_true_eq]; omega
                        by_cases t8 : sz = 0
                        · have f8 : ((sz : Int) == 0) = true := by rw [beq_iff_eq]; omega
                          go_wp2_with fail
                          go_ret2
                          exact ⟨HB.out, .inr ⟨by rw [HE.out, if_neg (by omega)], rfl⟩⟩
                        · have f8 : ((sz : Int) == 0) = false := by rw [beq_eq_false_iff_ne]; omega
                          go_wp2_with fail
                          go_ret2
                          refine ⟨HB.out, .inl ⟨by rw [HE.out, if_pos (by omega), HBd.out], .slice (some ⟨q, 0, none⟩) n c1, rfl, ?_⟩⟩
                          rw [← HBd.out, HN.out]; exact HW.out
                    · have f5 : ((ix : Int) == (ct : Int) - 1) = false := by rw [beq_eq_false_iff_ne]; omega
                      by_cases t6 : sz = 200
                      · have f6 : ((sz : Int) != 200) = false := by rw [bne_eq_false_iff_eq]; omega
                        go_wp2_with fail
                        go_ret2
                        refine ⟨HB.out, .inl ⟨by rw [HE.out, if_pos (by omega), HBd.out], .slice (some ⟨q, 0, none⟩) n c1, rfl, ?_⟩⟩
                        rw [← HBd.out, HN.out]; exact HW.out
                      · have f6 : ((sz : Int) != 200) = true := by rw [bne_iff_ne]; omega
                        go_wp2_with fail
                        go_ret2
                        exact ⟨HB.out, .inr ⟨by rw [HE.out, if_neg (by omega)], rfl⟩⟩
          | succ gk =>
            have hkl : k < n := by omega
            have hd : decide (k < 7) = true := by rw [decide_eq_true_eq]; omega
            have ck : wr.cell? ⟨q, k, none⟩ = some (.int .u8 ((b.getD k 0 : Nat) : Int)) := S0.out.at_ k (by have := HN.out; omega)
            by_cases hx : x0 = 0
            · have hxe : ((x0 : Int) == 0) = true := by rw [beq_iff_eq]; omega
              by_cases hy : b.getD k 0 = 0
              · have S9 : Hid (x0 = 0 → ∀ i, 1 ≤ i → i < k + 1 → b.getD i 0 = 0) := fun h i h1 h2 => by
                  by_cases e : i = k
                  · rw [e]; exact hy
                  · exact HI.out h i h1 (by omega)
                rw [hy] at ck
                clear hy HI
                go_wp2_with fail
                go_roundg gk
                case measure => omega
                case rel => exact ⟨k + 1, by omega, by omega, by go_num, rfl, S9.out⟩
              · have HE : Hid (decD d = none) := by
                  show decD d = none
                  rw [HD.out, if_neg]
                  intro hf
                  exact hy ((HF.out.1 hf).2.2.1 (HX0.out.symm.trans hx) k hk1 (by omega))
                have hne : ((b.getD k 0 : Nat) : Int) ≠ 0 := by omega
                generalize b.getD k 0 = y at ck hne hy
                clear HI
                go_wp2_with fail
                go_ret2
                exact ⟨HB.out, .inr ⟨HE.out, rfl⟩⟩
            · have S9 : Hid (x0 = 0 → ∀ i, 1 ≤ i → i < k + 1 → b.getD i 0 = 0) := fun h => absurd h hx
              have hne : ((x0 : Int) == 0) = false := by rw [beq_eq_false_iff_ne]; omega
              clear HI
              go_wp2_with fail
              go_roundg gk
              case measure => omega
              case rel => exact ⟨k + 1, by omega, by omega, by go_num, rfl, S9.out⟩
      · have d2 : decide (1 < b.getD 0 0) = true := by rw [decide_eq_true_eq]; omega
        generalize b.getD 0 0 = x0 at *
        go_wp2_with fail
        go_ret2
        refine ⟨HB.out, .inr ⟨?_, rfl⟩⟩
        rw [HD.out, if_neg]
        intro hf
        exact h1 (HF.out.1 hf).2.1
  · have HD := Lib.hid (dec_closed (d := d) h1)
    have HB := Lib.hid hb
    clear h1 hb HO
    go_wp2_with fail
    go_ret2
    exact ⟨HB.out, .inr ⟨HD.out, rfl⟩⟩

/- The contract of the reference's Send. -/
section
variable {w w' : World} {g : Nat} {V : Nat → Prop} {v : RV} {s : RS}
/-- Next is another. -/
theorem RefAt.set_next (h : RefAt w g V v s) (n : Nat) : RefAt (w.setCell ⟨g, 0, none⟩ (.int .i64 (n : Int))) g V v { s with next := n } ∧ Fr (fun i => i = g) w (w.setCell ⟨g, 0, none⟩ (.int .i64 (n : Int))) := by
  have hf : Fr (fun i => i = g) w (w.setCell ⟨g, 0, none⟩ (.int .i64 (n : Int))) := Fr.set (S := fun i => i = g) w rfl _
  refine ⟨⟨?_, ownsRow_fr h.sent hf (fun k e e2 => own_ne_blk h.sent h.blk (by decide) (e2 ▸ e)), ownsRow_fr h.heard hf (fun k e e2 => own_ne_blk h.heard h.blk (by decide) (e2 ▸ e)), ownsRow_fr h.told hf (fun k e e2 => own_ne_blk h.told h.blk (by decide) (e2 ▸ e)), h.st, h.vs, h.vh, h.vt, fun hw => ?_⟩, hf⟩
  · have := h.blk.set_ 0 (.int .i64 (n : Int))
    simpa using this
  · obtain ⟨kp, ke, a, b, c, d, e, f, i⟩ := h.vp hw
    exact ⟨kp, ke, a, b, c.fr hf (fun q => c.ne_ h.blk (by decide) q), d.fr hf (fun q => d.ne_ h.blk (by decide) q), e, f, i⟩
/-- Sent has grown. -/
theorem RefAt.grow_s (h : RefAt w g V v s) {n : Nat} {t' : Value} (ho : w'.ownsRow 0 3 1 t' (s.sent.length + 1) (I64s s.sent ++ [.int .i64 (n : Int)])) (hg : w.grownBy w' v.s.ownBlock) (hb : t'.ownBlock = v.s.ownBlock ∨ ∃ k, t'.ownBlock = some k ∧ w.heap.size ≤ k) :
    RefAt (w'.setCell ⟨g, 1, none⟩ t') g (fun k => V k ∨ w.heap.size ≤ k) { v with s := t' } { s with sent := s.sent ++ [n] } ∧ Fr (fun i => i = g ∨ v.s.ownBlock = some i) w (w'.setCell ⟨g, 1, none⟩ t') := by
  have hf : Fr (fun i => v.s.ownBlock = some i) w w' := Fr.of_grown hg (fun i _ e => e)
  have hgt : v.s.ownBlock ≠ some g := own_ne_blk h.sent h.blk (by decide)
  have hf2 : Fr (fun i => i = g) w' (w'.setCell ⟨g, 1, none⟩ t') := Fr.set (S := fun i => i = g) w' rfl _
  have b1 : Blk w' g 70 (refC s v) := h.blk.fr hf hgt
  have hne : ∀ k cs t, Blk w k t cs → t ≠ 70 → k ≠ g := fun k cs t hk ht e => hk.ne_ h.blk ht e
  refine ⟨⟨?_, ?_, ?_, ?_, ?_, ?_, fun k e => .inl (h.vh k e), fun k e => .inl (h.vt k e), fun hw => ?_⟩, ?_⟩
  · have := b1.set_ 1 t'
    simpa using this
  · have e : I64s (s.sent ++ [n]) = I64s s.sent ++ [.int .i64 (n : Int)] := by rw [I64s_append]; rfl
    show (w'.setCell ⟨g, 1, none⟩ t').ownsRow 0 3 1 t' (s.sent ++ [n]).length (I64s (s.sent ++ [n]))
    rw [e, List.length_append]
    exact ownsRow_setCell_other ho (own_ne_blk ho b1 (by decide)) t'
  · refine ownsRow_fr (ownsRow_fr h.heard hf (fun k e e2 => own_ne_own h.heard h.sent (by decide) k e2 e)) hf2 (fun k e e2 => ?_)
    have e2 : k = g := e2
    exact own_ne_blk h.heard h.blk (by decide) (by rw [e, e2])
  · refine ownsRow_fr (ownsRow_fr h.told hf (fun k e e2 => h.st k e2 e)) hf2 (fun k e e2 => ?_)
    have e2 : k = g := e2
    exact own_ne_blk h.told h.blk (by decide) (by rw [e, e2])
  · intro k e e2
    rcases hb with hb | ⟨k2, hb, hk2⟩
    · exact h.st k (hb.symm.trans e) e2
    · have : k2 = k := by have := hb.symm.trans e; injection this
      have := (h.told.lt k e2).2
      omega
  · intro k e
    rcases hb with hb | ⟨k2, hb, hk2⟩
    · exact .inl (h.vs k (hb.symm.trans e))
    · have : k2 = k := by have := hb.symm.trans e; injection this
      exact .inr (by omega)
  · obtain ⟨kp, ke, a, b, c, d, e, f, i⟩ := h.vp hw
    refine ⟨kp, ke, a, b, (c.fr hf (fun q => own_ne_blk h.sent c (by decide) q)).fr hf2 (hne _ _ _ c (by decide)), (d.fr hf (fun q => own_ne_blk h.sent d (by decide) q)).fr hf2 (hne _ _ _ d (by decide)), .inl e, .inl f, i⟩
  · exact (hf.mono (fun i _ e => .inr e)).trans hf2 (fun i _ e => .inl e)
/-- Heard has grown. -/
theorem RefAt.grow_h (h : RefAt w g V v s) {n : Bool} {t' : Value} (ho : w'.ownsRow 0 4 1 t' (s.heard.length + 1) (RBools s.heard ++ [.bool n])) (hg : w.grownBy w' v.h.ownBlock) (hb : t'.ownBlock = v.h.ownBlock ∨ ∃ k, t'.ownBlock = some k ∧ w.heap.size ≤ k) :
    RefAt (w'.setCell ⟨g, 2, none⟩ t') g (fun k => V k ∨ w.heap.size ≤ k) { v with h := t' } { s with heard := s.heard ++ [n] } ∧ Fr (fun i => i = g ∨ v.h.ownBlock = some i) w (w'.setCell ⟨g, 2, none⟩ t') := by
  have hf : Fr (fun i => v.h.ownBlock = some i) w w' := Fr.of_grown hg (fun i _ e => e)
  have hgt : v.h.ownBlock ≠ some g := own_ne_blk h.heard h.blk (by decide)
  have hf2 : Fr (fun i => i = g) w' (w'.setCell ⟨g, 2, none⟩ t') := Fr.set (S := fun i => i = g) w' rfl _
  have b1 : Blk w' g 70 (refC s v) := h.blk.fr hf hgt
  have hne : ∀ k cs t, Blk w k t cs → t ≠ 70 → k ≠ g := fun k cs t hk ht e => hk.ne_ h.blk ht e
  refine ⟨⟨?_, ?_, ?_, ?_, h.st, fun k e => .inl (h.vs k e), ?_, fun k e => .inl (h.vt k e), fun hw => ?_⟩, ?_⟩
  · have := b1.set_ 2 t'
    simpa using this
  · refine ownsRow_fr (ownsRow_fr h.sent hf (fun k e e2 => own_ne_own h.sent h.heard (by decide) k e2 e)) hf2 (fun k e e2 => ?_)
    have e2 : k = g := e2
    exact own_ne_blk h.sent h.blk (by decide) (by rw [e, e2])
  · have e : RBools (s.heard ++ [n]) = RBools s.heard ++ [.bool n] := by rw [RBools_append]; rfl
    show (w'.setCell ⟨g, 2, none⟩ t').ownsRow 0 4 1 t' (s.heard ++ [n]).length (RBools (s.heard ++ [n]))
    rw [e, List.length_append]
    exact ownsRow_setCell_other ho (own_ne_blk ho b1 (by decide)) t'
  · refine ownsRow_fr (ownsRow_fr h.told hf (fun k e e2 => own_ne_own h.told h.heard (by decide) k e2 e)) hf2 (fun k e e2 => ?_)
    have e2 : k = g := e2
    exact own_ne_blk h.told h.blk (by decide) (by rw [e, e2])
  · intro k e
    rcases hb with hb | ⟨k2, hb, hk2⟩
    · exact .inl (h.vh k (hb.symm.trans e))
    · have : k2 = k := by have := hb.symm.trans e; injection this
      exact .inr (by omega)
  · obtain ⟨kp, ke, a, b, c, d, e, f, i⟩ := h.vp hw
    refine ⟨kp, ke, a, b, (c.fr hf (fun q => own_ne_blk h.heard c (by decide) q)).fr hf2 (hne _ _ _ c (by decide)), (d.fr hf i).fr hf2 (hne _ _ _ d (by decide)), .inl e, .inl f, fun q => ?_⟩
    rcases hb with hb | ⟨k2, hb, hk2⟩
    · exact i (hb.symm.trans q)
    · have : k2 = ke := by have := hb.symm.trans q; injection this
      have := d.lt
      omega
  · exact (hf.mono (fun i _ e => .inr e)).trans hf2 (fun i _ e => .inl e)
end

/-- The reference's datagrams: slices of bytes, each read only. -/
structure Grams (w : World) (base : Nat) (xs : List Value) (ds : List (List Nat)) : Prop where
  len : xs.length = ds.length
  each : ∀ (j : Nat) (x : Value) (d : List Nat), xs[j]? = some x → ds[j]? = some d → PSl w (fun k => base ≤ k) x d
theorem Grams.nil {w : World} {base : Nat} : Grams w base [] [] := ⟨rfl, fun j x d h => by simp at h⟩
theorem Grams.fr {S : Nat → Prop} {w w' : World} {base : Nat} {xs : List Value} {ds : List (List Nat)} (h : Grams w base xs ds) (hf : Fr S w w') (hs : ∀ k cs, base ≤ k → Blk w k 5 cs → ¬ S k) : Grams w' base xs ds :=
  ⟨h.len, fun j x d h1 h2 => (h.each j x d h1 h2).fr hf hs⟩
theorem Grams.add {w : World} {base : Nat} {xs : List Value} {ds : List (List Nat)} (h : Grams w base xs ds) {x : Value} {d : List Nat} (hx : PSl w (fun k => base ≤ k) x d) : Grams w base (xs ++ [x]) (ds ++ [d]) := by
  refine ⟨by simp [h.len], fun j x' d' h1 h2 => ?_⟩
  by_cases hj : j < xs.length
  · rw [List.getElem?_append_left hj] at h1
    rw [List.getElem?_append_left (by rw [← h.len]; exact hj)] at h2
    exact h.each j x' d' h1 h2
  · rw [List.getElem?_append_right (by omega)] at h1
    rw [List.getElem?_append_right (by rw [← h.len]; omega)] at h2
    have hj : j - xs.length = 0 := by
      have := (List.getElem?_eq_some_iff.1 h1).1
      simp at this; omega
    rw [hj] at h1
    rw [← h.len, hj] at h2
    simp at h1 h2
    subst h1 h2
    exact hx
theorem OwnB.psl {w : World} {base : Nat} {v : Value} {bs : List Nat} (h : OwnB w base v bs) : PSl w (fun k => base ≤ k) v bs := by
  refine ⟨h.sl, fun A n c e => ?_⟩
  rcases h.2 with ⟨rfl, _⟩ | ⟨g', cap, cur, rfl, hb, hh, _⟩
  · cases e
  · injection e with e
    injection e with e
    subst e
    exact ⟨hb, cur, hh⟩

theorem Grams.lower {w : World} {base b2 : Nat} {xs : List Value} {ds : List (List Nat)} (h : Grams w base xs ds) (hb : b2 ≤ base) : Grams w b2 xs ds :=
  ⟨h.len, fun j x d h1 h2 => ⟨(h.each j x d h1 h2).1, fun A n c e => by obtain ⟨a, b⟩ := (h.each j x d h1 h2).2 A n c e; exact ⟨Nat.le_trans hb a, b⟩⟩⟩

theorem row_lower {w : World} {base b2 : Nat} {e : TypeId} {sz : Nat} {v : Value} {n : Nat} {xs : List Value} (h : w.ownsRow base e sz v n xs) (hb : b2 ≤ base) : w.ownsRow b2 e sz v n xs := by
  refine ⟨h.1, ?_⟩
  rcases h.2 with h2 | ⟨g, cap, cur, rfl, hbb, rest⟩
  · exact .inl h2
  · exact .inr ⟨g, cap, cur, rfl, by omega, rest⟩

def rgrams (s : RS) (b : List Nat) (k : Nat) : List (List Nat) := (List.range k).map (rgram s b)
theorem rgrams_succ (s : RS) (b : List Nat) (k : Nat) : rgrams s b (k + 1) = rgrams s b k ++ [rgram s b k] := by simp [rgrams, List.range_succ]
theorem rgrams_len (s : RS) (b : List Nat) (k : Nat) : (rgrams s b k).length = k := by simp [rgrams]

theorem SlB.fr0 {S : Nat → Prop} {w w' : World} {v : Value} {bs : List Nat} (h : SlB w v bs) (hf : Fr S w w') (hn : 0 < bs.length → ∀ A n c, v = .slice (some A) n c → ¬ S A.block) : SlB w' v bs := by
  obtain ⟨A, c, e, h1, h2, h3⟩ := h
  refine ⟨A, c, e, h1, h2, h3.fr hf (Nat.le_refl _) (fun h0 ad ha => ?_)⟩
  exact hn h0 ad bs.length c (by rw [e, ha])

/-- What the reference writes. -/
abbrev refS (g : Nat) (v : RV) (s : RS) (i : Nat) : Prop := i = g ∨ v.s.ownBlock = some i ∨ v.h.ownBlock = some i ∨ v.t.ownBlock = some i ∨ (s.waits = true ∧ (v.p.ownBlock = some i ∨ v.e.ownBlock = some i))
def RSendTo (w : World) (g : Nat) (V : Nat → Prop) (v : RV) (s : RS) (b : List Nat) (e : Ending) (w' : World) : Prop :=
  (2000 < b.length ∧ e = .returned (.tuple #[.slice none 0 0, .int .i64 0, .int .i64 2]) ∧ w' = w) ∨
  (b.length ≤ 2000 ∧ ∃ x xs v', e = .returned (.tuple #[x, .int .i64 (s.next : Int), .int .i64 0]) ∧ w'.ownsRow w.heap.size 36 1 x (manyN b.length) xs ∧ Grams w' w.heap.size xs (rgrams s b (manyN b.length)) ∧ RefAt w' g (fun k => V k ∨ w.heap.size ≤ k) v' s.sendS ∧ Fr (refS g v s) w w')

theorem rhead_lt {s : RS} (hs : s.ok) : ∀ x ∈ s.head, x < 256 := by
  unfold RS.head
  split
  · intro x hx
    simp only [List.mem_cons, List.not_mem_nil, or_false] at hx
    omega
  · exact rhTo_lt _ _ _ (rlast_ok hs)

/-- In the midst of Send: k datagrams are made. -/
structure RsSt (w : World) (s : RS) (b : List Nat) (k : Nat) (v : Value) (wr : World) : Prop where
  row : ∃ xs, wr.ownsRow w.heap.size 36 1 v k xs ∧ Grams wr w.heap.size xs (rgrams s b k)
  below : Below w.heap.size w wr

theorem infoBool : (Tryd.prog.info? 4).map (fun i => (i.zero, i.size, i.bytes)) = some (some (.bool false), 1, 1) := by kernel_rfl

set_option maxHeartbeats 8000000 in
set_option maxRecDepth 100000 in
theorem rsend_c {g : Nat} {V : Nat → Prop} {v : RV} {s : RS} {w : World} (vb : Value) (b : List Nat) (h : RefAt w g V v s) (hs : s.ok) (hns : s.sent.length < 8796093022208) (hnt : s.told.length < 8796093022208) (hv : SlB w vb b) (hnv : 0 < b.length → ∀ A n c, vb = .slice (some A) n c → ¬ refS g v s A.block) (hby : ∀ x ∈ b, x < 256) :
    Calls Tryd.prog 28 #[.pointer (some ⟨g, 0, none⟩), vb] w (RSendTo w g V v s b) := by
  obtain ⟨A, c, rfl, hr⟩ := hv
  have HV := Lib.hid (show SlB w (.slice A b.length c) b from ⟨A, c, rfl, hr⟩)
  have HNV := Lib.hid hnv
  clear hnv
  have HL := Lib.hid h
  have HS := Lib.hid hs
  have HBy := Lib.hid hby
  clear h hs hby hr
  by_cases hshort : 2000 < b.length
  · have hd : decide ((2000 : Int) < (b.length : Int)) = true := by simp; omega
    have HN := Lib.hid hshort
    go_enter Tryd.func28, Tryd.ntmps28
    go_wp2_with fail
    go_ret3
    exact .inl ⟨HN.out, rfl, rfl⟩
  · have hshort : b.length ≤ 2000 := by omega
    have hd : decide ((2000 : Int) < (b.length : Int)) = false := by simp; omega
    have c0 : w.cell? ⟨g, 0, none⟩ = some (.int .i64 (s.next : Int)) := HL.out.blk.cell 0
    have f0 := HL.out.blk.frozen 0
    have hnx := HS.out.next
    obtain ⟨nx2, hnx2⟩ : ∃ nx2, nx2 = (s.next + 1) % 65536 := ⟨_, rfl⟩
    have e1 : ((s.next : Int) + 1) % 65536 = (nx2 : Int) := by omega
    have HX := Lib.hid hnx2
    clear hnx2
    obtain ⟨nx, hnx0⟩ : ∃ nx, nx = s.next := ⟨_, rfl⟩
    rw [← hnx0] at c0 hnx e1
    have HX0 := Lib.hid hnx0
    clear hnx0
    go_enter Tryd.func28, Tryd.ntmps28
    go_wp2_with fail
    refine (rmod_s _ _ _ e1).mono ?_
    rintro e w1 ⟨rfl, hw1⟩
    subst w1
    obtain ⟨N1, N2⟩ := HL.out.set_next nx2
    go_upto_region 5 with (fail)
    clear c0 f0 e1 hd
    obtain ⟨i0, hi, hz0, hz1, hz2⟩ := info_parts infoI64
    obtain ⟨j0, hj, hy0, hy1, hy2⟩ := info_parts infoBool
    generalize w.setCell ⟨g, 0, none⟩ (.int .i64 (nx2 : Int)) = W1 at N1 N2 ⊢
    have HR1 := Lib.hid N1
    have HF1 := Lib.hid N2
    have hz1' : w.heap.size ≤ W1.heap.size := N2.size
    clear N1 N2
    obtain ⟨As, ds, hvs⟩ := own_slice HL.out.sent
    obtain ⟨Ah, dh, hvh⟩ := own_slice HL.out.heard
    rw [HS.out.heard] at hvh
    obtain ⟨st, hst⟩ : ∃ st, st = s.sent.length := ⟨_, rfl⟩
    rw [← hst] at hvs hvh hns
    have HST := Lib.hid hst
    have HVs := Lib.hid hvs
    have HVh := Lib.hid hvh
    clear hst hvs hvh
    have c1 : W1.cell? ⟨g, 1, none⟩ = some (.slice As st ds) := by rw [← HVs.out]; exact HR1.out.blk.cell 1
    have HO1 : Hid (W1.ownsRow 0 3 1 (.slice As st ds) st (I64s s.sent)) := by rw [← HVs.out, HST.out]; exact HR1.out.sent
    go_wp2_with (at_builtin; refine wpList_append_own_at _ rfl (.tmp 29) (.tmp 31) 43 rfl 0 3 i0 (.int .i64 0) 1 8 Tryd.underlying43 hi hz0 hz1 hz2 rfl (by decide) _ _ _ rfl (HO1.out.alloc _) ⟨W1.heap.size, 0, none⟩ 1 1 [.int .i64 (nx : Int)] rfl rfl (cell_one_at _ _ _ _ (by simp)) ?c2 ?c3 ?c4 ?c5 ?_)
    case c2 => first | rfl | (intro u hu; simp at hu; subst hu; rfl)
    case c3 => unfold maxLen; omega
    case c4 => omega
    case c5 => omega
    intro v2 w2 hown2 hgrow2 _ hb2
    obtain ⟨A2, c2, rfl⟩ := own_slice hown2
    have HR1a := Lib.hid (HR1.out.fr (S := fun _ => False) (Fr.alloc W1 (.cells #[.int .i64 (nx : Int)] 3)) (fun h => h) (fun _ _ h => h))
    rw [← HVs.out] at hgrow2 hb2
    obtain ⟨T1, T2⟩ := HR1a.out.grow_s (n := nx) (t' := .slice A2 (st + 1) c2) (by rw [← HST.out]; exact hown2) hgrow2 (by
      rcases hb2 with h | h
      · exact .inl h
      · exact .inr ⟨W1.heap.size + 1, h, by simp⟩)
    have hgb : Blk w2 g 70 (refC { s with next := nx2 } v) := HR1a.out.blk.fr (S := fun i => v.s.ownBlock = some i) (Fr.of_grown hgrow2 (fun i _ e => e)) (own_ne_blk HR1a.out.sent HR1a.out.blk (by decide))
    have k1 : w2.cell? ⟨g, 1, none⟩ = some v.s := hgb.cell 1
    have k1f := hgb.frozen 1
    have F2 : Hid (Fr (refS g v s) w (w2.setCell ⟨g, 1, none⟩ (.slice A2 (st + 1) c2))) :=
      ((HF1.out.mono (fun i _ e => .inl e)).trans (Fr.alloc (S := refS g v s) W1 _) (fun _ _ e => e)).trans T2 (fun i _ e => e.elim .inl (fun e => .inr (.inl e)))
    have R2 : Hid (RefAt (w2.setCell ⟨g, 1, none⟩ (.slice A2 (st + 1) c2)) g (fun k => V k ∨ w.heap.size ≤ k) { v with s := .slice A2 (st + 1) c2 } { s with next := nx2, sent := s.sent ++ [nx] }) :=
      T1.wide (fun k => by
        rintro (e | e)
        · exact .inl e
        · exact .inr (by simp at e; omega))
    clear hown2 hgrow2 hb2 hgb T1 T2 HR1a HO1 HR1 HF1 c1
    go_upto_region 6 with (fail)
    generalize w2.setCell ⟨g, 1, none⟩ (.slice A2 (st + 1) c2) = W2 at F2 R2 ⊢
    clear k1 k1f
    have hz2' : w.heap.size ≤ W2.heap.size := F2.out.size
    have c1 : W2.cell? ⟨g, 2, none⟩ = some (.slice Ah st dh) := by rw [← HVh.out]; exact R2.out.blk.cell 2
    have HO1 : Hid (W2.ownsRow 0 4 1 (.slice Ah st dh) st (RBools s.heard)) := by rw [← HVh.out, HST.out, ← HS.out.heard]; exact R2.out.heard
    go_wp2_with (at_builtin; refine wpList_append_own_at _ rfl (.tmp 39) (.tmp 40) 66 rfl 0 4 j0 (.bool false) 1 1 Tryd.underlying66 hj hy0 hy1 hy2 rfl (by decide) _ _ _ rfl (HO1.out.alloc _) ⟨W2.heap.size, 0, none⟩ 1 1 [.bool false] rfl rfl (cell_one_at _ _ _ _ (by simp)) ?c2 ?c3 ?c4 ?c5 ?_)
    case c2 => first | rfl | (intro u hu; simp at hu; subst hu; rfl)
    case c3 => unfold maxLen; omega
    case c4 => omega
    case c5 => omega
    intro v3 w3 hown3 hgrow3 _ hb3
    obtain ⟨A3, c3, rfl⟩ := own_slice hown3
    have HR1a := Lib.hid (R2.out.fr (S := fun _ => False) (Fr.alloc W2 (.cells #[.bool false] 4)) (fun h => h) (fun _ _ h => h))
    rw [← HVh.out] at hgrow3 hb3
    obtain ⟨T1, T2⟩ := HR1a.out.grow_h (n := false) (t' := .slice A3 (st + 1) c3) (by show w3.ownsRow 0 4 1 _ (s.heard.length + 1) _; rw [HS.out.heard, ← HST.out]; exact hown3) hgrow3 (by
      rcases hb3 with h | h
      · exact .inl h
      · exact .inr ⟨W2.heap.size + 1, h, by simp⟩)
    have hgb : Blk w3 g 70 (refC { s with next := nx2, sent := s.sent ++ [nx] } { v with s := .slice A2 (st + 1) c2 }) := HR1a.out.blk.fr (S := fun i => v.h.ownBlock = some i) (Fr.of_grown hgrow3 (fun i _ e => e)) (own_ne_blk HR1a.out.heard HR1a.out.blk (by decide))
    have k1 : w3.cell? ⟨g, 2, none⟩ = some v.h := hgb.cell 2
    have k1f := hgb.frozen 2
    have F3 : Hid (Fr (refS g v s) w (w3.setCell ⟨g, 2, none⟩ (.slice A3 (st + 1) c3))) :=
      (F2.out.trans (Fr.alloc (S := refS g v s) W2 _) (fun _ _ e => e)).trans T2 (fun i _ e => e.elim .inl (fun e => .inr (.inr (.inl e))))
    have hS : ({ s with next := nx2, sent := s.sent ++ [nx], heard := s.heard ++ [false] } : RS) = s.sendS := by unfold RS.sendS; rw [HX.out, HX0.out]
    have R3 : Hid (RefAt (w3.setCell ⟨g, 2, none⟩ (.slice A3 (st + 1) c3)) g (fun k => V k ∨ w.heap.size ≤ k) { v with s := .slice A2 (st + 1) c2, h := .slice A3 (st + 1) c3 } s.sendS) := by
      show RefAt _ _ _ _ _
      rw [← hS]
      exact T1.wide (fun k => by
        rintro (e | e)
        · exact e
        · exact .inr (by simp at e; omega))
    clear hown3 hgrow3 hb3 hgb T1 T2 HR1a HO1 R2 F2 c1 hS
    go_upto_region 7 with (fail)
    generalize w3.setCell ⟨g, 2, none⟩ (.slice A3 (st + 1) c3) = W3 at F3 R3 ⊢
    generalize ({ v with s := .slice A2 (st + 1) c2, h := .slice A3 (st + 1) c3 } : RV) = v3 at R3
    clear k1 k1f
    have hz3' : w.heap.size ≤ W3.heap.size := F3.out.size
    obtain ⟨q, hq⟩ : ∃ q : Nat, q = (b.length + 199) / 200 := ⟨_, rfl⟩
    have e0 : (b.length : Int) + 200 - 1 = ((b.length + 199 : Nat) : Int) := by omega
    have e3 : ((b.length : Int) + 200 - 1).tdiv 200 = (q : Int) := by rw [e0, hq]; rfl
    have e4 : ((b.length : Int) + 200 - 1) / 200 = (q : Int) := by rw [e0, hq]; rfl
    have e5 : (if (1 : Int) < (q : Int) then (q : Int) else 1) = (manyN b.length : Int) := by
      unfold manyN; rw [← hq]; split <;> omega
    have hl : q ≤ 10 := by omega
    have hmn := many_le hshort
    clear hq e0
    obtain ⟨mn, hm⟩ : ∃ mn, mn = manyN b.length := ⟨_, rfl⟩
    rw [← hm] at e5 hmn
    have HM := Lib.hid hm
    clear hm
    go_wp2_with fail
    clear e3 e4 e5 hl
    have HV3 : Hid (SlB W3 (.slice A b.length c) b) := HV.out.fr0 F3.out HNV.out
    have S0 : Hid (RsSt W3 s b 0 (.slice none 0 0) W3) := ⟨⟨[], World.ownsRow_nil _ _ _ _, by simpa [rgrams] using Grams.nil⟩, Below.refl _ _⟩
    go_loopg [9, 10] mn (fun gg s9 s10 wr => ∃ k : Nat, k + gg = mn ∧ s10 = .int .i64 (k : Int) ∧ RsSt W3 s b k s9 wr)
    case atStart => exact ⟨0, by omega, rfl, S0.out⟩
    case round =>
      obtain ⟨k, hk, rfl, S⟩ := hrel
      have HSt := Lib.hid S
      clear S S0
      cases gk with
      | zero =>
        obtain rfl : k = mn := by omega
        have hd : decide (k < k) = false := by simp
        go_wp2_with fail
        go_ret3
        obtain ⟨xs, hrow, hgr⟩ := HSt.out.row
        refine .inr ⟨hshort, u9, xs, v3, by rw [← HX0.out]; rfl, ?_, ?_, R3.out.below HSt.out.below, F3.out.trans (Fr.of_below (S := fun _ => False) HSt.out.below) (fun _ _ e => e.elim)⟩
        · rw [← HM.out]; exact row_lower hrow hz3'
        · rw [← HM.out]; exact hgr.lower hz3'
      | succ gk =>
        have hd : decide (k < mn) = true := by rw [decide_eq_true_eq]; omega
        have RW := Lib.hid (R3.out.below HSt.out.below)
        have HHd := Lib.hid (rhead_c RW.out (rsend_ok HS.out) hnt)
        have HE : Hid (s.sendS.head = s.head) := rfl
        rw [HE.out] at HHd
        go_wp2_with fail
        refine HHd.out.mono ?_
        rintro e w4 ⟨vd, rfl, hod, hbd⟩
        have hhl : s.head.length = 7 := by
          unfold RS.head; split
          · rfl
          · exact rhTo_len _ _ _
        have HOd := Lib.hid hod
        have HBd := Lib.hid hbd
        have hS4 : Hid (SlB (w4.alloc (.cells #[.int .u8 ((nx : Int) / 256), .int .u8 ((nx : Int) % 256), .int .u8 (k : Int), .int .u8 (mn : Int)] 5)) (.slice (some ⟨w4.heap.size, 0, none⟩) 4 4) [nx / 256, nx % 256, k, mn]) := (own_new w4 [nx / 256, nx % 256, k, mn] (by simp)).sl
        have hk10 : (k : Int) < 10 := by omega
        have HO5 : Hid (OwnB (w4.alloc (.cells #[.int .u8 ((nx : Int) / 256), .int .u8 ((nx : Int) % 256), .int .u8 (k : Int), .int .u8 (mn : Int)] 5)) wr.heap.size vd s.head) := HOd.out.below (lbel1 _ _)
        have HB5 : Hid (Below wr.heap.size wr (w4.alloc (.cells #[.int .u8 ((nx : Int) / 256), .int .u8 ((nx : Int) % 256), .int .u8 (k : Int), .int .u8 (mn : Int)] 5))) := below_trans HBd.out (lbel1 _ _)
        clear hod hbd HHd
        go_wp2_with (at_builtin; refine wpList_bytes rfl (.tmp 57) (.tmp 68) rfl wr.heap.size _ _ s.head [nx / 256, nx % 256, k, mn] rfl HO5.out rfl hS4.out (by rw [hhl]; simp) HB5.out.size ?_)
        intro v6 w6 ho6 hg6
        have HB6 := Lib.hid (grown_below HB5.out HB5.out.size HO5.out hg6)
        have HO6 := Lib.hid ho6
        clear ho6 hg6 hS4 HO5 HB5 HOd HBd
        obtain ⟨hi', hhi⟩ : ∃ hi', hi' = min b.length ((k + 1) * 200) := ⟨_, rfl⟩
        have hlo : k * 200 ≤ hi' := by
          have : k < manyN b.length := by rw [← HM.out]; omega
          unfold manyN at this
          omega
        have hhl' : hi' ≤ b.length := by omega
        obtain ⟨B, dd, hcut, hsl⟩ := HV3.out.mid (k * 200) hi' ((k : Int) * 200) (hi' : Int) (by push_cast; rfl) rfl hlo hhl'
        have hbytes : (b.drop (k * 200)).take (hi' - k * 200) = cutN b k := by
          unfold cutN
          rw [Nat.mul_comm k 200]
          have e : hi' - 200 * k = min 200 (b.drop (200 * k)).length := by rw [List.length_drop]; omega
          rw [e]
          rcases Nat.le_total 200 (b.drop (200 * k)).length with h | h
          · rw [Nat.min_eq_left h]
          · rw [Nat.min_eq_right h, List.take_of_length_le (Nat.le_refl _), List.take_of_length_le h]
        rw [hbytes] at hsl
        have e1 : (if ((k : Int) + 1) * 200 < (b.length : Int) then ((k : Int) + 1) * 200 else (b.length : Int)) = (hi' : Int) := by
          rw [hhi]; split <;> omega
        have HSl : Hid (SlB w6 (.slice B (hi' - k * 200) dd) (cutN b k)) := hsl.below (below_trans HSt.out.below HB6.out)
        have hcl : (cutN b k).length ≤ 200 := by unfold cutN; rw [List.length_take]; omega
        clear hsl hbytes hhi hlo
        go_wp2_with (at_builtin; refine wpList_bytes rfl (.tmp 70) (.tmp 80) rfl wr.heap.size _ _ (s.head ++ [nx / 256, nx % 256, k, mn]) (cutN b k) rfl HO6.out rfl HSl.out (by rw [List.length_append, hhl]; simp; omega) HB6.out.size ?_)
        intro v7 w7 ho7 hg7
        have HB7 := Lib.hid (grown_below HB6.out HB6.out.size HO6.out hg7)
        have HG : Hid (s.head ++ [nx / 256, nx % 256, k, mn] ++ cutN b k = s.head ++ [s.next / 256, s.next % 256, k, manyN b.length] ++ cutN b k) := by show _ = _; rw [HM.out, HX0.out]
        have ho7 : OwnB w7 wr.heap.size v7 (s.head ++ [s.next / 256, s.next % 256, k, manyN b.length] ++ cutN b k) := by rw [← HG.out]; simpa using ho7
        have hby7 : ∀ x ∈ s.head ++ [s.next / 256, s.next % 256, k, manyN b.length] ++ cutN b k, x < 256 := fun x hx => by
          rcases List.mem_append.1 hx with hx | hx
          · rcases List.mem_append.1 hx with hx | hx
            · exact rhead_lt HS.out x hx
            · have := HM.out
              have := HS.out.next
              simp only [List.mem_cons, List.not_mem_nil, or_false] at hx
              omega
          · exact HBy.out x (List.mem_of_mem_drop (List.mem_of_mem_take hx))
        have HFm := Lib.hid (rframe_c v7 _ w7 ho7.sl (by rw [List.length_append, List.length_append, hhl]; simp; omega) hby7)
        have HRg : Hid (frame (s.head ++ [s.next / 256, s.next % 256, k, manyN b.length] ++ cutN b k) = rgram s b k) := rfl
        rw [HRg.out] at HFm
        clear ho7 hg7 HO6 HB6 HSl hcut e1 hby7
        go_wp2_with fail
        refine HFm.out.mono ?_
        rintro e w8 ⟨v8, rfl, ho8, hb8⟩
        have HB8 := Lib.hid (below_trans HB7.out hb8)
        obtain ⟨xs, hrow, hgr⟩ := HSt.out.row
        have HO8 := Lib.hid (ownsRow_fr (S := fun _ => False) hrow (Fr.of_below HB8.out) (fun _ _ h => h))
        have HG8 := Lib.hid (hgr.fr (S := fun _ => False) (Fr.of_below HB8.out) (fun _ _ _ _ h => h))
        have HP8 : Hid (PSl w8 (fun q => W3.heap.size ≤ q) v8 (rgram s b k)) := (ho8.lower (Nat.le_trans HSt.out.below.size HB7.out.size)).psl
        have HBB := Lib.hid (below_trans HSt.out.below HB8.out)
        obtain ⟨A8, c8, rfl⟩ := own_slice ho8
        clear hrow hgr ho8 hb8 HB7 HB8 HFm HSt
        have e5 := rgrams_succ s b k
        obtain ⟨p0, hp, hx0, hx1, hx2⟩ := info_parts info36
        go_wp2_with (at_builtin; refine wpList_append_own_at _ rfl (.tmp 82) (.tmp 85) 29 rfl W3.heap.size 36 p0 (.slice none 0 0) 1 24 Tryd.underlying29 hp hx0 hx1 hx2 rfl (by decide) _ _ _ rfl (HO8.out.alloc _) ⟨w8.heap.size, 0, none⟩ 1 1 [.slice A8 (rgram s b k).length c8] rfl rfl (cell_one_at _ _ _ _ (by simp)) ?c2 ?c3 ?c4 ?c5 ?_)
        case c2 => intro u hu; simp at hu; subst hu; rfl
        case c3 => unfold maxLen; omega
        case c4 => omega
        case c5 => have := HBB.out.size; simp; omega
        intro v9 w9 hown9 hgr9 _ _
        have hfr9 : Fr (fun q => u9.ownBlock = some q) w8 w9 := (Fr.alloc (S := fun q => u9.ownBlock = some q) w8 _).trans (Fr.of_grown hgr9 fun _ _ he => he) (fun _ _ h => h)
        have S9 : Hid (RsSt W3 s b (k + 1) v9 w9) := by
          refine ⟨⟨xs ++ [.slice A8 (rgram s b k).length c8], hown9, ?_⟩, ?_⟩
          · rw [e5]
            exact (HG8.out.fr hfr9 (fun q cs _ hq => own_ne_blk HO8.out hq (by decide))).add (HP8.out.fr hfr9 (fun q cs _ hq => own_ne_blk HO8.out hq (by decide)))
          · exact below_kept HBB.out HBB.out.size hgr9 (fun q hq => (HO8.out.lt q hq).1)
        clear hown9 hgr9 hfr9 HO8 HG8 HP8 HBB e5
        go_wp2_with fail
        go_roundg gk
        case measure => omega
        case rel => exact ⟨k + 1, by omega, by go_num, S9.out⟩

/- The reference's parts in memory. -/
theorem tail_at (s : RS) (v : RV) (hb : s.bits.length = 32) (j : Nat) : (refC s v)[36 + j]? = [.bool s.waits, .int .i64 (s.n : Int), v.p, v.e][j]? := by
  have h1 : (s.bits.map Value.bool ++ [.bool s.waits, .int .i64 (s.n : Int), v.p, v.e])[32 + j]? = [.bool s.waits, .int .i64 (s.n : Int), v.p, v.e][j]? := by
    rw [List.getElem?_append_right (by simp; omega)]
    congr 1
    simp; omega
  have e : 36 + j = 32 + j + 1 + 1 + 1 + 1 := by omega
  unfold refC
  rw [List.getElem?_toArray, e]
  simpa using h1
theorem tail_set (a b c d : Value) (l : List Bool) (t : List Value) (hb : l.length = 32) (j : Nat) (x : Value) :
    ((a :: b :: c :: d :: (l.map Value.bool ++ t)).toArray).setIfInBounds (36 + j) x = (a :: b :: c :: d :: (l.map Value.bool ++ t.set j x)).toArray := by
  have e : 36 + j = 32 + j + 1 + 1 + 1 + 1 := by omega
  rw [e, List.setIfInBounds_toArray]
  simp only [List.set_cons_succ]
  congr 5
  rw [List.set_append_right _ _ (by simp; omega)]
  congr 2
  simp; omega

section
variable {w : World} {g : Nat} {V : Nat → Prop} {v : RV} {s : RS}
theorem RefAt.tail (h : RefAt w g V v s) (hb : s.bits.length = 32) : w.cell? ⟨g, 36, none⟩ = some (.bool s.waits) ∧ w.cell? ⟨g, 37, none⟩ = some (.int .i64 (s.n : Int)) ∧ w.cell? ⟨g, 38, none⟩ = some v.p ∧ w.cell? ⟨g, 39, none⟩ = some v.e :=
  ⟨(h.blk.cell 36).trans (tail_at s v hb 0), (h.blk.cell 37).trans (tail_at s v hb 1), (h.blk.cell 38).trans (tail_at s v hb 2), (h.blk.cell 39).trans (tail_at s v hb 3)⟩

/-- Whatever of block g's tail is others: what does not hang on it stays. -/
theorem RefAt.rest {w' : World} {s' : RS} {v' : RV} (h : RefAt w g V v s) (hf : Fr (fun i => i = g) w w') (hblk : Blk w' g 70 (refC s' v')) (e1 : s'.sent = s.sent) (e2 : s'.heard = s.heard) (e3 : s'.told = s.told) (f1 : v'.s = v.s) (f2 : v'.h = v.h) (f3 : v'.t = v.t)
    (hvp : s'.waits = true → ∃ kp ke, v'.p = .slice (some ⟨kp, 0, none⟩) s'.parts.length s'.parts.length ∧ v'.e = .slice (some ⟨ke, 0, none⟩) s'.parts.length s'.parts.length ∧ Blk w' kp 9 (s'.parts.map fun p => Value.string (strOf p)).toArray ∧ Blk w' ke 4 (RBools s'.there).toArray ∧ V kp ∧ V ke ∧ v'.h.ownBlock ≠ some ke) : RefAt w' g V v' s' := by
  refine ⟨hblk, ?_, ?_, ?_, ?_, ?_, ?_, ?_, hvp⟩
  · rw [e1, f1]; exact ownsRow_fr h.sent hf (fun k e e2 => own_ne_blk h.sent h.blk (by decide) (e2 ▸ e))
  · rw [e2, f2]; exact ownsRow_fr h.heard hf (fun k e e2 => own_ne_blk h.heard h.blk (by decide) (e2 ▸ e))
  · rw [e3, f3]; exact ownsRow_fr h.told hf (fun k e e2 => own_ne_blk h.told h.blk (by decide) (e2 ▸ e))
  · rw [f1, f3]; exact h.st
  · rw [f1]; exact h.vs
  · rw [f2]; exact h.vh
  · rw [f3]; exact h.vt

/-- Nothing waits any more. -/
theorem RefAt.off (h : RefAt w g V v s) (hb : s.bits.length = 32) : RefAt (w.setCell ⟨g, 36, none⟩ (.bool false)) g V v { s with waits := false } ∧ Fr (fun i => i = g) w (w.setCell ⟨g, 36, none⟩ (.bool false)) := by
  have hf : Fr (fun i => i = g) w (w.setCell ⟨g, 36, none⟩ (.bool false)) := Fr.set (S := fun i => i = g) w rfl _
  refine ⟨h.rest hf ?_ rfl rfl rfl rfl rfl rfl (fun e => by cases e), hf⟩
  have := h.blk.set_ 36 (.bool false)
  have e := tail_set (.int .i64 (s.next : Int)) v.s v.h v.t s.bits [.bool s.waits, .int .i64 (s.n : Int), v.p, v.e] hb 0 (.bool false)
  unfold refC at this
  rw [e] at this
  exact this

def strs0 (n : Nat) : List Value := ((List.replicate n ([] : List Nat)).map fun p => Value.string (strOf p))
/-- The world once a message's parts are laid out. -/
def beganW (w : World) (g nu ct : Nat) : World :=
  ((((((w.setCell ⟨g, 36, none⟩ (.bool true)).setCell ⟨g, 37, none⟩ (.int .i64 (nu : Int))).setCell ⟨g, 38, none⟩ (.slice (some ⟨w.heap.size, 0, none⟩) ct ct)).setCell ⟨g, 39, none⟩ (.slice (some ⟨w.heap.size + 1, 0, none⟩) ct ct)).alloc (.cells (strs0 ct).toArray 9)).alloc (.cells (RBools (List.replicate ct false)).toArray 4))
theorem RefAt.began (h : RefAt w g V v s) (hb : s.bits.length = 32) (d : DG) :
    RefAt (beganW w g d.nu d.ct) g (fun k => V k ∨ w.heap.size ≤ k) { v with p := .slice (some ⟨w.heap.size, 0, none⟩) d.ct d.ct, e := .slice (some ⟨w.heap.size + 1, 0, none⟩) d.ct d.ct } (s.fresh d) ∧ Fr (fun i => i = g) w (beganW w g d.nu d.ct) := by
  unfold beganW
  have t := fun tl j x => tail_set (.int .i64 (s.next : Int)) v.s v.h v.t s.bits tl hb j x
  have h1 := (((h.blk.set_ 36 (.bool true)).set_ 37 (.int .i64 (d.nu : Int))).set_ 38 (.slice (some ⟨w.heap.size, 0, none⟩) d.ct d.ct)).set_ 39 (.slice (some ⟨w.heap.size + 1, 0, none⟩) d.ct d.ct)
  have f1 : Fr (fun i => i = g) w ((((w.setCell ⟨g, 36, none⟩ (.bool true)).setCell ⟨g, 37, none⟩ (.int .i64 (d.nu : Int))).setCell ⟨g, 38, none⟩ (.slice (some ⟨w.heap.size, 0, none⟩) d.ct d.ct)).setCell ⟨g, 39, none⟩ (.slice (some ⟨w.heap.size + 1, 0, none⟩) d.ct d.ct)) :=
    (((Fr.set (S := fun i => i = g) w (p := ⟨g, 36, none⟩) rfl _).trans (Fr.set (S := fun i => i = g) _ (p := ⟨g, 37, none⟩) rfl _) (fun _ _ h => h)).trans (Fr.set (S := fun i => i = g) _ (p := ⟨g, 38, none⟩) rfl _) (fun _ _ h => h)).trans (Fr.set (S := fun i => i = g) _ (p := ⟨g, 39, none⟩) rfl _) (fun _ _ h => h)
  have z1 : ((((w.setCell ⟨g, 36, none⟩ (.bool true)).setCell ⟨g, 37, none⟩ (.int .i64 (d.nu : Int))).setCell ⟨g, 38, none⟩ (.slice (some ⟨w.heap.size, 0, none⟩) d.ct d.ct)).setCell ⟨g, 39, none⟩ (.slice (some ⟨w.heap.size + 1, 0, none⟩) d.ct d.ct)).heap.size = w.heap.size := by simp
  generalize (((w.setCell ⟨g, 36, none⟩ (.bool true)).setCell ⟨g, 37, none⟩ (.int .i64 (d.nu : Int))).setCell ⟨g, 38, none⟩ (.slice (some ⟨w.heap.size, 0, none⟩) d.ct d.ct)).setCell ⟨g, 39, none⟩ (.slice (some ⟨w.heap.size + 1, 0, none⟩) d.ct d.ct) = w1 at h1 f1 z1 ⊢
  have h4 := (h1.alloc (.cells (strs0 d.ct).toArray 9)).alloc (.cells (RBools (List.replicate d.ct false)).toArray 4)
  have n2 : Blk (w1.alloc (.cells (strs0 d.ct).toArray 9)) w.heap.size 9 (strs0 d.ct).toArray := by rw [← z1]; exact Blk.new w1 9 _
  have n4 := n2.alloc (.cells (RBools (List.replicate d.ct false)).toArray 4)
  have z2 : (w1.alloc (.cells (strs0 d.ct).toArray 9)).heap.size = w.heap.size + 1 := by simp [z1]
  have m5 : Blk ((w1.alloc (.cells (strs0 d.ct).toArray 9)).alloc (.cells (RBools (List.replicate d.ct false)).toArray 4)) (w.heap.size + 1) 4 (RBools (List.replicate d.ct false)).toArray := by rw [← z2]; exact Blk.new _ 4 _
  have f4 := (f1.trans (Fr.alloc (S := fun i => i = g) w1 (.cells (strs0 d.ct).toArray 9)) (fun _ _ h => h)).trans (Fr.alloc (S := fun i => i = g) _ (.cells (RBools (List.replicate d.ct false)).toArray 4)) (fun _ _ h => h)
  refine ⟨(h.wide (V' := fun k => V k ∨ w.heap.size ≤ k) (fun _ => .inl)).rest f4 ?_ rfl rfl rfl rfl rfl rfl (fun _ => ⟨w.heap.size, w.heap.size + 1, ?_, ?_, n4, ?_, .inr (Nat.le_refl _), .inr (by omega), fun e => ?_⟩), f4⟩
  · unfold refC at h4
    have e0 := t [.bool s.waits, .int .i64 (s.n : Int), v.p, v.e] 0 (.bool true)
    have e1 := t [.bool true, .int .i64 (s.n : Int), v.p, v.e] 1 (.int .i64 (d.nu : Int))
    have e2 := t [.bool true, .int .i64 (d.nu : Int), v.p, v.e] 2 (.slice (some ⟨w.heap.size, 0, none⟩) d.ct d.ct)
    have e3 := t [.bool true, .int .i64 (d.nu : Int), .slice (some ⟨w.heap.size, 0, none⟩) d.ct d.ct, v.e] 3 (.slice (some ⟨w.heap.size + 1, 0, none⟩) d.ct d.ct)
    simp only [Nat.add_zero, Nat.reduceAdd, List.set_cons_zero, List.set_cons_succ] at e0 e1 e2 e3
    rw [e0, e1, e2, e3] at h4
    exact h4
  · show _ = Value.slice _ (List.replicate d.ct []).length (List.replicate d.ct []).length
    rw [List.length_replicate]
  · show _ = Value.slice _ (List.replicate d.ct []).length (List.replicate d.ct []).length
    rw [List.length_replicate]
  · exact m5
  · have := (h.heard.lt _ e).2
    omega

/-- A part is put. -/
theorem RefAt.set_part (h : RefAt w g V v s) (hw : s.waits = true) {kp : Nat} (hv : v.p = .slice (some ⟨kp, 0, none⟩) s.parts.length s.parts.length) (i : Nat) (bs : List Nat) :
    RefAt (w.setCell ⟨kp, i, none⟩ (.string (strOf bs))) g V v { s with parts := s.parts.set i bs } ∧ Fr (fun q => q = kp) w (w.setCell ⟨kp, i, none⟩ (.string (strOf bs))) := by
  have hf : Fr (fun q => q = kp) w (w.setCell ⟨kp, i, none⟩ (.string (strOf bs))) := Fr.set (S := fun q => q = kp) w rfl _
  obtain ⟨kp', ke, a, b, c, d, e, f, q⟩ := h.vp hw
  have ek : kp' = kp := by
    have := a.symm.trans hv
    injection this with q1
    injection q1 with q1
    injection q1
  subst ek
  refine ⟨⟨h.blk.fr hf (fun e => c.ne_ h.blk (by decide) e.symm), ownsRow_fr h.sent hf (fun k e1 e2 => own_ne_blk h.sent c (by decide) (e2 ▸ e1)), ownsRow_fr h.heard hf (fun k e1 e2 => own_ne_blk h.heard c (by decide) (e2 ▸ e1)), ownsRow_fr h.told hf (fun k e1 e2 => own_ne_blk h.told c (by decide) (e2 ▸ e1)), h.st, h.vs, h.vh, h.vt, fun _ => ⟨kp', ke, ?_, ?_, ?_, d.fr hf (fun e => d.ne_ c (by decide) e), e, f, q⟩⟩, hf⟩
  · show v.p = .slice _ (s.parts.set i bs).length (s.parts.set i bs).length
    rw [List.length_set]; exact a
  · show v.e = .slice _ (s.parts.set i bs).length (s.parts.set i bs).length
    rw [List.length_set]; exact b
  · have := c.set_ i (.string (strOf bs))
    have e2 : ((s.parts.map fun p => Value.string (strOf p)).toArray).setIfInBounds i (.string (strOf bs)) = ((s.parts.set i bs).map fun p => Value.string (strOf p)).toArray := by simp [List.map_set]
    rw [e2] at this
    exact this
theorem RefAt.set_there (h : RefAt w g V v s) (hw : s.waits = true) {ke : Nat} (hv : v.e = .slice (some ⟨ke, 0, none⟩) s.parts.length s.parts.length) (i : Nat) :
    RefAt (w.setCell ⟨ke, i, none⟩ (.bool true)) g V v { s with there := s.there.set i true } ∧ Fr (fun q => q = ke) w (w.setCell ⟨ke, i, none⟩ (.bool true)) := by
  have hf : Fr (fun q => q = ke) w (w.setCell ⟨ke, i, none⟩ (.bool true)) := Fr.set (S := fun q => q = ke) w rfl _
  obtain ⟨kp, ke', a, b, c, d, e, f, q⟩ := h.vp hw
  have ek : ke' = ke := by
    have := b.symm.trans hv
    injection this with q1
    injection q1 with q1
    injection q1
  subst ek
  refine ⟨⟨h.blk.fr hf (fun e => d.ne_ h.blk (by decide) e.symm), ownsRow_fr h.sent hf (fun k e1 e2 => own_ne_blk h.sent d (by decide) (e2 ▸ e1)), ownsRow_fr h.heard hf (fun k e1 e2 => q (e2 ▸ e1)), ownsRow_fr h.told hf (fun k e1 e2 => own_ne_blk h.told d (by decide) (e2 ▸ e1)), h.st, h.vs, h.vh, h.vt, fun _ => ⟨kp, ke', a, b, c.fr hf (fun e => c.ne_ d (by decide) e), ?_, e, f, q⟩⟩, hf⟩
  have := d.set_ i (.bool true)
  have e2 : ((RBools s.there).toArray).setIfInBounds i (.bool true) = (RBools (s.there.set i true)).toArray := by simp [RBools, List.map_set]
  rw [e2] at this
  exact this
end

/-- 'b[lo:]'. -/
theorem SlB.tail {w : World} {A : Option Addr} {n c : Nat} {bs : List Nat} (h : SlB w (.slice A n c) bs) (lo : Nat) (x : Int) (hx : x = (lo : Int)) (h1 : lo ≤ n) :
    ∃ B d, (∀ w', (Instr.sliceAt 36 (.slice A n c) (some (.int .i64 x)) none none).run Tryd.prog w' = .ok (.slice B (n - lo) d) w') ∧ SlB w (.slice B (n - lo) d) (bs.drop lo) := by
  obtain ⟨A', c', e, ha, hb, hc⟩ := h
  injection e with e1 e2 e3
  subst e1 e2 e3
  refine ⟨_, _, fun w' => ?_, SlB.drop (k := lo) (⟨A, c, rfl, ha, hb, hc⟩ : SlB w (.slice A bs.length c) bs) (by omega) (bs.length - lo) rfl⟩
  subst hx
  rw [run_sliceAt_slice w' 36 _ _ _ _ (by rw [elem22]; exact Tryd.underlying36), run_slice_l w' 36 A bs.length c (by rw [elem22]; exact Tryd.underlying36) .i64 (lo : Int) (by omega) (by omega), elem22, size_u8]
  simp [Result.andThen, sliced]

theorem rnote_c {g n : Nat} {V : Nat → Prop} {v : RV} {s : RS} {w : World} (h : RefAt w g V v s) (hs : s.ok) (hn : s.told.length < 8796093022208) (hnl : n < 65536) (hj : s.told ≠ [] → 1 ≤ aheadN n s.last) :
    Calls Tryd.prog 41 #[.pointer (some ⟨g, 0, none⟩), .int .i64 (n : Int)] w (NoteTo w g V v (s.note n)) := by
  by_cases ht : s.told = []
  · exact rnote0_c h ht
  · exact rnote1_c h hs hn hnl ht (hj ht)

theorem mk68 (n : Nat) (hn : n ≤ 10) (w : World) : (Instr.makeSlice 68 (.int .i64 (n : Int)) (.int .i64 (n : Int))).run Tryd.prog w = .ok (.slice (some ⟨w.heap.size, 0, none⟩) n n) (w.alloc (.cells (strs0 n).toArray 9)) := by
  obtain ⟨i, hi, hz, hs, hb⟩ := info_parts (show (Tryd.prog.info? 9).map (fun i => (i.zero, i.size, i.bytes)) = some (some (.string ByteArray.empty), 1, 16) by kernel_rfl)
  have h := run_make (P := Tryd.prog) w 68 9 i (.string ByteArray.empty) Tryd.underlying68 hi hz .i64 .i64 (n : Int) (n : Int) (by omega) (by omega) (by rw [hb]; omega) (by omega)
  rw [hs, Nat.mul_one] at h
  rw [h]
  have e : madeCells (Value.string ByteArray.empty).cells (Int.toNat (n : Int)) = (strs0 n).toArray := by
    apply Array.toList_inj.1
    refine (toList_madeCells_one _ _).trans ?_
    unfold strs0
    simp
    exact .inr rfl
  rw [e]
  rfl
theorem mk66 (n : Nat) (hn : n ≤ 10) (w : World) : (Instr.makeSlice 66 (.int .i64 (n : Int)) (.int .i64 (n : Int))).run Tryd.prog w = .ok (.slice (some ⟨w.heap.size, 0, none⟩) n n) (w.alloc (.cells (RBools (List.replicate n false)).toArray 4)) := by
  obtain ⟨i, hi, hz, hs, hb⟩ := info_parts (show (Tryd.prog.info? 4).map (fun i => (i.zero, i.size, i.bytes)) = some (some (.bool false), 1, 1) by kernel_rfl)
  have h := run_make (P := Tryd.prog) w 66 4 i (.bool false) Tryd.underlying66 hi hz .i64 .i64 (n : Int) (n : Int) (by omega) (by omega) (by rw [hb]; omega) (by omega)
  rw [hs, Nat.mul_one] at h
  rw [h]
  have e : madeCells (Value.bool false).cells (Int.toNat (n : Int)) = (RBools (List.replicate n false)).toArray := by
    apply Array.toList_inj.1
    refine (toList_madeCells_one _ _).trans ?_
    simp [RBools]
  rw [e]
  rfl

end Go.Proofs.YtmlbhlfjaagcaaaDoor

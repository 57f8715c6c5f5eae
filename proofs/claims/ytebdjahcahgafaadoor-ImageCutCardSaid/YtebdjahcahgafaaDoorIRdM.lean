/- The document's own reader of images: natural, num, many. The document's own reader of functions. -/
import Derived.Test.YtebdjahcahgafaaDoorIPage
import Derived.Test.YtebdjahcahgafaaDoorRefRM
import Derived.Deep.QuietTactic
import Derived.BigQuiet
import Derived.Deep.DeepCutAuto
namespace Go.Proofs.YtebdjahcahgafaaDoor
open Go.RowKit

/-! ### Plain: how far a reader has come -/
/-- From the state s (none: something was wrong) p gives x and the state s'; what it gives where something is wrong does not matter. -/
def Got {α : Type} (p : Prs α) (s : Option (List Nat)) (x : α) (s' : Option (List Nat)) : Prop :=
  match s.bind p with
  | none => s' = none
  | some q => s' = some q.2 ∧ x = q.1
theorem Got.gone {α : Type} {p : Prs α} {x : α} : Got p none x none := rfl
theorem Got.bad {α : Type} {p : Prs α} {l : List Nat} {x : α} (h : p l = none) : Got p (some l) x none := by unfold Got; rw [Option.bind_some, h]
theorem Got.good {α : Type} {p : Prs α} {l r : List Nat} {x : α} (h : p l = some (x, r)) : Got p (some l) x (some r) := by unfold Got; rw [Option.bind_some, h]; exact ⟨rfl, rfl⟩
theorem Got.of_some {α : Type} {p : Prs α} {s : Option (List Nat)} {x : α} {r : List Nat} (h : Got p s x (some r)) : ∃ l, s = some l ∧ p l = some (x, r) := by
  cases s with
  | none => cases h
  | some l =>
    refine ⟨l, rfl, ?_⟩
    unfold Got at h
    rw [Option.bind_some] at h
    cases hp : p l with
    | none => rw [hp] at h; cases h
    | some q =>
      rw [hp] at h
      obtain ⟨h1, h2⟩ := h
      injection h1 with h1
      rw [h1, h2]
theorem Got.of_none {α : Type} {p : Prs α} {l : List Nat} {x : α} (h : Got p (some l) x none) : p l = none := by
  unfold Got at h
  rw [Option.bind_some] at h
  cases hp : p l with
  | none => rfl
  | some q => rw [hp] at h; cases h.1
theorem Got.from_none {α : Type} {p : Prs α} {s : Option (List Nat)} {x : α} (h : Got p none x s) : s = none := h

theorem pRep_last {α : Type} (p : Prs α) : ∀ (i : Nat) (l : List Nat), pRep p (i + 1) l = (pRep p i l).bind fun q => (p q.2).bind fun t => some (q.1 ++ [t.1], t.2)
  | 0, l => by simp [pRep]
  | i + 1, l => by
    rw [pRep]
    cases hp : p l with
    | none => simp [pRep, hp]
    | some q =>
      obtain ⟨x, r⟩ := q
      simp only [Option.bind_some]
      rw [pRep_last p i r]
      simp only [pRep, hp, Option.bind_some]
      cases pRep p i r with
      | none => rfl
      | some q2 =>
        simp only [Option.bind_some]
        cases p q2.2 with
        | none => rfl
        | some t => simp
theorem pRep_none {α : Type} {p : Prs α} {i n : Nat} {l : List Nat} (h : pRep p i l = none) (hn : i ≤ n) : pRep p n l = none := by
  induction n with
  | zero => obtain rfl : i = 0 := by omega
            exact h
  | succ n ih =>
    by_cases e : i = n + 1
    · subst e; exact h
    · rw [pRep_last, ih (by omega)]; rfl
theorem got_zero {α : Type} {p : Prs α} {s : Option (List Nat)} : Got (pRep p 0) s [] s := by
  cases s with
  | none => rfl
  | some l => exact Got.good rfl
theorem got_step {α : Type} {p : Prs α} {s s2 : Option (List Nat)} {l : List Nat} {i : Nat} {xs : List α} {x : α} (h : Got (pRep p i) s xs (some l)) (k : Got p (some l) x s2) : Got (pRep p (i + 1)) s (xs ++ [x]) s2 := by
  obtain ⟨l0, rfl, h0⟩ := h.of_some
  cases s2 with
  | none =>
    refine Got.bad ?_
    rw [pRep_last, h0]
    simp only [Option.bind_some]
    rw [k.of_none]; rfl
  | some r =>
    obtain ⟨l1, e, h1⟩ := k.of_some
    injection e with e
    subst e
    refine Got.good ?_
    rw [pRep_last, h0]
    simp only [Option.bind_some, h1]
theorem got_list {α : Type} {p : Prs α} {most : Nat} {s s0 s1 : Option (List Nat)} {n : Int} {i : Nat} {xs : List α} (h : Got (pMany most) s n s0) (k : Got (pRep p i) s0 xs s1) (hi : s1 = none ∧ (i : Int) ≤ n ∨ (i : Int) = n) : Got (pList most p) s xs s1 := by
  cases s with
  | none =>
    obtain rfl : s0 = none := h
    exact k
  | some l =>
    cases s0 with
    | none =>
      obtain rfl : s1 = none := k
      refine Got.bad ?_
      unfold pList
      rw [h.of_none]; rfl
    | some l0 =>
      obtain ⟨l', e, h0⟩ := h.of_some
      injection e with e
      subst e
      have e2 : pList most p l = pRep p n.toNat l0 := by unfold pList; rw [h0]; rfl
      rcases hi with ⟨rfl, hi⟩ | hi
      · refine Got.bad ?_
        rw [e2]
        exact pRep_none k.of_none (by omega)
      · have e3 : n.toNat = i := by omega
        rw [e3] at e2
        unfold Got at k ⊢
        rw [Option.bind_some] at k ⊢
        rw [e2]
        exact k

theorem nat_ok {bs : List Nat} {k z p : Nat} (hk : k ≤ bs.length) (h : rdAns bs (k : Int) 9 = .ok (z, p)) : pNat (bs.drop k) = some ((z : Int), bs.drop p) := by
  unfold pNat
  cases hr : rd 9 0 0 (bs.drop k) with
  | error e => rw [rdAns_err hk hr] at h; cases h
  | ok q =>
    obtain ⟨z', c⟩ := q
    rw [rdAns_ok hk hr] at h
    injection h with h
    injection h with h1 h2
    subst h1 h2
    simp only [List.drop_drop]
theorem nat_err {bs : List Nat} {k e : Nat} (hk : k ≤ bs.length) (h : rdAns bs (k : Int) 9 = .error e) : pNat (bs.drop k) = none := by
  unfold pNat
  cases hr : rd 9 0 0 (bs.drop k) with
  | error e => rfl
  | ok q =>
    obtain ⟨z', c⟩ := q
    rw [rdAns_ok hk hr] at h
    cases h
theorem int_ok {bs : List Nat} {k z p : Nat} (hk : k ≤ bs.length) (h : rdAns bs (k : Int) 10 = .ok (z, p)) : pInt (bs.drop k) = some (uz z, bs.drop p) := by
  unfold pInt
  cases hr : rd 10 0 0 (bs.drop k) with
  | error e => rw [rdAns_err hk hr] at h; cases h
  | ok q =>
    obtain ⟨z', c⟩ := q
    rw [rdAns_ok hk hr] at h
    injection h with h
    injection h with h1 h2
    subst h1 h2
    simp only [List.drop_drop]
theorem int_err {bs : List Nat} {k e : Nat} (hk : k ≤ bs.length) (h : rdAns bs (k : Int) 10 = .error e) : pInt (bs.drop k) = none := by
  unfold pInt
  cases hr : rd 10 0 0 (bs.drop k) with
  | error e => rfl
  | ok q =>
    obtain ⟨z', c⟩ := q
    rw [rdAns_ok hk hr] at h
    cases h
theorem rdAns_ne {bs : List Nat} {at_ : Int} {most e : Nat} (hr : rdAns bs at_ most = .error e) : ((e : Int) != 0) = true := by
  have he : e = 20 ∨ e = 3 ∨ e = 1 := by
    unfold rdAns at hr
    split at hr
    · injection hr with hr; omega
    · split at hr
      · cases hr
      · rename_i e' hh
        injection hr with hr
        have := rd_errs _ _ _ _ _ hh
        omega
  rw [bne_iff_ne]; omega

/-! ### In memory -/
/-- Where the reader stands: st is what is left, none where something was wrong. -/
def Stand (bs : List Nat) (at_ : Int) (bad : Bool) (st : Option (List Nat)) : Prop :=
  kInt at_ ∧ (bad = true ∧ st = none ∨ bad = false ∧ ∃ k : Nat, at_ = (k : Int) ∧ k ≤ bs.length ∧ st = some (bs.drop k))
/-- A reader in block g of the bytes bs (the slice v). -/
structure RdSt (g : Nat) (v : Value) (bs : List Nat) (st : Option (List Nat)) (w : World) : Prop where
  ex : ∃ (at_ : Int) (bad : Bool), Blk w g 77 #[v, .int .i64 at_, .bool bad] ∧ Stand bs at_ bad st
  sl : SlB w v bs
  low : ∀ A n c, v = .slice (some A) n c → A.block < g

section
variable {g : Nat} {v : Value} {bs : List Nat} {st st' : Option (List Nat)} {w w' : World}
/-- Other blocks are written. -/
theorem RdSt.fr {S : Nat → Prop} (h : RdSt g v bs st w) (hf : Fr S w w') (hg : ¬ S g) (hv : ∀ A n c, v = .slice (some A) n c → ¬ S A.block) : RdSt g v bs st w' := by
  obtain ⟨a, b, h1, h2⟩ := h.ex
  exact ⟨⟨a, b, h1.fr hf hg, h2⟩, h.sl.fr hf hv, h.low⟩
theorem RdSt.below (h : RdSt g v bs st w) (hb : Below w.heap.size w w') : RdSt g v bs st w' := h.fr (S := fun _ => False) (Fr.of_below hb) (fun h => h) (fun _ _ _ _ h => h)
theorem RdSt.draw (h : RdSt g v bs st w) (n : Nat) : RdSt g v bs st (w.drewN n) := h.fr (S := fun _ => False) (Fr.drewN w n) (fun h => h) (fun _ _ _ _ h => h)
theorem rd_one (h : RdSt g v bs st w) {at_ at' : Int} {bad bad' : Bool} (hk : Blk w g 77 #[v, .int .i64 at_, .bool bad]) (hs : Stand bs at' bad' st') :
    RdSt g v bs st' ((w.setCell ⟨g, 2, none⟩ (.bool bad')).setCell ⟨g, 1, none⟩ (.int .i64 at')) ∧ Fr (fun i => i = g) w ((w.setCell ⟨g, 2, none⟩ (.bool bad')).setCell ⟨g, 1, none⟩ (.int .i64 at')) := by
  have f1 : Fr (fun i => i = g) w (w.setCell ⟨g, 2, none⟩ (.bool bad')) := Fr.set (S := fun i => i = g) w (p := ⟨g, 2, none⟩) rfl _
  have f2 : Fr (fun i => i = g) (w.setCell ⟨g, 2, none⟩ (.bool bad')) ((w.setCell ⟨g, 2, none⟩ (.bool bad')).setCell ⟨g, 1, none⟩ (.int .i64 at')) := Fr.set (S := fun i => i = g) _ (p := ⟨g, 1, none⟩) rfl _
  have f3 := f1.trans f2 (fun _ _ e => e)
  refine ⟨⟨⟨at', bad', ?_, hs⟩, h.sl.fr f3 (fun A n c e => Nat.ne_of_lt (h.low A n c e)), h.low⟩, f3⟩
  have := (hk.set_ 2 (.bool bad')).set_ 1 (.int .i64 at')
  simpa using this
theorem rd_bad (h : RdSt g v bs st w) {at_ : Int} {bad : Bool} (hk : Blk w g 77 #[v, .int .i64 at_, .bool bad]) (hs : kInt at_) :
    RdSt g v bs none (w.setCell ⟨g, 2, none⟩ (.bool true)) ∧ Fr (fun i => i = g) w (w.setCell ⟨g, 2, none⟩ (.bool true)) := by
  have f1 : Fr (fun i => i = g) w (w.setCell ⟨g, 2, none⟩ (.bool true)) := Fr.set (S := fun i => i = g) w (p := ⟨g, 2, none⟩) rfl _
  refine ⟨⟨⟨at_, true, ?_, hs, .inl ⟨rfl, rfl⟩⟩, h.sl.fr f1 (fun A n c e => Nat.ne_of_lt (h.low A n c e)), h.low⟩, f1⟩
  have := hk.set_ 2 (.bool true)
  simpa using this
end

/-- What a reading call answers: the number, the state. -/
def Read1 (p : Prs Int) (K : Int → Prop) (g : Nat) (v : Value) (bs : List Nat) (st : Option (List Nat)) (w : World) (e : Ending) (w' : World) : Prop :=
  ∃ (n : Int) (st' : Option (List Nat)), e = .returned (.int .i64 n) ∧ K n ∧ Got p st n st' ∧ RdSt g v bs st' w' ∧ Fr (fun i => i = g) w w'

set_option maxHeartbeats 1000000 in
set_option maxRecDepth 100000 in
theorem rrnat_c (g : Nat) (v : Value) (bs : List Nat) (st : Option (List Nat)) (w : World) (h : RdSt g v bs st w) (hn : bs.length ≤ 281474976710656) (hby : ∀ x ∈ bs, x < 256) :
    Calls Tryd.prog 37 #[.pointer (some ⟨g, 0, none⟩)] w (Read1 pNat kNat g v bs st w) := by
  obtain ⟨at_, bad, hk, hki, hst⟩ := h.ex
  have HH := Lib.hid h
  have HK := Lib.hid hk
  have k0 := hk.cell 0
  have k1 := hk.cell 1
  have k2 := hk.cell 2
  have hk0 : w.cell? ⟨g, 0, none⟩ = some v := k0
  have HBy := Lib.hid hby
  have HKI := Lib.hid hki
  rcases hst with ⟨rfl, rfl⟩ | ⟨rfl, k, rfl, hkl, rfl⟩
  · clear h hk k0 k1 hk0 hby hki hn
    go_enter Tryd.func37, Tryd.ntmps37
    go_wp2_with fail
    go_ret
    exact ⟨0, none, rfl, ⟨by omega, by omega⟩, Got.gone, HH.out, Fr.refl _ _⟩
  · have HC := Lib.hid (fun n => rreadnum_c v bs (k : Int) (w.drewN n) (h.sl.draw n) hn hki.1 hki.2 hby)
    clear h hk k0 hby hki
    cases hr : rdAns bs (k : Int) 9 with
    | error e =>
      have hne := rdAns_ne hr
      have HG := Lib.hid (nat_err hkl hr)
      rw [hr] at HC
      simp only [numVal] at HC
      clear hr
      go_enter Tryd.func37, Tryd.ntmps37
      go_wp2_with fail
      go_quiet ((go_at_call 62; exact Calls.quiet_of_same (HC.out _)))
      obtain ⟨R, F⟩ := rd_one (st' := none) (HH.out.draw nq) (at_ := (k : Int)) (at' := 0) (bad' := true) HK.out ⟨⟨by omega, by omega⟩, .inl ⟨rfl, rfl⟩⟩
      have HR := Lib.hid R
      have HF := Lib.hid ((Fr.drewN (S := fun i => i = g) w nq).trans F (fun _ _ e => e))
      have HKq : Blk (w.drewN nq) g 77 _ := HK.out
      clear R F k1 k2
      generalize w.drewN nq = wq at *
      have k1 := HKq.cell 1
      have k2 := HKq.cell 2
      have hf1 := HKq.frozen 1
      have hf2 := HKq.frozen 2
      clear HKq
      go_wp2_with fail
      go_ret
      exact ⟨0, none, rfl, ⟨by omega, by omega⟩, Got.bad HG.out, HR.out, HF.out⟩
    | ok q =>
      obtain ⟨z, p⟩ := q
      have hz := (rdAns_lt (by omega) hr).2 (by omega)
      have hpl := rdAns_end HBy.out hr
      have HG := Lib.hid (nat_ok hkl hr)
      rw [hr] at HC
      simp only [numVal] at HC
      clear hr
      have hKz : Hid (kNat ((z : Int))) := ⟨by omega, by omega⟩
      generalize hzz : ((z : Int)) = zz at *
      clear hz hzz
      go_enter Tryd.func37, Tryd.ntmps37
      go_wp2_with fail
      go_quiet ((go_at_call 62; exact Calls.quiet_of_same (HC.out _)))
      obtain ⟨R, F⟩ := rd_one (st' := some (bs.drop p)) (HH.out.draw nq) (at_ := (k : Int)) (at' := (p : Int)) (bad' := false) HK.out ⟨⟨by omega, by omega⟩, .inr ⟨rfl, p, rfl, hpl, rfl⟩⟩
      have HR := Lib.hid R
      have HF := Lib.hid ((Fr.drewN (S := fun i => i = g) w nq).trans F (fun _ _ e => e))
      have HKq : Blk (w.drewN nq) g 77 _ := HK.out
      clear R F k1 k2
      generalize w.drewN nq = wq at *
      have k1 := HKq.cell 1
      have k2 := HKq.cell 2
      have hf1 := HKq.frozen 1
      have hf2 := HKq.frozen 2
      clear HKq
      go_wp2_with fail
      go_ret
      exact ⟨zz, some (bs.drop p), rfl, hKz.out, Got.good HG.out, HR.out, HF.out⟩

set_option maxHeartbeats 1000000 in
set_option maxRecDepth 100000 in
theorem rrnum_c (g : Nat) (v : Value) (bs : List Nat) (st : Option (List Nat)) (w : World) (h : RdSt g v bs st w) (hn : bs.length ≤ 281474976710656) (hby : ∀ x ∈ bs, x < 256) :
    Calls Tryd.prog 38 #[.pointer (some ⟨g, 0, none⟩)] w (Read1 pInt kInt g v bs st w) := by
  obtain ⟨at_, bad, hk, hki, hst⟩ := h.ex
  have HH := Lib.hid h
  have HK := Lib.hid hk
  have k0 := hk.cell 0
  have k1 := hk.cell 1
  have k2 := hk.cell 2
  have hk0 : w.cell? ⟨g, 0, none⟩ = some v := k0
  have HBy := Lib.hid hby
  have HKI := Lib.hid hki
  rcases hst with ⟨rfl, rfl⟩ | ⟨rfl, k, rfl, hkl, rfl⟩
  · clear h hk k0 k1 hk0 hby hki hn
    go_enter Tryd.func38, Tryd.ntmps38
    go_wp2_with fail
    go_ret
    exact ⟨0, none, rfl, ⟨by omega, by omega⟩, Got.gone, HH.out, Fr.refl _ _⟩
  · have HC := Lib.hid (fun n => rreadint_c v bs (k : Int) (w.drewN n) (h.sl.draw n) hn hki.1 hki.2 hby)
    clear h hk k0 hby hki
    cases hr : rdAns bs (k : Int) 10 with
    | error e =>
      have hne := rdAns_ne hr
      have HG := Lib.hid (int_err hkl hr)
      rw [hr] at HC
      simp only [intVal] at HC
      clear hr
      go_enter Tryd.func38, Tryd.ntmps38
      go_wp2_with fail
      go_quiet ((go_at_call 63; exact Calls.quiet_of_same (HC.out _)))
      obtain ⟨R, F⟩ := rd_one (st' := none) (HH.out.draw nq) (at_ := (k : Int)) (at' := 0) (bad' := true) HK.out ⟨⟨by omega, by omega⟩, .inl ⟨rfl, rfl⟩⟩
      have HR := Lib.hid R
      have HF := Lib.hid ((Fr.drewN (S := fun i => i = g) w nq).trans F (fun _ _ e => e))
      have HKq : Blk (w.drewN nq) g 77 _ := HK.out
      clear R F k1 k2
      generalize w.drewN nq = wq at *
      have k1 := HKq.cell 1
      have k2 := HKq.cell 2
      have hf1 := HKq.frozen 1
      have hf2 := HKq.frozen 2
      clear HKq
      go_wp2_with fail
      go_ret
      exact ⟨0, none, rfl, ⟨by omega, by omega⟩, Got.bad HG.out, HR.out, HF.out⟩
    | ok q =>
      obtain ⟨z, p⟩ := q
      have hz := (rdAns_lt (by omega) hr).1
      have hpl := rdAns_end HBy.out hr
      have HG := Lib.hid (int_ok hkl hr)
      rw [hr] at HC
      simp only [intVal] at HC
      clear hr
      have hKz : Hid (kInt (uz z)) := by show kInt _; unfold kInt uz; split <;> omega
      generalize hzz : (uz z) = zz at *
      clear hz hzz
      go_enter Tryd.func38, Tryd.ntmps38
      go_wp2_with fail
      go_quiet ((go_at_call 63; exact Calls.quiet_of_same (HC.out _)))
      obtain ⟨R, F⟩ := rd_one (st' := some (bs.drop p)) (HH.out.draw nq) (at_ := (k : Int)) (at' := (p : Int)) (bad' := false) HK.out ⟨⟨by omega, by omega⟩, .inr ⟨rfl, p, rfl, hpl, rfl⟩⟩
      have HR := Lib.hid R
      have HF := Lib.hid ((Fr.drewN (S := fun i => i = g) w nq).trans F (fun _ _ e => e))
      have HKq : Blk (w.drewN nq) g 77 _ := HK.out
      clear R F k1 k2
      generalize w.drewN nq = wq at *
      have k1 := HKq.cell 1
      have k2 := HKq.cell 2
      have hf1 := HKq.frozen 1
      have hf2 := HKq.frozen 2
      clear HKq
      go_wp2_with fail
      go_ret
      exact ⟨zz, some (bs.drop p), rfl, hKz.out, Got.good HG.out, HR.out, HF.out⟩

theorem got_many {st st' : Option (List Nat)} {n : Int} {most : Nat} (h : Got pNat st n st') (hn : n ≤ (most : Int)) : Got (pMany most) st n st' := by
  cases st' with
  | none =>
    cases st with
    | none => exact Got.gone
    | some l =>
      refine Got.bad ?_
      unfold pMany
      rw [h.of_none]; rfl
  | some r =>
    obtain ⟨l, rfl, h1⟩ := h.of_some
    refine Got.good ?_
    unfold pMany
    rw [h1]
    simp only [Option.bind_some]
    rw [if_neg (by omega)]
theorem got_many_none {st : Option (List Nat)} {n x : Int} {most : Nat} (h : Got pNat st n none) : Got (pMany most) st x none := by
  cases st with
  | none => exact Got.gone
  | some l =>
    refine Got.bad ?_
    unfold pMany
    rw [h.of_none]; rfl
theorem got_many_more {st : Option (List Nat)} {r : List Nat} {n x : Int} {most : Nat} (h : Got pNat st n (some r)) (hn : (most : Int) < n) : Got (pMany most) st x none := by
  obtain ⟨l, rfl, h1⟩ := h.of_some
  refine Got.bad ?_
  unfold pMany
  rw [h1]
  simp only [Option.bind_some]
  rw [if_pos hn]

set_option maxHeartbeats 1000000 in
set_option maxRecDepth 100000 in
theorem rrmany_c (g : Nat) (v : Value) (bs : List Nat) (st : Option (List Nat)) (w : World) (most : Nat) (h : RdSt g v bs st w) (hn : bs.length ≤ 281474976710656) (hby : ∀ x ∈ bs, x < 256) :
    Calls Tryd.prog 36 #[.pointer (some ⟨g, 0, none⟩), .int .i64 (most : Int)] w (Read1 (pMany most) (fun n => 0 ≤ n ∧ n ≤ (most : Int)) g v bs st w) := by
  have HC := Lib.hid (rrnat_c g v bs st w h hn hby)
  clear h hby hn
  go_enter Tryd.func36, Tryd.ntmps36
  go_wp2_with fail
  refine HC.out.mono ?_
  rintro e w1 ⟨n, s1, rfl, hk1, hg1, hr1, hf1⟩
  clear HC
  obtain ⟨at_, bad, hk, hki, hst⟩ := hr1.ex
  have HH := Lib.hid hr1
  have HF := Lib.hid hf1
  have k2 := hk.cell 2
  have hf2 := hk.frozen 2
  have hf2' : w1.frozen? ⟨g, 2, none⟩ = false := hf2
  obtain ⟨R, F⟩ := rd_bad hr1 hk hki
  have HR := Lib.hid R
  have HF2 := Lib.hid (hf1.trans F (fun _ _ e => e))
  have HG := Lib.hid hg1
  have HK1 := Lib.hid hk1
  rcases hst with ⟨rfl, rfl⟩ | ⟨rfl, k, rfl, hkl, rfl⟩
  · clear hk hki hr1 hf1 hg1 hk1 R F
    go_wp2_with fail
    go_ret
    exact ⟨0, none, rfl, ⟨by omega, by omega⟩, got_many_none HG.out, HR.out, HF2.out⟩
  · clear hk hki hr1 hf1 hg1 hk1 R F hkl
    by_cases hc : (most : Int) < n
    · have hd : decide ((most : Int) < n) = true := decide_eq_true hc
      have HCo := Lib.hid hc
      clear hc
      go_wp2_with fail
      go_ret
      exact ⟨0, none, rfl, ⟨by omega, by omega⟩, got_many_more HG.out HCo.out, HR.out, HF2.out⟩
    · have hd : decide ((most : Int) < n) = false := decide_eq_false hc
      have HCo := Lib.hid hc
      clear hc
      go_wp2_with fail
      go_ret
      exact ⟨n, _, rfl, ⟨HK1.out.1, by have := HCo.out; omega⟩, got_many HG.out (by have := HCo.out; omega), HH.out, HF.out⟩

theorem infoI : ∃ i, Tryd.prog.info? 3 = some i ∧ i.zero = some (.int .i64 0) ∧ i.size = 1 ∧ i.bytes = 8 := info_parts (by kernel_rfl)

/-- What row answers. -/
def ReadRow (most : Nat) (g : Nat) (v : Value) (bs : List Nat) (st : Option (List Nat)) (w : World) (e : Ending) (w' : World) : Prop :=
  ∃ (u : Value) (l : List Int) (st' : Option (List Nat)), e = .returned u ∧ w'.ownsRow w.heap.size 3 1 u l.length (intsV l) ∧ l.length ≤ most ∧ Got (pList most pNat) st l st' ∧ RdSt g v bs st' w' ∧ Fr (fun i => i = g) w w'

set_option maxHeartbeats 2000000 in
set_option maxRecDepth 100000 in
theorem rrrow_c (g : Nat) (v : Value) (bs : List Nat) (st : Option (List Nat)) (w : World) (most : Nat) (h : RdSt g v bs st w) (hn : bs.length ≤ 281474976710656) (hby : ∀ x ∈ bs, x < 256) (hm : most ≤ 100000) :
    Calls Tryd.prog 65 #[.pointer (some ⟨g, 0, none⟩), .int .i64 (most : Int)] w (ReadRow most g v bs st w) := by
  have HC := Lib.hid (rrmany_c g v bs st w most h hn hby)
  have HNat := Lib.hid (fun st w h => rrnat_c g v bs st w h hn hby)
  have hgw : g < w.heap.size := by obtain ⟨_, _, hk, _⟩ := h.ex; exact hk.lt
  have HGW := Lib.hid hgw
  clear h hby hn hgw
  go_enter Tryd.func65, Tryd.ntmps65
  go_wp2_with fail
  refine HC.out.mono ?_
  rintro e w1 ⟨n, s1, rfl, ⟨hn0, hn1⟩, hg1, hr1, hf1⟩
  clear HC
  have HG := Lib.hid hg1
  have HR := Lib.hid hr1
  have HF := Lib.hid hf1
  clear hg1 hr1 hf1
  go_wp2_with fail
  go_loopg [5, 7, 8] n.toNat (fun gg s5 s7 _ wr => ∃ (i : Nat) (l : List Int) (s : Option (List Nat)) (vo : Value), i + gg = n.toNat ∧ s5 = vo ∧ s7 = .int .i64 (i : Int) ∧ l.length = i ∧ Hid (wr.ownsRow w.heap.size 3 1 vo l.length (intsV l)) ∧ Hid (Got (pRep pNat i) s1 l s) ∧ Hid (RdSt g v bs s wr) ∧ Hid (Fr (fun i => i = g) w wr))
  case atStart => exact ⟨0, [], s1, _, by omega, rfl, rfl, rfl, World.ownsRow_nil _ _ _ _, got_zero, HR, HF⟩
  case round =>
    clear HR HF
    obtain ⟨i, l, s, vo, hi, e5, rfl, hll, HO, HGR, HR, HF⟩ := hrel
    replace e5 := e5.symm
    subst e5
    have HLL := Lib.hid hll
    clear hll
    obtain ⟨at_, bad, hk, hki, hst⟩ := HR.out.ex
    have k2 := hk.cell 2
    clear hk hki
    cases gk with
    | zero =>
      have hd : decide ((i : Int) < n) = false := by simp; omega
      have HGL : Hid (Got (pList most pNat) st l s) := got_list HG.out HGR.out (.inr (by omega))
      have hlm : Hid (l.length ≤ most) := by show _ ≤ _; have := HLL.out; omega
      clear hi hst k2
      go_wp2_with fail
      go_ret
      exact ⟨_, l, s, rfl, HO.out, hlm.out, HGL.out, HR.out, HF.out⟩
    | succ gk =>
      have hd : decide ((i : Int) < n) = true := by simp; omega
      rcases hst with ⟨rfl, rfl⟩ | ⟨rfl, k, rfl, hkl, rfl⟩
      · have HGL : Hid (Got (pList most pNat) st l none) := got_list HG.out HGR.out (.inl ⟨rfl, by omega⟩)
        have hlm : Hid (l.length ≤ most) := by show _ ≤ _; have := HLL.out; omega
        clear hi
        go_wp2_with fail
        go_ret
        exact ⟨_, l, none, rfl, HO.out, hlm.out, HGL.out, HR.out, HF.out⟩
      · clear hkl
        go_wp2_with fail
        refine (HNat.out _ wr HR.out).mono ?_
        rintro e w2 ⟨x, s2, rfl, hx, hg2, hr2, hf2⟩
        have HX := Lib.hid (got_step HGR.out hg2)
        have HF2 := Lib.hid (HF.out.trans hf2 (fun _ _ e => e))
        have HO2 : Hid (w2.ownsRow w.heap.size 3 1 vo l.length (intsV l)) := own_fr HO.out hf2 (fun b hb _ e => by have := HGW.out; have e : b = g := e; omega)
        have HR2 := Lib.hid hr2
        have hws : Hid (w.heap.size ≤ w2.heap.size) := HF2.out.size
        clear hx hg2 hr2 hf2 HR HF HGR HO k2
        obtain ⟨i0, hi0, hz0, hz1, hz2⟩ := infoI
        go_wp2_with (at_builtin; refine wpList_append_own_at _ rfl (.tmp 26) (.tmp 28) 52 rfl w.heap.size 3 i0 (.int .i64 0) 1 8 Tryd.underlying52 hi0 hz0 hz1 hz2 rfl (by decide) _ _ _ rfl (HO2.out.alloc _) ⟨w2.heap.size, 0, none⟩ 1 1 [.int .i64 x] rfl rfl (cell_one_new _ _ _) ?c2 ?c3 ?c4 ?c5 ?_)
        case c2 => intro u hu; simp at hu; subst hu; rfl
        case c3 => have := HLL.out; unfold maxLen; omega
        case c4 => have := HLL.out; omega
        case c5 => have := hws.out; simp; omega
        intro v3 w3 ho3 hgr3 _ _
        have hfr3 : Fr (fun q => vo.ownBlock = some q) w2 w3 := (Fr.alloc (S := fun q => vo.ownBlock = some q) w2 _).trans (Fr.of_grown hgr3 fun _ _ he => he) (fun _ _ h => h)
        have hnb : ∀ q, vo.ownBlock = some q → w.heap.size ≤ q := fun q hq => (HO2.out.lt q hq).1
        have HO3 : Hid (w3.ownsRow w.heap.size 3 1 v3 (l ++ [x]).length (intsV (l ++ [x]))) := by
          show World.ownsRow _ _ _ _ _ _ _
          have e1 : intsV (l ++ [x]) = intsV l ++ [.int .i64 x] := by simp [intsV]
          rw [e1, List.length_append]
          exact ho3
        have HR3 : Hid (RdSt g v bs s2 w3) := HR2.out.fr hfr3 (fun e => by have := hnb g e; have := HGW.out; omega) (fun A n c e q => by have := hnb _ q; have := HR2.out.low A n c e; have := HGW.out; omega)
        have HF3 : Hid (Fr (fun i => i = g) w w3) := HF2.out.trans hfr3 (fun i hi e => absurd (hnb i e) (by omega))
        clear ho3 hgr3 hfr3 hnb
        go_wp2_with fail
        go_roundg gk
        case measure => omega
        case rel => exact ⟨i + 1, l ++ [x], s2, _, by omega, rfl, by push_cast; rfl, by simp [HLL.out], HO3, HX, HR3, HF3⟩

/-! ### Plain -/
section
variable {α β γ : Type}
theorem got_bind {p : Prs α} {q : α → Prs β} {s s1 s2 : Option (List Nat)} {x : α} {y : β} (h : Got p s x s1) (k : Got (q x) s1 y s2) : Got (fun l => (p l).bind fun a => q a.1 a.2) s y s2 := by
  cases s with
  | none =>
    obtain rfl : s1 = none := h
    exact k
  | some l =>
    cases s1 with
    | none =>
      obtain rfl : s2 = none := k
      refine Got.bad ?_
      rw [h.of_none]; rfl
    | some r =>
      obtain ⟨l', e, h1⟩ := h.of_some
      injection e with e
      subst e
      have e2 : ((p l).bind fun a => q a.1 a.2) = q x r := by rw [h1]; rfl
      unfold Got at k ⊢
      rw [Option.bind_some] at k ⊢
      rw [e2]
      exact k
theorem got_map {p : Prs α} {f : α → β} {s s1 : Option (List Nat)} {x : α} (h : Got p s x s1) : Got (fun l => (p l).bind fun a => some (f a.1, a.2)) s (f x) s1 := by
  cases s with
  | none => exact h
  | some l =>
    cases s1 with
    | none =>
      refine Got.bad ?_
      rw [h.of_none]; rfl
    | some r =>
      obtain ⟨l', e, h1⟩ := h.of_some
      injection e with e
      subst e
      refine Got.good ?_
      simp only [h1, Option.bind_some]
end
theorem got_ins {s s1 s2 s3 : Option (List Nat)} {a b c : Int} (h1 : Got pNat s a s1) (h2 : Got pInt s1 b s2) (h3 : Got pNat s2 c s3) : Got pIns s ⟨a, b, c⟩ s3 :=
  got_bind (q := fun n l => (pInt l).bind fun s => (pNat s.2).bind fun t => some (InsR.mk n s.1 t.1, t.2)) h1 (got_bind (q := fun m l => (pNat l).bind fun t => some (InsR.mk a m t.1, t.2)) h2 (got_map (f := fun t => InsR.mk a b t) h3))
theorem got_glob {s s1 s2 s3 : Option (List Nat)} {a b c : Int} (h1 : Got pNat s a s1) (h2 : Got pNat s1 b s2) (h3 : Got pInt s2 c s3) : Got pGlob s ⟨a, b, c⟩ s3 :=
  got_bind (q := fun n l => (pNat l).bind fun s => (pInt s.2).bind fun t => some (GlobR.mk n s.1 t.1, t.2)) h1 (got_bind (q := fun m l => (pInt l).bind fun t => some (GlobR.mk a m t.1, t.2)) h2 (got_map (f := fun t => GlobR.mk a b t) h3))
theorem got_fn {s s1 s2 s3 s4 s5 : Option (List Nat)} {n : ByteArray} {l1 l2 : List Int} {r : Int} {c : List InsR} (h1 : Got pText s n s1) (h2 : Got (pList 8 pNat) s1 l1 s2) (h3 : Got pNat s2 r s3) (h4 : Got (pList 32 pNat) s3 l2 s4) (h5 : Got (pList 32768 pIns) s4 c s5) :
    Got pFn s ⟨n, l1, r, l1 ++ l2, c⟩ s5 :=
  got_bind (q := fun n l => (pList 8 pNat l).bind fun s => (pNat s.2).bind fun t => (pList 32 pNat t.2).bind fun u => (pList 32768 pIns u.2).bind fun v => some (FnR.mk n s.1 t.1 (s.1 ++ u.1) v.1, v.2)) h1
    (got_bind (q := fun l1 l => (pNat l).bind fun t => (pList 32 pNat t.2).bind fun u => (pList 32768 pIns u.2).bind fun v => some (FnR.mk n l1 t.1 (l1 ++ u.1) v.1, v.2)) h2
      (got_bind (q := fun r l => (pList 32 pNat l).bind fun u => (pList 32768 pIns u.2).bind fun v => some (FnR.mk n l1 r (l1 ++ u.1) v.1, v.2)) h3
        (got_bind (q := fun l2 l => (pList 32768 pIns l).bind fun v => some (FnR.mk n l1 r (l1 ++ l2) v.1, v.2)) h4 (got_map (f := fun c => FnR.mk n l1 r (l1 ++ l2) c) h5))))

theorem text_ok {bs s : List Nat} {k p : Nat} (hk : k ≤ bs.length) (h : txAns bs (k : Int) = .ok (s, p)) : pText (bs.drop k) = some (strOf s, bs.drop p) := by
  unfold txAns at h
  cases hr : rdAns bs (k : Int) 9 with
  | error e => rw [hr] at h; cases h
  | ok q =>
    obtain ⟨n, p1⟩ := q
    rw [hr] at h
    have h1 := nat_ok hk hr
    simp only at h
    unfold pText
    rw [h1]
    simp only [Option.bind_some, Int.toNat_natCast]
    split at h
    · cases h
    · rename_i hn
      split at h
      · cases h
      · rename_i hn2
        injection h with h
        injection h with h2 h3
        subst h2 h3
        rw [if_neg hn, if_neg (by rw [List.length_drop]; omega), List.drop_drop]
theorem text_err {bs : List Nat} {k e : Nat} (hk : k ≤ bs.length) (hby : ∀ x ∈ bs, x < 256) (h : txAns bs (k : Int) = .error e) : pText (bs.drop k) = none := by
  unfold txAns at h
  unfold pText
  cases hr : rdAns bs (k : Int) 9 with
  | error e => rw [nat_err hk hr]; rfl
  | ok q =>
    obtain ⟨n, p1⟩ := q
    have hpl := rdAns_end hby hr
    rw [hr] at h
    rw [nat_ok hk hr]
    simp only at h
    simp only [Option.bind_some, Int.toNat_natCast]
    split at h
    · rename_i hn
      rw [if_pos hn]
    · rename_i hn
      split at h
      · rename_i hn2
        rw [if_neg hn, if_pos (by rw [List.length_drop]; omega)]
      · cases h
theorem txAns_ne {bs : List Nat} {at_ : Int} {e : Nat} (h : txAns bs at_ = .error e) : ((e : Int) != 0) = true := by
  unfold txAns at h
  cases hr : rdAns bs at_ 9 with
  | error e' =>
    rw [hr] at h
    injection h with h
    subst h
    exact rdAns_ne hr
  | ok q =>
    rw [hr] at h
    simp only at h
    split at h
    · injection h with h; subst h; rfl
    · split at h
      · injection h with h; subst h; rfl
      · cases h
theorem txAns_small {bs s : List Nat} {at_ : Int} {p : Nat} (hby : ∀ x ∈ bs, x < 256) (h : txAns bs at_ = .ok (s, p)) : s.length ≤ 65536 ∧ p ≤ bs.length := by
  unfold txAns at h
  cases hr : rdAns bs at_ 9 with
  | error e' => rw [hr] at h; cases h
  | ok q =>
    obtain ⟨n, p1⟩ := q
    have hpl := rdAns_end hby hr
    rw [hr] at h
    simp only at h
    split at h
    · cases h
    · split at h
      · cases h
      · injection h with h
        injection h with h1 h2
        subst h1 h2
        exact ⟨by rw [List.length_take]; omega, by omega⟩

/-! ### In memory -/
/-- In the midst of reading a function: the result's block gr, the function's block gf with the cells cs. -/
structure FX (w : World) (g : Nat) (v : Value) (bs : List Nat) (gr gf : Nat) (cs : Array Value) (st : Option (List Nat)) (wr : World) : Prop where
  rd : RdSt g v bs st wr
  res : Blk wr gr 54 #[.string ⟨#[]⟩, .slice none 0 0, .int .i64 0, .slice none 0 0, .slice none 0 0]
  fb : Blk wr gf 54 cs
  fr : Fr (fun i => i = g) w wr
  gw : g < w.heap.size
  nr : w.heap.size ≤ gr
  nf : w.heap.size ≤ gf
  ne : gr ≠ gf
section
variable {w wr w2 : World} {g gr gf : Nat} {v : Value} {bs : List Nat} {cs : Array Value} {st st' : Option (List Nat)}
theorem FX.sub {S : Nat → Prop} (X : FX w g v bs gr gf cs st wr) (hf : Fr S wr w2) (hS : ∀ i, S i → w.heap.size ≤ i ∧ i ≠ gr ∧ i ≠ gf) : FX w g v bs gr gf cs st w2 :=
  ⟨X.rd.fr hf (fun e => by have := hS _ e; have := X.gw; omega) (fun A n c e q => by have := X.rd.low A n c e; have := hS _ q; have := X.gw; omega),
    X.res.fr hf (fun e => (hS _ e).2.1 rfl), X.fb.fr hf (fun e => (hS _ e).2.2 rfl), X.fr.trans hf (fun i hi e => absurd (hS _ e).1 (by omega)), X.gw, X.nr, X.nf, X.ne⟩
theorem FX.draw (X : FX w g v bs gr gf cs st wr) (n : Nat) : FX w g v bs gr gf cs st (wr.drewN n) := X.sub (S := fun _ => False) (Fr.drewN wr n) (fun _ h => h.elim)
theorem FX.alloc (X : FX w g v bs gr gf cs st wr) (o : Obj) : FX w g v bs gr gf cs st (wr.alloc o) := X.sub (S := fun _ => False) (Fr.alloc wr o) (fun _ h => h.elim)
/-- A reading call. -/
theorem FX.call (X : FX w g v bs gr gf cs st wr) (hr : RdSt g v bs st' w2) (hf : Fr (fun i => i = g) wr w2) : FX w g v bs gr gf cs st' w2 :=
  ⟨hr, X.res.fr hf (fun e => by have e : gr = g := e; have := X.gw; have := X.nr; omega), X.fb.fr hf (fun e => by have e : gf = g := e; have := X.gw; have := X.nf; omega), X.fr.trans hf (fun _ _ e => e), X.gw, X.nr, X.nf, X.ne⟩
/-- A field of the function is stored. -/
theorem FX.store (X : FX w g v bs gr gf cs st wr) (j : Nat) (u : Value) : FX w g v bs gr gf (cs.setIfInBounds j u) st (wr.setCell ⟨gf, j, none⟩ u) := by
  have hf : Fr (fun i => i = gf) wr (wr.setCell ⟨gf, j, none⟩ u) := Fr.set (S := fun i => i = gf) wr (p := ⟨gf, j, none⟩) rfl _
  exact ⟨X.rd.fr hf (fun e => by have e : g = gf := e; have := X.gw; have := X.nf; omega) (fun A n c e q => by have := X.rd.low A n c e; have := X.gw; have := X.nf; have q : A.block = gf := q; omega),
    X.res.fr hf (fun e => X.ne e), X.fb.set_ j u, X.fr.trans hf (fun i hi e => by have e : i = gf := e; have := X.nf; omega), X.gw, X.nr, X.nf, X.ne⟩
theorem row_call {e : TypeId} {k n : Nat} {u : Value} {xs : List Value} (X : FX w g v bs gr gf cs st wr) (h : wr.ownsRow w.heap.size e k u n xs) (hf : Fr (fun i => i = g) wr w2) : w2.ownsRow w.heap.size e k u n xs :=
  own_fr h hf fun b hb _ q => by have q : b = g := q; have := X.gw; omega
theorem row_store {e : TypeId} {k n : Nat} {u : Value} {xs : List Value} (X : FX w g v bs gr gf cs st wr) (h : wr.ownsRow w.heap.size e k u n xs) (he : e ≠ 54) (j : Nat) (y : Value) : (wr.setCell ⟨gf, j, none⟩ y).ownsRow w.heap.size e k u n xs :=
  ownsRow_fr h (Fr.set (S := fun i => i = gf) wr (p := ⟨gf, j, none⟩) rfl _) fun q hq hq2 => own_ne_blk h X.fb he (by rw [hq, hq2])
end

theorem infoIns : ∃ i, Tryd.prog.info? 50 = some i ∧ i.zero = some (.agg #[.int .i64 0, .int .i64 0, .int .i64 0]) ∧ i.size = 3 ∧ i.bytes = 24 := info_parts (by kernel_rfl)
theorem cells_new (w : World) (t : TypeId) (cs : List Value) : ∀ (j : Nat) (u : Value), cs[j]? = some u → (w.alloc (.cells cs.toArray t)).cell? ((⟨w.heap.size, 0, none⟩ : Addr).add j) = some u := by
  intro j u hj
  have e : (⟨w.heap.size, 0, none⟩ : Addr).add j = ⟨w.heap.size, j, none⟩ := by unfold Addr.add; split <;> simp_all
  rw [e, (Blk.new w t cs.toArray).cell]
  simpa using hj

section
variable {w wr w2 : World} {g gr gf : Nat} {v : Value} {bs : List Nat} {cs : Array Value} {st st' : Option (List Nat)}
theorem FX.ret (X : FX w g v bs gr gf cs st wr) (a b c d e : Value) :
    Blk (((((wr.setCell ⟨gr, 0, none⟩ a).setCell ⟨gr, 1, none⟩ b).setCell ⟨gr, 2, none⟩ c).setCell ⟨gr, 3, none⟩ d).setCell ⟨gr, 4, none⟩ e) gr 54 #[a, b, c, d, e] ∧
    RdSt g v bs st (((((wr.setCell ⟨gr, 0, none⟩ a).setCell ⟨gr, 1, none⟩ b).setCell ⟨gr, 2, none⟩ c).setCell ⟨gr, 3, none⟩ d).setCell ⟨gr, 4, none⟩ e) ∧
    Fr (fun i => i = gr) wr (((((wr.setCell ⟨gr, 0, none⟩ a).setCell ⟨gr, 1, none⟩ b).setCell ⟨gr, 2, none⟩ c).setCell ⟨gr, 3, none⟩ d).setCell ⟨gr, 4, none⟩ e) ∧
    Fr (fun i => i = g) w (((((wr.setCell ⟨gr, 0, none⟩ a).setCell ⟨gr, 1, none⟩ b).setCell ⟨gr, 2, none⟩ c).setCell ⟨gr, 3, none⟩ d).setCell ⟨gr, 4, none⟩ e) := by
  have st1 : ∀ (w1 : World) (j : Nat) (u : Value), Fr (fun i => i = gr) w1 (w1.setCell ⟨gr, j, none⟩ u) := fun w1 j u => Fr.set (S := fun i => i = gr) w1 (p := ⟨gr, j, none⟩) rfl _
  have hf := ((((st1 wr 0 a).trans (st1 _ 1 b) (fun _ _ e => e)).trans (st1 _ 2 c) (fun _ _ e => e)).trans (st1 _ 3 d) (fun _ _ e => e)).trans (st1 _ 4 e) (fun _ _ e => e)
  refine ⟨?_, X.rd.fr hf (fun e => by have e : g = gr := e; have := X.gw; have := X.nr; omega) (fun A n c e q => by have := X.rd.low A n c e; have := X.gw; have := X.nr; have q : A.block = gr := q; omega), hf, X.fr.trans hf (fun i hi e => by have e : i = gr := e; have := X.nr; omega)⟩
  have := ((((X.res.set_ 0 a).set_ 1 b).set_ 2 c).set_ 3 d).set_ 4 e
  simpa using this

end

theorem intsV_one (l : List Int) : ∀ u ∈ intsV l, u.oneCell' = true := by
  intro u hu
  obtain ⟨b, _, rfl⟩ := List.mem_map.1 hu
  rfl
theorem intsV_append (a b : List Int) : intsV (a ++ b) = intsV a ++ intsV b := by simp [intsV]
/-- A row of numbers behind another. -/
theorem run_intsO (w : World) (base base2 : Nat) (ty : TypeId) (v u : Value) (n : Nat) (xs ys : List Int) (hown : w.ownsRow base 3 1 v n (intsV xs)) (hu : w.ownsRow base2 3 1 u ys.length (intsV ys)) (hfit : n + ys.length ≤ 1000000) (hbase : base ≤ w.heap.size) :
    ∃ v' w', (Builtin.append_ #[52, 52] ty #[v, u]).run Tryd.prog w = .ok v' w' ∧ w'.ownsRow base 3 1 v' (n + ys.length) (intsV (xs ++ ys)) ∧ w.grownBy w' v.ownBlock := by
  obtain ⟨i, hi, hz, hsz, hby⟩ := infoI
  rcases hu.2 with ⟨rfl, h0⟩ | ⟨q, cap, cur, rfl, _⟩
  · have hr := run_append_owned_none (P := Tryd.prog) w base 52 ty 3 i 1 Tryd.underlying52 hi v n (intsV xs) hown
    have : ys = [] := List.eq_nil_of_length_eq_zero h0
    subst this
    exact ⟨v, w, hr, by simpa using hown, World.grownBy.refl _ _⟩
  · have hcells := World.ownsRow.cells hu (g := q) rfl
    obtain ⟨v', w', hr, h2, h3, _, _⟩ := run_append_own_at (P := Tryd.prog) w base 52 ty 3 i (.int .i64 0) 1 8 Tryd.underlying52 hi hz hsz hby rfl (by decide) v n (intsV xs) hown ⟨q, 0, none⟩ ys.length cap (intsV ys) (by rw [intsV_len]; omega) hcells (intsV_one ys) (by unfold maxLen; omega) (by omega) hbase
    exact ⟨v', w', hr, by rw [intsV_append]; exact h2, h3⟩
theorem wpList_intsO {w : World} {ops : Array Oper} {rest : List Oper} {o : Oper} {a : Act} {Q : Exit → Act → World → Prop} (hgd : o.guard = none) (sl x : Operand)
    (ho : o.op = .call { callee := .builtin .append, args := #[sl, x], argTypes := #[52, 52] }) (base base2 : Nat) (v u : Value) (n : Nat) (xs ys : List Int) (hsl : a.eval sl = v) (hown : w.ownsRow base 3 1 v n (intsV xs)) (hx : a.eval x = u) (hu : w.ownsRow base2 3 1 u ys.length (intsV ys))
    (hfit : n + ys.length ≤ 1000000) (hbase : base ≤ w.heap.size)
    (h : ∀ v' w', w'.ownsRow base 3 1 v' (n + ys.length) (intsV (xs ++ ys)) → w.grownBy w' v.ownBlock → wpList Tryd.prog ops Q rest (a.put o.dst v') w') : wpList Tryd.prog ops Q (o :: rest) a w := by
  refine wpList_plain hgd fun K hK => ?_
  obtain ⟨v', w', hr, h2, h3⟩ := run_intsO w base base2 o.type v u n xs ys hown hu hfit hbase
  unfold Oper.wp execOp
  simp only [ho, resolve, invoke, builtin, Sem.run_bind, Sem.run_pure, Result.andThen_ok, List.map_toArray, List.map_cons, List.map_nil, hsl, hx, hr]
  exact hK _ _ (h v' w' h2 h3)

theorem own_sl {w : World} {base n k : Nat} {e : TypeId} {v : Value} {xs : List Value} (h : w.ownsRow base e k v n xs) : ∃ A c, v = .slice A n c := by
  rcases h.2 with ⟨rfl, h0⟩ | ⟨g, cap, cur, rfl, _⟩
  · exact ⟨none, 0, by rw [h0]⟩
  · exact ⟨_, _, rfl⟩

/-- In the midst of reading code: what FX says, the rows, the instruction in block gx. -/
structure LX (w : World) (g : Nat) (v : Value) (bs : List Nat) (gr gf : Nat) (cs : Array Value) (u1 u3 uc : Value) (l1 l3 : List Int) (l : List InsR) (gx : Nat) (cx : Array Value) (s : Option (List Nat)) (wr : World) : Prop where
  x : FX w g v bs gr gf cs s wr
  o1 : wr.ownsRow w.heap.size 3 1 u1 l1.length (intsV l1)
  o3 : wr.ownsRow w.heap.size 3 1 u3 l3.length (intsV l3)
  oc : wr.ownsRow w.heap.size 50 3 uc l.length (codeV l)
  kx : Blk wr gx 50 cx
  hx : w.heap.size ≤ gx ∧ gx ≠ gr ∧ gx ≠ gf
  hc : ∀ q, uc.ownBlock = some q → q ≠ gx
section
variable {w wr w2 : World} {g gr gf gx : Nat} {v u1 u3 uc : Value} {bs : List Nat} {cs cx : Array Value} {l1 l3 : List Int} {l : List InsR} {s s' : Option (List Nat)}
theorem LX.call (X : LX w g v bs gr gf cs u1 u3 uc l1 l3 l gx cx s wr) (hr : RdSt g v bs s' w2) (hf : Fr (fun i => i = g) wr w2) : LX w g v bs gr gf cs u1 u3 uc l1 l3 l gx cx s' w2 :=
  ⟨X.x.call hr hf, row_call X.x X.o1 hf, row_call X.x X.o3 hf, row_call X.x X.oc hf, X.kx.fr hf (fun e => by have e : gx = g := e; have := X.hx.1; have := X.x.gw; omega), X.hx, X.hc⟩
theorem LX.set (X : LX w g v bs gr gf cs u1 u3 uc l1 l3 l gx cx s wr) (j : Nat) (u : Value) : LX w g v bs gr gf cs u1 u3 uc l1 l3 l gx (cx.setIfInBounds j u) s (wr.setCell ⟨gx, j, none⟩ u) := by
  have hf : Fr (fun i => i = gx) wr (wr.setCell ⟨gx, j, none⟩ u) := Fr.set (S := fun i => i = gx) wr (p := ⟨gx, j, none⟩) rfl _
  exact ⟨X.x.sub hf (fun i e => by have e : i = gx := e; rw [e]; exact X.hx), ownsRow_fr X.o1 hf (fun q hq e => own_ne_blk X.o1 X.kx (by decide) (by rw [hq, e])), ownsRow_fr X.o3 hf (fun q hq e => own_ne_blk X.o3 X.kx (by decide) (by rw [hq, e])),
    ownsRow_fr X.oc hf (fun q hq e => X.hc q hq e), X.kx.set_ j u, X.hx, X.hc⟩
end

/-- What fn answers. -/
def ReadFn (g : Nat) (v : Value) (bs : List Nat) (st : Option (List Nat)) (w : World) (e : Ending) (w' : World) : Prop :=
  ∃ (f : FnR) (t : Trip) (st' : Option (List Nat)), e = .returned (fnV f t) ∧ FnOwn w' w.heap.size t f ∧ f.small ∧ Got pFn st f st' ∧ RdSt g v bs st' w' ∧ Fr (fun i => i = g) w w'

set_option maxHeartbeats 8000000 in
set_option maxRecDepth 100000 in
theorem rrfn_c (g : Nat) (v : Value) (bs : List Nat) (st : Option (List Nat)) (w : World) (h : RdSt g v bs st w) (hn : bs.length ≤ 281474976710656) (hby : ∀ x ∈ bs, x < 256) :
    Calls Tryd.prog 39 #[.pointer (some ⟨g, 0, none⟩)] w (ReadFn g v bs st w) := by
  have HNat := Lib.hid (fun st w h => rrnat_c g v bs st w h hn hby)
  have HNum := Lib.hid (fun st w h => rrnum_c g v bs st w h hn hby)
  have HMany := Lib.hid (fun st w h => rrmany_c g v bs st w 32768 h hn hby)
  have HRow8 := Lib.hid (fun st w h => rrrow_c g v bs st w 8 h hn hby (by omega))
  have HRow32 := Lib.hid (fun st w h => rrrow_c g v bs st w 32 h hn hby (by omega))
  have HBy := Lib.hid hby
  have hgw : g < w.heap.size := by obtain ⟨_, _, hk, _⟩ := h.ex; exact hk.lt
  have X0 : FX w g v bs w.heap.size (w.heap.size + 1) #[.string ⟨#[]⟩, .slice none 0 0, .int .i64 0, .slice none 0 0, .slice none 0 0] st ((w.alloc (.cells #[.string ⟨#[]⟩, .slice none 0 0, .int .i64 0, .slice none 0 0, .slice none 0 0] 54)).alloc (.cells #[.string ⟨#[]⟩, .slice none 0 0, .int .i64 0, .slice none 0 0, .slice none 0 0] 54)) := by
    refine ⟨(h.below ((Below.refl _ _).alloc (Nat.le_refl _) _)).below ((Below.refl _ _).alloc (Nat.le_refl _) _), (Blk.new w 54 _).alloc _, ?_, (Fr.alloc w _).trans (Fr.alloc (S := fun i => i = g) _ _) (fun _ _ e => e), hgw, Nat.le_refl _, by omega, by omega⟩
    have := Blk.new (w.alloc (.cells #[.string ⟨#[]⟩, .slice none 0 0, .int .i64 0, .slice none 0 0, .slice none 0 0] 54)) 54 #[.string ⟨#[]⟩, .slice none 0 0, .int .i64 0, .slice none 0 0, .slice none 0 0]
    simpa using this
  have HX := Lib.hid X0
  clear h hby X0 hgw
  go_enter Tryd.func39, Tryd.ntmps39
  go_upto_region 2 with (fail)
  generalize (w.alloc (.cells #[.string ⟨#[]⟩, .slice none 0 0, .int .i64 0, .slice none 0 0, .slice none 0 0] 54)).alloc (.cells #[.string ⟨#[]⟩, .slice none 0 0, .int .i64 0, .slice none 0 0, .slice none 0 0] 54) = w0 at *
  generalize w.heap.size + 1 = gf at *
  generalize w.heap.size = gr at *
  obtain ⟨at_, bad, hk, hki, hst⟩ := HX.out.rd.ex
  have k0 := hk.cell 0
  have k1 := hk.cell 1
  have k2 := hk.cell 2
  have hk0 : w0.cell? ⟨g, 0, none⟩ = some v := k0
  have HK := Lib.hid hk
  have HKI := Lib.hid hki
  rcases hst with ⟨rfl, rfl⟩ | ⟨rfl, k, rfl, hkl, rfl⟩
  · have f0 := HX.out.fb.cell 0
    have f1 := HX.out.fb.cell 1
    have f2 := HX.out.fb.cell 2
    have f3 := HX.out.fb.cell 3
    have f4 := HX.out.fb.cell 4
    have r0 := HX.out.res.cell 0
    have r1 := HX.out.res.cell 1
    have r2 := HX.out.res.cell 2
    have r3 := HX.out.res.cell 3
    have r4 := HX.out.res.cell 4
    have z0 := HX.out.res.frozen 0
    have z1 := HX.out.res.frozen 1
    have z2 := HX.out.res.frozen 2
    have z3 := HX.out.res.frozen 3
    have z4 := HX.out.res.frozen 4
    clear hk hki k0 k1 hk0
    obtain ⟨B5, R5, _, F5⟩ := HX.out.ret (.string ⟨#[]⟩) (.slice none 0 0) (.int .i64 0) (.slice none 0 0) (.slice none 0 0)
    have HB5 := Lib.hid B5
    have HR5 := Lib.hid R5
    have HF5 := Lib.hid F5
    clear B5 R5 F5
    go_wp2_with fail
    generalize ((((w0.setCell ⟨gr, 0, none⟩ (.string ⟨#[]⟩)).setCell ⟨gr, 1, none⟩ (.slice none 0 0)).setCell ⟨gr, 2, none⟩ (.int .i64 0)).setCell ⟨gr, 3, none⟩ (.slice none 0 0)).setCell ⟨gr, 4, none⟩ (.slice none 0 0) = wz at *
    have y0 := HB5.out.cell 0
    have y1 := HB5.out.cell 1
    have y2 := HB5.out.cell 2
    have y3 := HB5.out.cell 3
    have y4 := HB5.out.cell 4
    refine bodyPost_ret (v := fnV ⟨⟨#[]⟩, [], 0, [], []⟩ (.slice none 0 0, .slice none 0 0, .slice none 0 0)) (by simp [results, Tryd.results39, go_sem, y0, y1, y2, y3, y4]) rfl ⟨⟨⟨#[]⟩, [], 0, [], []⟩, (.slice none 0 0, .slice none 0 0, .slice none 0 0), none, rfl, ⟨World.ownsRow_nil _ _ _ _, World.ownsRow_nil _ _ _ _, World.ownsRow_nil _ _ _ _⟩, ⟨by simp, by simp, by simp, by show 0 ≤ _; omega⟩, Got.gone, HR5.out, HF5.out⟩
  · obtain ⟨nm, at1, c, st1, hval, hstand, hgot, hsize⟩ : ∃ (nm : ByteArray) (at1 c : Int) (st1 : Option (List Nat)), txVal (txAns bs (k : Int)) = .tuple #[.string nm, .int .i64 at1, .int .i64 c] ∧ Stand bs at1 (c != 0) st1 ∧ Got pText (some (bs.drop k)) nm st1 ∧ nm.size ≤ 65536 := by
      cases hr : txAns bs (k : Int) with
      | error e =>
        refine ⟨⟨#[]⟩, 0, (e : Int), none, rfl, ⟨⟨by omega, by omega⟩, .inl ⟨txAns_ne hr, rfl⟩⟩, Got.bad (text_err hkl HBy.out hr), by show 0 ≤ _; omega⟩
      | ok q =>
        obtain ⟨l, p⟩ := q
        obtain ⟨h1, h2⟩ := txAns_small HBy.out hr
        refine ⟨strOf l, (p : Int), 0, some (bs.drop p), rfl, ⟨⟨by omega, by omega⟩, .inr ⟨rfl, p, rfl, h2, rfl⟩⟩, Got.good (text_ok hkl hr), ?_⟩
        have : (strOf l).size = l.length := by simp [strOf, ByteArray.size]
        omega
    have HC := Lib.hid (fun n => rreadtext_c v bs (k : Int) (w0.drewN n) (HX.out.rd.sl.draw n) hn HKI.out.1 HKI.out.2 HBy.out)
    rw [hval] at HC
    have HStand := Lib.hid hstand
    have HG1 := Lib.hid hgot
    have HSz := Lib.hid hsize
    clear hk hki k0 hval hstand hgot hkl hsize
    go_wp2_with fail
    go_quiet ((go_at_call 64; exact Calls.quiet_of_same (HC.out _)))
    obtain ⟨R1, F1⟩ := rd_one (HX.out.rd.draw nq) (at_ := (k : Int)) (bad := false) HK.out HStand.out
    have X1 := Lib.hid ((HX.out.draw nq).call R1 F1)
    have HKq : Blk (w0.drewN nq) g 77 _ := HK.out
    clear R1 F1 k1 k2 hk0 HC HKI HK HX
    generalize w0.drewN nq = wq at *
    have k1 := HKq.cell 1
    have k2 := HKq.cell 2
    have hf1 := HKq.frozen 1
    have hf2 := HKq.frozen 2
    clear HKq
    generalize hcb : (c != 0) = cb at *
    go_upto_region 7 with (fail)
    generalize (wq.setCell ⟨g, 2, none⟩ (.bool cb)).setCell ⟨g, 1, none⟩ (.int .i64 at1) = w1 at *
    clear k1 k2 hf1 hf2 HStand
    have X2 : Hid (FX w g v bs gr gf #[.string nm, .slice none 0 0, .int .i64 0, .slice none 0 0, .slice none 0 0] st1 (w1.setCell ⟨gf, 0, none⟩ (.string nm))) := by
      show FX _ _ _ _ _ _ _ _ _
      simpa using X1.out.store 0 (.string nm)
    have z0 := X1.out.fb.frozen 0
    have f0 := X1.out.fb.cell 0
    clear X1
    go_upto_region 8 with (fail)
    generalize w1.setCell ⟨gf, 0, none⟩ (.string nm) = w2 at *
    clear z0 f0
    go_wp2_with fail
    refine (HRow8.out _ w2 X2.out.rd).mono ?_
    rintro e w3 ⟨u1, l1, st2, rfl, ho1, hl1, hg2, hr3, hf3⟩
    have X3 := Lib.hid (X2.out.call hr3 hf3)
    have HG2 := Lib.hid hg2
    have HO1 : Hid (w3.ownsRow w.heap.size 3 1 u1 l1.length (intsV l1)) := own_lower ho1 X2.out.fr.size
    obtain ⟨A1, c1, rfl⟩ := own_slice ho1
    have X4 : Hid (FX w g v bs gr gf #[.string nm, .slice A1 l1.length c1, .int .i64 0, .slice none 0 0, .slice none 0 0] st2 (w3.setCell ⟨gf, 1, none⟩ (.slice A1 l1.length c1))) := by
      show FX _ _ _ _ _ _ _ _ _
      simpa using X3.out.store 1 (.slice A1 l1.length c1)
    have HO1 := Lib.hid (row_store X3.out HO1.out (by decide) 1 (.slice A1 l1.length c1))
    have z1 := X3.out.fb.frozen 1
    have f1 := X3.out.fb.cell 1
    have HL1 := Lib.hid hl1
    clear X3 X2 ho1 hg2 hr3 hf3 hl1
    go_upto_region 9 with (fail)
    generalize w3.setCell ⟨gf, 1, none⟩ (.slice A1 l1.length c1) = w4 at *
    clear z1 f1
    go_wp2_with fail
    refine (HNat.out _ w4 X4.out.rd).mono ?_
    rintro e w5 ⟨rs, st3, rfl, hrs, hg3, hr5, hf5⟩
    have X5 := Lib.hid (X4.out.call hr5 hf5)
    have HG3 := Lib.hid hg3
    have HO1 := Lib.hid (row_call X4.out HO1.out hf5)
    have X6 : Hid (FX w g v bs gr gf #[.string nm, .slice A1 l1.length c1, .int .i64 rs, .slice none 0 0, .slice none 0 0] st3 (w5.setCell ⟨gf, 2, none⟩ (.int .i64 rs))) := by
      show FX _ _ _ _ _ _ _ _ _
      simpa using X5.out.store 2 (.int .i64 rs)
    have HO1 := Lib.hid (row_store X5.out HO1.out (by decide) 2 (.int .i64 rs))
    have z2 := X5.out.fb.frozen 2
    have f2 := X5.out.fb.cell 2
    clear X5 X4 hrs hg3 hr5 hf5
    go_upto_region 10 with (fail)
    generalize w5.setCell ⟨gf, 2, none⟩ (.int .i64 rs) = w6 at *
    clear z2 f2
    go_wp2_with fail
    refine (HRow32.out _ w6 X6.out.rd).mono ?_
    rintro e w7 ⟨u2, l2, st4, rfl, ho2, hl2, hg4, hr7, hf7⟩
    have X7 := Lib.hid (X6.out.call hr7 hf7)
    have HG4 := Lib.hid hg4
    have HO1 := Lib.hid (row_call X6.out HO1.out hf7)
    have HO2 : Hid (w7.ownsRow w.heap.size 3 1 u2 l2.length (intsV l2)) := own_lower ho2 X6.out.fr.size
    have HL2 := Lib.hid hl2
    clear X6 ho2 hg4 hr7 hf7 hl2
    have hbs : Hid (w.heap.size ≤ w7.heap.size) := X7.out.fr.size
    have hgr7 : Hid (gr < w7.heap.size) := X7.out.res.lt
    have hgf7 : Hid (gf < w7.heap.size) := X7.out.fb.lt
    have X7a := Lib.hid (X7.out.alloc (.cells #[] 3))
    have HE : Hid ((w7.alloc (.cells #[] 3)).ownsRow (w7.heap.size) 3 1 (.slice (some ⟨w7.heap.size, 0, none⟩) 0 0) 0 (intsV [])) := World.ownsRow_made w7 #[] 0 (Nat.le_refl _) (by unfold maxLen; omega) (by simp)
    have hlt1 : Hid (∀ q, (Value.slice A1 l1.length c1).ownBlock = some q → q < w7.heap.size) := fun q hq => (HO1.out.lt q hq).2
    have hlt2 : Hid (∀ q, u2.ownBlock = some q → q < w7.heap.size) := fun q hq => (HO2.out.lt q hq).2
    have HO1 : Hid ((w7.alloc (.cells #[] 3)).ownsRow w.heap.size 3 1 (.slice A1 l1.length c1) l1.length (intsV l1)) := HO1.out.alloc _
    have HO2 : Hid ((w7.alloc (.cells #[] 3)).ownsRow w.heap.size 3 1 u2 l2.length (intsV l2)) := HO2.out.alloc _
    have f1 := X7a.out.fb.cell 1
    clear X7
    go_wp2_with (at_builtin; refine wpList_intsO rfl (.tmp 48) (.tmp 50) rfl w7.heap.size w.heap.size _ _ 0 [] l1 rfl HE.out rfl HO1.out (by have := HL1.out; omega) (by simp) ?_)
    intro u8 w8 ho8 hgr8
    have hf8 : Fr (fun q => q = w7.heap.size) (w7.alloc (.cells #[] 3)) w8 := Fr.of_grown hgr8 fun i _ e => by simpa [Value.ownBlock, eq_comm] using e
    have X8 := Lib.hid (X7a.out.sub hf8 (fun i e => by have := hbs.out; have := hgr7.out; have := hgf7.out; have e : i = w7.heap.size := e; omega))
    have HO1 : Hid (w8.ownsRow w.heap.size 3 1 (.slice A1 l1.length c1) l1.length (intsV l1)) := ownsRow_fr HO1.out hf8 (fun q hq e => by have := hlt1.out q hq; have e : q = w7.heap.size := e; omega)
    have HO2 : Hid (w8.ownsRow w.heap.size 3 1 u2 l2.length (intsV l2)) := ownsRow_fr HO2.out hf8 (fun q hq e => by have := hlt2.out q hq; have e : q = w7.heap.size := e; omega)
    have HO8 : Hid (w8.ownsRow w7.heap.size 3 1 u8 l1.length (intsV l1)) := by
      show World.ownsRow _ _ _ _ _ _ _
      simpa using ho8
    have hw8 : Hid (w7.heap.size ≤ w8.heap.size) := by show _ ≤ _; have := hf8.size; simp at this; omega
    clear X7a HE ho8 hgr8 hf8 f1
    go_wp2_with (at_builtin; refine wpList_intsO rfl (.tmp 51) (.tmp 52) rfl w7.heap.size w.heap.size _ _ l1.length l1 l2 rfl HO8.out rfl HO2.out (by have := HL1.out; have := HL2.out; omega) hw8.out ?_)
    intro u9 w9 ho9 hgr9
    have hf9 : Fr (fun q => u8.ownBlock = some q) w8 w9 := Fr.of_grown hgr9 fun i _ e => e
    have hlo8 : ∀ q, u8.ownBlock = some q → w7.heap.size ≤ q := fun q hq => (HO8.out.lt q hq).1
    have X9 := Lib.hid (X8.out.sub hf9 (fun i e => by have := hlo8 i e; have := hbs.out; have := hgr7.out; have := hgf7.out; omega))
    have HO1 : Hid (w9.ownsRow w.heap.size 3 1 (.slice A1 l1.length c1) l1.length (intsV l1)) := ownsRow_fr HO1.out hf9 (fun q hq e => by have := hlt1.out q hq; have := hlo8 q e; omega)
    have HO3 : Hid (w9.ownsRow w.heap.size 3 1 u9 (l1 ++ l2).length (intsV (l1 ++ l2))) := by
      show World.ownsRow _ _ _ _ _ _ _
      rw [List.length_append]
      exact own_lower ho9 hbs.out
    have HL3 : Hid ((l1 ++ l2).length ≤ 40) := by show _ ≤ _; rw [List.length_append]; have := HL1.out; have := HL2.out; omega
    obtain ⟨A3, c3, rfl⟩ := own_slice HO3.out
    have hlen3 : l1.length + l2.length = (l1 ++ l2).length := by rw [List.length_append]
    try rw [hlen3]
    clear hlen3
    generalize hl3 : l1 ++ l2 = l3 at *
    have HL12 := Lib.hid hl3
    clear hl3
    have X10 : Hid (FX w g v bs gr gf #[.string nm, .slice A1 l1.length c1, .int .i64 rs, .slice A3 l3.length c3, .slice none 0 0] st4 (w9.setCell ⟨gf, 3, none⟩ (.slice A3 l3.length c3))) := by
      show FX _ _ _ _ _ _ _ _ _
      simpa using X9.out.store 3 (.slice A3 l3.length c3)
    have HO1 := Lib.hid (row_store X9.out HO1.out (by decide) 3 (.slice A3 l3.length c3))
    have HO3 := Lib.hid (row_store X9.out HO3.out (by decide) 3 (.slice A3 l3.length c3))
    have z3 := X9.out.fb.frozen 3
    have f3 := X9.out.fb.cell 3
    clear X9 X8 hgr9 hf9 ho9 hlo8 HO8 hw8 hlt1 hlt2 HO2 hbs hgr7 hgf7
    go_upto_region 12 with (fail)
    generalize w9.setCell ⟨gf, 3, none⟩ (.slice A3 l3.length c3) = w10 at *
    clear z3 f3
    go_wp2_with fail
    refine (HMany.out _ w10 X10.out.rd).mono ?_
    rintro e w11 ⟨n, st5, rfl, ⟨hn0, hn1⟩, hg5, hr11, hf11⟩
    have X11 := Lib.hid (X10.out.call hr11 hf11)
    have HG5 := Lib.hid hg5
    have HO1 := Lib.hid (row_call X10.out HO1.out hf11)
    have HO3 := Lib.hid (row_call X10.out HO3.out hf11)
    clear X10 hg5 hr11 hf11
    have hn2 : n ≤ 32768 := hn1
    clear hn1
    go_wp2_with fail
    go_loopg [9, 10] n.toNat (fun gg s9 _ wr => ∃ (i : Nat) (l : List InsR) (s : Option (List Nat)) (uc : Value), i + gg = n.toNat ∧ s9 = .int .i64 (i : Int) ∧ Hid (l.length = i) ∧ Hid (Got (pRep pIns i) st5 l s) ∧ Hid (FX w g v bs gr gf #[.string nm, .slice A1 l1.length c1, .int .i64 rs, .slice A3 l3.length c3, uc] s wr) ∧
      Hid (wr.ownsRow w.heap.size 3 1 (.slice A1 l1.length c1) l1.length (intsV l1)) ∧ Hid (wr.ownsRow w.heap.size 3 1 (.slice A3 l3.length c3) l3.length (intsV l3)) ∧ Hid (wr.ownsRow w.heap.size 50 3 uc l.length (codeV l)))
    case atStart => exact ⟨0, [], st5, .slice none 0 0, by omega, rfl, rfl, got_zero, X11, HO1, HO3, World.ownsRow_nil _ _ _ _⟩
    case round =>
      clear X11 HO1 HO3
      obtain ⟨i, l, s, uc, hi, rfl, HLL, HGR, X, HO1, HO3, HOC⟩ := hrel
      obtain ⟨at_, bad, hk, hki, hst⟩ := X.out.rd.ex
      have k2 := hk.cell 2
      clear hk hki
      have fin : ∀ (hend : Got (pList 32768 pIns) st4 l s), Hid (Got pFn (some (bs.drop k)) ⟨nm, l1, rs, l3, l⟩ s) := fun hend => by
        show Got _ _ _ _
        rw [← HL12.out]
        exact got_fn HG1.out HG2.out HG3.out HG4.out hend
      have hdone : ∀ (hend : Hid (Got pFn (some (bs.drop k)) ⟨nm, l1, rs, l3, l⟩ s)), True := fun _ => trivial
      cases gk with
      | zero =>
        have hd : decide ((i : Int) < n) = false := by simp; omega
        have HEnd := fin (got_list HG5.out HGR.out (.inr (by omega)))
        have hin : (i : Int) ≤ 32768 := by omega
        clear fin hdone hi hst
        obtain ⟨Ac, cc, rfl⟩ := own_sl HOC.out
        obtain ⟨B5, R5, G5, F5⟩ := X.out.ret (.string nm) (.slice A1 l1.length c1) (.int .i64 rs) (.slice A3 l3.length c3) (.slice Ac l.length cc)
        have HB5 := Lib.hid B5
        have HR5 := Lib.hid R5
        have HF5 := Lib.hid F5
        have HO1 := Lib.hid (ownsRow_fr HO1.out G5 (fun q hq e => own_ne_blk HO1.out X.out.res (by decide) (by have e : q = gr := e; rw [hq, e])))
        have HO3 := Lib.hid (ownsRow_fr HO3.out G5 (fun q hq e => own_ne_blk HO3.out X.out.res (by decide) (by have e : q = gr := e; rw [hq, e])))
        have HOC := Lib.hid (ownsRow_fr HOC.out G5 (fun q hq e => own_ne_blk HOC.out X.out.res (by decide) (by have e : q = gr := e; rw [hq, e])))
        have hll : Hid (l.length ≤ 32768) := by show _ ≤ _; have := HLL.out; omega
        have f0 := X.out.fb.cell 0
        have f1 := X.out.fb.cell 1
        have f2 := X.out.fb.cell 2
        have f3 := X.out.fb.cell 3
        have f4 := X.out.fb.cell 4
        have r0 := X.out.res.cell 0
        have r1 := X.out.res.cell 1
        have r2 := X.out.res.cell 2
        have r3 := X.out.res.cell 3
        have r4 := X.out.res.cell 4
        have z0 := X.out.res.frozen 0
        have z1 := X.out.res.frozen 1
        have z2 := X.out.res.frozen 2
        have z3 := X.out.res.frozen 3
        have z4 := X.out.res.frozen 4
        clear B5 R5 G5 F5
        go_wp2_with fail
        generalize ((((wr.setCell ⟨gr, 0, none⟩ (.string nm)).setCell ⟨gr, 1, none⟩ (.slice A1 l1.length c1)).setCell ⟨gr, 2, none⟩ (.int .i64 rs)).setCell ⟨gr, 3, none⟩ (.slice A3 l3.length c3)).setCell ⟨gr, 4, none⟩ (.slice Ac l.length cc) = wz at *
        have y0 := HB5.out.cell 0
        have y1 := HB5.out.cell 1
        have y2 := HB5.out.cell 2
        have y3 := HB5.out.cell 3
        have y4 := HB5.out.cell 4
        refine bodyPost_ret (v := fnV ⟨nm, l1, rs, l3, l⟩ (.slice A1 l1.length c1, .slice A3 l3.length c3, .slice Ac l.length cc)) (by simp [results, Tryd.results39, go_sem, y0, y1, y2, y3, y4]) rfl ⟨⟨nm, l1, rs, l3, l⟩, (.slice A1 l1.length c1, .slice A3 l3.length c3, .slice Ac l.length cc), _, rfl, ⟨HO1.out, HO3.out, HOC.out⟩, ⟨by have := HL1.out; show l1.length ≤ _; omega, by have := HL3.out; show l3.length ≤ _; omega, by have := hll.out; show l.length ≤ _; omega, by have := HSz.out; show nm.size ≤ _; omega⟩, HEnd.out, HR5.out, HF5.out⟩
      | succ gk =>
        have hd : decide ((i : Int) < n) = true := by simp; omega
        rcases hst with ⟨rfl, rfl⟩ | ⟨rfl, k', rfl, hkl', rfl⟩
        · have HEnd := fin (got_list HG5.out HGR.out (.inl ⟨rfl, by omega⟩))
          have hin : (i : Int) ≤ 32768 := by omega
          clear fin hdone hi
          obtain ⟨Ac, cc, rfl⟩ := own_sl HOC.out
          obtain ⟨B5, R5, G5, F5⟩ := X.out.ret (.string nm) (.slice A1 l1.length c1) (.int .i64 rs) (.slice A3 l3.length c3) (.slice Ac l.length cc)
          have HB5 := Lib.hid B5
          have HR5 := Lib.hid R5
          have HF5 := Lib.hid F5
          have HO1 := Lib.hid (ownsRow_fr HO1.out G5 (fun q hq e => own_ne_blk HO1.out X.out.res (by decide) (by have e : q = gr := e; rw [hq, e])))
          have HO3 := Lib.hid (ownsRow_fr HO3.out G5 (fun q hq e => own_ne_blk HO3.out X.out.res (by decide) (by have e : q = gr := e; rw [hq, e])))
          have HOC := Lib.hid (ownsRow_fr HOC.out G5 (fun q hq e => own_ne_blk HOC.out X.out.res (by decide) (by have e : q = gr := e; rw [hq, e])))
          have hll : Hid (l.length ≤ 32768) := by show _ ≤ _; have := HLL.out; omega
          have f0 := X.out.fb.cell 0
          have f1 := X.out.fb.cell 1
          have f2 := X.out.fb.cell 2
          have f3 := X.out.fb.cell 3
          have f4 := X.out.fb.cell 4
          have r0 := X.out.res.cell 0
          have r1 := X.out.res.cell 1
          have r2 := X.out.res.cell 2
          have r3 := X.out.res.cell 3
          have r4 := X.out.res.cell 4
          have z0 := X.out.res.frozen 0
          have z1 := X.out.res.frozen 1
          have z2 := X.out.res.frozen 2
          have z3 := X.out.res.frozen 3
          have z4 := X.out.res.frozen 4
          clear B5 R5 G5 F5
          go_wp2_with fail
          generalize ((((wr.setCell ⟨gr, 0, none⟩ (.string nm)).setCell ⟨gr, 1, none⟩ (.slice A1 l1.length c1)).setCell ⟨gr, 2, none⟩ (.int .i64 rs)).setCell ⟨gr, 3, none⟩ (.slice A3 l3.length c3)).setCell ⟨gr, 4, none⟩ (.slice Ac l.length cc) = wz at *
          have y0 := HB5.out.cell 0
          have y1 := HB5.out.cell 1
          have y2 := HB5.out.cell 2
          have y3 := HB5.out.cell 3
          have y4 := HB5.out.cell 4
          refine bodyPost_ret (v := fnV ⟨nm, l1, rs, l3, l⟩ (.slice A1 l1.length c1, .slice A3 l3.length c3, .slice Ac l.length cc)) (by simp [results, Tryd.results39, go_sem, y0, y1, y2, y3, y4]) rfl ⟨⟨nm, l1, rs, l3, l⟩, (.slice A1 l1.length c1, .slice A3 l3.length c3, .slice Ac l.length cc), _, rfl, ⟨HO1.out, HO3.out, HOC.out⟩, ⟨by have := HL1.out; show l1.length ≤ _; omega, by have := HL3.out; show l3.length ≤ _; omega, by have := hll.out; show l.length ≤ _; omega, by have := HSz.out; show nm.size ≤ _; omega⟩, HEnd.out, HR5.out, HF5.out⟩
        · clear hkl' fin hdone
          have L0 : Hid (LX w g v bs gr gf #[.string nm, .slice A1 l1.length c1, .int .i64 rs, .slice A3 l3.length c3, uc] (.slice A1 l1.length c1) (.slice A3 l3.length c3) uc l1 l3 l wr.heap.size #[.int .i64 0, .int .i64 0, .int .i64 0] (some (bs.drop k')) (wr.alloc (.cells #[.int .i64 0, .int .i64 0, .int .i64 0] 50))) := by
            refine ⟨X.out.alloc _, HO1.out.alloc _, HO3.out.alloc _, HOC.out.alloc _, Blk.new wr 50 _, ⟨X.out.fr.size, ?_, ?_⟩, fun q hq => ?_⟩
            · have := X.out.res.lt; omega
            · have := X.out.fb.lt; omega
            · have := (HOC.out.lt q hq).2; omega
          go_upto_region 17 with (fail)
          generalize wr.alloc (.cells #[.int .i64 0, .int .i64 0, .int .i64 0] 50) = wa at *
          generalize wr.heap.size = gx at *
          clear X HO1 HO3 HOC k2
          go_wp2_with fail
          refine (HNat.out _ wa L0.out.x.rd).mono ?_
          rintro e wb ⟨a, sA, rfl, ha, hgA, hrA, hfA⟩
          have L1 := Lib.hid (L0.out.call hrA hfA)
          have L2 : Hid (LX w g v bs gr gf #[.string nm, .slice A1 l1.length c1, .int .i64 rs, .slice A3 l3.length c3, uc] (.slice A1 l1.length c1) (.slice A3 l3.length c3) uc l1 l3 l gx #[.int .i64 a, .int .i64 0, .int .i64 0] sA (wb.setCell ⟨gx, 0, none⟩ (.int .i64 a))) := by
            have := L1.out.set 0 (.int .i64 a)
            exact Lib.hid (by simpa using this)
          have HGA := Lib.hid hgA
          have x0 := L1.out.kx.cell 0
          have y0 := L1.out.kx.frozen 0
          clear L0 L1 ha hgA hrA hfA
          go_upto_region 18 with (fail)
          generalize wb.setCell ⟨gx, 0, none⟩ (.int .i64 a) = wc at *
          clear x0 y0
          go_wp2_with fail
          refine (HNum.out _ wc L2.out.x.rd).mono ?_
          rintro e wd ⟨b, sB, rfl, hb, hgB, hrB, hfB⟩
          have L3 := Lib.hid (L2.out.call hrB hfB)
          have L4 : Hid (LX w g v bs gr gf #[.string nm, .slice A1 l1.length c1, .int .i64 rs, .slice A3 l3.length c3, uc] (.slice A1 l1.length c1) (.slice A3 l3.length c3) uc l1 l3 l gx #[.int .i64 a, .int .i64 b, .int .i64 0] sB (wd.setCell ⟨gx, 1, none⟩ (.int .i64 b))) := by
            have := L3.out.set 1 (.int .i64 b)
            exact Lib.hid (by simpa using this)
          have HGB := Lib.hid hgB
          have x1 := L3.out.kx.cell 1
          have y1 := L3.out.kx.frozen 1
          clear L2 L3 hb hgB hrB hfB
          go_upto_region 19 with (fail)
          generalize wd.setCell ⟨gx, 1, none⟩ (.int .i64 b) = we at *
          clear x1 y1
          go_wp2_with fail
          refine (HNat.out _ we L4.out.x.rd).mono ?_
          rintro e wf ⟨d, sC, rfl, hd', hgC, hrC, hfC⟩
          have L5 := Lib.hid (L4.out.call hrC hfC)
          have L6 : Hid (LX w g v bs gr gf #[.string nm, .slice A1 l1.length c1, .int .i64 rs, .slice A3 l3.length c3, uc] (.slice A1 l1.length c1) (.slice A3 l3.length c3) uc l1 l3 l gx #[.int .i64 a, .int .i64 b, .int .i64 d] sC (wf.setCell ⟨gx, 2, none⟩ (.int .i64 d))) := by
            have := L5.out.set 2 (.int .i64 d)
            exact Lib.hid (by simpa using this)
          have HGC : Hid (Got (pRep pIns (i + 1)) st5 (l ++ [⟨a, b, d⟩]) sC) := got_step HGR.out (got_ins HGA.out HGB.out hgC)
          have x2 := L5.out.kx.cell 2
          have y2 := L5.out.kx.frozen 2
          clear L4 L5 hd' hgC hrC hfC HGA HGB HGR
          go_upto_region 20 with (fail)
          generalize wf.setCell ⟨gx, 2, none⟩ (.int .i64 d) = wg at *
          clear x2 y2
          have f4 : wg.cell? ⟨gf, 4, none⟩ = some uc := L6.out.x.fb.cell 4
          have x0 := L6.out.kx.cell 0
          have x1 := L6.out.kx.cell 1
          have x2 := L6.out.kx.cell 2
          have hsz : Hid (w.heap.size ≤ wg.heap.size) := L6.out.x.fr.size
          have HOc := Lib.hid (L6.out.oc.alloc (.cells #[.int .i64 a, .int .i64 b, .int .i64 d] 50))
          have hll : Hid (l.length ≤ 32768) := by show _ ≤ _; have := HLL.out; omega
          obtain ⟨i0, hi0, hz0, hz1, hz2⟩ := infoIns
          go_wp2_with (at_builtin; refine wpList_append_own_at _ rfl (.tmp 79) (.tmp 81) 51 rfl w.heap.size 50 i0 _ 3 24 Tryd.underlying51 hi0 hz0 hz1 hz2 rfl (by decide) _ _ _ rfl HOc.out ⟨wg.heap.size, 0, none⟩ 1 1 [.int .i64 a, .int .i64 b, .int .i64 d] rfl rfl (cells_new wg 50 [.int .i64 a, .int .i64 b, .int .i64 d]) ?c2 ?c3 ?c4 ?c5 ?_)
          case c2 => intro u hu; simp at hu; rcases hu with rfl | rfl | rfl <;> rfl
          case c3 => have := hll.out; unfold maxLen; omega
          case c4 => have := hll.out; omega
          case c5 => have := hsz.out; simp; omega
          intro ud wh hod hgrd _ _
          have hfr : Fr (fun q => uc.ownBlock = some q) wg wh := (Fr.alloc (S := fun q => uc.ownBlock = some q) wg _).trans (Fr.of_grown hgrd fun _ _ he => he) (fun _ _ h => h)
          have XH := Lib.hid (L6.out.x.sub hfr (fun q hq => ⟨(L6.out.oc.lt q hq).1, fun e => own_ne_blk L6.out.oc L6.out.x.res (by decide) (by rw [hq, e]), fun e => own_ne_blk L6.out.oc L6.out.x.fb (by decide) (by rw [hq, e])⟩))
          have HO1 : Hid (wh.ownsRow w.heap.size 3 1 (.slice A1 l1.length c1) l1.length (intsV l1)) := ownsRow_fr L6.out.o1 hfr (fun q hq e => own_ne_own L6.out.o1 L6.out.oc (by decide) q e hq)
          have HO3 : Hid (wh.ownsRow w.heap.size 3 1 (.slice A3 l3.length c3) l3.length (intsV l3)) := ownsRow_fr L6.out.o3 hfr (fun q hq e => own_ne_own L6.out.o3 L6.out.oc (by decide) q e hq)
          have HOC : Hid (wh.ownsRow w.heap.size 50 3 ud (l ++ [InsR.mk a b d]).length (codeV (l ++ [InsR.mk a b d]))) := by
            show World.ownsRow _ _ _ _ _ _ _
            have e1 : codeV (l ++ [InsR.mk a b d]) = codeV l ++ [.int .i64 a, .int .i64 b, .int .i64 d] := by simp [codeV, insC]
            rw [e1, List.length_append]
            exact hod
          obtain ⟨Ad, cd, rfl⟩ := own_sl hod
          have XI : Hid (FX w g v bs gr gf #[.string nm, .slice A1 l1.length c1, .int .i64 rs, .slice A3 l3.length c3, .slice Ad (l.length + 1) cd] sC (wh.setCell ⟨gf, 4, none⟩ (.slice Ad (l.length + 1) cd))) := by
            show FX _ _ _ _ _ _ _ _ _
            simpa using XH.out.store 4 (.slice Ad (l.length + 1) cd)
          have HO1 := Lib.hid (row_store XH.out HO1.out (by decide) 4 (.slice Ad (l.length + 1) cd))
          have HO3 := Lib.hid (row_store XH.out HO3.out (by decide) 4 (.slice Ad (l.length + 1) cd))
          have HOC := Lib.hid (row_store XH.out HOC.out (by decide) 4 (.slice Ad (l.length + 1) cd))
          have f4 := XH.out.fb.cell 4
          have z4 := XH.out.fb.frozen 4
          clear XH L6 hod hgrd hfr HOc x0 x1 x2
          go_wp2_with fail
          go_roundg gk
          case measure => omega
          case rel => exact ⟨i + 1, l ++ [InsR.mk a b d], sC, _, by omega, by push_cast; rfl, by show _ = _; rw [List.length_append, HLL.out]; rfl, HGC, XI, HO1, HO3, HOC⟩

end Go.Proofs.YtebdjahcahgafaaDoor

/- The program's reader: need, read, num, signed, text. What is wrong is thrown. The program's reader: instructions, variables, and rows. What is wrong is thrown. slices.Grow of nil, and slices.Concat of two rows of numbers. The program's reader of functions. What is wrong is thrown. The program's reader of rows of functions; bytes.HasPrefix. -/
import Derived.Test.YtebdjahcahgafaaDoorIRdM
import Derived.Test.YtebdjahcahgafaaDoorReads
import Derived.Deep.QuietTactic
import Derived.BigQuiet
import Derived.WalkLawsBesides
import Derived.Test.YtebdjahcahgafaaDoorIDec
import Derived.Laws.MakeOwn
import Derived.Lib.AppendZeros
import Derived.Test.YtebdjahcahgafaaDoorHeldT
namespace Go.Proofs.YtebdjahcahgafaaDoor
open Go.RowKit

/-- What is thrown, and how a call ends by it. -/
abbrev notImg : Value := .iface 71 (.agg #[])
abbrev thrown : Ending := .panicked [{ v := notImg, recovered := false }]

theorem need_yes (w : World) : Calls Tryd.prog 56 #[.bool true] w fun e w' => e = .returned (.tuple #[]) ∧ w' = w := by
  go_enter Tryd.func56, Tryd.ntmps56
  go_wp2_with fail
  go_end0
  exact ⟨rfl, rfl⟩
theorem need_no (w : World) : Calls Tryd.prog 56 #[.bool false] w fun e w' => e = thrown ∧ w' = w := by
  go_enter Tryd.func56, Tryd.ntmps56
  go_wp2_with fail
  exact ⟨rfl, rfl, rfl⟩

/-- The reader in block g of the bytes bs (the slice v); l is what is left. -/
structure PR (g : Nat) (v : Value) (bs l : List Nat) (w : World) : Prop where
  ex : ∃ k : Nat, Blk w g 94 #[v, .int .i64 (k : Int)] ∧ k ≤ bs.length ∧ l = bs.drop k
  sl : SlB w v bs
  low : ∀ A n c, v = .slice (some A) n c → A.block < g
section
variable {g : Nat} {v : Value} {bs l l' : List Nat} {w w' : World}
/-- Other blocks are written. -/
theorem PR.fr {S : Nat → Prop} (h : PR g v bs l w) (hf : Fr S w w') (hg : ¬ S g) (hv : ∀ A n c, v = .slice (some A) n c → ¬ S A.block) : PR g v bs l w' := by
  obtain ⟨k, h1, h2, h3⟩ := h.ex
  exact ⟨⟨k, h1.fr hf hg, h2, h3⟩, h.sl.fr hf hv, h.low⟩
theorem PR.below (h : PR g v bs l w) (hb : Below w.heap.size w w') : PR g v bs l w' := h.fr (S := fun _ => False) (Fr.of_below hb) (fun h => h) (fun _ _ _ _ h => h)
theorem PR.draw (h : PR g v bs l w) (n : Nat) : PR g v bs l (w.drewN n) := h.fr (S := fun _ => False) (Fr.drewN w n) (fun h => h) (fun _ _ _ _ h => h)
theorem PR.lt (h : PR g v bs l w) : g < w.heap.size := by
  obtain ⟨k, h1, _⟩ := h.ex
  exact h1.lt
theorem PR.step (h : PR g v bs l w) {k p : Nat} (hk : Blk w g 94 #[v, .int .i64 (k : Int)]) (hp : p ≤ bs.length) :
    PR g v bs (bs.drop p) (w.setCell ⟨g, 1, none⟩ (.int .i64 (p : Int))) ∧ Fr (fun i => i = g) w (w.setCell ⟨g, 1, none⟩ (.int .i64 (p : Int))) := by
  have f1 : Fr (fun i => i = g) w (w.setCell ⟨g, 1, none⟩ (.int .i64 (p : Int))) := Fr.set (S := fun i => i = g) w (p := ⟨g, 1, none⟩) rfl _
  refine ⟨⟨⟨p, ?_, hp, rfl⟩, h.sl.fr f1 (fun A n c e => Nat.ne_of_lt (h.low A n c e)), h.low⟩, f1⟩
  have := hk.set_ 1 (.int .i64 (p : Int))
  simpa using this
end

/-- What a reading call answers: the value and what is left; or it throws. -/
def ReadP {α : Type} (p : Prs α) (V : α → Value) (g : Nat) (v : Value) (bs l : List Nat) (w : World) (e : Ending) (w' : World) : Prop :=
  Fr (fun i => i = g) w w' ∧ ((p l = none ∧ e = thrown) ∨ ∃ x l', p l = some (x, l') ∧ e = .returned (V x) ∧ PR g v bs l' w')

theorem eq_no {e : Nat} (h : ((e : Int) != 0) = true) : ((e : Int) == 0) = false := by
  rw [bne_iff_ne] at h
  rw [beq_eq_false_iff_ne]; exact h


set_option maxHeartbeats 1000000 in
set_option maxRecDepth 100000 in
theorem qread_nat (g : Nat) (v : Value) (bs l : List Nat) (w : World) (h : PR g v bs l w) (hn : bs.length ≤ 281474976710656) (hby : ∀ x ∈ bs, x < 256) :
    Calls Tryd.prog 98 #[.pointer (some ⟨g, 0, none⟩), .func (.func 99) #[] #[]] w (ReadP pNat (fun n => .int .i64 n) g v bs l w) := by
  obtain ⟨k, hk, hkl, rfl⟩ := h.ex
  have HH := Lib.hid h
  have HK := Lib.hid hk
  have k0 := hk.cell 0
  have k1 := hk.cell 1
  have HBy := Lib.hid hby
  have HC := Lib.hid (readnum_c v bs (k : Int) w.drew (h.sl.draw 1) hn (by omega) (by omega) hby)
  clear h hk hby
  cases hr : rdAns bs (k : Int) 9 with
  | error e =>
    have hne := eq_no (rdAns_ne hr)
    have HG := Lib.hid (nat_err hkl hr)
    rw [hr] at HC
    simp only [numVal] at HC
    clear hr
    go_enter Tryd.func98, Tryd.ntmps98
    go_wp2_with fail
    go_region_with (go_at_call 99; refine HC.out.mono ?_; rintro e9 w9 ⟨rfl, hb9⟩; have HB9 := Lib.hid (below_trans (w := w) ((Below.refl _ _).drew) hb9); clear hb9)
    all_goals
      clear k0 k1 hn hkl HC
      go_wp2_with fail
      refine (need_no _).mono ?_
      rintro e2 w2 ⟨rfl, rfl⟩
      exact ⟨rfl, Fr.of_below HB9.out, .inl ⟨HG.out, rfl⟩⟩
  | ok q =>
    obtain ⟨z, p⟩ := q
    have hpl : p ≤ bs.length := rdAns_end HBy.out hr
    have HG := Lib.hid (nat_ok hkl hr)
    rw [hr] at HC
    simp only [numVal] at HC
    clear hr
    generalize hzz : ((z : Int)) = zz at HC HG
    clear hzz
    go_enter Tryd.func98, Tryd.ntmps98
    go_wp2_with fail
    go_region_with (go_at_call 99; refine HC.out.mono ?_; rintro e9 w9 ⟨rfl, hb9⟩; have HB9 := Lib.hid (below_trans (w := w) ((Below.refl _ _).drew) hb9); clear hb9)
    all_goals
      obtain ⟨R, F⟩ := (HH.out.below HB9.out).step (k := k) (HK.out.below HB9.out HK.out.lt) hpl
      have HR := Lib.hid R
      have HF := Lib.hid ((Fr.of_below (S := fun i => i = g) HB9.out).trans F (fun _ _ e => e))
      have HKq := HK.out.below HB9.out HK.out.lt
      clear R F k0 k1 hn hkl HC
      have k1 := HKq.cell 1
      have hf1 := HKq.frozen 1
      clear HKq
      go_wp2_with fail
      refine (need_yes _).mono ?_
      rintro e2 w2 ⟨rfl, rfl⟩
      go_wp2_with fail
      go_ret
      exact ⟨HF.out, .inr ⟨zz, _, HG.out, rfl, HR.out⟩⟩


set_option maxHeartbeats 1000000 in
set_option maxRecDepth 100000 in
theorem qread_int (g : Nat) (v : Value) (bs l : List Nat) (w : World) (h : PR g v bs l w) (hn : bs.length ≤ 281474976710656) (hby : ∀ x ∈ bs, x < 256) :
    Calls Tryd.prog 98 #[.pointer (some ⟨g, 0, none⟩), .func (.func 100) #[] #[]] w (ReadP pInt (fun n => .int .i64 n) g v bs l w) := by
  obtain ⟨k, hk, hkl, rfl⟩ := h.ex
  have HH := Lib.hid h
  have HK := Lib.hid hk
  have k0 := hk.cell 0
  have k1 := hk.cell 1
  have HBy := Lib.hid hby
  have HC := Lib.hid (readint_c v bs (k : Int) w.drew (h.sl.draw 1) hn (by omega) (by omega) hby)
  clear h hk hby
  cases hr : rdAns bs (k : Int) 10 with
  | error e =>
    have hne := eq_no (rdAns_ne hr)
    have HG := Lib.hid (int_err hkl hr)
    rw [hr] at HC
    simp only [intVal] at HC
    clear hr
    go_enter Tryd.func98, Tryd.ntmps98
    go_wp2_with fail
    go_region_with (go_at_call 100; refine HC.out.mono ?_; rintro e9 w9 ⟨rfl, hb9⟩; have HB9 := Lib.hid (below_trans (w := w) ((Below.refl _ _).drew) hb9); clear hb9)
    all_goals
      clear k0 k1 hn hkl HC
      go_wp2_with fail
      refine (need_no _).mono ?_
      rintro e2 w2 ⟨rfl, rfl⟩
      exact ⟨rfl, Fr.of_below HB9.out, .inl ⟨HG.out, rfl⟩⟩
  | ok q =>
    obtain ⟨z, p⟩ := q
    have hpl : p ≤ bs.length := rdAns_end HBy.out hr
    have HG := Lib.hid (int_ok hkl hr)
    rw [hr] at HC
    simp only [intVal] at HC
    clear hr
    generalize hzz : (uz z) = zz at HC HG
    clear hzz
    go_enter Tryd.func98, Tryd.ntmps98
    go_wp2_with fail
    go_region_with (go_at_call 100; refine HC.out.mono ?_; rintro e9 w9 ⟨rfl, hb9⟩; have HB9 := Lib.hid (below_trans (w := w) ((Below.refl _ _).drew) hb9); clear hb9)
    all_goals
      obtain ⟨R, F⟩ := (HH.out.below HB9.out).step (k := k) (HK.out.below HB9.out HK.out.lt) hpl
      have HR := Lib.hid R
      have HF := Lib.hid ((Fr.of_below (S := fun i => i = g) HB9.out).trans F (fun _ _ e => e))
      have HKq := HK.out.below HB9.out HK.out.lt
      clear R F k0 k1 hn hkl HC
      have k1 := HKq.cell 1
      have hf1 := HKq.frozen 1
      clear HKq
      go_wp2_with fail
      refine (need_yes _).mono ?_
      rintro e2 w2 ⟨rfl, rfl⟩
      go_wp2_with fail
      go_ret
      exact ⟨HF.out, .inr ⟨zz, _, HG.out, rfl, HR.out⟩⟩


set_option maxHeartbeats 1000000 in
set_option maxRecDepth 100000 in
theorem qread_text (g : Nat) (v : Value) (bs l : List Nat) (w : World) (h : PR g v bs l w) (hn : bs.length ≤ 281474976710656) (hby : ∀ x ∈ bs, x < 256) :
    Calls Tryd.prog 101 #[.pointer (some ⟨g, 0, none⟩), .func (.func 102) #[] #[]] w (ReadP pText (fun s => .string s) g v bs l w) := by
  obtain ⟨k, hk, hkl, rfl⟩ := h.ex
  have HH := Lib.hid h
  have HK := Lib.hid hk
  have k0 := hk.cell 0
  have k1 := hk.cell 1
  have HBy := Lib.hid hby
  have HC := Lib.hid (readtext_c v bs (k : Int) w.drew (h.sl.draw 1) hn (by omega) (by omega) hby)
  clear h hk hby
  cases hr : txAns bs (k : Int) with
  | error e =>
    have hne := eq_no (txAns_ne hr)
    have HG := Lib.hid (text_err hkl HBy.out hr)
    rw [hr] at HC
    simp only [txVal] at HC
    clear hr
    go_enter Tryd.func101, Tryd.ntmps101
    go_wp2_with fail
    go_region_with (go_at_call 102; refine HC.out.mono ?_; rintro e9 w9 ⟨rfl, hb9⟩; have HB9 := Lib.hid (below_trans (w := w) ((Below.refl _ _).drew) hb9); clear hb9)
    all_goals
      clear k0 k1 hn hkl HC
      go_wp2_with fail
      refine (need_no _).mono ?_
      rintro e2 w2 ⟨rfl, rfl⟩
      exact ⟨rfl, Fr.of_below HB9.out, .inl ⟨HG.out, rfl⟩⟩
  | ok q =>
    obtain ⟨z, p⟩ := q
    have hpl : p ≤ bs.length := (txAns_small HBy.out hr).2
    have HG := Lib.hid (text_ok hkl hr)
    rw [hr] at HC
    simp only [txVal] at HC
    clear hr
    generalize hzz : (strOf z) = zz at HC HG
    clear hzz
    go_enter Tryd.func101, Tryd.ntmps101
    go_wp2_with fail
    go_region_with (go_at_call 102; refine HC.out.mono ?_; rintro e9 w9 ⟨rfl, hb9⟩; have HB9 := Lib.hid (below_trans (w := w) ((Below.refl _ _).drew) hb9); clear hb9)
    all_goals
      obtain ⟨R, F⟩ := (HH.out.below HB9.out).step (k := k) (HK.out.below HB9.out HK.out.lt) hpl
      have HR := Lib.hid R
      have HF := Lib.hid ((Fr.of_below (S := fun i => i = g) HB9.out).trans F (fun _ _ e => e))
      have HKq := HK.out.below HB9.out HK.out.lt
      clear R F k0 k1 hn hkl HC
      have k1 := HKq.cell 1
      have hf1 := HKq.frozen 1
      clear HKq
      go_wp2_with fail
      refine (need_yes _).mono ?_
      rintro e2 w2 ⟨rfl, rfl⟩
      go_wp2_with fail
      go_ret
      exact ⟨HF.out, .inr ⟨zz, _, HG.out, rfl, HR.out⟩⟩


set_option maxRecDepth 100000 in
theorem qnum_c (g : Nat) (v : Value) (bs l : List Nat) (w : World) (h : PR g v bs l w) (hn : bs.length ≤ 281474976710656) (hby : ∀ x ∈ bs, x < 256) :
    Calls Tryd.prog 82 #[.pointer (some ⟨g, 0, none⟩)] w (ReadP pNat (fun n => .int .i64 n) g v bs l w) := by
  have HC := Lib.hid (qread_nat g v bs l w h hn hby)
  clear h hn hby
  go_enter Tryd.func82, Tryd.ntmps82
  go_wp2_with fail
  refine HC.out.mono ?_
  rintro e w1 ⟨hf, ⟨hp, rfl⟩ | ⟨x, l', hp, rfl, hr⟩⟩
  · exact ⟨rfl, hf, .inl ⟨hp, rfl⟩⟩
  · have HR := Lib.hid (And.intro hf (And.intro hp hr))
    clear hf hp hr HC
    go_wp2_with fail
    go_ret
    exact ⟨HR.out.1, .inr ⟨x, l', HR.out.2.1, rfl, HR.out.2.2⟩⟩


set_option maxRecDepth 100000 in
theorem qsigned_c (g : Nat) (v : Value) (bs l : List Nat) (w : World) (h : PR g v bs l w) (hn : bs.length ≤ 281474976710656) (hby : ∀ x ∈ bs, x < 256) :
    Calls Tryd.prog 83 #[.pointer (some ⟨g, 0, none⟩)] w (ReadP pInt (fun n => .int .i64 n) g v bs l w) := by
  have HC := Lib.hid (qread_int g v bs l w h hn hby)
  clear h hn hby
  go_enter Tryd.func83, Tryd.ntmps83
  go_wp2_with fail
  refine HC.out.mono ?_
  rintro e w1 ⟨hf, ⟨hp, rfl⟩ | ⟨x, l', hp, rfl, hr⟩⟩
  · exact ⟨rfl, hf, .inl ⟨hp, rfl⟩⟩
  · have HR := Lib.hid (And.intro hf (And.intro hp hr))
    clear hf hp hr HC
    go_wp2_with fail
    go_ret
    exact ⟨HR.out.1, .inr ⟨x, l', HR.out.2.1, rfl, HR.out.2.2⟩⟩


set_option maxRecDepth 100000 in
theorem qtext_c (g : Nat) (v : Value) (bs l : List Nat) (w : World) (h : PR g v bs l w) (hn : bs.length ≤ 281474976710656) (hby : ∀ x ∈ bs, x < 256) :
    Calls Tryd.prog 84 #[.pointer (some ⟨g, 0, none⟩)] w (ReadP pText (fun s => .string s) g v bs l w) := by
  have HC := Lib.hid (qread_text g v bs l w h hn hby)
  clear h hn hby
  go_enter Tryd.func84, Tryd.ntmps84
  go_wp2_with fail
  refine HC.out.mono ?_
  rintro e w1 ⟨hf, ⟨hp, rfl⟩ | ⟨x, l', hp, rfl, hr⟩⟩
  · exact ⟨rfl, hf, .inl ⟨hp, rfl⟩⟩
  · have HR := Lib.hid (And.intro hf (And.intro hp hr))
    clear hf hp hr HC
    go_wp2_with fail
    go_ret
    exact ⟨HR.out.1, .inr ⟨x, l', HR.out.2.1, rfl, HR.out.2.2⟩⟩

/-- What a call that reads a row answers: a row of its own, and what is left; or it throws. -/
def ReadL {α : Type} (p : Prs (List α)) (e k : Nat) (V : List α → List Value) (g : Nat) (v : Value) (bs l : List Nat) (w : World) (en : Ending) (w' : World) : Prop :=
  Fr (fun i => i = g) w w' ∧ ((p l = none ∧ en = thrown) ∨ ∃ u xs l', p l = some (xs, l') ∧ en = .returned u ∧ w'.ownsRow w.heap.size e k u xs.length (V xs) ∧ PR g v bs l' w')

theorem mk_row (t e : TypeId) (i : TypeInfo) (z : Value) (size n : Nat) (ht : Tryd.prog.underlying t = some (.slice e)) (hi : Tryd.prog.info? e = some i) (hz : i.zero = some z) (hs : i.size = size) (hby : i.bytes * n ≤ 281474976710656) (hn : n ≤ 40000) :
    ∃ cs : Array Value, (∀ w, (Instr.makeSlice t (.int .i64 0) (.int .i64 (n : Int))).run Tryd.prog w = .ok (.slice (some ⟨w.heap.size, 0, none⟩) 0 n) (w.alloc (.cells cs e))) ∧
      ∀ w : World, (w.alloc (.cells cs e)).ownsRow w.heap.size e size (.slice (some ⟨w.heap.size, 0, none⟩) 0 n) 0 [] := by
  refine ⟨madeCells z.cells (n * i.size), fun w => ?_, fun w => ?_⟩
  · have hb' : (i.bytes : Int) * (n : Int) ≤ 281474976710656 := by
      have h : ((i.bytes * n : Nat) : Int) ≤ 281474976710656 := by omega
      rwa [Int.natCast_mul] at h
    have hr := run_make (P := Tryd.prog) w t e i z ht hi hz .i64 .i64 0 (n : Int) (Int.le_refl _) (by omega) hb' (by omega)
    simpa only [Int.toNat_zero, Int.toNat_natCast] using hr
  · subst hs
    exact World.ownsRow_made w _ n (Nat.le_refl _) (by unfold maxLen; omega) (size_madeCells _ _)

theorem many_no {most : Nat} {l : List Nat} (h : pNat l = none) {α : Type} {p : Prs α} : pList most p l = none := by
  unfold pList pMany; rw [h]; rfl
theorem many_big {most : Nat} {l l' : List Nat} {n : Int} (h : pNat l = some (n, l')) (hn : (most : Int) < n) {α : Type} {p : Prs α} : pList most p l = none := by
  unfold pList pMany; rw [h]; simp only [Option.bind_some]; rw [if_pos hn]; rfl
theorem many_ok {most : Nat} {l l' : List Nat} {n : Nat} (h : pNat l = some ((n : Int), l')) (hn : n ≤ most) {α : Type} {p : Prs α} : pList most p l = pRep p n l' := by
  unfold pList pMany; rw [h]; simp only [Option.bind_some]; rw [if_neg (by omega)]; simp
theorem pnat_nat {l l' : List Nat} {n : Int} (h : pNat l = some (n, l')) : ∃ k : Nat, n = (k : Int) := by
  unfold pNat at h
  split at h
  · injection h with h; injection h with h _; exact ⟨_, h.symm⟩
  · cases h
theorem rep_next {α : Type} {p : Prs α} {i : Nat} {l l1 l2 : List Nat} {xs : List α} {x : α} (h : pRep p i l = some (xs, l1)) (hx : p l1 = some (x, l2)) : pRep p (i + 1) l = some (xs ++ [x], l2) := by
  rw [pRep_last, h]; simp only [Option.bind_some]; rw [hx]; rfl
theorem rep_gone {α : Type} {p : Prs α} {i n : Nat} {l l1 : List Nat} {xs : List α} (h : pRep p i l = some (xs, l1)) (hx : p l1 = none) (hn : i + 1 ≤ n) : pRep p n l = none := by
  refine pRep_none (i := i + 1) ?_ hn
  rw [pRep_last, h]; simp only [Option.bind_some]; rw [hx]; rfl


set_option maxHeartbeats 2000000 in
set_option maxRecDepth 100000 in
theorem qinstr_c (g : Nat) (v : Value) (bs l : List Nat) (w : World) (h : PR g v bs l w) (hn : bs.length ≤ 281474976710656) (hby : ∀ x ∈ bs, x < 256) :
    Calls Tryd.prog 88 #[.pointer (some ⟨g, 0, none⟩)] w (ReadP pIns (fun x => insV x) g v bs l w) := by
  have HBy := Lib.hid hby
  have HN := Lib.hid hn
  have hgw := h.lt
  have HGW := Lib.hid hgw
  have HR0 := Lib.hid (h.below ((Below.refl _ _).alloc (Nat.le_refl _) (.cells #[.int .i64 0, .int .i64 0, .int .i64 0] 50)))
  have HB0 := Lib.hid (Blk.new w 50 #[.int .i64 0, .int .i64 0, .int .i64 0])
  have HF0 : Hid (Fr (fun i => i = g) w (w.alloc (.cells #[.int .i64 0, .int .i64 0, .int .i64 0] 50))) := Fr.alloc _ _
  clear h hn hby
  go_enter Tryd.func88, Tryd.ntmps88
  go_upto_region 1 with (fail)
  generalize w.alloc (.cells #[.int .i64 0, .int .i64 0, .int .i64 0] 50) = w0 at *
  obtain ⟨b, hb⟩ : ∃ b, b = w.heap.size := ⟨_, rfl⟩
  have hgb : Hid (g ≠ b) := by show _ ≠ _; omega
  rw [← hb] at HB0
  rw [show (some { block := w.heap.size, off := 0, spot := none } : Option Addr) = some ⟨b, 0, none⟩ by rw [hb]]
  have HBE := Lib.hid hb
  clear hb hgw
  go_wp2_with fail
  refine (qnum_c g v bs l w0 HR0.out HN.out HBy.out).mono ?_
  rintro e1 w1 ⟨hf1, ⟨hp1, rfl⟩ | ⟨x1, l1, hp1, rfl, hr1⟩⟩
  · exact ⟨rfl, HF0.out.trans hf1 (fun _ _ e => e), .inl ⟨by unfold pIns; rw [hp1]; rfl, rfl⟩⟩
  have HP1 := Lib.hid hp1
  have HR1 := Lib.hid hr1
  have HF1 := Lib.hid (HF0.out.trans hf1 (fun _ _ e => e))
  have HB1 := Lib.hid (HB0.out.fr hf1 (fun e => hgb.out e.symm))
  clear hp1 hr1 hf1 HR0 HF0 HB0
  go_wp2_with fail
  refine (qsigned_c g v bs l1 w1 HR1.out HN.out HBy.out).mono ?_
  rintro e2 w2 ⟨hf2, ⟨hp2, rfl⟩ | ⟨x2, l2, hp2, rfl, hr2⟩⟩
  · exact ⟨rfl, HF1.out.trans hf2 (fun _ _ e => e), .inl ⟨by unfold pIns; rw [HP1.out]; simp only [Option.bind_some]; rw [hp2]; rfl, rfl⟩⟩
  have HP2 := Lib.hid hp2
  have HR2 := Lib.hid hr2
  have HF2 := Lib.hid (HF1.out.trans hf2 (fun _ _ e => e))
  have HB2 := Lib.hid (HB1.out.fr hf2 (fun e => hgb.out e.symm))
  clear hp2 hr2 hf2 HR1 HF1 HB1
  go_wp2_with fail
  refine (qnum_c g v bs l2 w2 HR2.out HN.out HBy.out).mono ?_
  rintro e3 w3 ⟨hf3, ⟨hp3, rfl⟩ | ⟨x3, l3, hp3, rfl, hr3⟩⟩
  · exact ⟨rfl, HF2.out.trans hf3 (fun _ _ e => e), .inl ⟨by unfold pIns; rw [HP1.out]; simp only [Option.bind_some]; rw [HP2.out]; simp only [Option.bind_some]; rw [hp3]; rfl, rfl⟩⟩
  have HPP : Hid (pIns l = some (⟨x1, x2, x3⟩, l3)) := by
    show _ = _
    unfold pIns; rw [HP1.out]; simp only [Option.bind_some]; rw [HP2.out]; simp only [Option.bind_some]; rw [hp3]; rfl
  have HR3 := Lib.hid hr3
  have HF3 := Lib.hid (HF2.out.trans hf3 (fun _ _ e => e))
  have HB3 := Lib.hid (HB2.out.fr hf3 (fun e => hgb.out e.symm))
  clear hp3 hr3 hf3 HR2 HF2 HB2 HP1 HP2
  have st : ∀ (wz : World) (j : Nat) (u : Value), Fr (fun i => i = b) wz (wz.setCell ⟨b, j, none⟩ u) := fun wz j u => Fr.set (S := fun i => i = b) wz (p := ⟨b, j, none⟩) rfl _
  have hfb := ((st w3 0 (.int .i64 x1)).trans (st _ 1 (.int .i64 x2)) (fun _ _ e => e)).trans (st _ 2 (.int .i64 x3)) (fun _ _ e => e)
  have HR4 := Lib.hid (HR3.out.fr hfb hgb.out (fun A n c e q => by have := HR3.out.low A n c e; have q : A.block = b := q; have := HBE.out; have := HGW.out; omega))
  have HF4 : Hid (Fr (fun i => i = g) w _) := HF3.out.trans hfb (fun i hi e => absurd (show i = b from e) (by have := HBE.out; omega))
  have HB4 := Lib.hid (((HB3.out.set_ 0 (.int .i64 x1)).set_ 1 (.int .i64 x2)).set_ 2 (.int .i64 x3))
  have z0 := HB3.out.frozen 0
  have z1 := HB3.out.frozen 1
  have z2 := HB3.out.frozen 2
  have c0 := HB3.out.cell 0
  have c1 := HB3.out.cell 1
  have c2 := HB3.out.cell 2
  clear hfb st HR3 HF3
  go_wp2_with fail
  generalize ((w3.setCell ⟨b, 0, none⟩ (.int .i64 x1)).setCell ⟨b, 1, none⟩ (.int .i64 x2)).setCell ⟨b, 2, none⟩ (.int .i64 x3) = w4 at *
  have y0 := HB4.out.cell 0
  have y1 := HB4.out.cell 1
  have y2 := HB4.out.cell 2
  refine bodyPost_ret (v := insV ⟨x1, x2, x3⟩) (by simp [results, Tryd.results88, go_sem, y0, y1, y2]) rfl ⟨HF4.out, .inr ⟨⟨x1, x2, x3⟩, l3, HPP.out, rfl, HR4.out⟩⟩


set_option maxHeartbeats 2000000 in
set_option maxRecDepth 100000 in
theorem qrglob_c (g : Nat) (v : Value) (bs l : List Nat) (w : World) (h : PR g v bs l w) (hn : bs.length ≤ 281474976710656) (hby : ∀ x ∈ bs, x < 256) :
    Calls Tryd.prog 59 #[.pointer (some ⟨g, 0, none⟩)] w (ReadP pGlob (fun x => globV x) g v bs l w) := by
  have HBy := Lib.hid hby
  have HN := Lib.hid hn
  have hgw := h.lt
  have HGW := Lib.hid hgw
  have HR0 := Lib.hid (h.below ((Below.refl _ _).alloc (Nat.le_refl _) (.cells #[.int .i64 0, .int .i64 0, .int .i64 0] 48)))
  have HB0 := Lib.hid (Blk.new w 48 #[.int .i64 0, .int .i64 0, .int .i64 0])
  have HF0 : Hid (Fr (fun i => i = g) w (w.alloc (.cells #[.int .i64 0, .int .i64 0, .int .i64 0] 48))) := Fr.alloc _ _
  clear h hn hby
  go_enter Tryd.func59, Tryd.ntmps59
  go_upto_region 1 with (fail)
  generalize w.alloc (.cells #[.int .i64 0, .int .i64 0, .int .i64 0] 48) = w0 at *
  obtain ⟨b, hb⟩ : ∃ b, b = w.heap.size := ⟨_, rfl⟩
  have hgb : Hid (g ≠ b) := by show _ ≠ _; omega
  rw [← hb] at HB0
  rw [show (some { block := w.heap.size, off := 0, spot := none } : Option Addr) = some ⟨b, 0, none⟩ by rw [hb]]
  have HBE := Lib.hid hb
  clear hb hgw
  go_wp2_with fail
  refine (qnum_c g v bs l w0 HR0.out HN.out HBy.out).mono ?_
  rintro e1 w1 ⟨hf1, ⟨hp1, rfl⟩ | ⟨x1, l1, hp1, rfl, hr1⟩⟩
  · exact ⟨rfl, HF0.out.trans hf1 (fun _ _ e => e), .inl ⟨by unfold pGlob; rw [hp1]; rfl, rfl⟩⟩
  have HP1 := Lib.hid hp1
  have HR1 := Lib.hid hr1
  have HF1 := Lib.hid (HF0.out.trans hf1 (fun _ _ e => e))
  have HB1 := Lib.hid (HB0.out.fr hf1 (fun e => hgb.out e.symm))
  clear hp1 hr1 hf1 HR0 HF0 HB0
  go_wp2_with fail
  refine (qnum_c g v bs l1 w1 HR1.out HN.out HBy.out).mono ?_
  rintro e2 w2 ⟨hf2, ⟨hp2, rfl⟩ | ⟨x2, l2, hp2, rfl, hr2⟩⟩
  · exact ⟨rfl, HF1.out.trans hf2 (fun _ _ e => e), .inl ⟨by unfold pGlob; rw [HP1.out]; simp only [Option.bind_some]; rw [hp2]; rfl, rfl⟩⟩
  have HP2 := Lib.hid hp2
  have HR2 := Lib.hid hr2
  have HF2 := Lib.hid (HF1.out.trans hf2 (fun _ _ e => e))
  have HB2 := Lib.hid (HB1.out.fr hf2 (fun e => hgb.out e.symm))
  clear hp2 hr2 hf2 HR1 HF1 HB1
  go_wp2_with fail
  refine (qsigned_c g v bs l2 w2 HR2.out HN.out HBy.out).mono ?_
  rintro e3 w3 ⟨hf3, ⟨hp3, rfl⟩ | ⟨x3, l3, hp3, rfl, hr3⟩⟩
  · exact ⟨rfl, HF2.out.trans hf3 (fun _ _ e => e), .inl ⟨by unfold pGlob; rw [HP1.out]; simp only [Option.bind_some]; rw [HP2.out]; simp only [Option.bind_some]; rw [hp3]; rfl, rfl⟩⟩
  have HPP : Hid (pGlob l = some (⟨x1, x2, x3⟩, l3)) := by
    show _ = _
    unfold pGlob; rw [HP1.out]; simp only [Option.bind_some]; rw [HP2.out]; simp only [Option.bind_some]; rw [hp3]; rfl
  have HR3 := Lib.hid hr3
  have HF3 := Lib.hid (HF2.out.trans hf3 (fun _ _ e => e))
  have HB3 := Lib.hid (HB2.out.fr hf3 (fun e => hgb.out e.symm))
  clear hp3 hr3 hf3 HR2 HF2 HB2 HP1 HP2
  have st : ∀ (wz : World) (j : Nat) (u : Value), Fr (fun i => i = b) wz (wz.setCell ⟨b, j, none⟩ u) := fun wz j u => Fr.set (S := fun i => i = b) wz (p := ⟨b, j, none⟩) rfl _
  have hfb := ((st w3 0 (.int .i64 x1)).trans (st _ 1 (.int .i64 x2)) (fun _ _ e => e)).trans (st _ 2 (.int .i64 x3)) (fun _ _ e => e)
  have HR4 := Lib.hid (HR3.out.fr hfb hgb.out (fun A n c e q => by have := HR3.out.low A n c e; have q : A.block = b := q; have := HBE.out; have := HGW.out; omega))
  have HF4 : Hid (Fr (fun i => i = g) w _) := HF3.out.trans hfb (fun i hi e => absurd (show i = b from e) (by have := HBE.out; omega))
  have HB4 := Lib.hid (((HB3.out.set_ 0 (.int .i64 x1)).set_ 1 (.int .i64 x2)).set_ 2 (.int .i64 x3))
  have z0 := HB3.out.frozen 0
  have z1 := HB3.out.frozen 1
  have z2 := HB3.out.frozen 2
  have c0 := HB3.out.cell 0
  have c1 := HB3.out.cell 1
  have c2 := HB3.out.cell 2
  clear hfb st HR3 HF3
  go_wp2_with fail
  generalize ((w3.setCell ⟨b, 0, none⟩ (.int .i64 x1)).setCell ⟨b, 1, none⟩ (.int .i64 x2)).setCell ⟨b, 2, none⟩ (.int .i64 x3) = w4 at *
  have y0 := HB4.out.cell 0
  have y1 := HB4.out.cell 1
  have y2 := HB4.out.cell 2
  refine bodyPost_ret (v := globV ⟨x1, x2, x3⟩) (by simp [results, Tryd.results59, go_sem, y0, y1, y2]) rfl ⟨HF4.out, .inr ⟨⟨x1, x2, x3⟩, l3, HPP.out, rfl, HR4.out⟩⟩


set_option maxHeartbeats 2000000 in
set_option maxRecDepth 100000 in
theorem qlist_int (g : Nat) (v : Value) (bs l : List Nat) (w : World) (most : Nat) (h : PR g v bs l w) (hm : most ≤ 1000) (hn : bs.length ≤ 281474976710656) (hby : ∀ x ∈ bs, x < 256) :
    Calls Tryd.prog 85 #[.pointer (some ⟨g, 0, none⟩), .int .i64 (most : Int), .func (.func 82) #[.pointer (some ⟨g, 0, none⟩)] #[]] w (ReadL (pList most pNat) 3 1 intsV g v bs l w) := by
  have HBy := Lib.hid hby
  have HN := Lib.hid hn
  have HGW := Lib.hid h.lt
  have HC := Lib.hid (qnum_c g v bs l w h hn hby)
  clear h hn hby
  go_enter Tryd.func85, Tryd.ntmps85
  go_wp2_with fail
  refine HC.out.mono ?_
  rintro e1 w1 ⟨hf1, ⟨hp1, rfl⟩ | ⟨n, l1, hp1, rfl, hr1⟩⟩
  · exact ⟨rfl, hf1, .inl ⟨many_no hp1, rfl⟩⟩
  obtain ⟨n, rfl⟩ := pnat_nat hp1
  have HP1 := Lib.hid hp1
  have HR1 := Lib.hid hr1
  have HF1 := Lib.hid hf1
  clear hp1 hr1 hf1 HC
  by_cases hnm : n ≤ most
  · have hnm' : (n : Int) ≤ (most : Int) := by omega
    go_wp2_with fail
    refine (need_yes _).mono ?_
    rintro e2 w2 ⟨rfl, rfl⟩
    have HMO : Hid (pList most pNat l = pRep pNat n l1) := many_ok HP1.out hnm
    obtain ⟨i0, hi0, hz0, hz1, hz2⟩ := infoI
    obtain ⟨cs, hmk, hmo⟩ := mk_row 52 3 i0 _ 1 n Tryd.underlying52 hi0 hz0 hz1 (by rw [hz2]; omega) (by omega)
    have HS0 := Lib.hid HF1.out.size
    have HO0 : Hid ((w2.alloc (.cells cs 3)).ownsRow w.heap.size 3 1 (.slice (some ⟨w2.heap.size, 0, none⟩) 0 n) 0 []) := own_lower (hmo w2) HS0.out
    have HR2 := Lib.hid (HR1.out.below ((Below.refl _ _).alloc (Nat.le_refl _) (.cells cs 3)))
    have HF2 : Hid (Fr (fun i => i = g) w (w2.alloc (.cells cs 3))) := HF1.out.trans (Fr.alloc (S := fun i => i = g) w2 _) (fun _ _ e => e)
    clear hmo HP1 HR1 HF1
    go_upto_region 4 with (fail)
    generalize w2.alloc (.cells cs 3) = w3 at *
    generalize (.slice (some { block := w2.heap.size, off := 0, spot := none }) 0 n : Value) = u0 at *
    clear hmk HS0
    go_wp2_with fail
    go_loopg [8, 18, 19, 20, 21, 22, 23, 24, 25] n (fun gg s8 s18 _ _ _ _ _ _ _ wr => ∃ (i : Nat) (xs : List Int) (li : List Nat), i + gg = n ∧ s18 = .int .i64 (i : Int) ∧ xs.length = i ∧ Hid (wr.ownsRow w.heap.size 3 1 s8 xs.length (intsV xs)) ∧ Hid (pRep pNat i l1 = some (xs, li)) ∧ Hid (PR g v bs li wr) ∧ Hid (Fr (fun i => i = g) w wr))
    case atStart => exact ⟨0, [], l1, by omega, rfl, rfl, HO0, rfl, HR2, HF2⟩
    case round =>
      clear HO0 HR2 HF2
      obtain ⟨i, xs, li, hi, rfl, hxi, HO, HP, HR, HF⟩ := hrel
      have HXI := Lib.hid hxi
      clear hxi
      cases gk with
      | zero =>
        obtain rfl : i = n := by omega
        have hd : ¬ i < i := by omega
        clear hi
        go_wp2_with fail
        go_ret
        exact ⟨HF.out, .inr ⟨_, xs, li, by rw [HMO.out]; exact HP.out, rfl, HO.out, HR.out⟩⟩
      | succ gk =>
        have hd : i < n := by omega
        have HC := Lib.hid (qnum_c g v bs li wr HR.out HN.out HBy.out)
        go_wp2_with fail
        refine HC.out.mono ?_
        rintro e2 w2 ⟨hf2, ⟨hp2, rfl⟩ | ⟨x, l2, hp2, rfl, hr2⟩⟩
        · exact ⟨rfl, HF.out.trans hf2 (fun _ _ e => e), .inl ⟨by rw [HMO.out]; exact rep_gone HP.out hp2 (by omega), rfl⟩⟩
        have HP2 := Lib.hid (rep_next HP.out hp2)
        have HR2 := Lib.hid hr2
        have HF2 := Lib.hid (HF.out.trans hf2 (fun _ _ e => e))
        have HO2 : Hid (w2.ownsRow w.heap.size 3 1 u8 xs.length (intsV xs)) := own_fr HO.out hf2 (fun b hb _ e => by have := HGW.out; have e : b = g := e; omega)
        have hws : Hid (w.heap.size ≤ w2.heap.size) := HF2.out.size
        have hxl : Hid (xs.length ≤ 1000) := by show _ ≤ _; have := HXI.out; omega
        clear hp2 hr2 hf2 HC HR HF HO HP
        obtain ⟨i0, hi0, hz0, hz1, hz2⟩ := infoI
        have HO2a := Lib.hid (HO2.out.alloc (.cells #[.int .i64 x] 3))
        go_wp2_with (at_builtin; refine wpList_append_own_at _ rfl (.tmp 20) (.tmp 23) 52 rfl w.heap.size 3 i0 _ 1 8 Tryd.underlying52 hi0 hz0 hz1 hz2 rfl (by decide) _ _ _ rfl HO2a.out ⟨w2.heap.size, 0, none⟩ 1 1 [.int .i64 x] rfl rfl (cells_new w2 3 [.int .i64 x]) ?c2 ?c3 ?c4 ?c5 ?_)
        case c2 => intro u hu; simp at hu; subst hu; rfl
        case c3 => have := hxl.out; unfold maxLen; omega
        case c4 => have := hxl.out; omega
        case c5 => have := hws.out; simp; omega
        intro v3 w3 ho3 hgr3 _ _
        have hfr3 : Fr (fun q => u8.ownBlock = some q) w2 w3 := (Fr.alloc (S := fun q => u8.ownBlock = some q) w2 _).trans (Fr.of_grown hgr3 fun _ _ he => he) (fun _ _ h => h)
        have hnb : ∀ q, u8.ownBlock = some q → w.heap.size ≤ q := fun q hq => (HO2.out.lt q hq).1
        have HO3 : Hid (w3.ownsRow w.heap.size 3 1 v3 (xs ++ [x]).length (intsV (xs ++ [x]))) := by
          show World.ownsRow _ _ _ _ _ _ _
          have e1 : intsV (xs ++ [x]) = intsV xs ++ [.int .i64 x] := by simp [intsV]
          rw [e1, List.length_append]
          exact ho3
        have HR3 : Hid (PR g v bs l2 w3) := HR2.out.fr hfr3 (fun e => by have := hnb g e; have := HGW.out; omega) (fun A n c e q => by have := hnb _ q; have := HR2.out.low A n c e; have := HGW.out; omega)
        have HF3 : Hid (Fr (fun i => i = g) w w3) := HF2.out.trans hfr3 (fun i hi e => absurd (hnb i e) (by omega))
        clear ho3 hgr3 hfr3 hnb HO2 HO2a
        go_wp2_with fail
        go_roundg gk
        case measure => omega
        case rel => exact ⟨i + 1, xs ++ [x], l2, by omega, by push_cast; rfl, by show _ = _; rw [List.length_append, HXI.out]; rfl, HO3, HP2, HR3, HF3⟩
  · have hnm' : decide ((n : Int) ≤ (most : Int)) = false := by simp; omega
    have hnm2 : ¬ n ≤ most := hnm
    have HMB := Lib.hid (many_big (p := pNat) HP1.out (show (most : Int) < (n : Int) by omega))
    go_wp2_with fail
    refine (need_no _).mono ?_
    rintro e2 w2 ⟨rfl, rfl⟩
    exact ⟨rfl, HF1.out, .inl ⟨HMB.out, rfl⟩⟩


set_option maxHeartbeats 2000000 in
set_option maxRecDepth 100000 in
theorem qlist_ins (g : Nat) (v : Value) (bs l : List Nat) (w : World) (most : Nat) (h : PR g v bs l w) (hm : most ≤ 32768) (hn : bs.length ≤ 281474976710656) (hby : ∀ x ∈ bs, x < 256) :
    Calls Tryd.prog 87 #[.pointer (some ⟨g, 0, none⟩), .int .i64 (most : Int), .func (.func 88) #[.pointer (some ⟨g, 0, none⟩)] #[]] w (ReadL (pList most pIns) 50 3 codeV g v bs l w) := by
  have HBy := Lib.hid hby
  have HN := Lib.hid hn
  have HGW := Lib.hid h.lt
  have HC := Lib.hid (qnum_c g v bs l w h hn hby)
  clear h hn hby
  go_enter Tryd.func87, Tryd.ntmps87
  go_wp2_with fail
  refine HC.out.mono ?_
  rintro e1 w1 ⟨hf1, ⟨hp1, rfl⟩ | ⟨n, l1, hp1, rfl, hr1⟩⟩
  · exact ⟨rfl, hf1, .inl ⟨many_no hp1, rfl⟩⟩
  obtain ⟨n, rfl⟩ := pnat_nat hp1
  have HP1 := Lib.hid hp1
  have HR1 := Lib.hid hr1
  have HF1 := Lib.hid hf1
  clear hp1 hr1 hf1 HC
  by_cases hnm : n ≤ most
  · have hnm' : (n : Int) ≤ (most : Int) := by omega
    go_wp2_with fail
    refine (need_yes _).mono ?_
    rintro e2 w2 ⟨rfl, rfl⟩
    have HMO : Hid (pList most pIns l = pRep pIns n l1) := many_ok HP1.out hnm
    obtain ⟨i0, hi0, hz0, hz1, hz2⟩ := infoIns
    obtain ⟨cs, hmk, hmo⟩ := mk_row 51 50 i0 _ 3 n Tryd.underlying51 hi0 hz0 hz1 (by rw [hz2]; omega) (by omega)
    have HS0 := Lib.hid HF1.out.size
    have HO0 : Hid ((w2.alloc (.cells cs 50)).ownsRow w.heap.size 50 3 (.slice (some ⟨w2.heap.size, 0, none⟩) 0 n) 0 []) := own_lower (hmo w2) HS0.out
    have HR2 := Lib.hid (HR1.out.below ((Below.refl _ _).alloc (Nat.le_refl _) (.cells cs 50)))
    have HF2 : Hid (Fr (fun i => i = g) w (w2.alloc (.cells cs 50))) := HF1.out.trans (Fr.alloc (S := fun i => i = g) w2 _) (fun _ _ e => e)
    clear hmo HP1 HR1 HF1
    go_upto_region 4 with (fail)
    generalize w2.alloc (.cells cs 50) = w3 at *
    generalize (.slice (some { block := w2.heap.size, off := 0, spot := none }) 0 n : Value) = u0 at *
    clear hmk HS0
    go_wp2_with fail
    go_loopg [8, 18, 19, 20, 21, 22, 23, 24, 25] n (fun gg s8 s18 _ _ _ _ _ _ _ wr => ∃ (i : Nat) (xs : List InsR) (li : List Nat), i + gg = n ∧ s18 = .int .i64 (i : Int) ∧ xs.length = i ∧ Hid (wr.ownsRow w.heap.size 50 3 s8 xs.length (codeV xs)) ∧ Hid (pRep pIns i l1 = some (xs, li)) ∧ Hid (PR g v bs li wr) ∧ Hid (Fr (fun i => i = g) w wr))
    case atStart => exact ⟨0, [], l1, by omega, rfl, rfl, HO0, rfl, HR2, HF2⟩
    case round =>
      clear HO0 HR2 HF2
      obtain ⟨i, xs, li, hi, rfl, hxi, HO, HP, HR, HF⟩ := hrel
      have HXI := Lib.hid hxi
      clear hxi
      cases gk with
      | zero =>
        obtain rfl : i = n := by omega
        have hd : ¬ i < i := by omega
        clear hi
        go_wp2_with fail
        go_ret
        exact ⟨HF.out, .inr ⟨_, xs, li, by rw [HMO.out]; exact HP.out, rfl, HO.out, HR.out⟩⟩
      | succ gk =>
        have hd : i < n := by omega
        have HC := Lib.hid (qinstr_c g v bs li wr HR.out HN.out HBy.out)
        go_wp2_with fail
        refine HC.out.mono ?_
        rintro e2 w2 ⟨hf2, ⟨hp2, rfl⟩ | ⟨x, l2, hp2, rfl, hr2⟩⟩
        · exact ⟨rfl, HF.out.trans hf2 (fun _ _ e => e), .inl ⟨by rw [HMO.out]; exact rep_gone HP.out hp2 (by omega), rfl⟩⟩
        have HP2 := Lib.hid (rep_next HP.out hp2)
        have HR2 := Lib.hid hr2
        have HF2 := Lib.hid (HF.out.trans hf2 (fun _ _ e => e))
        have HO2 : Hid (w2.ownsRow w.heap.size 50 3 u8 xs.length (codeV xs)) := own_fr HO.out hf2 (fun b hb _ e => by have := HGW.out; have e : b = g := e; omega)
        have hws : Hid (w.heap.size ≤ w2.heap.size) := HF2.out.size
        have hxl : Hid (xs.length ≤ 32768) := by show _ ≤ _; have := HXI.out; omega
        clear hp2 hr2 hf2 HC HR HF HO HP
        obtain ⟨i0, hi0, hz0, hz1, hz2⟩ := infoIns
        obtain ⟨x1, x2, x3⟩ := x
        have HO2a := Lib.hid (HO2.out.alloc (.cells #[.int .i64 x1, .int .i64 x2, .int .i64 x3] 50))
        go_wp2_with (at_builtin; refine wpList_append_own_at _ rfl (.tmp 20) (.tmp 23) 51 rfl w.heap.size 50 i0 _ 3 24 Tryd.underlying51 hi0 hz0 hz1 hz2 rfl (by decide) _ _ _ rfl HO2a.out ⟨w2.heap.size, 0, none⟩ 1 1 [.int .i64 x1, .int .i64 x2, .int .i64 x3] rfl rfl (cells_new w2 50 [.int .i64 x1, .int .i64 x2, .int .i64 x3]) ?c2 ?c3 ?c4 ?c5 ?_)
        case c2 => intro u hu; simp at hu; rcases hu with rfl | rfl | rfl <;> rfl
        case c3 => have := hxl.out; unfold maxLen; omega
        case c4 => have := hxl.out; omega
        case c5 => have := hws.out; simp; omega
        intro v3 w3 ho3 hgr3 _ _
        have hfr3 : Fr (fun q => u8.ownBlock = some q) w2 w3 := (Fr.alloc (S := fun q => u8.ownBlock = some q) w2 _).trans (Fr.of_grown hgr3 fun _ _ he => he) (fun _ _ h => h)
        have hnb : ∀ q, u8.ownBlock = some q → w.heap.size ≤ q := fun q hq => (HO2.out.lt q hq).1
        have HO3 : Hid (w3.ownsRow w.heap.size 50 3 v3 (xs ++ [InsR.mk x1 x2 x3]).length (codeV (xs ++ [InsR.mk x1 x2 x3]))) := by
          show World.ownsRow _ _ _ _ _ _ _
          have e1 : codeV (xs ++ [InsR.mk x1 x2 x3]) = codeV xs ++ [.int .i64 x1, .int .i64 x2, .int .i64 x3] := by simp [codeV, insC]
          rw [e1, List.length_append]
          exact ho3
        have HR3 : Hid (PR g v bs l2 w3) := HR2.out.fr hfr3 (fun e => by have := hnb g e; have := HGW.out; omega) (fun A n c e q => by have := hnb _ q; have := HR2.out.low A n c e; have := HGW.out; omega)
        have HF3 : Hid (Fr (fun i => i = g) w w3) := HF2.out.trans hfr3 (fun i hi e => absurd (hnb i e) (by omega))
        clear ho3 hgr3 hfr3 hnb HO2 HO2a
        go_wp2_with fail
        go_roundg gk
        case measure => omega
        case rel => exact ⟨i + 1, xs ++ [InsR.mk x1 x2 x3], l2, by omega, by push_cast; rfl, by show _ = _; rw [List.length_append, HXI.out]; rfl, HO3, HP2, HR3, HF3⟩
  · have hnm' : decide ((n : Int) ≤ (most : Int)) = false := by simp; omega
    have hnm2 : ¬ n ≤ most := hnm
    have HMB := Lib.hid (many_big (p := pIns) HP1.out (show (most : Int) < (n : Int) by omega))
    go_wp2_with fail
    refine (need_no _).mono ?_
    rintro e2 w2 ⟨rfl, rfl⟩
    exact ⟨rfl, HF1.out, .inl ⟨HMB.out, rfl⟩⟩


set_option maxHeartbeats 2000000 in
set_option maxRecDepth 100000 in
theorem qlist_glob (g : Nat) (v : Value) (bs l : List Nat) (w : World) (most : Nat) (h : PR g v bs l w) (hm : most ≤ 64) (hn : bs.length ≤ 281474976710656) (hby : ∀ x ∈ bs, x < 256) :
    Calls Tryd.prog 58 #[.pointer (some ⟨g, 0, none⟩), .int .i64 (most : Int), .func (.func 59) #[.pointer (some ⟨g, 0, none⟩)] #[]] w (ReadL (pList most pGlob) 48 3 globsV g v bs l w) := by
  have HBy := Lib.hid hby
  have HN := Lib.hid hn
  have HGW := Lib.hid h.lt
  have HC := Lib.hid (qnum_c g v bs l w h hn hby)
  clear h hn hby
  go_enter Tryd.func58, Tryd.ntmps58
  go_wp2_with fail
  refine HC.out.mono ?_
  rintro e1 w1 ⟨hf1, ⟨hp1, rfl⟩ | ⟨n, l1, hp1, rfl, hr1⟩⟩
  · exact ⟨rfl, hf1, .inl ⟨many_no hp1, rfl⟩⟩
  obtain ⟨n, rfl⟩ := pnat_nat hp1
  have HP1 := Lib.hid hp1
  have HR1 := Lib.hid hr1
  have HF1 := Lib.hid hf1
  clear hp1 hr1 hf1 HC
  by_cases hnm : n ≤ most
  · have hnm' : (n : Int) ≤ (most : Int) := by omega
    go_wp2_with fail
    refine (need_yes _).mono ?_
    rintro e2 w2 ⟨rfl, rfl⟩
    have HMO : Hid (pList most pGlob l = pRep pGlob n l1) := many_ok HP1.out hnm
    obtain ⟨i0, hi0, hz0, hz1, hz2⟩ := infoGlob
    obtain ⟨cs, hmk, hmo⟩ := mk_row 22 48 i0 _ 3 n Tryd.underlying22 hi0 hz0 hz1 (by rw [hz2]; omega) (by omega)
    have HS0 := Lib.hid HF1.out.size
    have HO0 : Hid ((w2.alloc (.cells cs 48)).ownsRow w.heap.size 48 3 (.slice (some ⟨w2.heap.size, 0, none⟩) 0 n) 0 []) := own_lower (hmo w2) HS0.out
    have HR2 := Lib.hid (HR1.out.below ((Below.refl _ _).alloc (Nat.le_refl _) (.cells cs 48)))
    have HF2 : Hid (Fr (fun i => i = g) w (w2.alloc (.cells cs 48))) := HF1.out.trans (Fr.alloc (S := fun i => i = g) w2 _) (fun _ _ e => e)
    clear hmo HP1 HR1 HF1
    go_upto_region 4 with (fail)
    generalize w2.alloc (.cells cs 48) = w3 at *
    generalize (.slice (some { block := w2.heap.size, off := 0, spot := none }) 0 n : Value) = u0 at *
    clear hmk HS0
    go_wp2_with fail
    go_loopg [8, 18, 19, 20, 21, 22, 23, 24, 25] n (fun gg s8 s18 _ _ _ _ _ _ _ wr => ∃ (i : Nat) (xs : List GlobR) (li : List Nat), i + gg = n ∧ s18 = .int .i64 (i : Int) ∧ xs.length = i ∧ Hid (wr.ownsRow w.heap.size 48 3 s8 xs.length (globsV xs)) ∧ Hid (pRep pGlob i l1 = some (xs, li)) ∧ Hid (PR g v bs li wr) ∧ Hid (Fr (fun i => i = g) w wr))
    case atStart => exact ⟨0, [], l1, by omega, rfl, rfl, HO0, rfl, HR2, HF2⟩
    case round =>
      clear HO0 HR2 HF2
      obtain ⟨i, xs, li, hi, rfl, hxi, HO, HP, HR, HF⟩ := hrel
      have HXI := Lib.hid hxi
      clear hxi
      cases gk with
      | zero =>
        obtain rfl : i = n := by omega
        have hd : ¬ i < i := by omega
        clear hi
        go_wp2_with fail
        go_ret
        exact ⟨HF.out, .inr ⟨_, xs, li, by rw [HMO.out]; exact HP.out, rfl, HO.out, HR.out⟩⟩
      | succ gk =>
        have hd : i < n := by omega
        have HC := Lib.hid (qrglob_c g v bs li wr HR.out HN.out HBy.out)
        go_wp2_with fail
        refine HC.out.mono ?_
        rintro e2 w2 ⟨hf2, ⟨hp2, rfl⟩ | ⟨x, l2, hp2, rfl, hr2⟩⟩
        · exact ⟨rfl, HF.out.trans hf2 (fun _ _ e => e), .inl ⟨by rw [HMO.out]; exact rep_gone HP.out hp2 (by omega), rfl⟩⟩
        have HP2 := Lib.hid (rep_next HP.out hp2)
        have HR2 := Lib.hid hr2
        have HF2 := Lib.hid (HF.out.trans hf2 (fun _ _ e => e))
        have HO2 : Hid (w2.ownsRow w.heap.size 48 3 u8 xs.length (globsV xs)) := own_fr HO.out hf2 (fun b hb _ e => by have := HGW.out; have e : b = g := e; omega)
        have hws : Hid (w.heap.size ≤ w2.heap.size) := HF2.out.size
        have hxl : Hid (xs.length ≤ 64) := by show _ ≤ _; have := HXI.out; omega
        clear hp2 hr2 hf2 HC HR HF HO HP
        obtain ⟨i0, hi0, hz0, hz1, hz2⟩ := infoGlob
        obtain ⟨x1, x2, x3⟩ := x
        have HO2a := Lib.hid (HO2.out.alloc (.cells #[.int .i64 x1, .int .i64 x2, .int .i64 x3] 48))
        go_wp2_with (at_builtin; refine wpList_append_own_at _ rfl (.tmp 20) (.tmp 23) 22 rfl w.heap.size 48 i0 _ 3 24 Tryd.underlying22 hi0 hz0 hz1 hz2 rfl (by decide) _ _ _ rfl HO2a.out ⟨w2.heap.size, 0, none⟩ 1 1 [.int .i64 x1, .int .i64 x2, .int .i64 x3] rfl rfl (cells_new w2 48 [.int .i64 x1, .int .i64 x2, .int .i64 x3]) ?c2 ?c3 ?c4 ?c5 ?_)
        case c2 => intro u hu; simp at hu; rcases hu with rfl | rfl | rfl <;> rfl
        case c3 => have := hxl.out; unfold maxLen; omega
        case c4 => have := hxl.out; omega
        case c5 => have := hws.out; simp; omega
        intro v3 w3 ho3 hgr3 _ _
        have hfr3 : Fr (fun q => u8.ownBlock = some q) w2 w3 := (Fr.alloc (S := fun q => u8.ownBlock = some q) w2 _).trans (Fr.of_grown hgr3 fun _ _ he => he) (fun _ _ h => h)
        have hnb : ∀ q, u8.ownBlock = some q → w.heap.size ≤ q := fun q hq => (HO2.out.lt q hq).1
        have HO3 : Hid (w3.ownsRow w.heap.size 48 3 v3 (xs ++ [GlobR.mk x1 x2 x3]).length (globsV (xs ++ [GlobR.mk x1 x2 x3]))) := by
          show World.ownsRow _ _ _ _ _ _ _
          have e1 : globsV (xs ++ [GlobR.mk x1 x2 x3]) = globsV xs ++ [.int .i64 x1, .int .i64 x2, .int .i64 x3] := by simp [globsV, globC]
          rw [e1, List.length_append]
          exact ho3
        have HR3 : Hid (PR g v bs l2 w3) := HR2.out.fr hfr3 (fun e => by have := hnb g e; have := HGW.out; omega) (fun A n c e q => by have := hnb _ q; have := HR2.out.low A n c e; have := HGW.out; omega)
        have HF3 : Hid (Fr (fun i => i = g) w w3) := HF2.out.trans hfr3 (fun i hi e => absurd (hnb i e) (by omega))
        clear ho3 hgr3 hfr3 hnb HO2 HO2a
        go_wp2_with fail
        go_roundg gk
        case measure => omega
        case rel => exact ⟨i + 1, xs ++ [GlobR.mk x1 x2 x3], l2, by omega, by push_cast; rfl, by show _ = _; rw [List.length_append, HXI.out]; rfl, HO3, HP2, HR3, HF3⟩
  · have hnm' : decide ((n : Int) ≤ (most : Int)) = false := by simp; omega
    have hnm2 : ¬ n ≤ most := hnm
    have HMB := Lib.hid (many_big (p := pGlob) HP1.out (show (most : Int) < (n : Int) by omega))
    go_wp2_with fail
    refine (need_no _).mono ?_
    rintro e2 w2 ⟨rfl, rfl⟩
    exact ⟨rfl, HF1.out, .inl ⟨HMB.out, rfl⟩⟩

theorem below_fr {w w' : World} (S : Nat → Prop) (h : Below w.heap.size w w') : Fr S w w' := Fr.of_below h

set_option maxHeartbeats 2000000 in
set_option maxRecDepth 100000 in
theorem qgrow_c (n : Nat) (w : World) (hn : n ≤ 1000) : Calls Tryd.prog 103 #[.slice none 0 0, .int .i64 (n : Int)] w fun e w' => ∃ v, e = .returned v ∧ w'.ownsRow w.heap.size 3 1 v 0 [] ∧ Below w.heap.size w w' := by
  by_cases h0 : n = 0
  · subst h0
    go_enter Tryd.func103, Tryd.ntmps103
    go_wp2_with fail
    go_ret
    exact ⟨_, rfl, World.ownsRow_nil _ _ _ _, Below.refl _ _⟩
  · have hp : 0 < n := by omega
    have hp' : (0 : Int) < (n : Int) := by omega
    have hm : ¬ ((n : Int) < 0) := by omega
    obtain ⟨i, hi, hz, hsz, hby⟩ := infoI
    have hr : ∀ ty, (Builtin.append_ #[52, 3] ty #[.slice none 0 0, .int .i64 (n : Int)]).run Tryd.prog w = _ := fun ty => Lib.run_append_nil_zeros (P := Tryd.prog) w 52 3 ty 3 i (.int .i64 0) .i64 .i64 Tryd.underlying52 Tryd.underlying3 hi hz n hp (by omega) (by omega) (by rw [hby]; omega)
    have hge := grownCap_ge w n 0 3
    have hcm := grownCap_le_maxLen w n 0 3 (by unfold maxLen; omega)
    obtain ⟨cs, hcs⟩ : ∃ cs, cs = Builtin.zeroCells (Value.int .i64 0).cells n ++ Builtin.zeroCells (Value.int .i64 0).cells (grownCap w n 0 3 - n) := ⟨_, rfl⟩
    have hsize : cs.size = grownCap w n 0 3 := by
      rw [hcs]
      simp [Builtin.zeroCells, Value.cells]
      omega
    rw [← hcs] at hr
    generalize grownCap w n 0 3 = cap at *
    have HO : Hid ((w.drew.alloc (.cells cs 3)).ownsRow w.heap.size 3 1 (.slice (some ⟨w.heap.size, 0, none⟩) 0 cap) 0 []) := by
      refine ⟨rfl, .inr ⟨w.heap.size, cap, cs, rfl, Nat.le_refl _, ?_, Nat.zero_le _, hcm, by rw [hsize, Nat.mul_one], by simp⟩⟩
      exact heap_alloc_new w.drew _
    have HB : Hid (Below w.heap.size w (w.drew.alloc (.cells cs 3))) := ((Below.refl _ _).drew).alloc (Nat.le_refl _) _
    have HC : Hid (n ≤ cap) := hge
    clear hcs hsize hge hcm
    go_enter Tryd.func103, Tryd.ntmps103
    go_wp2_with (at_builtin; refine Lib.wpList_append_run _ rfl (.tmp 20) (.tmp 21) 52 3 rfl _ _ rfl rfl _ _ (hr _) ?_)
    clear hr
    have hc := HC.out
    go_wp2_with fail
    go_ret
    exact ⟨_, rfl, HO.out, HB.out⟩

/-- What has been joined so far. -/
def catL (l m : List Int) : Nat → List Int
  | 0 => []
  | 1 => l
  | _ => l ++ m

set_option maxHeartbeats 4000000 in
set_option maxRecDepth 100000 in
theorem qconcat_c (q c1 c2 : Nat) (A1 A2 : Option Addr) (l m : List Int) (b1 b2 : Nat) (w : World) (hq : Blk w q 52 #[.slice A1 l.length c1, .slice A2 m.length c2]) (hl : w.ownsRow b1 3 1 (.slice A1 l.length c1) l.length (intsV l)) (hm : w.ownsRow b2 3 1 (.slice A2 m.length c2) m.length (intsV m)) (hn : l.length + m.length ≤ 1000) :
    Calls Tryd.prog 86 #[.slice (some ⟨q, 0, none⟩) 2 2] w fun e w' => ∃ u, e = .returned u ∧ w'.ownsRow w.heap.size 3 1 u (l ++ m).length (intsV (l ++ m)) ∧ Below w.heap.size w w' := by
  have HQ := Lib.hid hq
  have HL := Lib.hid hl
  have HM := Lib.hid hm
  clear hq hl hm
  go_enter Tryd.func86, Tryd.ntmps86
  go_wp2_with fail
  go_loopg [3, 5, 11, 12, 13, 14, 15, 16, 17, 18, 19, 20, 21, 22] 2 (fun gg s3 _ s11 _ _ _ _ _ _ _ _ _ _ _ wr => ∃ k : Nat, k + gg = 2 ∧ s11 = .int .i64 (k : Int) ∧ s3 = .int .i64 ((catL l m k).length : Int) ∧ wr = w)
  case atStart => exact ⟨0, by omega, rfl, rfl, rfl⟩
  case round =>
    obtain ⟨k, hk, rfl, rfl, rfl⟩ := hrel
    have q0 := HQ.out.cell 0
    have q1 := HQ.out.cell 1
    match gk, hk with
    | 2, hk =>
      obtain rfl : k = 0 := by omega
      have e0 : ((catL l m 0).length : Int) = 0 := rfl
      have e1 : ((catL l m 1).length : Int) = (l.length : Int) := rfl
      rw [e0]
      have hp : ¬ ((l.length : Int) < 0) := by omega
      go_wp2_with fail
      go_roundg 1
      case measure => omega
      case rel => exact ⟨1, by omega, rfl, by rw [e1], rfl⟩
    | 1, hk =>
      obtain rfl : k = 1 := by omega
      have e0 : ((catL l m 1).length : Int) = (l.length : Int) := rfl
      have e1 : ((catL l m 2).length : Int) = (l.length : Int) + (m.length : Int) := by show ((l ++ m).length : Int) = _; rw [List.length_append]; omega
      rw [e0]
      have hp : ¬ ((l.length : Int) + (m.length : Int) < 0) := by omega
      go_wp2_with fail
      go_roundg 0
      case measure => omega
      case rel => exact ⟨2, by omega, rfl, by rw [e1], rfl⟩
    | 0, hk =>
      obtain rfl : k = 2 := by omega
      have e0 : ((catL l m 2).length : Int) = ((l.length + m.length : Nat) : Int) := by show ((l ++ m).length : Int) = _; rw [List.length_append]
      rw [e0]
      obtain ⟨wz, hwz⟩ : ∃ wz, wz = wr := ⟨_, rfl⟩
      subst hwz
      have HG := Lib.hid (qgrow_c (l.length + m.length) wz hn)
      clear q0 q1 e0
      generalize hN : l.length + m.length = N at HG hn ⊢
      have HNN := Lib.hid hN
      clear hN
      go_wp2_with fail
      refine HG.out.mono ?_
      rintro e w1 ⟨u1, rfl, ho1, hb1⟩
      obtain ⟨Au, cu, rfl⟩ := own_sl ho1
      have HO1 := Lib.hid ho1
      have HB1 := Lib.hid hb1
      clear ho1 hb1 HG
      go_wp2_with fail
      have HQ1 := Lib.hid (HQ.out.below HB1.out HQ.out.lt)
      go_loopg [6, 8, 27, 28, 29, 30, 31, 32, 33, 34] 2 (fun gg s6 _ s27 _ _ _ _ _ _ _ w2 => ∃ k : Nat, k + gg = 2 ∧ s27 = .int .i64 (k : Int) ∧ Hid (w2.ownsRow wz.heap.size 3 1 s6 (catL l m k).length (intsV (catL l m k))) ∧ Hid (Below wz.heap.size wz w2) ∧ Hid (Blk w2 q 52 #[.slice A1 l.length c1, .slice A2 m.length c2]))
      case atStart => exact ⟨0, by omega, rfl, HO1, HB1, HQ1⟩
      case round =>
        clear HO1 HB1 HQ1
        obtain ⟨k, hk, rfl, HO, HB, HQ2⟩ := hrel
        have q0 := HQ2.out.cell 0
        have q1 := HQ2.out.cell 1
        have hsz : Hid (wz.heap.size ≤ wr.heap.size) := HB.out.size
        match gk, hk with
        | 2, hk =>
          obtain rfl : k = 0 := by omega
          have HA : Hid (World.ownsRow wr b1 3 1 (.slice A1 l.length c1) l.length (intsV l)) := ownsRow_fr HL.out (below_fr (fun _ => False) HB.out) (fun _ _ h => h)
          go_wp2_with (at_builtin; refine wpList_intsO rfl (.tmp 31) (.tmp 32) rfl wz.heap.size b1 _ _ 0 [] l rfl HO.out rfl HA.out (by have := HNN.out; omega) hsz.out ?_)
          intro u2 w3 ho2 hg2
          have hlt := fun k hk => (HO.out.lt k hk).1
          have HB3 := Lib.hid (HB.out.grown hg2 HB.out.size hlt)
          have HQ3 := Lib.hid (HQ2.out.fr (Fr.of_grown (S := fun i => _ = some i) hg2 fun _ _ e => e) (own_ne_blk HO.out HQ2.out (by decide)))
          have HO3 : Hid (w3.ownsRow wz.heap.size 3 1 u2 (catL l m 1).length (intsV (catL l m 1))) := by
            show World.ownsRow _ _ _ _ _ _ _
            simpa [catL] using ho2
          clear ho2 hg2 hlt HO HB HQ2 q0 q1
          go_wp2_with fail
          go_roundg 1
          case measure => omega
          case rel => exact ⟨1, by omega, rfl, HO3, HB3, HQ3⟩
        | 1, hk =>
          obtain rfl : k = 1 := by omega
          have HA : Hid (World.ownsRow wr b2 3 1 (.slice A2 m.length c2) m.length (intsV m)) := ownsRow_fr HM.out (below_fr (fun _ => False) HB.out) (fun _ _ h => h)
          go_wp2_with (at_builtin; refine wpList_intsO rfl (.tmp 31) (.tmp 32) rfl wz.heap.size b2 _ _ l.length l m rfl HO.out rfl HA.out (by have := HNN.out; omega) hsz.out ?_)
          intro u2 w3 ho2 hg2
          have hlt := fun k hk => (HO.out.lt k hk).1
          have HB3 := Lib.hid (HB.out.grown hg2 HB.out.size hlt)
          have HQ3 := Lib.hid (HQ2.out.fr (Fr.of_grown (S := fun i => _ = some i) hg2 fun _ _ e => e) (own_ne_blk HO.out HQ2.out (by decide)))
          have HO3 : Hid (w3.ownsRow wz.heap.size 3 1 u2 (catL l m 2).length (intsV (catL l m 2))) := by
            show World.ownsRow _ _ _ _ _ _ _
            simpa [catL] using ho2
          clear ho2 hg2 hlt HO HB HQ2 q0 q1
          go_wp2_with fail
          go_roundg 0
          case measure => omega
          case rel => exact ⟨2, by omega, rfl, HO3, HB3, HQ3⟩
        | 0, hk =>
          obtain rfl : k = 2 := by omega
          clear q0 q1
          go_wp2_with fail
          go_ret
          exact ⟨_, rfl, by simpa [catL] using HO.out, HB.out⟩

/-- In the midst of reading a function: the result's block gr, the function's block gf with the cells cs. -/
structure FP (w : World) (g : Nat) (v : Value) (bs : List Nat) (gr gf : Nat) (cs : Array Value) (st : List Nat) (wr : World) : Prop where
  rd : PR g v bs st wr
  res : Blk wr gr 54 #[.string ⟨#[]⟩, .slice none 0 0, .int .i64 0, .slice none 0 0, .slice none 0 0]
  fb : Blk wr gf 54 cs
  fr : Fr (fun i => i = g) w wr
  gw : g < w.heap.size
  nr : w.heap.size ≤ gr
  nf : w.heap.size ≤ gf
  ne : gr ≠ gf
section
variable {w wr w2 : World} {g gr gf : Nat} {v : Value} {bs : List Nat} {cs : Array Value} {st st' : List Nat}
theorem FP.sub {S : Nat → Prop} (X : FP w g v bs gr gf cs st wr) (hf : Fr S wr w2) (hS : ∀ i, S i → w.heap.size ≤ i ∧ i ≠ gr ∧ i ≠ gf) : FP w g v bs gr gf cs st w2 :=
  ⟨X.rd.fr hf (fun e => by have := hS _ e; have := X.gw; omega) (fun A n c e q => by have := X.rd.low A n c e; have := hS _ q; have := X.gw; omega),
    X.res.fr hf (fun e => (hS _ e).2.1 rfl), X.fb.fr hf (fun e => (hS _ e).2.2 rfl), X.fr.trans hf (fun i hi e => absurd (hS _ e).1 (by omega)), X.gw, X.nr, X.nf, X.ne⟩
theorem FP.draw (X : FP w g v bs gr gf cs st wr) (n : Nat) : FP w g v bs gr gf cs st (wr.drewN n) := X.sub (S := fun _ => False) (Fr.drewN wr n) (fun _ h => h.elim)
theorem FP.alloc (X : FP w g v bs gr gf cs st wr) (o : Obj) : FP w g v bs gr gf cs st (wr.alloc o) := X.sub (S := fun _ => False) (Fr.alloc wr o) (fun _ h => h.elim)
/-- A reading call. -/
theorem FP.call (X : FP w g v bs gr gf cs st wr) (hr : PR g v bs st' w2) (hf : Fr (fun i => i = g) wr w2) : FP w g v bs gr gf cs st' w2 :=
  ⟨hr, X.res.fr hf (fun e => by have e : gr = g := e; have := X.gw; have := X.nr; omega), X.fb.fr hf (fun e => by have e : gf = g := e; have := X.gw; have := X.nf; omega), X.fr.trans hf (fun _ _ e => e), X.gw, X.nr, X.nf, X.ne⟩
/-- A field of the function is stored. -/
theorem FP.store (X : FP w g v bs gr gf cs st wr) (j : Nat) (u : Value) : FP w g v bs gr gf (cs.setIfInBounds j u) st (wr.setCell ⟨gf, j, none⟩ u) := by
  have hf : Fr (fun i => i = gf) wr (wr.setCell ⟨gf, j, none⟩ u) := Fr.set (S := fun i => i = gf) wr (p := ⟨gf, j, none⟩) rfl _
  exact ⟨X.rd.fr hf (fun e => by have e : g = gf := e; have := X.gw; have := X.nf; omega) (fun A n c e q => by have := X.rd.low A n c e; have := X.gw; have := X.nf; have q : A.block = gf := q; omega),
    X.res.fr hf (fun e => X.ne e), X.fb.set_ j u, X.fr.trans hf (fun i hi e => by have e : i = gf := e; have := X.nf; omega), X.gw, X.nr, X.nf, X.ne⟩
theorem prow_call {e : TypeId} {k n : Nat} {u : Value} {xs : List Value} (X : FP w g v bs gr gf cs st wr) (h : wr.ownsRow w.heap.size e k u n xs) (hf : Fr (fun i => i = g) wr w2) : w2.ownsRow w.heap.size e k u n xs :=
  own_fr h hf fun b hb _ q => by have q : b = g := q; have := X.gw; omega
theorem prow_store {e : TypeId} {k n : Nat} {u : Value} {xs : List Value} (X : FP w g v bs gr gf cs st wr) (h : wr.ownsRow w.heap.size e k u n xs) (he : e ≠ 54) (j : Nat) (y : Value) : (wr.setCell ⟨gf, j, none⟩ y).ownsRow w.heap.size e k u n xs :=
  ownsRow_fr h (Fr.set (S := fun i => i = gf) wr (p := ⟨gf, j, none⟩) rfl _) fun q hq hq2 => own_ne_blk h X.fb he (by rw [hq, hq2])
end


section
variable {w wr w2 : World} {g gr gf : Nat} {v : Value} {bs : List Nat} {cs : Array Value} {st st' : List Nat}
theorem FP.ret (X : FP w g v bs gr gf cs st wr) (a b c d e : Value) :
    Blk (((((wr.setCell ⟨gr, 0, none⟩ a).setCell ⟨gr, 1, none⟩ b).setCell ⟨gr, 2, none⟩ c).setCell ⟨gr, 3, none⟩ d).setCell ⟨gr, 4, none⟩ e) gr 54 #[a, b, c, d, e] ∧
    PR g v bs st (((((wr.setCell ⟨gr, 0, none⟩ a).setCell ⟨gr, 1, none⟩ b).setCell ⟨gr, 2, none⟩ c).setCell ⟨gr, 3, none⟩ d).setCell ⟨gr, 4, none⟩ e) ∧
    Fr (fun i => i = gr) wr (((((wr.setCell ⟨gr, 0, none⟩ a).setCell ⟨gr, 1, none⟩ b).setCell ⟨gr, 2, none⟩ c).setCell ⟨gr, 3, none⟩ d).setCell ⟨gr, 4, none⟩ e) ∧
    Fr (fun i => i = g) w (((((wr.setCell ⟨gr, 0, none⟩ a).setCell ⟨gr, 1, none⟩ b).setCell ⟨gr, 2, none⟩ c).setCell ⟨gr, 3, none⟩ d).setCell ⟨gr, 4, none⟩ e) := by
  have st1 : ∀ (w1 : World) (j : Nat) (u : Value), Fr (fun i => i = gr) w1 (w1.setCell ⟨gr, j, none⟩ u) := fun w1 j u => Fr.set (S := fun i => i = gr) w1 (p := ⟨gr, j, none⟩) rfl _
  have hf := ((((st1 wr 0 a).trans (st1 _ 1 b) (fun _ _ e => e)).trans (st1 _ 2 c) (fun _ _ e => e)).trans (st1 _ 3 d) (fun _ _ e => e)).trans (st1 _ 4 e) (fun _ _ e => e)
  refine ⟨?_, X.rd.fr hf (fun e => by have e : g = gr := e; have := X.gw; have := X.nr; omega) (fun A n c e q => by have := X.rd.low A n c e; have := X.gw; have := X.nr; have q : A.block = gr := q; omega), hf, X.fr.trans hf (fun i hi e => by have e : i = gr := e; have := X.nr; omega)⟩
  have := ((((X.res.set_ 0 a).set_ 1 b).set_ 2 c).set_ 3 d).set_ 4 e
  simpa using this

end

theorem rep_len {α : Type} {p : Prs α} : ∀ {n : Nat} {l r : List Nat} {xs : List α}, pRep p n l = some (xs, r) → xs.length = n
  | 0, l, r, xs, h => by unfold pRep at h; injection h with h; injection h with h _; subst h; rfl
  | n + 1, l, r, xs, h => by
    unfold pRep at h
    simp only [Option.bind_eq_some_iff] at h
    obtain ⟨q, _, s, hs, h⟩ := h
    injection h with h; injection h with h _; subst h
    rw [List.length_cons, rep_len hs]
theorem list_len {α : Type} {p : Prs α} {most : Nat} {l r : List Nat} {xs : List α} (h : pList most p l = some (xs, r)) : xs.length ≤ most := by
  unfold pList pMany at h
  simp only [Option.bind_eq_some_iff] at h
  obtain ⟨q, ⟨s, hs, h1⟩, h2⟩ := h
  split at h1
  · cases h1
  · injection h1 with h1
    subst h1
    rw [rep_len h2]; omega
theorem text_len {l r : List Nat} {s : ByteArray} (h : pText l = some (s, r)) : s.size ≤ 65536 := by
  unfold pText at h
  simp only [Option.bind_eq_some_iff] at h
  obtain ⟨q, hq, h⟩ := h
  split at h
  · cases h
  · split at h
    · cases h
    · injection h with h; injection h with h _; subst h
      have : (strOf (q.2.take q.1.toNat)).size = (q.2.take q.1.toNat).length := by simp [strOf, ByteArray.size]
      rw [this, List.length_take]; omega
theorem fn_small {l r : List Nat} {f : FnR} (h : pFn l = some (f, r)) : f.small := by
  unfold pFn at h
  simp only [Option.bind_eq_some_iff] at h
  obtain ⟨q, h1, s, h2, t, h3, u, h4, v, h5, h⟩ := h
  injection h with h; injection h with h _; subst h
  have a1 := text_len h1
  have a2 := list_len h2
  have a3 := list_len h4
  have a4 := list_len h5
  exact ⟨by show s.1.length ≤ _; omega, by show (s.1 ++ u.1).length ≤ _; rw [List.length_append]; omega, by show v.1.length ≤ _; omega, by show q.1.size ≤ _; omega⟩

/-- What fn answers. -/
def ReadF (g : Nat) (v : Value) (bs l : List Nat) (w : World) (e : Ending) (w' : World) : Prop :=
  Fr (fun i => i = g) w w' ∧ ((pFn l = none ∧ e = thrown) ∨ ∃ (f : FnR) (t : Trip) (l' : List Nat), pFn l = some (f, l') ∧ e = .returned (fnV f t) ∧ FnOwn w' w.heap.size t f ∧ PR g v bs l' w')

set_option maxHeartbeats 8000000 in
set_option maxRecDepth 100000 in
theorem qfnr_c (g : Nat) (v : Value) (bs l : List Nat) (w : World) (h : PR g v bs l w) (hn : bs.length ≤ 281474976710656) (hby : ∀ x ∈ bs, x < 256) :
    Calls Tryd.prog 61 #[.pointer (some ⟨g, 0, none⟩)] w (ReadF g v bs l w) := by
  have hmf : ∀ (fn : Fn) (first cap : Array Value) (w : World), (Instr.makeFunc fn first cap).run Tryd.prog w = .ok (.func fn first cap) w := fun _ _ _ _ => rfl
  have HBy := Lib.hid hby
  have HN := Lib.hid hn
  have HGW := Lib.hid h.lt
  have HR0 := Lib.hid (h.below ((Below.refl _ _).alloc (Nat.le_refl _) (.cells #[.string ⟨#[]⟩, .slice none 0 0, .int .i64 0, .slice none 0 0, .slice none 0 0] 54)))
  have HB0 := Lib.hid (Blk.new w 54 #[.string ⟨#[]⟩, .slice none 0 0, .int .i64 0, .slice none 0 0, .slice none 0 0])
  have HF0 : Hid (Fr (fun i => i = g) w (w.alloc (.cells #[.string ⟨#[]⟩, .slice none 0 0, .int .i64 0, .slice none 0 0, .slice none 0 0] 54))) := Fr.alloc _ _
  clear h hn hby
  go_enter Tryd.func61, Tryd.ntmps61
  go_upto_region 1 with (fail)
  generalize w.alloc (.cells #[.string ⟨#[]⟩, .slice none 0 0, .int .i64 0, .slice none 0 0, .slice none 0 0] 54) = w0 at *
  obtain ⟨gr, hgr⟩ : ∃ b, b = w.heap.size := ⟨_, rfl⟩
  rw [← hgr] at HB0
  rw [show (some { block := w.heap.size, off := 0, spot := none } : Option Addr) = some ⟨gr, 0, none⟩ by rw [hgr]]
  have HGR := Lib.hid hgr
  have HGN : Hid (gr ≠ g) := by show _ ≠ _; have := HGW.out; omega
  clear hgr
  go_wp2_with fail
  refine (qtext_c g v bs l w0 HR0.out HN.out HBy.out).mono ?_
  rintro e1 w1 ⟨hf1, ⟨hp1, rfl⟩ | ⟨nm, l1, hp1, rfl, hr1⟩⟩
  · exact ⟨rfl, HF0.out.trans hf1 (fun _ _ e => e), .inl ⟨by unfold pFn; rw [hp1]; rfl, rfl⟩⟩
  have HP1 := Lib.hid hp1
  have HR1 := Lib.hid hr1
  have HF1 := Lib.hid (HF0.out.trans hf1 (fun _ _ e => e))
  have HB1 := Lib.hid (HB0.out.fr hf1 HGN.out)
  clear hp1 hr1 hf1 HR0 HF0 HB0
  go_wp2_with fail
  refine (qlist_int g v bs l1 w1 8 HR1.out (by omega) HN.out HBy.out).mono ?_
  rintro e2 w2 ⟨hf2, ⟨hp2, rfl⟩ | ⟨u1, ps, l2, hp2, rfl, ho2, hr2⟩⟩
  · exact ⟨rfl, HF1.out.trans hf2 (fun _ _ e => e), .inl ⟨by unfold pFn; rw [HP1.out]; simp only [Option.bind_some]; rw [hp2]; rfl, rfl⟩⟩
  have HP2 := Lib.hid hp2
  have HR2 := Lib.hid hr2
  have HF2 := Lib.hid (HF1.out.trans hf2 (fun _ _ e => e))
  have HB2 := Lib.hid (HB1.out.fr hf2 HGN.out)
  have HO2 := Lib.hid (own_lower ho2 HF1.out.size)
  obtain ⟨A1, c1, rfl⟩ := own_sl ho2
  clear hp2 hr2 hf2 ho2 HR1 HF1 HB1
  go_wp2_with fail
  refine (qnum_c g v bs l2 w2 HR2.out HN.out HBy.out).mono ?_
  rintro e3 w3 ⟨hf3, ⟨hp3, rfl⟩ | ⟨rs, l3, hp3, rfl, hr3⟩⟩
  · exact ⟨rfl, HF2.out.trans hf3 (fun _ _ e => e), .inl ⟨by unfold pFn; rw [HP1.out]; simp only [Option.bind_some]; rw [HP2.out]; simp only [Option.bind_some]; rw [hp3]; rfl, rfl⟩⟩
  have HP3 := Lib.hid hp3
  have HF3 := Lib.hid (HF2.out.trans hf3 (fun _ _ e => e))
  have HB3 := Lib.hid (HB2.out.fr hf3 HGN.out)
  have HO3 : Hid (w3.ownsRow w.heap.size 3 1 (.slice A1 ps.length c1) ps.length (intsV ps)) := own_fr HO2.out hf3 (fun b hb _ e => by have := HGW.out; have e : b = g := e; omega)
  have HFS := HF3.out.size
  have X0 : Hid (FP w g v bs gr w3.heap.size #[.string nm, .slice A1 ps.length c1, .int .i64 rs, .slice none 0 0, .slice none 0 0] l3 (w3.alloc (.cells #[.string nm, .slice A1 ps.length c1, .int .i64 rs, .slice none 0 0, .slice none 0 0] 54))) :=
    ⟨hr3.below ((Below.refl _ _).alloc (Nat.le_refl _) _), HB3.out.alloc _, Blk.new w3 54 _, HF3.out.trans (Fr.alloc (S := fun i => i = g) w3 _) (fun _ _ e => e), HGW.out, by rw [HGR.out]; omega, HFS, fun e => by have := HB3.out.lt; omega⟩
  have HO4 := Lib.hid (HO3.out.alloc (.cells #[.string nm, .slice A1 ps.length c1, .int .i64 rs, .slice none 0 0, .slice none 0 0] 54))
  clear hp3 hr3 hf3 HR2 HF2 HB2 HO2 HO3 HF3 HB3 HFS
  go_upto_region 2 with (fail)
  generalize w3.alloc (.cells #[.string nm, .slice A1 ps.length c1, .int .i64 rs, .slice none 0 0, .slice none 0 0] 54) = w4 at *
  generalize w3.heap.size = gf at *
  have X4 := Lib.hid (X0.out.draw 1)
  have HO4 : Hid (w4.drew.ownsRow w.heap.size 3 1 (.slice A1 ps.length c1) ps.length (intsV ps)) := HO4.out
  have hH0 : w4.drew.cell? ⟨gf, 1, none⟩ = some (.slice A1 ps.length c1) := X4.out.fb.cell 1
  have X4 : Hid (FP w g v bs gr gf #[.string nm, .slice A1 ps.length c1, .int .i64 rs, .slice none 0 0, .slice none 0 0] l3 w4.drew) := X4.out
  clear X0
  refine wp_region_T (S := fun w1 => w1.cell? ⟨gf, 1, none⟩ = some (.slice A1 ps.length c1)) 9 (by kernel_rfl) hH0 (fun _ => ?_)

  refine wpAnyT_take (i := 0) (oi := { dst := some 13, op := Op.fieldAddr 54 (Operand.tmp 3) 1, type := 0, pos := "reader.go:59", after := #[], guard := none }) (v := ?v0) rfl (by kernel_rfl) (by kernel_rfl) (by kernel_rfl) (by kernel_rfl) (fun _ _ _ h => h) (Or.inl ⟨by rfl, ?h0⟩) hH0 ?r0
  case h0 => intro w' hSw; (try dsimp only at hSw); go_simp; (try with_reducible rfl)
  simp only [Act.put, List.setIfInBounds_toArray, List.set_cons_zero, List.set_cons_succ]

  refine wpAnyT_take (i := 1) (oi := { dst := some 14, op := Op.load 52 (Operand.tmp 13), type := 52, pos := "reader.go:59", after := #[{ on := 0, ground := Ground.data }], guard := none }) (v := ?v1) rfl (by kernel_rfl) (by kernel_rfl) (by kernel_rfl) (by kernel_rfl) (fun _ _ _ h => h) (Or.inl ⟨by rfl, ?h1⟩) hH0 ?r1
  case h1 => intro w' hSw; (try dsimp only at hSw); go_simp; (try with_reducible rfl)
  simp only [Act.put, List.setIfInBounds_toArray, List.set_cons_zero, List.set_cons_succ]

  refine wpAnyT_take (i := 2) (oi := { dst := some 15, op := Op.move (Operand.tmp 0), type := 72, pos := "reader.go:59", after := #[], guard := none }) (v := ?v2) rfl (by kernel_rfl) (by kernel_rfl) (by kernel_rfl) (by kernel_rfl) (fun _ _ _ h => h) (Or.inl ⟨by rfl, ?h2⟩) hH0 ?r2
  case h2 => intro w' hSw; (try dsimp only at hSw); go_simp; (try with_reducible rfl)
  simp only [Act.put, List.setIfInBounds_toArray, List.set_cons_zero, List.set_cons_succ]

  refine wpAnyT_take (i := 3) (oi := { dst := some 16, op := Op.move (Operand.tmp 0), type := 72, pos := "reader.go:59", after := #[], guard := none }) (v := ?v3) rfl (by kernel_rfl) (by kernel_rfl) (by kernel_rfl) (by kernel_rfl) (fun _ _ _ h => h) (Or.inl ⟨by rfl, ?h3⟩) hH0 ?r3
  case h3 => intro w' hSw; (try dsimp only at hSw); go_simp; (try with_reducible rfl)
  simp only [Act.put, List.setIfInBounds_toArray, List.set_cons_zero, List.set_cons_succ]

  refine wpAnyT_take (i := 4) (oi := { dst := some 17, op := Op.makeFunc (Fn.func 82) #[Operand.tmp 16] #[], type := 79, pos := "reader.go:59", after := #[{ on := 3, ground := Ground.data }], guard := none }) (v := ?v4) rfl (by kernel_rfl) (by kernel_rfl) (by kernel_rfl) (by kernel_rfl) (fun _ _ _ h => h) (Or.inl ⟨by rfl, ?h4⟩) hH0 ?r4
  case h4 => intro w' hSw; (try dsimp only at hSw); go_simp; (try with_reducible rfl)
  simp only [Act.put, List.setIfInBounds_toArray, List.set_cons_zero, List.set_cons_succ]

  refine wpAnyT_one (i := 5) (o := { dst := some 18, op := Op.call { callee := Callee.value (Operand.func 85), args := #[Operand.tmp 15, Operand.const (Value.int IntKind.i64 32), Operand.tmp 17], argTypes := #[72, 3, 79] }, type := 52, pos := "reader.go:59", after := #[{ on := 2, ground := Ground.data }, { on := 4, ground := Ground.data }], guard := none }) (by kernel_rfl) rfl (fun K hK => ?_)
  go_simp
  refine (qlist_int g v bs l3 w4.drew 32 X4.out.rd (by omega) HN.out HBy.out).mono ?_
  rintro e5 w5 ⟨hf5, ⟨hp5, rfl⟩ | ⟨u2, ls, l4, hp5, rfl, ho5, hr5⟩⟩
  · exact ⟨rfl, X4.out.fr.trans hf5 (fun _ _ e => e), .inl ⟨by unfold pFn; rw [HP1.out]; simp only [Option.bind_some]; rw [HP2.out]; simp only [Option.bind_some]; rw [HP3.out]; simp only [Option.bind_some]; rw [hp5]; rfl, rfl⟩⟩
  have HP5 := Lib.hid hp5
  have X5 := Lib.hid (X4.out.call hr5 hf5)
  have HO5 := Lib.hid (prow_call X4.out HO4.out hf5)
  have HU5 := Lib.hid ho5
  obtain ⟨A2, c2, rfl⟩ := own_sl ho5
  have hH1 : w5.cell? ⟨gf, 1, none⟩ = some (.slice A1 ps.length c1) := X5.out.fb.cell 1
  clear hp5 hr5 hf5 ho5 X4 HO4
  go_wp2_with fail
  refine hK.out _ _ (fun _ => hH1) ?_
  clear hK K

  clear hH0
  have X6 := Lib.hid (X5.out.alloc (.cells #[.slice A1 ps.length c1, .slice A2 ls.length c2] 52))
  have HO6 := Lib.hid (HO5.out.alloc (.cells #[.slice A1 ps.length c1, .slice A2 ls.length c2] 52))
  have HU6 := Lib.hid (HU5.out.alloc (.cells #[.slice A1 ps.length c1, .slice A2 ls.length c2] 52))
  have HQ6 := Lib.hid (Blk.new w5 52 #[.slice A1 ps.length c1, .slice A2 ls.length c2])

  refine wpAnyT_one (i := 6) (o := { dst := some 19, op := Op.buildSlice 131 2 #[(0, Operand.tmp 14), (1, Operand.tmp 18)], type := 131, pos := "reader.go:59", after := #[{ on := 1, ground := Ground.data }, { on := 5, ground := Ground.data }], guard := none }) (by kernel_rfl) rfl (fun K hK => ?_)
  go_simp
  go_wp2_with fail
  refine hK.out _ _ (fun _ => X6.out.fb.cell 1) ?_
  clear hK K

  generalize w5.alloc (.cells #[.slice A1 ps.length c1, .slice A2 ls.length c2] 52) = w6 at *
  clear X5 HO5 HU5 hH1

  refine wpAnyT_one (i := 7) (o := { dst := some 20, op := Op.call { callee := Callee.value (Operand.func 86), args := #[Operand.tmp 19], argTypes := #[131] }, type := 52, pos := "reader.go:59", after := #[{ on := 6, ground := Ground.data }, { on := 5, ground := Ground.chain }], guard := none }) (by kernel_rfl) rfl (fun K hK => ?_)
  go_simp
  refine (qconcat_c _ c1 c2 A1 A2 ps ls _ _ w6 HQ6.out HO6.out HU6.out (by have := list_len HP2.out; have := list_len HP5.out; omega)).mono ?_
  rintro e7 w7 ⟨u3, rfl, ho7, hb7⟩
  obtain ⟨lc, hlc⟩ : ∃ lc, lc = ps ++ ls := ⟨_, rfl⟩
  rw [← hlc] at ho7
  have HLC := Lib.hid hlc
  clear hlc
  have X7 := Lib.hid (X6.out.sub (S := fun _ => False) (Fr.of_below hb7) (fun _ h => h.elim))
  have HO7 : Hid (w7.ownsRow w.heap.size 3 1 (.slice A1 ps.length c1) ps.length (intsV ps)) := ownsRow_fr HO6.out (below_fr (fun _ => False) hb7) (fun _ _ h => h)
  have HV7 : Hid (w7.ownsRow w.heap.size 3 1 u3 lc.length (intsV lc)) := own_lower ho7 X6.out.fr.size
  obtain ⟨A3, c3, rfl⟩ := own_sl ho7
  have hH7 : w7.cell? ⟨gf, 1, none⟩ = some (.slice A1 ps.length c1) := X7.out.fb.cell 1
  clear ho7 hb7 X6 HO6 HU6 HQ6
  go_wp2_with fail
  refine hK.out _ _ (fun _ => hH7) ?_
  clear hK K

  refine wpAnyT_one (i := 8) (o := { dst := some 21, op := Op.fieldAddr 54 (Operand.tmp 3) 3, type := 0, pos := "reader.go:59", after := #[{ on := 0, ground := Ground.phase }, { on := 1, ground := Ground.phase }, { on := 2, ground := Ground.phase }, { on := 3, ground := Ground.phase }, { on := 4, ground := Ground.phase }, { on := 5, ground := Ground.phase }, { on := 6, ground := Ground.phase }, { on := 7, ground := Ground.phase }], guard := none }) (by kernel_rfl) rfl (fun K hK => ?_)
  go_simp
  go_wp2_with fail
  refine hK.out _ _ (fun _ => hH7) ?_
  clear hK K

  have X8 : Hid (FP w g v bs gr gf #[.string nm, .slice A1 ps.length c1, .int .i64 rs, .slice A3 lc.length c3, .slice none 0 0] l4 (w7.setCell ⟨gf, 3, none⟩ (.slice A3 lc.length c3))) := by
    show FP _ _ _ _ _ _ _ _ _
    simpa using X7.out.store 3 (.slice A3 lc.length c3)
  have HO8 := Lib.hid (prow_store X7.out HO7.out (by decide) 3 (.slice A3 lc.length c3))
  have HV8 := Lib.hid (prow_store X7.out HV7.out (by decide) 3 (.slice A3 lc.length c3))
  have f3 := X7.out.fb.cell 3
  have z3 := X7.out.fb.frozen 3
  clear hH7

  refine wpAnyT_one (i := 9) (o := { dst := none, op := Op.store 52 (Operand.tmp 21) (Operand.tmp 20), type := 0, pos := "reader.go:59", after := #[{ on := 8, ground := Ground.data }, { on := 7, ground := Ground.data }, { on := 7, ground := Ground.chain }, { on := 0, ground := Ground.phase }, { on := 1, ground := Ground.phase }, { on := 2, ground := Ground.phase }, { on := 3, ground := Ground.phase }, { on := 4, ground := Ground.phase }, { on := 5, ground := Ground.phase }, { on := 6, ground := Ground.phase }, { on := 7, ground := Ground.phase }], guard := none }) (by kernel_rfl) rfl (fun K hK => ?_)
  go_simp
  go_wp2_with fail
  refine hK.out _ _ (fun h => absurd rfl h) ?_
  clear hK K

  refine wpAnyT_done (by kernel_rfl) ?_ _
  clear f3 z3 X7 HO7 HV7
  go_upto_region 3 with (fail)
  generalize w7.setCell ⟨gf, 3, none⟩ (.slice A3 lc.length c3) = w8 at *
  go_wp2_with fail
  refine (qlist_ins g v bs l4 w8 32768 X8.out.rd (by omega) HN.out HBy.out).mono ?_
  rintro e9 w9 ⟨hf9, ⟨hp9, rfl⟩ | ⟨u4, cd, l5, hp9, rfl, ho9, hr9⟩⟩
  · exact ⟨rfl, X8.out.fr.trans hf9 (fun _ _ e => e), .inl ⟨by unfold pFn; rw [HP1.out]; simp only [Option.bind_some]; rw [HP2.out]; simp only [Option.bind_some]; rw [HP3.out]; simp only [Option.bind_some]; rw [HP5.out]; simp only [Option.bind_some]; rw [hp9]; rfl, rfl⟩⟩
  have HPP : Hid (pFn l = some (⟨nm, ps, rs, lc, cd⟩, l5)) := by
    show _ = _
    unfold pFn; rw [HP1.out]; simp only [Option.bind_some]; rw [HP2.out]; simp only [Option.bind_some]; rw [HP3.out]; simp only [Option.bind_some]; rw [HP5.out]; simp only [Option.bind_some]; rw [hp9, HLC.out]; rfl
  have X9 := Lib.hid (X8.out.call hr9 hf9)
  have HO9 := Lib.hid (prow_call X8.out HO8.out hf9)
  have HV9 := Lib.hid (prow_call X8.out HV8.out hf9)
  have HC9 := Lib.hid (own_lower ho9 X8.out.fr.size)
  obtain ⟨A4, c4, rfl⟩ := own_sl ho9
  clear hp9 hr9 hf9 ho9 X8 HO8 HV8 HP1 HP2 HP3 HP5 HLC
  have X10 : Hid (FP w g v bs gr gf #[.string nm, .slice A1 ps.length c1, .int .i64 rs, .slice A3 lc.length c3, .slice A4 cd.length c4] l5 (w9.setCell ⟨gf, 4, none⟩ (.slice A4 cd.length c4))) := by
    show FP _ _ _ _ _ _ _ _ _
    simpa using X9.out.store 4 (.slice A4 cd.length c4)
  have HO10 := Lib.hid (prow_store X9.out HO9.out (by decide) 4 (.slice A4 cd.length c4))
  have HV10 := Lib.hid (prow_store X9.out HV9.out (by decide) 4 (.slice A4 cd.length c4))
  have HC10 := Lib.hid (prow_store X9.out HC9.out (by decide) 4 (.slice A4 cd.length c4))
  have f4 := X9.out.fb.cell 4
  have z4 := X9.out.fb.frozen 4
  clear X9 HO9 HV9 HC9
  go_upto_region 4 with (fail)
  generalize w9.setCell ⟨gf, 4, none⟩ (.slice A4 cd.length c4) = wq at *
  clear f4 z4
  have f0 := X10.out.fb.cell 0
  have f1 := X10.out.fb.cell 1
  have f2 := X10.out.fb.cell 2
  have f3 := X10.out.fb.cell 3
  have f4 := X10.out.fb.cell 4
  have r0 := X10.out.res.cell 0
  have r1 := X10.out.res.cell 1
  have r2 := X10.out.res.cell 2
  have r3 := X10.out.res.cell 3
  have r4 := X10.out.res.cell 4
  have z0 := X10.out.res.frozen 0
  have z1 := X10.out.res.frozen 1
  have z2 := X10.out.res.frozen 2
  have z3 := X10.out.res.frozen 3
  have z4 := X10.out.res.frozen 4
  obtain ⟨B5, R5, F4, F5⟩ := X10.out.ret (.string nm) (.slice A1 ps.length c1) (.int .i64 rs) (.slice A3 lc.length c3) (.slice A4 cd.length c4)
  have keep : ∀ {e n : Nat} {u : Value} {xs : List Value}, e ≠ 54 → wq.ownsRow w.heap.size e (if e = 3 then 1 else 3) u n xs → World.ownsRow _ w.heap.size e (if e = 3 then 1 else 3) u n xs := fun he ho => ownsRow_fr ho F4 (fun q hq e2 => own_ne_blk ho X10.out.res he (by rw [hq, show q = gr from e2]))
  have HO11 := Lib.hid (keep (e := 3) (by decide) HO10.out)
  have HV11 := Lib.hid (keep (e := 3) (by decide) HV10.out)
  have HC11 := Lib.hid (keep (e := 50) (by decide) HC10.out)
  have HB5 := Lib.hid B5
  have HR5 := Lib.hid R5
  have HF5 := Lib.hid F5
  clear B5 R5 F4 F5 keep HO10 HV10 HC10
  go_wp2_with fail
  generalize ((((wq.setCell ⟨gr, 0, none⟩ (.string nm)).setCell ⟨gr, 1, none⟩ (.slice A1 ps.length c1)).setCell ⟨gr, 2, none⟩ (.int .i64 rs)).setCell ⟨gr, 3, none⟩ (.slice A3 lc.length c3)).setCell ⟨gr, 4, none⟩ (.slice A4 cd.length c4) = wz at *
  have y0 := HB5.out.cell 0
  have y1 := HB5.out.cell 1
  have y2 := HB5.out.cell 2
  have y3 := HB5.out.cell 3
  have y4 := HB5.out.cell 4
  refine bodyPost_ret (v := fnV ⟨nm, ps, rs, lc, cd⟩ (.slice A1 ps.length c1, .slice A3 lc.length c3, .slice A4 cd.length c4)) (by simp [results, Tryd.results61, go_sem, y0, y1, y2, y3, y4]) rfl ⟨HF5.out, .inr ⟨⟨nm, ps, rs, lc, cd⟩, (.slice A1 ps.length c1, .slice A3 lc.length c3, .slice A4 cd.length c4), l5, HPP.out, rfl, ⟨HO11.out, HV11.out, HC11.out⟩, HR5.out⟩⟩

/-- What list answers for functions. -/
def ReadFs (g : Nat) (v : Value) (bs l : List Nat) (w : World) (e : Ending) (w' : World) : Prop :=
  Fr (fun i => i = g) w w' ∧ ((pList 64 pFn l = none ∧ e = thrown) ∨ ∃ (u : Value) (xs : List FnR) (l' : List Nat), pList 64 pFn l = some (xs, l') ∧ e = .returned u ∧ FnsOwn w' w.heap.size u xs ∧ (∀ f ∈ xs, f.small) ∧ PR g v bs l' w')

set_option maxHeartbeats 4000000 in
set_option maxRecDepth 100000 in
theorem qlist_fn (g : Nat) (v : Value) (bs l : List Nat) (w : World) (h : PR g v bs l w) (hn : bs.length ≤ 281474976710656) (hby : ∀ x ∈ bs, x < 256) :
    Calls Tryd.prog 60 #[.pointer (some ⟨g, 0, none⟩), .int .i64 64, .func (.func 61) #[.pointer (some ⟨g, 0, none⟩)] #[]] w (ReadFs g v bs l w) := by
  have HBy := Lib.hid hby
  have HN := Lib.hid hn
  have HGW := Lib.hid h.lt
  have HC := Lib.hid (qnum_c g v bs l w h hn hby)
  clear h hn hby
  go_enter Tryd.func60, Tryd.ntmps60
  go_wp2_with fail
  refine HC.out.mono ?_
  rintro e1 w1 ⟨hf1, ⟨hp1, rfl⟩ | ⟨n, l1, hp1, rfl, hr1⟩⟩
  · exact ⟨rfl, hf1, .inl ⟨many_no hp1, rfl⟩⟩
  obtain ⟨n, rfl⟩ := pnat_nat hp1
  have HP1 := Lib.hid hp1
  have HR1 := Lib.hid hr1
  have HF1 := Lib.hid hf1
  clear hp1 hr1 hf1 HC
  by_cases hnm : n ≤ 64
  · have hnm' : (n : Int) ≤ 64 := by omega
    go_wp2_with fail
    refine (need_yes _).mono ?_
    rintro e2 w2 ⟨rfl, rfl⟩
    have HMO : Hid (pList 64 pFn l = pRep pFn n l1) := many_ok HP1.out hnm
    obtain ⟨i0, hi0, hz0, hz1, hz2⟩ := infoFn
    obtain ⟨cs, hmk, hmo⟩ := mk_row 23 54 i0 _ 5 n Tryd.underlying23 hi0 hz0 hz1 (by rw [hz2]; omega) (by omega)
    have HS0 := Lib.hid HF1.out.size
    have HO0 : Hid (FnsOwn (w2.alloc (.cells cs 54)) w.heap.size (.slice (some ⟨w2.heap.size, 0, none⟩) 0 n) []) := ⟨[], rfl, own_lower (hmo w2) HS0.out, fun i f t hf => by simp at hf⟩
    have HR2 := Lib.hid (HR1.out.below ((Below.refl _ _).alloc (Nat.le_refl _) (.cells cs 54)))
    have HF2 : Hid (Fr (fun i => i = g) w (w2.alloc (.cells cs 54))) := HF1.out.trans (Fr.alloc (S := fun i => i = g) w2 _) (fun _ _ e => e)
    clear hmo HP1 HR1 HF1
    go_upto_region 4 with (fail)
    generalize w2.alloc (.cells cs 54) = w3 at *
    generalize (.slice (some { block := w2.heap.size, off := 0, spot := none }) 0 n : Value) = u0 at *
    clear hmk HS0
    go_wp2_with fail
    go_loopg [8, 18, 19, 20, 21, 22, 23, 24, 25] n (fun gg s8 s18 _ _ _ _ _ _ _ wr => ∃ (i : Nat) (xs : List FnR) (li : List Nat), i + gg = n ∧ s18 = .int .i64 (i : Int) ∧ xs.length = i ∧ Hid (FnsOwn wr w.heap.size s8 xs) ∧ Hid (∀ f ∈ xs, f.small) ∧ Hid (pRep pFn i l1 = some (xs, li)) ∧ Hid (PR g v bs li wr) ∧ Hid (Fr (fun i => i = g) w wr))
    case atStart => exact ⟨0, [], l1, by omega, rfl, rfl, HO0, (fun f hf => by cases hf), rfl, HR2, HF2⟩
    case round =>
      clear HO0 HR2 HF2
      obtain ⟨i, xs, li, hi, rfl, hxi, HO, HSM, HP, HR, HF⟩ := hrel
      have HXI := Lib.hid hxi
      clear hxi
      cases gk with
      | zero =>
        obtain rfl : i = n := by omega
        have hd : ¬ i < i := by omega
        clear hi
        go_wp2_with fail
        go_ret
        exact ⟨HF.out, .inr ⟨_, xs, li, by rw [HMO.out]; exact HP.out, rfl, HO.out, HSM.out, HR.out⟩⟩
      | succ gk =>
        have hd : i < n := by omega
        have HC := Lib.hid (qfnr_c g v bs li wr HR.out HN.out HBy.out)
        go_wp2_with fail
        refine HC.out.mono ?_
        rintro e2 w2 ⟨hf2, ⟨hp2, rfl⟩ | ⟨f, t, l2, hp2, rfl, hfo2, hr2⟩⟩
        · exact ⟨rfl, HF.out.trans hf2 (fun _ _ e => e), .inl ⟨by rw [HMO.out]; exact rep_gone HP.out hp2 (by omega), rfl⟩⟩
        have hfsm := fn_small hp2
        have HSM2 : Hid (∀ f' ∈ xs ++ [f], f'.small) := by
          intro f' hf'
          rcases List.mem_append.1 hf' with q | q
          · exact HSM.out f' q
          · simp only [List.mem_cons, List.not_mem_nil, or_false] at q; rw [q]; exact hfsm
        have HP2 := Lib.hid (rep_next HP.out hp2)
        have HR2 := Lib.hid hr2
        have HF2 := Lib.hid (HF.out.trans hf2 (fun _ _ e => e))
        have HO2 := Lib.hid (HO.out.fr hf2 (fun b hb _ e => by have := HGW.out; have e : b = g := e; omega))
        have hfo2 := hfo2.lower HF.out.size
        obtain ⟨Ap, cp, Al, cl, Ac, cc, rfl⟩ := trip_slices hfo2.shows
        obtain ⟨ts, hts, hro, hall⟩ := HO2.out.ex
        have hts2 := Lib.hid hts
        have hF2 : Hid (Fr (fun _ => False) w2 (w2.alloc (.cells (fnBox f (.slice Ap f.params.length cp, .slice Al f.locals.length cl, .slice Ac f.code.length cc)) 54))) := Fr.alloc _ _
        have HRo := Lib.hid (own_fr hro hF2.out (fun _ _ _ h => h))
        have HAll : Hid (∀ (i : Nat) (f' : FnR) (t' : Trip), xs[i]? = some f' → ts[i]? = some t' → FnOwn (w2.alloc (.cells (fnBox f (.slice Ap f.params.length cp, .slice Al f.locals.length cl, .slice Ac f.code.length cc)) 54)) w.heap.size t' f') := fun i f' t' h1 h2 => (hall i f' t' h1 h2).fr hF2.out (fun _ _ _ h => h)
        have HFO := Lib.hid (hfo2.fr hF2.out (fun _ _ _ h => h))
        have hws : Hid (w.heap.size ≤ w2.heap.size) := HF2.out.size
        have hxl : Hid (xs.length ≤ 64) := by show _ ≤ _; have := HXI.out; omega
        clear hp2 hr2 hf2 HC HR HF HO HP hts hro hall hfo2 HO2 HSM hfsm
        obtain ⟨i0, hi0, hz0, hz1, hz2⟩ := infoFn
        go_wp2_with (at_builtin; refine wpList_append_own_at _ rfl (.tmp 20) (.tmp 23) 23 rfl w.heap.size 54 i0 _ 5 96 Tryd.underlying23 hi0 hz0 hz1 hz2 rfl (by decide) _ _ _ rfl HRo.out ⟨w2.heap.size, 0, none⟩ 1 1 (fnC f (.slice Ap f.params.length cp, .slice Al f.locals.length cl, .slice Ac f.code.length cc)) rfl rfl (cells_new w2 54 (fnC f (.slice Ap f.params.length cp, .slice Al f.locals.length cl, .slice Ac f.code.length cc))) ?c2 ?c3 ?c4 ?c5 ?_)
        case c2 => intro u hu; simp [fnC] at hu; rcases hu with rfl | rfl | rfl | rfl | rfl <;> rfl
        case c3 => have := hxl.out; unfold maxLen; omega
        case c4 => have := hxl.out; omega
        case c5 => have := hws.out; simp; omega
        intro v3 w3 ho3 hgr3 _ _
        have HFS2 : Hid (FnsOwn w3 w.heap.size v3 (xs ++ [f])) := FnsOwn.add hts2.out HRo.out HAll.out HFO.out hgr3 ho3
        have hfr3 : Fr (fun q => u8.ownBlock = some q) w2 w3 := (hF2.out.mono (fun _ _ h => h.elim)).trans (Fr.of_grown hgr3 fun _ _ he => he) (fun _ _ h => h)
        have hnb : ∀ q, u8.ownBlock = some q → w.heap.size ≤ q := fun q hq => (HRo.out.lt q hq).1
        have HR3 : Hid (PR g v bs l2 w3) := HR2.out.fr hfr3 (fun e => by have := hnb g e; have := HGW.out; omega) (fun A n c e q => by have := hnb _ q; have := HR2.out.low A n c e; have := HGW.out; omega)
        have HF3 : Hid (Fr (fun i => i = g) w w3) := HF2.out.trans hfr3 (fun i hi e => absurd (hnb i e) (by omega))
        clear ho3 hgr3 hfr3 hnb HRo HAll HFO hF2
        go_wp2_with fail
        go_roundg gk
        case measure => omega
        case rel => exact ⟨i + 1, xs ++ [f], l2, by omega, by push_cast; rfl, by show _ = _; rw [List.length_append, HXI.out]; rfl, HFS2, HSM2, HP2, HR3, HF3⟩
  · have hnm' : decide ((n : Int) ≤ 64) = false := by simp; omega
    have hnm2 : ¬ n ≤ 64 := hnm
    have HMB := Lib.hid (many_big (p := pFn) (most := 64) HP1.out (by omega))
    go_wp2_with fail
    refine (need_no _).mono ?_
    rintro e2 w2 ⟨rfl, rfl⟩
    exact ⟨rfl, HF1.out, .inl ⟨HMB.out, rfl⟩⟩

set_option maxHeartbeats 1000000 in
set_option maxRecDepth 100000 in
theorem qprefix_c (v u : Value) (bs cs : List Nat) (w : World) (hv : SlB w v bs) (hu : SlB w u cs) (hb : ∀ x ∈ bs, x < 256) (hc : ∀ x ∈ cs, x < 256) :
    Calls Tryd.prog 57 #[v, u] w fun e w' => e = .returned (.bool (decide (bs.take cs.length = cs))) ∧ w' = w := by
  obtain ⟨A, c, rfl, h1, h2, h3⟩ := hv
  obtain ⟨B, d, rfl, k1, k2, k3⟩ := hu
  have hv : SlB w (.slice A bs.length c) bs := ⟨A, c, rfl, h1, h2, h3⟩
  have hu : SlB w (.slice B cs.length d) cs := ⟨B, d, rfl, k1, k2, k3⟩
  clear h1 h2 h3 k1 k2 k3
  by_cases hl : cs.length ≤ bs.length
  · obtain ⟨B', d', hsl, hsh⟩ := SlB.upto_ hv cs.length hl
    have HE := Lib.hid (equal_c _ _ _ _ w hsh hu (fun x hx => hb x (List.mem_of_mem_take hx)) hc)
    generalize decide (bs.take cs.length = cs) = res at *
    clear hv hu hsh hb hc
    go_enter Tryd.func57, Tryd.ntmps57
    go_wp2_with fail
    refine HE.out.mono ?_
    rintro e w1 ⟨rfl, rfl⟩
    go_wp2_with fail
    go_ret
    exact ⟨rfl, rfl⟩
  · have HR : Hid (decide (bs.take cs.length = cs) = false) := by
      show _ = _
      rw [decide_eq_false_iff_not]
      intro e
      have := congrArg List.length e
      rw [List.length_take] at this
      omega
    clear hv hu hb hc
    go_enter Tryd.func57, Tryd.ntmps57
    go_wp2_with fail
    go_ret
    exact ⟨by rw [HR.out]; rfl, rfl⟩

end Go.Proofs.YtebdjahcahgafaaDoor

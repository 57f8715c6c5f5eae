/- Bytes: slices of bytes as lists, copies of them, their texts. Slices of bytes that read as lists, and bytes of one's own: what the contracts speak of. The contract of joined: two rows of bytes in new memory. -/
import Derived.Test.YtebdjahcahgafaaDoorMem
import Derived.Test.YtebdjahcahgafaaDoorProg
import Derived.WalkKit
import Derived.WalkSpells
import Derived.WalkLawsBesides
import Derived.Laws.CopyOwn
import Derived.Laws.BytesArg
import Derived.Lib.Hide
import Derived.Deep.OwnRows
import Derived.Maps.AppendAt
import Derived.OwnWalk
namespace Go.Proofs.YtebdjahcahgafaaDoor
open Go.RowKit

theorem infoU8 : (Tryd.prog.info? 5).map (fun i => (i.zero, i.size, i.bytes)) = some (some (.int .u8 0), 1, 1) := by kernel_rfl
theorem sizeU8 : (Tryd.prog.info? 5).map (·.size) = some 1 := by kernel_rfl

theorem made_blk (w : World) (n : Nat) : (w.alloc (.cells (madeCells #[.int .u8 0] n) 5)).heap[w.heap.size]? = some (.cells (List.replicate n (Value.int .u8 0)).toArray 5 (0, 0)) := by
  rw [heap_alloc_new, ← toList_madeCells_one]

theorem splice_all (n : Nat) (xs : List Value) (h : xs.length = n) : splice (List.replicate n (Value.int .u8 0)) 0 xs = xs := by
  simp [splice, h]

/-- Bytes as cells. -/
def U8s (bs : List Nat) : List Value := bs.map fun b : Nat => Value.int .u8 (b : Int)

theorem U8s_length (bs : List Nat) : (U8s bs).length = bs.length := by simp [U8s]

theorem U8s_one (bs : List Nat) : ∀ u ∈ U8s bs, u.oneCell' = true := by
  intro u hu
  obtain ⟨_, _, rfl⟩ := List.mem_map.1 hu
  rfl

theorem U8s_get (bs : List Nat) (i : Nat) (h : i < bs.length) : (U8s bs)[i]? = some (.int .u8 ((bs.getD i 0 : Nat) : Int)) := by
  simp [U8s, List.getD, List.getElem?_eq_getElem h]

theorem U8s_append (a b : List Nat) : U8s (a ++ b) = U8s a ++ U8s b := by simp [U8s]

theorem U8s_set (rs : List Nat) (m y : Nat) : U8s (rs.set m y) = (U8s rs).set m (.int .u8 (y : Int)) := by simp [U8s, List.map_set]

theorem byte_of {bs : List Nat} (h : (bs.all fun b => decide (b < 256)) = true) : ∀ i, bs.getD i 0 < 256 := by
  intro i
  rw [List.getD_eq_getElem?_getD]
  rcases Nat.lt_or_ge i bs.length with hi | hi
  · rw [List.getElem?_eq_getElem hi]
    simpa using List.all_eq_true.1 h _ (List.getElem_mem hi)
  · rw [List.getElem?_eq_none hi]; decide

/-- The text of bytes. -/
def strOf (bs : List Nat) : ByteArray := ⟨(bs.map UInt8.ofNat).toArray⟩

theorem conv_eq (w : World) (g cap : Nat) (bs : List Nat) (h : Blk w g 5 (U8s bs).toArray) : (convert 30 9 (.slice (some ⟨g, 0, none⟩) bs.length cap)).run Tryd.prog w = .ok (.string (strOf bs)) w := by
  have e := run_convert_bytes_arg (P := Tryd.prog) w 30 5 Tryd.underlying30 Tryd.underlying5 g 0 bs.length cap (bs.map fun b : Nat => (b : Int)) (by simp) (fun i hi => by
    rw [Nat.zero_add, h.cell]
    have := U8s_get bs i hi
    simp only [List.getElem?_toArray, this]
    simp [List.getD, List.getElem?_eq_getElem hi]) 9 Tryd.underlying9
  rw [e]
  simp [strOfNums, strOf, Function.comp_def]

theorem conv_reads (w : World) (B c : Nat) (A : Option Addr) (bs : List Nat) (h : Reads w B A bs.length (U8s bs)) : (convert 30 9 (.slice A bs.length c)).run Tryd.prog w = .ok (.string (strOf bs)) w := by
  rcases Nat.eq_zero_or_pos bs.length with h0 | h0
  · obtain rfl : bs = [] := List.eq_nil_of_length_eq_zero h0
    cases A with
    | none => exact run_convert_bytes_nil (P := Tryd.prog) w 30 5 Tryd.underlying30 Tryd.underlying5 0 c 9 Tryd.underlying9
    | some ad =>
      obtain ⟨b, o, sp⟩ := ad
      rw [run_convert_bytes_string w 30 9 5 _ _ c Tryd.underlying30 Tryd.underlying5 Tryd.underlying9]
      have hl : (loadCells ⟨b, o, sp⟩ 0).run Tryd.prog w = .ok (([] : List Int).map (Value.int .u8)).toArray w := run_loadCells_list (P := Tryd.prog) w ⟨b, o, sp⟩ [] (fun j v hj => by simp at hj)
      rw [show ([] : List Nat).length = 0 from rfl, run_bytesToString w _ 0 c [] hl]
      rfl
  · obtain ⟨b, o, rfl, _, _⟩ := h.spot h0
    have e := run_convert_bytes_arg (P := Tryd.prog) w 30 5 Tryd.underlying30 Tryd.underlying5 b o bs.length c (bs.map fun b : Nat => (b : Int)) (by simp) (fun i hi => by
      obtain ⟨b', o', e, _, hc⟩ := h.spot hi
      injection e with e
      injection e with e1 e2
      subst e1 e2
      rw [hc, U8s_get bs i hi]
      simp [List.getD, List.getElem?_eq_getElem hi]) 9 Tryd.underlying9
    rw [e]
    simp [strOfNums, strOf, Function.comp_def]

/-- The value v is a slice of bytes that reads as bs. -/
def SlB (w : World) (v : Value) (bs : List Nat) : Prop :=
  ∃ A c, v = .slice A bs.length c ∧ bs.length ≤ c ∧ (A = none → c = 0) ∧ Reads w w.heap.size A bs.length (U8s bs)

/-- Bytes in memory that is new since block base. -/
def OwnB (w : World) (base : Nat) (v : Value) (bs : List Nat) : Prop := w.ownsRow base 5 1 v bs.length (U8s bs)

section
variable {w w' : World} {v : Value} {bs cs : List Nat} {base B : Nat}
theorem SlB.nil (w : World) : SlB w (.slice none 0 0) [] := ⟨none, 0, rfl, by simp, fun _ => rfl, rfl, fun h => by simp at h⟩
theorem OwnB.nil (w : World) (base : Nat) : OwnB w base (.slice none 0 0) [] := World.ownsRow_nil _ _ _ _
theorem OwnB.sl (h : OwnB w base v bs) : SlB w v bs := by
  have h2 := h
  unfold OwnB at h2
  rcases h2.2 with ⟨rfl, h0⟩ | ⟨g, cap, cur, rfl, hb, hg, hc, _⟩
  · obtain rfl := List.eq_nil_of_length_eq_zero h0
    exact SlB.nil w
  · exact ⟨_, cap, rfl, hc, (fun e => nomatch e), Reads.of_own h⟩
theorem SlB.below (h : SlB w v bs) (hb : Below w.heap.size w w') : SlB w' v bs := by
  obtain ⟨A, c, e, h1, h2, h3⟩ := h
  exact ⟨A, c, e, h1, h2, (h3.below hb).more hb.size⟩
theorem SlB.draw (h : SlB w v bs) (n : Nat) : SlB (w.drewN n) v bs := h
theorem SlB.fr {S : Nat → Prop} (h : SlB w v bs) (hf : Fr S w w') (hn : ∀ A n c, v = .slice (some A) n c → ¬ S A.block) : SlB w' v bs := by
  obtain ⟨A, c, e, h1, h2, h3⟩ := h
  refine ⟨A, c, e, h1, h2, h3.fr hf (Nat.le_refl _) (fun _ ad ha => ?_)⟩
  subst ha
  exact hn ad _ _ e
theorem OwnB.below (h : OwnB w base v bs) (hb : Below w.heap.size w w') : OwnB w' base v bs :=
  ownsRow_fr (S := fun _ => False) h (Fr.of_below hb) (fun _ _ h => h)
theorem OwnB.draw (h : OwnB w base v bs) (n : Nat) : OwnB (w.drewN n) base v bs := h
theorem OwnB.blk {g : Nat} {l : Nat} (h : Blk w g 5 (U8s bs).toArray) (hg : base ≤ g) (hl : l = bs.length) (hm : bs.length ≤ maxLen) : OwnB w base (.slice (some ⟨g, 0, none⟩) l l) bs := by
  subst hl
  exact ⟨by simp [U8s], .inr ⟨g, bs.length, _, rfl, hg, h, Nat.le_refl _, hm, by simp [U8s], by simp [List.take_of_length_le, U8s]⟩⟩
theorem OwnB.lower (h : OwnB w base v bs) (hb : B ≤ base) : OwnB w B v bs := by
  refine ⟨h.1, ?_⟩
  rcases h.2 with h2 | ⟨g, cap, cur, rfl, hbb, rest⟩
  · exact .inl h2
  · exact .inr ⟨g, cap, cur, rfl, by omega, rest⟩
theorem below_trans {w'' : World} (h : Below w.heap.size w w') (k : Below w'.heap.size w' w'') : Below w.heap.size w w'' :=
  ⟨k.os.trans h.os, k.tape.trans h.tape, k.output.trans h.output, Nat.le_trans h.size k.size, fun i hi => (k.block i (Nat.lt_of_lt_of_le hi h.size)).trans (h.block i hi)⟩
theorem SlB.conv (h : SlB w v bs) : (convert 30 9 v).run Tryd.prog w = .ok (.string (strOf bs)) w := by
  obtain ⟨A, c, rfl, _, _, h3⟩ := h
  exact conv_reads w _ c A bs h3
end

theorem strOf_inj {a b : List Nat} (ha : ∀ x ∈ a, x < 256) (hb : ∀ x ∈ b, x < 256) : strOf a = strOf b ↔ a = b := by
  constructor
  · intro e
    unfold strOf at e
    injection e with e
    have e2 := congrArg Array.toList e
    simp only at e2
    clear e
    induction a generalizing b with
    | nil => cases b with
      | nil => rfl
      | cons y s => simp at e2
    | cons x r ih => cases b with
      | nil => simp at e2
      | cons y s =>
        simp only [List.map_cons, List.cons.injEq] at e2
        have hx := ha x List.mem_cons_self
        have hy := hb y List.mem_cons_self
        have h1 : x = y := by
          have := congrArg UInt8.toNat e2.1
          simp only [UInt8.toNat_ofNat'] at this
          omega
        subst h1
        rw [ih (fun z hz => ha z (List.mem_cons_of_mem _ hz)) (fun z hz => hb z (List.mem_cons_of_mem _ hz)) e2.2]
  · rintro rfl; rfl

/-- Bytes in a new block of just their size. -/
def Fresh (w : World) (bs : List Nat) (e : Ending) (w' : World) : Prop :=
  ∃ g n, e = .returned (.slice (some ⟨g, 0, none⟩) n n) ∧ n = bs.length ∧ w.heap.size ≤ g ∧ Blk w' g 5 (U8s bs).toArray ∧ Below w.heap.size w w'

theorem info_u8 : ∃ i, Tryd.prog.info? 5 = some i ∧ i.zero = some (.int .u8 0) ∧ i.size = 1 ∧ i.bytes = 1 := by
  obtain ⟨i, hi, hzz⟩ := Option.map_eq_some_iff.1 infoU8
  simp only [Prod.mk.injEq] at hzz
  exact ⟨i, hi, hzz.1, hzz.2.1, hzz.2.2⟩

theorem make_run (n : Nat) (hn : n ≤ 281474976710656) (w : World) : (Instr.makeSlice 30 (.int .i64 0) (.int .i64 (n : Int))).run Tryd.prog w = .ok (.slice (some ⟨w.heap.size, 0, none⟩) 0 n) (w.alloc (.cells (madeCells #[.int .u8 0] n) 5)) := by
  obtain ⟨i, hi, hz, hs, hb⟩ := info_u8
  have h := run_make (P := Tryd.prog) w 30 5 i (.int .u8 0) Tryd.underlying30 hi hz .i64 .i64 0 (n : Int) (by omega) (by omega) (by rw [hb]; omega) (by omega)
  rw [hs, Nat.mul_one] at h
  rw [h]
  congr 2

theorem make_own (n : Nat) (hn : n ≤ 281474976710656) (w : World) : (w.alloc (.cells (madeCells #[.int .u8 0] n) 5)).ownsRow w.heap.size 5 1 (.slice (some ⟨w.heap.size, 0, none⟩) 0 n) 0 [] :=
  ⟨rfl, .inr ⟨w.heap.size, n, _, rfl, Nat.le_refl _, made_blk w n, by omega, by unfold maxLen; omega, by simp, by simp⟩⟩

set_option maxHeartbeats 1000000 in
set_option maxRecDepth 100000 in
theorem joined_c (v u : Value) (bs cs : List Nat) (w : World) (hv : SlB w v bs) (hu : SlB w u cs) (hn : bs.length + cs.length ≤ 281474976710656) :
    Calls Tryd.prog 31 #[v, u] w (Fresh w (bs ++ cs)) := by
  obtain ⟨A, c, rfl, hc, hA, hr⟩ := hv
  obtain ⟨B, d, rfl, hd, hB, hs⟩ := hu
  obtain ⟨i, hi, hz, hs1, hb1⟩ := info_u8
  have hmk := make_run (bs.length + cs.length) hn
  rw [show (((bs.length + cs.length : Nat)) : Int) = (bs.length : Int) + (cs.length : Int) by omega] at hmk
  have hown := Lib.hid (make_own (bs.length + cs.length) hn w)
  have HR := Lib.hid hr
  have HS := Lib.hid hs
  have H1 := Lib.hid (U8s_one bs)
  have H2 := Lib.hid (U8s_one cs)
  clear hr hs
  go_enter Tryd.func31, Tryd.ntmps31
  go_wp2_with (at_builtin; refine wpList_append_fits_any _ rfl (.tmp 12) (.tmp 13) 30 rfl w.heap.size 5 i 1 Tryd.underlying30 hi hs1 w.heap.size 0 (bs.length + cs.length) [] rfl hown.out A bs.length c (U8s bs) rfl ?a1 ?a2 ?a3 H1.out ?a4 ?_)
  case a1 => simp [U8s]
  case a2 => intro e; have := hA e; omega
  case a3 =>
    intro ad e j x hj
    have h0 : 0 < bs.length := by
      have := (List.getElem?_eq_some_iff.1 hj).1
      rw [U8s_length] at this; omega
    obtain ⟨ad', e', hb, hcell⟩ := HR.out.2 h0
    rw [e] at e'
    obtain rfl := Option.some.inj e'
    exact (World.cell?_alloc_lt w _ _ (by rw [block_of_add]; exact hb)).trans (hcell j x hj)
  case a4 => omega
  intro w1 hown1 hgr1
  have HO1 := Lib.hid hown1
  have HB1 : Hid (Below w.heap.size w w1) := ((Below.refl w.heap.size w).alloc (Nat.le_refl _) _).grown hgr1 (by simp) (fun k hk => by injection hk with hk; omega)
  clear hown hgr1 hown1
  go_wp2_with (at_builtin; refine wpList_append_fits_any _ rfl (.tmp 14) (.tmp 15) 30 rfl w.heap.size 5 i 1 Tryd.underlying30 hi hs1 w.heap.size bs.length (bs.length + cs.length) _ rfl HO1.out B cs.length d (U8s cs) rfl ?b1 ?b2 ?b3 H2.out ?b4 ?_)
  case b1 => simp [U8s]
  case b2 => intro e; have := hB e; omega
  case b3 =>
    intro ad e j x hj
    have h0 : 0 < cs.length := by
      have := (List.getElem?_eq_some_iff.1 hj).1
      rw [U8s_length] at this; omega
    obtain ⟨ad', e', hb, hcell⟩ := HS.out.2 h0
    rw [e] at e'
    obtain rfl := Option.some.inj e'
    exact (HB1.out.cell (by rw [block_of_add]; exact hb)).trans (hcell j x hj)
  case b4 => omega
  intro w2 hown2 hgr2
  have HO2 := Lib.hid hown2
  have HB2 : Hid (Below w.heap.size w w2) := HB1.out.grown hgr2 (HB1.out.size) (fun k hk => by injection hk with hk; omega)
  clear hgr2 hown2
  go_wp2_with fail
  go_ret
  refine ⟨w.heap.size, _, rfl, by simp, Nat.le_refl _, ?_, HB2.out⟩
  rcases HO2.out.2 with ⟨e, _⟩ | ⟨g, cap, cur, e, _, hg, h1, h2, h3, h4⟩
  · cases e
  · injection e with e1 e2 e3
    injection e1 with e1
    injection e1 with e1
    subst e1 e3
    unfold Blk
    rw [hg]
    congr 2
    have h5 : cur.toList = U8s bs ++ U8s cs := by
      rw [List.take_of_length_le (by simp; omega)] at h4
      simpa using h4
    rw [U8s_append, ← h5]

end Go.Proofs.YtebdjahcahgafaaDoor

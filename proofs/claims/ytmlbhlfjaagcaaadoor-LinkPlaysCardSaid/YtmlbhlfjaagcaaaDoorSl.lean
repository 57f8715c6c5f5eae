/- Slices of bytes that read as lists, and bytes of one's own: what the contracts speak of. -/
import Derived.Test.YtmlbhlfjaagcaaaDoorBytes
import Derived.Maps.AppendAt
namespace Go.Proofs.YtmlbhlfjaagcaaaDoor
open Go.RowKit

/-- The value v is a slice of bytes that reads as bs. -/
def SlB (w : World) (v : Value) (bs : List Nat) : Prop :=
  ∃ A c, v = .slice A bs.length c ∧ bs.length ≤ c ∧ (A = none → c = 0) ∧ Reads w w.heap.size A bs.length (U8s bs)

/-- Bytes in memory that is new since block base. -/
def OwnB (w : World) (base : Nat) (v : Value) (bs : List Nat) : Prop := w.ownsRow base 5 1 v bs.length (U8s bs)

section
variable {w w' : World} {v : Value} {bs cs : List Nat} {base B : Nat}
theorem SlB.nil (w : World) : SlB w (.slice none 0 0) [] := ⟨none, 0, rfl, by simp, fun _ => rfl, rfl, fun h => by simp at h⟩
theorem OwnB.nil (w : World) (base : Nat) : OwnB w base (.slice none 0 0) [] := World.ownsRow_nil _ _ _ _
theorem OwnB.sl (h : OwnB w base v bs) : SlB w v bs := by
  have h2 := h
  unfold OwnB at h2
  rcases h2.2 with ⟨rfl, h0⟩ | ⟨g, cap, cur, rfl, hb, hg, hc, _⟩
  · obtain rfl := List.eq_nil_of_length_eq_zero h0
    exact SlB.nil w
  · exact ⟨_, cap, rfl, hc, (fun e => nomatch e), Reads.of_own h⟩
theorem SlB.below (h : SlB w v bs) (hb : Below w.heap.size w w') : SlB w' v bs := by
  obtain ⟨A, c, e, h1, h2, h3⟩ := h
  exact ⟨A, c, e, h1, h2, (h3.below hb).more hb.size⟩
theorem SlB.draw (h : SlB w v bs) (n : Nat) : SlB (w.drewN n) v bs := h
theorem SlB.fr {S : Nat → Prop} (h : SlB w v bs) (hf : Fr S w w') (hn : ∀ A n c, v = .slice (some A) n c → ¬ S A.block) : SlB w' v bs := by
  obtain ⟨A, c, e, h1, h2, h3⟩ := h
  refine ⟨A, c, e, h1, h2, h3.fr hf (Nat.le_refl _) (fun _ ad ha => ?_)⟩
  subst ha
  exact hn ad _ _ e
theorem OwnB.below (h : OwnB w base v bs) (hb : Below w.heap.size w w') : OwnB w' base v bs :=
  ownsRow_fr (S := fun _ => False) h (Fr.of_below hb) (fun _ _ h => h)
theorem OwnB.draw (h : OwnB w base v bs) (n : Nat) : OwnB (w.drewN n) base v bs := h
theorem OwnB.blk {g : Nat} {l : Nat} (h : Blk w g 5 (U8s bs).toArray) (hg : base ≤ g) (hl : l = bs.length) (hm : bs.length ≤ maxLen) : OwnB w base (.slice (some ⟨g, 0, none⟩) l l) bs := by
  subst hl
  exact ⟨by simp [U8s], .inr ⟨g, bs.length, _, rfl, hg, h, Nat.le_refl _, hm, by simp [U8s], by simp [List.take_of_length_le, U8s]⟩⟩
theorem OwnB.lower (h : OwnB w base v bs) (hb : B ≤ base) : OwnB w B v bs := by
  refine ⟨h.1, ?_⟩
  rcases h.2 with h2 | ⟨g, cap, cur, rfl, hbb, rest⟩
  · exact .inl h2
  · exact .inr ⟨g, cap, cur, rfl, by omega, rest⟩
theorem below_trans {w'' : World} (h : Below w.heap.size w w') (k : Below w'.heap.size w' w'') : Below w.heap.size w w'' :=
  ⟨k.os.trans h.os, k.tape.trans h.tape, k.output.trans h.output, Nat.le_trans h.size k.size, fun i hi => (k.block i (Nat.lt_of_lt_of_le hi h.size)).trans (h.block i hi)⟩
theorem SlB.conv (h : SlB w v bs) : (convert 36 9 v).run Tryd.prog w = .ok (.string (strOf bs)) w := by
  obtain ⟨A, c, rfl, _, _, h3⟩ := h
  exact conv_reads w _ c A bs h3
end

theorem strOf_inj {a b : List Nat} (ha : ∀ x ∈ a, x < 256) (hb : ∀ x ∈ b, x < 256) : strOf a = strOf b ↔ a = b := by
  constructor
  · intro e
    unfold strOf at e
    injection e with e
    have e2 := congrArg Array.toList e
    simp only at e2
    clear e
    induction a generalizing b with
    | nil => cases b with
      | nil => rfl
      | cons y s => simp at e2
    | cons x r ih => cases b with
      | nil => simp at e2
      | cons y s =>
        simp only [List.map_cons, List.cons.injEq] at e2
        have hx := ha x List.mem_cons_self
        have hy := hb y List.mem_cons_self
        have h1 : x = y := by
          have := congrArg UInt8.toNat e2.1
          simp only [UInt8.toNat_ofNat'] at this
          omega
        subst h1
        rw [ih (fun z hz => ha z (List.mem_cons_of_mem _ hz)) (fun z hz => hb z (List.mem_cons_of_mem _ hz)) e2.2]
  · rintro rfl; rfl

end Go.Proofs.YtmlbhlfjaagcaaaDoor

/- The document's examples: awake answers true, and writes nothing old. -/
import Derived.Test.YtehonfobofpahaaPutAny
import Derived.Test.YtehonfobofpahaaTakeAny
import Derived.Test.YtehonfobofpahaaDone
import Derived.Laws.BytesArg
namespace Go.Proofs.Ytehonfobofpahaa
open Go.RowKit

theorem below_put {B p n : Nat} {w w1 w2 : World} {v : Value} {bs : List Nat} (hb : Below B w w1) (h : Wr w1 p v n bs) (hf : Fr (Mine p v) w1 w2) (hp : B ≤ p) : Below B w w2 := by
  have hlt := h.blk.lt
  refine hb.trans (hf.below (by omega) fun i hi hm => ?_)
  rcases hm with rfl | hm
  · omega
  · have := h.own.lt i hm; omega

theorem below_at {B q : Nat} {w w1 w2 : World} (hb : Below B w w1) (hf : Fr (fun i => i = q) w1 w2) (hq : B ≤ q) (hs : B ≤ w1.heap.size) : Below B w w2 :=
  hb.trans (hf.below hs fun i hi hm => by omega)

theorem below_draw {B : Nat} {w w1 : World} (hb : Below B w w1) (j : Nat) : Below B w (w1.drewN j) := ⟨hb.os, hb.tape, hb.output, hb.size, hb.block⟩

/-- The text of bytes. -/
def strOf (bs : List Nat) : ByteArray := ⟨(bs.map UInt8.ofNat).toArray⟩

theorem conv_eq (w : World) (g cap : Nat) (bs : List Nat) (h : Blk w g 5 (U8s bs).toArray) : (convert 32 9 (.slice (some ⟨g, 0, none⟩) bs.length cap)).run Try.prog w = .ok (.string (strOf bs)) w := by
  have e := run_convert_bytes_arg (P := Try.prog) w 32 5 Try.underlying32 Try.underlying5 g 0 bs.length cap (bs.map fun b : Nat => (b : Int)) (by simp) (fun i hi => by
    rw [Nat.zero_add, h.cell]
    have := U8s_get bs i hi
    simp only [List.getElem?_toArray, this]
    simp [List.getD, List.getElem?_eq_getElem hi]) 9 Try.underlying9
  rw [e]
  simp [strOfNums, strOf, Function.comp_def]

theorem byte_of {bs : List Nat} (h : (bs.all fun b => decide (b < 256)) = true) : ∀ i, bs.getD i 0 < 256 := by
  intro i
  rw [List.getD_eq_getElem?_getD]
  rcases Nat.lt_or_ge i bs.length with hi | hi
  · rw [List.getElem?_eq_getElem hi]
    simpa using List.all_eq_true.1 h _ (List.getElem_mem hi)
  · rw [List.getElem?_eq_none hi]; decide
theorem row_of {bs : List Nat} {n : Nat} (h1 : bs.length = (n + 7) / 8) (h : (bs.all fun b => decide (b < 256)) = true) : Row bs n := ⟨h1, byte_of h⟩
theorem Blk.below {w w' : World} {B g : Nat} {t : TypeId} {cs : Array Value} (h : Blk w g t cs) (hb : Below B w w') (hg : g < B) : Blk w' g t cs := (hb.block g hg).trans h

set_option maxHeartbeats 1000000 in
set_option maxRecDepth 100000 in
theorem awake_c (w : World) : Calls Try.prog 9 #[] w fun e w' => e = .returned (.bool true) ∧ Below w.heap.size w w' := by
  go_enter Try.func9, Try.ntmps9
  go_wp2_with fail
  refine (new_c _).mono ?_
  rintro e w1 ⟨rfl, rfl⟩
  have W0 := Lib.hid (Wr.new w)
  have B0 := Lib.hid ((Below.refl w.heap.size w).alloc (Nat.le_refl _) (.cells #[.slice none 0 0, .int .i64 0] 51))
  generalize (w.alloc (.cells #[.slice none 0 0, .int .i64 0] 51)) = w0 at W0 B0 ⊢
  go_wp2_with fail
  refine (put_yes w.heap.size 0 5 3 _ [] _ W0.out Row.nil (by decide) (by decide) (by decide)).mono ?_
  rintro e w1 ⟨v1, rfl, hw, hf, _⟩
  have W1 := Lib.hid hw
  have B1 := Lib.hid (below_put B0.out W0.out hf (Nat.le_refl _))
  clear hw hf W0 B0
  go_wp2_with fail
  refine (put_yes w.heap.size 3 0 1 _ [160] _ W1.out (row_of (by decide) (by decide)) (by decide) (by decide) (by decide)).mono ?_
  rintro e w2 ⟨v2, rfl, hw, hf, _⟩
  have W2 := Lib.hid hw
  have B2 := Lib.hid (below_put B1.out W1.out hf (Nat.le_refl _))
  clear hw hf W1 B1
  go_wp2_with fail
  refine (put_yes w.heap.size 4 255 8 _ [160] _ W2.out (row_of (by decide) (by decide)) (by decide) (by decide) (by decide)).mono ?_
  rintro e w3 ⟨v3, rfl, hw, hf, _⟩
  have W3 : Hid (Wr w3 w.heap.size v3 12 [175, 240]) := hw
  have B3 := Lib.hid (below_put B2.out W2.out hf (Nat.le_refl _))
  clear hw hf W2 B2
  go_wp2_with fail
  refine (put_arg w.heap.size 8 3 _ (fun h => absurd h.2.2.2 (by decide))).mono ?_
  rintro e w4 ⟨rfl, rfl⟩
  go_wp2_with fail
  refine (bytes_c w.heap.size 12 v3 [175, 240] _ W3.out (by decide)).mono ?_
  rintro e w4 ⟨g, rfl, hg, hbk, hbel⟩
  have K4 := Lib.hid hbk
  have B4 := Lib.hid (B3.out.trans (hbel.mono B3.out.size))
  have hz3 := Lib.hid (Nat.le_trans B3.out.size hg)
  clear hbk hbel W3 B3 hg
  go_wp2_with fail
  refine (read_c (some ⟨g, 0, none⟩) 2 [175, 240] _ ((Reads.blk K4.out).more K4.out.lt) (by decide)).mono ?_
  rintro e w5 ⟨q, g5, rfl, hq, hg5, hrd, hbel⟩
  have R5 := Lib.hid hrd
  have K5 := Lib.hid (K4.out.below hbel K4.out.lt)
  have B5 := Lib.hid (B4.out.trans (hbel.mono B4.out.size))
  have hq5 : w.heap.size ≤ q := Nat.le_trans B4.out.size hq
  have hgq : g ≠ q := by have := K4.out.lt; omega
  clear hrd hbel K4 B4 hq hg5
  go_wp2_with fail
  refine (take_yes q g5 0 3 [175, 240] _ R5.out (byte_of (by decide)) (by decide) (by decide) (by decide)).mono ?_
  rintro e w6 ⟨rfl, hrd, hf, hs⟩
  rw [show tk [175, 240] 0 0 3 = 5 by decide]
  have R6 := Lib.hid hrd
  have K6 := Lib.hid (K5.out.fr hf hgq)
  have B6 := Lib.hid (below_at B5.out hf hq5 B5.out.size)
  clear hrd hf hs R5 K5 B5
  go_wp2_with fail
  refine (take_yes q g5 3 1 [175, 240] _ R6.out (byte_of (by decide)) (by decide) (by decide) (by decide)).mono ?_
  rintro e w7 ⟨rfl, hrd, hf, hs⟩
  rw [show tk [175, 240] 3 0 1 = 0 by decide]
  have R7 := Lib.hid hrd
  have K7 := Lib.hid (K6.out.fr hf hgq)
  have B7 := Lib.hid (below_at B6.out hf hq5 B6.out.size)
  clear hrd hf hs R6 K6 B6
  go_wp2_with fail
  refine (take_yes q g5 4 8 [175, 240] _ R7.out (byte_of (by decide)) (by decide) (by decide) (by decide)).mono ?_
  rintro e w8 ⟨rfl, hrd, hf, hs⟩
  have R8 := Lib.hid hrd
  have hcv : (convert 32 9 (.slice (some ⟨g, 0, none⟩) 2 2)).run Try.prog w8 = .ok (.string ⟨#[175, 240]⟩) w8 := conv_eq w8 g 2 [175, 240] (K7.out.fr hf hgq)
  rw [show tk [175, 240] 4 0 8 = 255 by decide]
  have B8 := Lib.hid (below_at B7.out hf hq5 B7.out.size)
  clear hrd hf hs R7 K7 B7
  go_wp2_with fail
  refine (done_c q g5 12 [175, 240] _ R8.out (byte_of (by decide)) (by decide) (by decide)).mono ?_
  rintro e w9 ⟨b, rfl, hb, j, rfl⟩
  have hbt : b = true := hb.2 ⟨by decide, fun i hi => by
    have h4 : i < 4 := hi
    match i, h4 with
    | 0, _ => decide
    | 1, _ => decide
    | 2, _ => decide
    | 3, _ => decide⟩
  subst hbt
  clear hb
  go_wp2_with fail
  go_ret
  exact ⟨rfl, below_draw B8.out j⟩

end Go.Proofs.Ytehonfobofpahaa

/- What the small functions of package bits do: contracts of New, Len, Rest, rightWidth, placeOf, copied, Bytes, Read. -/
import Derived.Test.YtehonfobofpahaaMem
import Derived.Test.YtehonfobofpahaaProg
import Derived.WalkKit
import Derived.WalkSpells
import Derived.WalkLawsBesides
import Derived.Laws.CopyOwn
import Derived.Deep.QuietTactic
import Derived.BigQuiet
import Derived.Lib.Hide
import Derived.Deep.OwnRows
namespace Go.Proofs.Ytehonfobofpahaa
open Go.RowKit

theorem Try.info5 : (Try.prog.info? 5).map (fun i => (i.zero, i.size, i.bytes)) = some (some (.int .u8 0), 1, 1) := by kernel_rfl
theorem Try.size5 : (Try.prog.info? 5).map (·.size) = some 1 := by kernel_rfl

theorem new_c (w : World) : Calls Try.prog 10 #[] w fun e w' => e = .returned (.pointer (some ⟨w.heap.size, 0, none⟩)) ∧ w' = w.alloc (.cells #[.slice none 0 0, .int .i64 0] 51) := by
  go_enter Try.func10, Try.ntmps10
  go_wp2
  go_ret
  exact ⟨rfl, rfl⟩

theorem width_yes (n : Int) (h0 : 0 ≤ n) (h1 : n ≤ 63) (w : World) : Calls Try.prog 26 #[.int .i64 n] w fun e w' => e = .returned (.bool true) ∧ w = w' := by
  go_enter Try.func26, Try.ntmps26
  go_wp2
  go_ret
  exact ⟨rfl, rfl⟩

theorem width_no (n : Int) (h : n < 0 ∨ 63 < n) (w : World) : Calls Try.prog 26 #[.int .i64 n] w fun e w' => e = .returned (.bool false) ∧ w = w' := by
  rcases h with h | h
  · go_enter Try.func26, Try.ntmps26
    go_wp2
    go_ret
    exact ⟨rfl, rfl⟩
  · have hd : decide (n ≤ 63) = false := by simp; omega
    go_enter Try.func26, Try.ntmps26
    go_wp2
    go_ret
    exact ⟨rfl, rfl⟩

theorem place_c (n : Int) (h0 : 0 ≤ n) (w : World) : Calls Try.prog 27 #[.int .i64 n] w fun e w' => e = .returned (.int .i64 (7 - n % 8)) ∧ w = w' := by
  go_enter Try.func27, Try.ntmps27
  go_wp2
  go_ret
  exact ⟨rfl, rfl⟩

theorem len_c (p : Nat) (v : Value) (n : Int) (w : World) (h : Blk w p 51 #[v, .int .i64 n]) : Calls Try.prog 13 #[.pointer (some ⟨p, 0, none⟩)] w fun e w' => e = .returned (.int .i64 n) ∧ w = w' := by
  have c1 : w.cell? ⟨p, 1, none⟩ = some (.int .i64 n) := by rw [h.cell]; rfl
  go_enter Try.func13, Try.ntmps13
  go_wp2
  go_ret
  exact ⟨rfl, rfl⟩

theorem rest_c (q : Nat) (a : Option Addr) (l c : Nat) (n : Int) (w : World) (h : Blk w q 56 #[.slice a l c, .int .i64 n]) (h0 : 0 ≤ n) (h1 : n ≤ 8 * l) (hl : l ≤ 281474976710656) :
    Calls Try.prog 24 #[.pointer (some ⟨q, 0, none⟩)] w fun e w' => e = .returned (.int .i64 (8 * l - n)) ∧ ∃ k, w' = w.drewN k := by
  have c0 : w.cell? ⟨q, 0, none⟩ = some (.slice a l c) := by rw [h.cell]; rfl
  have c1 : w.cell? ⟨q, 1, none⟩ = some (.int .i64 n) := by rw [h.cell]; rfl
  go_enter Try.func24, Try.ntmps24
  go_wp2
  go_quiet (fail)
  go_wp2
  go_ret
  exact ⟨rfl, _, rfl⟩

/-- A copy: a new block g that holds the cells xs; nothing old has turned. -/
def CopiedTo (w : World) (xs : List Value) (n : Nat) (e : Ending) (w' : World) : Prop :=
  ∃ g, e = .returned (.slice (some ⟨g, 0, none⟩) n n) ∧ w.heap.size ≤ g ∧ Blk w' g 5 xs.toArray ∧ Below w.heap.size w w'

theorem made_blk (w : World) (n : Nat) : (w.alloc (.cells (madeCells #[.int .u8 0] n) 5)).heap[w.heap.size]? = some (.cells (List.replicate n (Value.int .u8 0)).toArray 5 (0, 0)) := by
  rw [heap_alloc_new, ← toList_madeCells_one]

theorem splice_all (n : Nat) (xs : List Value) (h : xs.length = n) : splice (List.replicate n (Value.int .u8 0)) 0 xs = xs := by
  simp [splice, h]

set_option maxHeartbeats 400000 in
theorem copied_c (A : Option Addr) (n c : Nat) (xs : List Value) (w : World) (hr : Reads w w.heap.size A n xs) (h1 : ∀ u ∈ xs, u.oneCell' = true) (hn : n ≤ 281474976710656) :
    Calls Try.prog 28 #[.slice A n c] w (CopiedTo w xs n) := by
  have hmk := run_make_row' (P := Try.prog) 32 5 (.int .u8 0) 1 Try.underlying32 Try.info5 rfl .i64 .i64 n (by omega) (by omega)
  have HR := Lib.hid hr
  have H1 := Lib.hid h1
  clear hr h1
  go_enter Try.func28, Try.ntmps28
  go_wp2_with (with_reducible refine wpList_copy_splice rfl (.tmp 7) (.tmp 8) 32 32 rfl 5 Try.underlying32 Try.size5 _ _ _ _ _ _ rfl rfl w.heap.size 0 (List.replicate n (.int .u8 0)) 5 (made_blk w n) xs ?hx ?hpos ?hfit H1.out w.heap.size w ?hb (Nat.le_refl _) ?_)
  case hx => have := HR.out.1; simp; omega
  case hpos =>
    intro h0
    obtain ⟨ad, e, hb, hc⟩ := HR.out.2 (by have := HR.out.1; omega)
    exact ⟨ad, e, fun j v hj => (World.cell?_alloc_lt w _ _ (by rw [block_of_add]; exact hb)).trans (hc j v hj)⟩
  case hfit => have := HR.out.1; simp; omega
  case hb => exact (Below.refl _ _).alloc (Nat.le_refl _) _
  intro w2 HG hB
  go_wp2
  go_ret
  refine ⟨w.heap.size, rfl, Nat.le_refl _, ?_, hB⟩
  have := HG.out
  rw [splice_all n xs HR.out.1] at this
  exact this

/-- Bytes as cells. -/
def U8s (bs : List Nat) : List Value := bs.map fun b : Nat => Value.int .u8 (b : Int)
theorem U8s_length (bs : List Nat) : (U8s bs).length = bs.length := by simp [U8s]
theorem U8s_one (bs : List Nat) : ∀ u ∈ U8s bs, u.oneCell' = true := by
  intro u hu
  obtain ⟨_, _, rfl⟩ := List.mem_map.1 hu
  rfl
theorem U8s_get (bs : List Nat) (i : Nat) (h : i < bs.length) : (U8s bs)[i]? = some (.int .u8 ((bs.getD i 0 : Nat) : Int)) := by
  simp [U8s, List.getD, List.getElem?_eq_getElem h]
theorem U8s_append (a b : List Nat) : U8s (a ++ b) = U8s a ++ U8s b := by simp [U8s]

/-- A writer at block p: its slice is v, it has n bits, its bytes are bs. -/
structure Wr (w : World) (p : Nat) (v : Value) (n : Nat) (bs : List Nat) : Prop where
  blk : Blk w p 51 #[v, .int .i64 (n : Int)]
  own : w.ownsRow (p + 1) 5 1 v bs.length (U8s bs)

/-- A reader at block q: its bytes lie in block g, it stands at bit k. -/
structure Rd (w : World) (q g : Nat) (bs : List Nat) (k : Nat) : Prop where
  blk : Blk w q 56 #[.slice (some ⟨g, 0, none⟩) bs.length bs.length, .int .i64 (k : Int)]
  row : Blk w g 5 (U8s bs).toArray

theorem Rd.fr {S : Nat → Prop} {w w' : World} {q g k : Nat} {bs : List Nat} (h : Rd w q g bs k) (hf : Fr S w w') (h1 : ¬ S q) (h2 : ¬ S g) : Rd w' q g bs k := ⟨h.blk.fr hf h1, h.row.fr hf h2⟩
theorem Rd.ne_ {w : World} {q g k : Nat} {bs : List Nat} (h : Rd w q g bs k) : q ≠ g := h.blk.ne_ h.row (by decide)
theorem Wr.fr {S : Nat → Prop} {w w' : World} {p n : Nat} {v : Value} {bs : List Nat} (h : Wr w p v n bs) (hf : Fr S w w') (h1 : ¬ S p) (h2 : ∀ k, v.ownBlock = some k → ¬ S k) : Wr w' p v n bs := ⟨h.blk.fr hf h1, ownsRow_fr h.own hf h2⟩
theorem Wr.slice {w : World} {p n : Nat} {v : Value} {bs : List Nat} (h : Wr w p v n bs) : ∃ A c, v = .slice A bs.length c := by
  rcases h.own.2 with ⟨rfl, h0⟩ | ⟨g, cap, cur, rfl, _⟩
  · exact ⟨none, 0, by rw [h0]⟩
  · exact ⟨_, _, rfl⟩
theorem Wr.new (w : World) : Wr (w.alloc (.cells #[.slice none 0 0, .int .i64 0] 51)) w.heap.size (.slice none 0 0) 0 [] :=
  ⟨Blk.new _ _ _, World.ownsRow_nil _ _ _ _⟩

theorem bytes_c (p n : Nat) (v : Value) (bs : List Nat) (w : World) (h : Wr w p v n bs) (hl : bs.length ≤ 281474976710656) : Calls Try.prog 14 #[.pointer (some ⟨p, 0, none⟩)] w (CopiedTo w (U8s bs) bs.length) := by
  obtain ⟨A, c, rfl⟩ := h.slice
  have c0 : w.cell? ⟨p, 0, none⟩ = some (.slice A bs.length c) := by rw [h.blk.cell]; rfl
  have hr := Lib.hid (Reads.of_own h.own)
  clear h
  go_enter Try.func14, Try.ntmps14
  go_wp2_with fail
  refine (copied_c A bs.length c (U8s bs) _ hr.out (U8s_one bs) hl).mono ?_
  rintro e w' ⟨g, rfl, hg, hb, hbel⟩
  go_wp2
  go_ret
  exact ⟨g, rfl, hg, hb, hbel⟩

/-- A new reader of the bytes bs; nothing old has turned. -/
def NewRd (w : World) (bs : List Nat) (e : Ending) (w' : World) : Prop :=
  ∃ q g, e = .returned (.pointer (some ⟨q, 0, none⟩)) ∧ w.heap.size ≤ q ∧ w.heap.size ≤ g ∧ Rd w' q g bs 0 ∧ Below w.heap.size w w'

theorem read_c (A : Option Addr) (c : Nat) (bs : List Nat) (w : World) (hr : Reads w w.heap.size A bs.length (U8s bs)) (hl : bs.length ≤ 281474976710656) : Calls Try.prog 18 #[.slice A bs.length c] w (NewRd w bs) := by
  have HR := Lib.hid hr
  clear hr
  go_enter Try.func18, Try.ntmps18
  go_wp2_with fail
  refine (copied_c A bs.length c (U8s bs) _ HR.out (U8s_one bs) hl).mono ?_
  rintro e w' ⟨g, rfl, hg, hb, hbel⟩
  have HB := Lib.hid hb
  have hbz := Lib.hid hbel
  clear hb hbel
  go_wp2
  go_ret
  refine ⟨w'.heap.size, g, rfl, hbz.out.size, hg, ⟨Blk.new _ _ _, HB.out.alloc _⟩, hbz.out.alloc hbz.out.size _⟩

end Go.Proofs.Ytehonfobofpahaa

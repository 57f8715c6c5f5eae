/- Contracts of Frame and Open. -/
import Derived.Test.YtmlbhlfjaagcaaaDoorSumB
import Derived.BigQuiet
namespace Go.Proofs.YtmlbhlfjaagcaaaDoor
open Go.RowKit

theorem arr4 : Tryd.prog.arrayLen 94 = 4 := by kernel_rfl
theorem elem4 : Tryd.prog.elem 94 = 5 := by kernel_rfl
/-- All of an array of four bytes. -/
theorem cut4 (g : Nat) (w : World) : (Instr.sliceAt 94 (.pointer (some ⟨g, 0, none⟩)) none none none).run Tryd.prog w = .ok (.slice (some ⟨g, 0, none⟩) 4 4) w := by
  rw [run_sliceAt_array_all w 94 ⟨g, 0, none⟩ (by rw [arr4, elem4]; exact Tryd.underlying94)]
  rw [elem4, size_u8, arr4]
  simp [Result.andThen, slicedAt, Addr.add]

set_option maxHeartbeats 1000000 in
set_option maxRecDepth 100000 in
theorem frame_c (v : Value) (bs : List Nat) (w : World) (hv : SlB w v bs) (ht : Tab w) (hn : bs.length ≤ 140737488355328) (hby : ∀ x ∈ bs, x < 256) :
    Calls Tryd.prog 42 #[v] w (Fresh w (frame bs)) := by
  have HV := Lib.hid hv
  have HT := Lib.hid ht
  clear hv ht
  go_enter Tryd.func42, Tryd.ntmps42
  go_wp2_with fail
  refine (sumb_c v bs w HV.out HT.out (by omega) hby).mono ?_
  rintro e w1 ⟨a, b, c, d, rfl, he, hb1⟩
  have HB := Lib.hid hb1
  have HE := Lib.hid he
  have hcut := cut4 w1.heap.size
  clear he hb1
  go_wp2_with fail
  have hb2 : Below w.heap.size w (w1.alloc (.cells #[.int .u8 (a : Int), .int .u8 (b : Int), .int .u8 (c : Int), .int .u8 (d : Int)] 94)) := HB.out.alloc HB.out.size _
  have hsl : SlB (w1.alloc (.cells #[.int .u8 (a : Int), .int .u8 (b : Int), .int .u8 (c : Int), .int .u8 (d : Int)] 94)) (.slice (some ⟨w1.heap.size, 0, none⟩) 4 4) (le4 (crc bs)) := by
    rw [← HE.out]
    exact U8s_reads (ys := []) (t := 94) (by have := Blk.new w1 94 #[.int .u8 (a : Int), .int .u8 (b : Int), .int .u8 (c : Int), .int .u8 (d : Int)]; simpa [U8s] using this) rfl (by simp)
  generalize w1.alloc (.cells #[.int .u8 (a : Int), .int .u8 (b : Int), .int .u8 (c : Int), .int .u8 (d : Int)] 94) = w2 at hb2 hsl
  refine (joined_c v _ bs _ w2 (HV.out.below hb2) hsl (by have : (le4 (crc bs)).length = 4 := rfl; omega)).mono ?_
  rintro e w3 ⟨g, n, rfl, h1, h2, h3, h4⟩
  have HF : Hid (n = (frame bs).length ∧ w.heap.size ≤ g ∧ Blk w3 g 5 (U8s (frame bs)).toArray ∧ Below w.heap.size w w3) := ⟨h1, by have := hb2.size; omega, h3, below_trans hb2 h4⟩
  clear h1 h2 h3 h4 hb2 hsl
  go_wp2_with fail
  go_ret
  exact ⟨g, n, rfl, HF.out⟩

theorem SlB.take {w : World} {A : Option Addr} {n c : Nat} {bs : List Nat} (h : SlB w (.slice A n c) bs) {k : Nat} (hk : k ≤ n) : SlB w (.slice A k c) (bs.take k) := by
  obtain ⟨A', c', e, h1, h2, h3⟩ := h
  injection e with e1 e2 e3
  subst e1 e2 e3
  have hl : (bs.take k).length = k := by rw [List.length_take]; omega
  refine ⟨A, c, by rw [hl], by omega, h2, by rw [U8s_length], fun hp => ?_⟩
  obtain ⟨ad, ea, hb, hc⟩ := h3.2 (by omega)
  refine ⟨ad, ea, hb, fun j u hu => hc j u ?_⟩
  have hj := (List.getElem?_eq_some_iff.1 hu).1
  rw [U8s_length, hl] at hj
  rw [← hu]
  simp [U8s, hj]

theorem SlB.drop {w : World} {A : Option Addr} {n c : Nat} {bs : List Nat} (h : SlB w (.slice A n c) bs) {k : Nat} (hk : k ≤ n) (m : Nat) (hm : m = n - k) : SlB w (.slice (if c = k then A else A.map (·.add k)) m (c - k)) (bs.drop k) := by
  obtain ⟨A', c', e, h1, h2, h3⟩ := h
  injection e with e1 e2 e3
  subst e1 e2 e3
  subst hm
  have hl : (bs.drop k).length = bs.length - k := by rw [List.length_drop]
  refine ⟨_, _, by rw [hl], by omega, ?_, ?_⟩
  · intro e
    split at e
    · have := h2 e; omega
    · have := h2 (by simpa using e); omega
  · have := h3.cut hk h1
    rw [hl]
    simpa [U8s] using this

theorem elem22 : Tryd.prog.elem 36 = 5 := by kernel_rfl
/-- 'b[k:]', as an equation. -/
theorem SlB.from_ {w : World} {A : Option Addr} {n c : Nat} {bs : List Nat} (h : SlB w (.slice A n c) bs) (k m : Nat) (x : Int) (hx : x = (k : Int)) (hk : k ≤ n) (hm : m = n - k) :
    ∃ B d, (∀ w', (Instr.sliceAt 36 (.slice A n c) (some (.int .i64 x)) none none).run Tryd.prog w' = .ok (.slice B m d) w') ∧ SlB w (.slice B m d) (bs.drop k) := by
  refine ⟨_, _, fun w' => ?_, h.drop hk m hm⟩
  subst hx hm
  rw [run_sliceAt_slice w' 36 _ _ _ _ (by rw [elem22]; exact Tryd.underlying36), run_slice_l w' 36 A n c (by rw [elem22]; exact Tryd.underlying36) .i64 (k : Int) (by omega) (by omega), elem22, size_u8]
  simp [Result.andThen, sliced]

theorem strOf_toList (xs : List Nat) : (strOf xs).data.toList = xs.map UInt8.ofNat := by simp [strOf]

set_option maxHeartbeats 1000000 in
set_option maxRecDepth 100000 in
theorem equal_c (v u : Value) (xs bs : List Nat) (w : World) (hv : SlB w v xs) (hu : SlB w u bs) (ha : ∀ x ∈ xs, x < 256) (hb : ∀ x ∈ bs, x < 256) :
    Calls Tryd.prog 53 #[v, u] w fun e w' => e = .returned (.bool (decide (xs = bs))) ∧ w' = w := by
  have c1 := hv.conv
  have c2 := hu.conv
  have e : decide (xs = bs) = ((strOf xs).toList == (strOf bs).toList) := by
    by_cases h : xs = bs
    · subst h; simp
    · have : strOf xs ≠ strOf bs := fun e => h ((strOf_inj ha hb).1 e)
      rw [decide_eq_false h]
      refine (beq_eq_false_iff_ne.2 fun e => this ?_).symm
      rw [ByteArray.toList_eq, ByteArray.toList_eq] at e
      exact WideShapes.bytes_inj e
  rw [e]
  clear e hv hu ha hb
  generalize strOf xs = x at c1
  generalize strOf bs = y at c2
  go_enter Tryd.func53, Tryd.ntmps53
  go_wp2_with fail
  go_ret
  exact ⟨rfl, rfl⟩

/-- Open's answer: the bytes ahead of the last four, where those are their sum. -/
def Opened (w : World) (bs : List Nat) (e : Ending) (w' : World) : Prop :=
  Below w.heap.size w w' ∧
  ((bs = frame (bs.take (bs.length - 4)) ∧ 4 ≤ bs.length ∧ ∃ g n, e = .returned (.tuple #[.slice (some ⟨g, 0, none⟩) n n, .bool true]) ∧ n = bs.length - 4 ∧ w.heap.size ≤ g ∧ Blk w' g 5 (U8s (bs.take (bs.length - 4))).toArray) ∨
   (¬ (bs = frame (bs.take (bs.length - 4)) ∧ 4 ≤ bs.length) ∧ e = .returned (.tuple #[.slice none 0 0, .bool false])))

set_option maxHeartbeats 1000000 in
set_option maxRecDepth 100000 in
theorem open_c (v : Value) (bs : List Nat) (w : World) (hv : SlB w v bs) (ht : Tab w) (hn : bs.length ≤ 281474976710656) (hby : ∀ x ∈ bs, x < 256) :
    Calls Tryd.prog 43 #[v] w (Opened w bs) := by
  obtain ⟨A, c, rfl, hc, hA, hr⟩ := hv
  have HR := Lib.hid hr
  have HT := Lib.hid ht
  have HBy := Lib.hid hby
  clear hr ht hby
  rcases Nat.lt_or_ge bs.length 4 with h4 | h4
  · have hd : decide ((bs.length : Int) - 4 < 0) = true := by simp; omega
    go_enter Tryd.func43, Tryd.ntmps43
    go_wp2_with fail
    go_ret2
    exact ⟨Below.refl _ _, .inr ⟨fun h => by omega, rfl⟩⟩
  · have hd : decide ((bs.length : Int) - 4 < 0) = false := by simp; omega
    go_enter Tryd.func43, Tryd.ntmps43
    go_wp2_with fail
    have hs0 : SlB w (.slice A bs.length c) bs := ⟨A, c, rfl, hc, hA, HR.out⟩
    have ht0 := hs0.take (k := bs.length - 4) (by omega)
    have hby0 : ∀ x ∈ bs.take (bs.length - 4), x < 256 := fun x hx => HBy.out x (List.mem_of_mem_take hx)
    refine (sumb_c _ _ w ht0 HT.out (by rw [List.length_take]; omega) hby0).mono ?_
    rintro e w1 ⟨a, b, c', d, rfl, he, hb1⟩
    have HB := Lib.hid hb1
    have HE := Lib.hid he
    have HS0 := Lib.hid hs0
    have HT0 := Lib.hid ht0
    have HBy0 := Lib.hid hby0
    have hcut := cut4 w1.heap.size
    clear he hb1 hs0 ht0 hby0
    go_wp2_with fail
    have hb2 : Below w.heap.size w (w1.alloc (.cells #[.int .u8 (a : Int), .int .u8 (b : Int), .int .u8 (c' : Int), .int .u8 (d : Int)] 94)) := HB.out.alloc HB.out.size _
    have hsl : SlB (w1.alloc (.cells #[.int .u8 (a : Int), .int .u8 (b : Int), .int .u8 (c' : Int), .int .u8 (d : Int)] 94)) (.slice (some ⟨w1.heap.size, 0, none⟩) 4 4) (le4 (crc (bs.take (bs.length - 4)))) := by
      rw [← HE.out]
      exact U8s_reads (ys := []) (t := 94) (by have := Blk.new w1 94 #[.int .u8 (a : Int), .int .u8 (b : Int), .int .u8 (c' : Int), .int .u8 (d : Int)]; simpa [U8s] using this) rfl (by simp)
    generalize w1.alloc (.cells #[.int .u8 (a : Int), .int .u8 (b : Int), .int .u8 (c' : Int), .int .u8 (d : Int)] 94) = w2 at hb2 hsl
    obtain ⟨B, dd, hsli, hdr⟩ := (HS0.out.below hb2).from_ (bs.length - 4) 4 ((bs.length : Int) - 4) (by omega) (by omega) (by omega)
    have htk := HT0.out.below hb2
    have HB2 := Lib.hid hb2
    have HSL := Lib.hid hsl
    have HDR := Lib.hid hdr
    have HTK := Lib.hid htk
    clear hb2 hsl hdr htk HE HB
    have hq1 : 0 ≤ (bs.length : Int) - 4 := by omega
    have hq2 : (bs.length : Int) - 4 ≤ (bs.length : Int) := by omega
    go_quiet ((go_at_call 53; exact Calls.quiet_of_same (equal_c _ _ _ _ _ HSL.out HDR.out (le4_lt _) (fun x hx => HBy.out x (List.mem_of_mem_drop hx)))))
    have key : (decide (le4 (crc (bs.take (bs.length - 4))) = bs.drop (bs.length - 4)) = true ∧ bs = frame (bs.take (bs.length - 4))) ∨ (decide (le4 (crc (bs.take (bs.length - 4))) = bs.drop (bs.length - 4)) = false ∧ ¬ bs = frame (bs.take (bs.length - 4))) := by
      by_cases h : le4 (crc (bs.take (bs.length - 4))) = bs.drop (bs.length - 4)
      · refine .inl ⟨decide_eq_true h, ?_⟩
        unfold frame
        rw [h, List.take_append_drop]
      · refine .inr ⟨decide_eq_false h, fun e => h ?_⟩
        have e2 : frame (bs.take (bs.length - 4)) = bs.take (bs.length - 4) ++ bs.drop (bs.length - 4) := by rw [List.take_append_drop]; exact e.symm
        unfold frame at e2
        exact List.append_cancel_left e2
    rcases key with ⟨k1, k2⟩ | ⟨k1, k2⟩
    · rw [k1]
      have HK := Lib.hid k2
      clear k1 k2
      go_wp2_with fail
      refine (joined_c _ _ _ _ _ (HTK.out.draw nq) (SlB.nil _) (by rw [List.length_take]; simp; omega)).mono ?_
      rintro e w3 ⟨g, n, rfl, h1, h2, h3, h5⟩
      rw [List.append_nil] at h1 h3
      have HF : Hid (n = bs.length - 4 ∧ w.heap.size ≤ g ∧ Blk w3 g 5 (U8s (bs.take (bs.length - 4))).toArray) := ⟨by rw [h1, List.length_take]; omega, Nat.le_trans HB2.out.size h2, h3⟩
      have HF2 : Hid (Below w.heap.size w w3) := below_trans (below_draw HB2.out nq) h5
      clear h1 h2 h3 h5
      go_wp2_with fail
      go_ret2
      exact ⟨HF2.out, .inl ⟨HK.out, h4, g, n, rfl, HF.out⟩⟩
    · rw [k1]
      have HK := Lib.hid k2
      clear k1 k2
      go_wp2_with fail
      go_ret2
      exact ⟨below_draw HB2.out nq, .inr ⟨fun h => HK.out h.1, rfl⟩⟩

end Go.Proofs.YtmlbhlfjaagcaaaDoor

/- The document's own writing: bytes, copied, Num, Int, Text, Sum, Frame: they answer as the program's do. The document's own Frame and Open: they answer as the program's do. -/
import Derived.Test.YtebdjahcahgafaaDoorApp
import Derived.Test.YtebdjahcahgafaaDoorPutM
import Derived.BigRegion
namespace Go.Proofs.YtebdjahcahgafaaDoor
open Go.RowKit

/-- Bytes of one's own, new since w. -/
def Made (w : World) (bs : List Nat) (e : Ending) (w' : World) : Prop :=
  ∃ v, e = .returned v ∧ OwnB w' w.heap.size v bs ∧ Below w.heap.size w w'

theorem own_new (w : World) (l : List Nat) (hl : l.length ≤ 1000) : OwnB (w.alloc (.cells (U8s l).toArray 5)) w.heap.size (.slice (some ⟨w.heap.size, 0, none⟩) l.length l.length) l :=
  OwnB.blk (Blk.new w 5 _) (Nat.le_refl _) rfl (by unfold maxLen; omega)

set_option maxHeartbeats 1000000 in
set_option maxRecDepth 100000 in
theorem rbytes_c (z : Nat) : ∀ (w : World), z < 18446744073709551616 → Calls Tryd.prog 81 #[.int .u64 (z : Int)] w (Made w (vn z)) := by
  induction z using vn.induct with
  | case1 z h =>
    intro w hz
    have hd : decide ((z : Int) < 128) = true := by simp; omega
    go_enter Tryd.func81, Tryd.ntmps81
    go_wp2_with fail
    go_ret
    refine ⟨_, rfl, ?_, (Below.refl _ _).alloc (Nat.le_refl _) _⟩
    rw [vn_small h]
    exact own_new w [z] (by simp)
  | case2 z h ih =>
    intro w hz
    have hd : decide ((z : Int) < 128) = false := by simp; omega
    have hw1 : ((z : Int) % 128 + 128) % 256 = ((z % 128 + 128 : Nat) : Int) := by omega
    have hlen := vn_len10 (z := z / 128) (by omega)
    go_enter Tryd.func81, Tryd.ntmps81
    go_wp2_with fail
    have ho0 : OwnB (w.alloc (.cells #[.int .u8 ((z : Int) % 128 + 128)] 5)) w.heap.size (.slice (some ⟨w.heap.size, 0, none⟩) 1 1) [z % 128 + 128] := by
      have := own_new w [z % 128 + 128] (by simp)
      have e : (z : Int) % 128 + 128 = ((z % 128 + 128 : Nat) : Int) := by omega
      rw [e]
      exact this
    have hb0 : Below w.heap.size w (w.alloc (.cells #[.int .u8 ((z : Int) % 128 + 128)] 5)) := (Below.refl _ _).alloc (Nat.le_refl _) _
    generalize w.alloc (.cells #[.int .u8 ((z : Int) % 128 + 128)] 5) = w0 at ho0 hb0
    rw [show (z : Int) / 128 = ((z / 128 : Nat) : Int) from rfl]
    refine (ih w0 (by omega)).mono ?_
    rintro e w1 ⟨v1, rfl, ho1, hb1⟩
    have HO0 := Lib.hid (ho0.below hb1)
    have HS1 := Lib.hid ho1.sl
    have HB1 := Lib.hid (below_trans hb0 hb1)
    clear ho0 hb0 ho1 hb1 ih hw1
    go_wp2_with (at_builtin; refine wpList_bytes rfl (.tmp 12) (.tmp 15) rfl w.heap.size _ _ [z % 128 + 128] (vn (z / 128)) rfl HO0.out rfl HS1.out (by simp; omega) HB1.out.size ?_)
    intro v2 w2 ho2 hg2
    have HB2 := Lib.hid (grown_below HB1.out HB1.out.size HO0.out hg2)
    have HO2 : Hid (OwnB w2 w.heap.size v2 (vn z)) := by show OwnB _ _ _ _; rw [vn_big h]; exact ho2
    clear ho2 hg2
    go_wp2_with fail
    go_ret
    exact ⟨_, rfl, HO2.out, HB2.out⟩

set_option maxHeartbeats 1000000 in
set_option maxRecDepth 100000 in
theorem rcopied_c (v u : Value) (bs cs : List Nat) (w : World) (hv : SlB w v bs) (hu : SlB w u cs) (hn : bs.length + cs.length ≤ 140737488355328) :
    Calls Tryd.prog 54 #[v, u] w (Made w (bs ++ cs)) := by
  have HV := Lib.hid hv
  have HU := Lib.hid hu
  have HO := Lib.hid (own_new w [] (by simp))
  have hb0 : Hid (Below w.heap.size w (w.alloc (.cells #[] 5))) := (Below.refl _ _).alloc (Nat.le_refl _) _
  clear hv hu
  go_enter Tryd.func54, Tryd.ntmps54
  go_wp2_with (at_builtin; refine wpList_bytes rfl (.tmp 5) (.tmp 6) rfl w.heap.size _ _ [] bs rfl HO.out rfl (HV.out.below hb0.out) (by simp; omega) hb0.out.size ?_)
  intro v1 w1 ho1 hg1
  have HB1 := Lib.hid (grown_below hb0.out hb0.out.size HO.out hg1)
  have HO1 := Lib.hid ho1
  clear ho1 hg1 HO hb0
  go_wp2_with (at_builtin; refine wpList_bytes rfl (.tmp 7) (.tmp 8) rfl w.heap.size _ _ bs cs rfl HO1.out rfl (HU.out.below HB1.out) hn HB1.out.size ?_)
  intro v2 w2 ho2 hg2
  have HB2 := Lib.hid (grown_below HB1.out HB1.out.size HO1.out hg2)
  have HO2 := Lib.hid ho2
  clear ho2 hg2
  go_wp2_with fail
  go_ret
  exact ⟨_, rfl, HO2.out, HB2.out⟩

set_option maxHeartbeats 1000000 in
set_option maxRecDepth 100000 in
theorem rnum_neg (v : Value) (n : Int) (w : World) (h : n < 0) :
    Calls Tryd.prog 51 #[v, .int .i64 n] w fun e w' => e = .returned (.tuple #[.slice none 0 0, .int .i64 1]) ∧ w' = w := by
  have hd : decide (n < 0) = true := by simpa using h
  go_enter Tryd.func51, Tryd.ntmps51
  go_wp2_with fail
  go_ret2
  exact ⟨rfl, rfl⟩

/-- Bytes of one's own, and no error. -/
def MadeE (w : World) (bs : List Nat) (e : Ending) (w' : World) : Prop :=
  ∃ v, e = .returned (.tuple #[v, .int .i64 0]) ∧ OwnB w' w.heap.size v bs ∧ Below w.heap.size w w'

set_option maxHeartbeats 1000000 in
set_option maxRecDepth 100000 in
theorem rnum_c (v : Value) (bs : List Nat) (n : Nat) (w : World) (hv : SlB w v bs) (hl : bs.length ≤ 140737488355318) (hn : n < 9223372036854775808) :
    Calls Tryd.prog 51 #[v, .int .i64 (n : Int)] w (MadeE w (bs ++ vn n)) := by
  have HV := Lib.hid hv
  have hlen := vn_len9 hn
  clear hv
  go_enter Tryd.func51, Tryd.ntmps51
  go_wp2_with fail
  refine (rbytes_c n w (by omega)).mono ?_
  rintro e w1 ⟨v1, rfl, ho1, hb1⟩
  have HS1 := Lib.hid ho1.sl
  have HB1 := Lib.hid hb1
  clear ho1 hb1
  go_wp2_with fail
  refine (rcopied_c v v1 bs (vn n) w1 (HV.out.below HB1.out) HS1.out (by omega)).mono ?_
  rintro e w2 ⟨v2, rfl, ho2, hb2⟩
  have HO2 := Lib.hid (ho2.lower HB1.out.size)
  have HB2 := Lib.hid (below_trans HB1.out hb2)
  clear ho2 hb2
  go_wp2_with fail
  go_ret2
  exact ⟨_, rfl, HO2.out, HB2.out⟩

set_option maxHeartbeats 1000000 in
set_option maxRecDepth 100000 in
theorem rint_c (v : Value) (bs : List Nat) (n : Int) (w : World) (hv : SlB w v bs) (hl : bs.length ≤ 140737488355318) (h1 : -9223372036854775808 ≤ n) (h2 : n < 9223372036854775808) :
    Calls Tryd.prog 52 #[v, .int .i64 n] w (Made w (bs ++ vn (zz n))) := by
  have HV := Lib.hid hv
  have hlen := vn_len10 (zz_lt h1 h2)
  have hz := zz_lt h1 h2
  clear hv
  by_cases hneg : n < 0
  · have hd : decide (n < 0) = true := by simpa using hneg
    have ez : -(n + 1) * 2 + 1 = ((zz n : Nat) : Int) := by unfold zz; rw [if_neg (by omega)]; omega
    go_enter Tryd.func52, Tryd.ntmps52
    go_wp2_with fail
    refine (rbytes_c (zz n) w hz).mono ?_
    rintro e w1 ⟨v1, rfl, ho1, hb1⟩
    have HS1 := Lib.hid ho1.sl
    have HB1 := Lib.hid hb1
    clear ho1 hb1 ez hneg
    go_wp2_with fail
    refine (rcopied_c v v1 bs (vn (zz n)) w1 (HV.out.below HB1.out) HS1.out (by omega)).mono ?_
    rintro e w2 ⟨v2, rfl, ho2, hb2⟩
    have HO2 := Lib.hid (ho2.lower HB1.out.size)
    have HB2 := Lib.hid (below_trans HB1.out hb2)
    clear ho2 hb2
    go_wp2_with fail
    go_ret
    exact ⟨_, rfl, HO2.out, HB2.out⟩
  · have hd : decide (n < 0) = false := by simpa using hneg
    have ez : n * 2 = ((zz n : Nat) : Int) := by unfold zz; rw [if_pos (by omega)]; omega
    go_enter Tryd.func52, Tryd.ntmps52
    go_wp2_with fail
    refine (rbytes_c (zz n) w hz).mono ?_
    rintro e w1 ⟨v1, rfl, ho1, hb1⟩
    have HS1 := Lib.hid ho1.sl
    have HB1 := Lib.hid hb1
    clear ho1 hb1 ez hneg
    go_wp2_with fail
    refine (rcopied_c v v1 bs (vn (zz n)) w1 (HV.out.below HB1.out) HS1.out (by omega)).mono ?_
    rintro e w2 ⟨v2, rfl, ho2, hb2⟩
    have HO2 := Lib.hid (ho2.lower HB1.out.size)
    have HB2 := Lib.hid (below_trans HB1.out hb2)
    clear ho2 hb2
    go_wp2_with fail
    go_ret
    exact ⟨_, rfl, HO2.out, HB2.out⟩

/-- Some shifts of the register. -/
def cbn : Nat → Nat → Nat
  | 0, s => s
  | j + 1, s => cb (cbn j s)
theorem cbn_lt {s : Nat} (h : s < 4294967296) (j : Nat) : cbn j s < 4294967296 := by
  induction j with
  | zero => exact h
  | succ j ih => exact cb_lt ih

set_option maxHeartbeats 1000000 in
set_option maxRecDepth 100000 in
theorem rsum_c (v : Value) (bs : List Nat) (w : World) (hv : SlB w v bs) (hn : bs.length ≤ 281474976710656) (hby : ∀ x ∈ bs, x < 256) :
    Calls Tryd.prog 53 #[v] w fun e w' => e = .returned (.int .i64 ((crc bs : Nat) : Int)) ∧ w' = w := by
  obtain ⟨A, c, rfl, hc, hA, hr⟩ := hv
  have HR := Lib.hid hr
  have HB := Lib.hid hby
  clear hr hby
  go_enter Tryd.func53, Tryd.ntmps53
  go_wp2_with fail
  go_loopg [3, 4, 5, 6] bs.length (fun gg s3 s4 _ _ wr => ∃ i : Nat, i + gg = bs.length ∧ s3 = .int .u32 ((creg 4294967295 (bs.take i) : Nat) : Int) ∧ s4 = .int .i64 (i : Int) ∧ wr = w)
  case atStart => exact ⟨0, by omega, rfl, rfl, rfl⟩
  case round =>
    obtain ⟨i, hig, rfl, rfl, rfl⟩ := hrel
    cases gk with
    | zero =>
      have ei : i = bs.length := by omega
      subst ei
      have hd : decide (bs.length < bs.length) = false := by simp
      rw [List.take_length]
      have hlt := creg_lt (s := 4294967295) (by omega) HB.out
      generalize hcc : creg 4294967295 bs = s at hlt
      have HC := Lib.hid hcc
      clear hcc
      have hfin : wrap64 (bits BinOp.xor IntKind.u32 IntKind.u32.max (s : Int)) = ((s ^^^ 4294967295 : Nat) : Int) := by
        have e : IntKind.u32.max = ((4294967295 : Nat) : Int) := rfl
        have hlt2 : s ^^^ 4294967295 < 4294967296 := Nat.xor_lt_two_pow (n := 32) hlt (by omega)
        rw [e, u32_xor_nat _ _ (by omega) hlt, Nat.xor_comm, IntWalk.wrap64_in _ ⟨by omega, by omega⟩]
      go_wp2_with fail
      go_ret
      refine ⟨?_, rfl⟩
      simp only [crc, HC.out, ← hfin]
      rfl
    | succ gk =>
      have hil : i < bs.length := by omega
      have hd : decide (i < bs.length) = true := by simpa using hil
      have hii : (i : Int) < (bs.length : Int) := by omega
      obtain ⟨b, o, e, hbB, hcell⟩ := HR.out.spot hil
      rw [U8s_get bs i hil] at hcell
      have hx : bs.getD i 0 < 256 := by rw [List.getD_eq_getElem?_getD, List.getElem?_eq_getElem hil]; exact HB.out _ (List.getElem_mem hil)
      have hlt := creg_lt (s := 4294967295) (l := bs.take i) (by omega) (fun x hx => HB.out x (List.mem_of_mem_take hx))
      have hnext : creg 4294967295 (bs.take (i + 1)) = cby (creg 4294967295 (bs.take i)) (bs.getD i 0) := by
        rw [List.take_add_one, List.getElem?_eq_getElem hil, creg_append, List.getD_eq_getElem?_getD, List.getElem?_eq_getElem hil]
        rfl
      have HN := Lib.hid hnext
      clear hnext
      subst e
      generalize creg 4294967295 (bs.take i) = s at hlt HN
      generalize bs.getD i 0 = x at hcell hx HN
      obtain ⟨m1, hm1⟩ : ∃ m, m = s ^^^ x := ⟨_, rfl⟩
      have hl1 : m1 < 4294967296 := by rw [hm1]; exact Nat.xor_lt_two_pow (n := 32) hlt (by omega)
      have hx1 : bits BinOp.xor IntKind.u32 (s : Int) (x : Int) = (m1 : Int) := by rw [u32_xor_nat s x hlt (by omega), hm1]
      have HM : Hid (creg 4294967295 (bs.take (i + 1)) = cbn 8 m1) := by show _ = _; rw [HN.out, hm1]; rfl
      clear HN hm1
      go_wp2_with fail
      go_loopg [3, 5, 6] 8 (fun gg s3 s5 _ wx => ∃ j : Nat, j + gg = 8 ∧ s3 = .int .u32 ((cbn j m1 : Nat) : Int) ∧ s5 = .int .i64 (j : Int) ∧ wx = wr)
      case atStart => exact ⟨0, rfl, rfl, rfl, rfl⟩
      case round =>
        obtain ⟨j, hjg, rfl, rfl, rfl⟩ := hrel
        cases gk with
        | zero =>
          obtain rfl : j = 8 := by omega
          rw [← HM.out]
          go_wp2_with fail
          go_roundg gk
          case measure => omega
          case rel => exact ⟨i + 1, by omega, rfl, rfl, rfl⟩
        | succ g2 =>
          have hd8 : decide ((j : Int) < 8) = true := by simp; omega
          have hr := cbn_lt hl1 j
          have HNext : Hid (cbn (j + 1) m1 = cb (cbn j m1)) := rfl
          generalize cbn j m1 = r at hr HNext
          have hand : bits BinOp.and IntKind.u32 (r : Int) 1 = ((r % 2 : Nat) : Int) := by
            have := u32_and_nat r 1 hr (by omega)
            rw [show ((1 : Nat) : Int) = 1 from rfl] at this
            rw [this, show (1 : Nat) = 2 ^ 1 - 1 from rfl, Nat.and_two_pow_sub_one_eq_mod]
          by_cases hodd : r % 2 = 1
          · have hb1 : (((r % 2 : Nat) : Int) == 1) = true := by simp; omega
            rw [hodd] at hand
            have hxr : bits BinOp.xor IntKind.u32 ((r : Int) / 2) 3988292384 = ((cb r : Nat) : Int) := by
              have e : (r : Int) / 2 = ((r / 2 : Nat) : Int) := by omega
              have e2 : (3988292384 : Int) = ((3988292384 : Nat) : Int) := rfl
              rw [e, e2, u32_xor_nat _ _ (by omega) (by omega)]
              unfold cb
              rw [if_pos hodd, Nat.shiftRight_eq_div_pow]
            clear hb1 hodd
            go_wp2_with fail
            go_roundg g2
            case measure => omega
            case rel => exact ⟨j + 1, by omega, by rw [HNext.out], rfl, rfl⟩
          · have h0 : r % 2 = 0 := by omega
            rw [h0] at hand
            have HC0 : Hid ((r : Int) / 2 = ((cb r : Nat) : Int)) := by
              show _ = _
              unfold cb
              rw [if_neg hodd, Nat.xor_zero, Nat.shiftRight_eq_div_pow]
              omega
            clear hodd h0
            go_wp2_with fail
            go_roundg g2
            case measure => omega
            case rel => exact ⟨j + 1, by omega, by rw [HNext.out, HC0.out], rfl, rfl⟩

set_option maxHeartbeats 1000000 in
set_option maxRecDepth 100000 in
theorem rframe_c (v : Value) (bs : List Nat) (w : World) (hv : SlB w v bs) (hn : bs.length ≤ 140737488355318) (hby : ∀ x ∈ bs, x < 256) :
    Calls Tryd.prog 29 #[v] w (Made w (frame bs)) := by
  have HV := Lib.hid hv
  have hlt := crc_lt hby
  have HL : Hid ((le4 (crc bs)).length = 4) := rfl
  clear hv
  go_enter Tryd.func29, Tryd.ntmps29
  go_wp2_with fail
  refine (rsum_c v bs w HV.out (by omega) hby).mono ?_
  rintro e w1 ⟨rfl, rfl⟩
  have HLe : Hid (le4 (crc bs) = [crc bs % 256, crc bs / 256 % 256, crc bs / 65536 % 256, crc bs / 16777216 % 256]) := rfl
  have HFr : Hid (frame bs = bs ++ le4 (crc bs)) := rfl
  generalize crc bs = s at hlt HLe HL HFr
  clear hby
  go_wp2_with fail
  have hs1 : SlB (w1.alloc (.cells #[.int .u8 ((s : Int) % 256), .int .u8 ((s : Int) / 256 % 256), .int .u8 ((s : Int) / 65536 % 256), .int .u8 ((s : Int) / 16777216)] 5)) (.slice (some ⟨w1.heap.size, 0, none⟩) 4 4) (le4 s) := by
    have ea : (#[.int .u8 ((s : Int) % 256), .int .u8 ((s : Int) / 256 % 256), .int .u8 ((s : Int) / 65536 % 256), .int .u8 ((s : Int) / 16777216)] : Array Value) = (U8s (le4 s)).toArray := by
      rw [HLe.out]
      have e : (s : Int) / 16777216 = ((s / 16777216 % 256 : Nat) : Int) := by omega
      rw [e]
      rfl
    rw [ea]
    exact (own_new w1 (le4 s) (by rw [HL.out]; omega)).sl
  have hb1 : Below w1.heap.size w1 (w1.alloc (.cells #[.int .u8 ((s : Int) % 256), .int .u8 ((s : Int) / 256 % 256), .int .u8 ((s : Int) / 65536 % 256), .int .u8 ((s : Int) / 16777216)] 5)) := (Below.refl _ _).alloc (Nat.le_refl _) _
  generalize w1.alloc (.cells #[.int .u8 ((s : Int) % 256), .int .u8 ((s : Int) / 256 % 256), .int .u8 ((s : Int) / 65536 % 256), .int .u8 ((s : Int) / 16777216)] 5) = w2 at hs1 hb1
  refine (rcopied_c v _ bs (le4 s) w2 (HV.out.below hb1) hs1 (by rw [HL.out]; omega)).mono ?_
  rintro e w3 ⟨v3, rfl, ho3, hb3⟩
  have HO3 : Hid (OwnB w3 w1.heap.size v3 (frame bs)) := by show OwnB _ _ _ _; rw [HFr.out]; exact ho3.lower hb1.size
  have HB3 := Lib.hid (below_trans hb1 hb3)
  clear ho3 hb3 hs1 hb1
  go_wp2_with fail
  go_ret
  exact ⟨_, rfl, HO3.out, HB3.out⟩

/-- Open's answer: the bytes ahead of the last four, where those are their sum. -/
def OpenedR (w : World) (bs : List Nat) (e : Ending) (w' : World) : Prop :=
  Below w.heap.size w w' ∧
  ((bs = frame (bs.take (bs.length - 4)) ∧ 4 ≤ bs.length ∧ ∃ v, e = .returned (.tuple #[v, .bool true]) ∧ OwnB w' w.heap.size v (bs.take (bs.length - 4))) ∨
   (¬ (bs = frame (bs.take (bs.length - 4)) ∧ 4 ≤ bs.length) ∧ e = .returned (.tuple #[.slice none 0 0, .bool false])))

set_option maxHeartbeats 2000000 in
set_option maxRecDepth 100000 in
theorem ropen_c (v : Value) (bs : List Nat) (w : World) (hv : SlB w v bs) (hn : bs.length ≤ 140737488355318) (hby : ∀ x ∈ bs, x < 256) :
    Calls Tryd.prog 35 #[v] w (OpenedR w bs) := by
  have HV := Lib.hid hv
  have HBy := Lib.hid hby
  obtain ⟨A, c, rfl, hc, hA, _⟩ := hv
  clear hby
  rcases Nat.lt_or_ge bs.length 4 with h4 | h4
  · have hd : decide ((bs.length : Int) < 4) = true := by simp; omega
    go_enter Tryd.func35, Tryd.ntmps35
    go_wp2_with fail
    go_ret2
    exact ⟨Below.refl _ _, .inr ⟨fun h => by omega, rfl⟩⟩
  · have hd : decide ((bs.length : Int) < 4) = false := by simp; omega
    have ht0 := HV.out.take (k := bs.length - 4) (by omega)
    have HT0 := Lib.hid ht0
    have HBy0 : Hid (∀ x ∈ bs.take (bs.length - 4), x < 256) := fun x hx => HBy.out x (List.mem_of_mem_take hx)
    have HLen : Hid ((bs.take (bs.length - 4)).length ≤ 140737488355318) := by show _ ≤ _; rw [List.length_take]; omega
    clear ht0
    go_enter Tryd.func35, Tryd.ntmps35
    go_wp2_with fail
    have hcs := fun wz (hz : Below w.heap.size w wz) => (HV.out.below hz).conv
    have HCS := Lib.hid hcs
    clear hcs
    have hcv0 := HCS.out w.drew ((Below.refl _ _).drew)
    go_cut [18] (fun s18 wx => Below w.heap.size w wx ∧ s18 = .bool (decide (¬ bs = frame (bs.take (bs.length - 4)))))
    case first =>
      have hcmp : ((strOf (frame (bs.take (bs.length - 4)))).toList != (strOf bs).toList) = decide (¬ bs = frame (bs.take (bs.length - 4))) := by
        rw [ByteArray.toList_eq, ByteArray.toList_eq]
        by_cases h : bs = frame (bs.take (bs.length - 4))
        · rw [decide_eq_false (not_not_intro h), ← h]
          simp
        · rw [decide_eq_true h, bne_iff_ne]
          intro e
          exact h ((strOf_inj (frame_lt HBy0.out) HBy.out).1 (WideShapes.bytes_inj e)).symm
      have HCmp := Lib.hid hcmp
      clear hcmp
      go_region_with (go_at_call 29; refine (rframe_c _ _ w.drew (HT0.out.below ((Below.refl _ _).drew)) HLen.out HBy0.out).mono ?_; rintro e w1 ⟨v1, rfl, ho1, hb1⟩; have hb1' := below_trans (w := w) ((Below.refl _ _).drew) hb1; have hcv1 := ho1.sl.conv; have hcv2 := HCS.out w1 hb1'; have HB1 := Lib.hid hb1'; clear hb1 hb1' ho1)
      all_goals (go_wp2_with fail; go_meet; exact ⟨HB1.out, by rw [← HCmp.out]; rfl⟩)
    case rest =>
      obtain ⟨hb, rfl⟩ := hcut
      have HB := Lib.hid hb
      clear hb hcv0 HCS
      by_cases h : bs = frame (bs.take (bs.length - 4))
      · rw [decide_eq_false (not_not_intro h)]
        have HH := Lib.hid h
        have HO0 := Lib.hid (own_new wc [] (by simp))
        have hb0 : Hid (Below wc.heap.size wc (wc.alloc (.cells #[] 5))) := (Below.refl _ _).alloc (Nat.le_refl _) _
        clear h
        go_wp2_with (at_builtin; refine wpList_bytes rfl (.tmp 19) (.tmp 20) rfl wc.heap.size _ _ [] (bs.take (bs.length - 4)) rfl HO0.out rfl (HT0.out.below (below_trans HB.out hb0.out)) (by have := HLen.out; simp only [List.length_nil]; omega) hb0.out.size ?_)
        intro v2 w2 ho2 hg2
        have HB2 := Lib.hid (below_trans HB.out (grown_below hb0.out hb0.out.size HO0.out hg2))
        have HO2 := Lib.hid (ho2.lower HB.out.size)
        clear ho2 hg2
        go_wp2_with fail
        go_ret2
        exact ⟨HB2.out, .inl ⟨HH.out, h4, v2, rfl, HO2.out⟩⟩
      · rw [decide_eq_true h]
        have HH := Lib.hid h
        clear h
        go_wp2_with fail
        go_ret2
        exact ⟨HB.out, .inr ⟨fun hh => HH.out hh.1, rfl⟩⟩

end Go.Proofs.YtebdjahcahgafaaDoor

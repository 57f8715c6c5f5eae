/- The document's own writing: bytes, copied, Num, Int, Text, Sum, Frame: they answer as the program's do. -/
import Derived.Test.YtmlbhlfjaagcaaaDoorApp
import Derived.Test.YtmlbhlfjaagcaaaDoorFrm
namespace Go.Proofs.YtmlbhlfjaagcaaaDoor
open Go.RowKit

/-- Bytes of one's own, new since w. -/
def Made (w : World) (bs : List Nat) (e : Ending) (w' : World) : Prop :=
  ∃ v, e = .returned v ∧ OwnB w' w.heap.size v bs ∧ Below w.heap.size w w'

theorem own_new (w : World) (l : List Nat) (hl : l.length ≤ 1000) : OwnB (w.alloc (.cells (U8s l).toArray 5)) w.heap.size (.slice (some ⟨w.heap.size, 0, none⟩) l.length l.length) l :=
  OwnB.blk (Blk.new w 5 _) (Nat.le_refl _) rfl (by unfold maxLen; omega)

set_option maxHeartbeats 1000000 in
set_option maxRecDepth 100000 in
theorem rcopied_c (v u : Value) (bs cs : List Nat) (w : World) (hv : SlB w v bs) (hu : SlB w u cs) (hn : bs.length + cs.length ≤ 140737488355328) :
    Calls Tryd.prog 49 #[v, u] w (Made w (bs ++ cs)) := by
  have HV := Lib.hid hv
  have HU := Lib.hid hu
  have HO := Lib.hid (own_new w [] (by simp))
  have hb0 : Hid (Below w.heap.size w (w.alloc (.cells #[] 5))) := (Below.refl _ _).alloc (Nat.le_refl _) _
  clear hv hu
  go_enter Tryd.func49, Tryd.ntmps49
  go_wp2_with (at_builtin; refine wpList_bytes rfl (.tmp 5) (.tmp 6) rfl w.heap.size _ _ [] bs rfl HO.out rfl (HV.out.below hb0.out) (by simp; omega) hb0.out.size ?_)
  intro v1 w1 ho1 hg1
  have HB1 := Lib.hid (grown_below hb0.out hb0.out.size HO.out hg1)
  have HO1 := Lib.hid ho1
  clear ho1 hg1 HO hb0
  go_wp2_with (at_builtin; refine wpList_bytes rfl (.tmp 7) (.tmp 8) rfl w.heap.size _ _ bs cs rfl HO1.out rfl (HU.out.below HB1.out) hn HB1.out.size ?_)
  intro v2 w2 ho2 hg2
  have HB2 := Lib.hid (grown_below HB1.out HB1.out.size HO1.out hg2)
  have HO2 := Lib.hid ho2
  clear ho2 hg2
  go_wp2_with fail
  go_ret
  exact ⟨_, rfl, HO2.out, HB2.out⟩

/-- Bytes of one's own, and no error. -/
def MadeE (w : World) (bs : List Nat) (e : Ending) (w' : World) : Prop :=
  ∃ v, e = .returned (.tuple #[v, .int .i64 0]) ∧ OwnB w' w.heap.size v bs ∧ Below w.heap.size w w'

/-- Some shifts of the register. -/
def cbn : Nat → Nat → Nat
  | 0, s => s
  | j + 1, s => cb (cbn j s)
theorem cbn_lt {s : Nat} (h : s < 4294967296) (j : Nat) : cbn j s < 4294967296 := by
  induction j with
  | zero => exact h
  | succ j ih => exact cb_lt ih

set_option maxHeartbeats 1000000 in
set_option maxRecDepth 100000 in
theorem rsum_c (v : Value) (bs : List Nat) (w : World) (hv : SlB w v bs) (hn : bs.length ≤ 281474976710656) (hby : ∀ x ∈ bs, x < 256) :
    Calls Tryd.prog 48 #[v] w fun e w' => e = .returned (.int .i64 ((crc bs : Nat) : Int)) ∧ w' = w := by
  obtain ⟨A, c, rfl, hc, hA, hr⟩ := hv
  have HR := Lib.hid hr
  have HB := Lib.hid hby
  clear hr hby
  go_enter Tryd.func48, Tryd.ntmps48
  go_wp2_with fail
  go_loopg [3, 4, 5, 6] bs.length (fun gg s3 s4 _ _ wr => ∃ i : Nat, i + gg = bs.length ∧ s3 = .int .u32 ((creg 4294967295 (bs.take i) : Nat) : Int) ∧ s4 = .int .i64 (i : Int) ∧ wr = w)
  case atStart => exact ⟨0, by omega, rfl, rfl, rfl⟩
  case round =>
    obtain ⟨i, hig, rfl, rfl, rfl⟩ := hrel
    cases gk with
    | zero =>
      have ei : i = bs.length := by omega
      subst ei
      have hd : decide (bs.length < bs.length) = false := by simp
      rw [List.take_length]
      have hlt := creg_lt (s := 4294967295) (by omega) HB.out
      generalize hcc : creg 4294967295 bs = s at hlt
      have HC := Lib.hid hcc
      clear hcc
      have hfin : wrap64 (bits BinOp.xor IntKind.u32 IntKind.u32.max (s : Int)) = ((s ^^^ 4294967295 : Nat) : Int) := by
        have e : IntKind.u32.max = ((4294967295 : Nat) : Int) := rfl
        have hlt2 : s ^^^ 4294967295 < 4294967296 := Nat.xor_lt_two_pow (n := 32) hlt (by omega)
        rw [e, u32_xor_nat _ _ (by omega) hlt, Nat.xor_comm, IntWalk.wrap64_in _ ⟨by omega, by omega⟩]
      go_wp2_with fail
      go_ret
      refine ⟨?_, rfl⟩
      simp only [crc, HC.out, ← hfin]
      rfl
    | succ gk =>
      have hil : i < bs.length := by omega
      have hd : decide (i < bs.length) = true := by simpa using hil
      have hii : (i : Int) < (bs.length : Int) := by omega
      obtain ⟨b, o, e, hbB, hcell⟩ := HR.out.spot hil
      rw [U8s_get bs i hil] at hcell
      have hx : bs.getD i 0 < 256 := by rw [List.getD_eq_getElem?_getD, List.getElem?_eq_getElem hil]; exact HB.out _ (List.getElem_mem hil)
      have hlt := creg_lt (s := 4294967295) (l := bs.take i) (by omega) (fun x hx => HB.out x (List.mem_of_mem_take hx))
      have hnext : creg 4294967295 (bs.take (i + 1)) = cby (creg 4294967295 (bs.take i)) (bs.getD i 0) := by
        rw [List.take_add_one, List.getElem?_eq_getElem hil, creg_append, List.getD_eq_getElem?_getD, List.getElem?_eq_getElem hil]
        rfl
      have HN := Lib.hid hnext
      clear hnext
      subst e
      generalize creg 4294967295 (bs.take i) = s at hlt HN
      generalize bs.getD i 0 = x at hcell hx HN
      obtain ⟨m1, hm1⟩ : ∃ m, m = s ^^^ x := ⟨_, rfl⟩
      have hl1 : m1 < 4294967296 := by rw [hm1]; exact Nat.xor_lt_two_pow (n := 32) hlt (by omega)
      have hx1 : bits BinOp.xor IntKind.u32 (s : Int) (x : Int) = (m1 : Int) := by rw [u32_xor_nat s x hlt (by omega), hm1]
      have HM : Hid (creg 4294967295 (bs.take (i + 1)) = cbn 8 m1) := by show _ = _; rw [HN.out, hm1]; rfl
      clear HN hm1
      go_wp2_with fail
      go_loopg [3, 5, 6] 8 (fun gg s3 s5 _ wx => ∃ j : Nat, j + gg = 8 ∧ s3 = .int .u32 ((cbn j m1 : Nat) : Int) ∧ s5 = .int .i64 (j : Int) ∧ wx = wr)
      case atStart => exact ⟨0, rfl, rfl, rfl, rfl⟩
      case round =>
        obtain ⟨j, hjg, rfl, rfl, rfl⟩ := hrel
        cases gk with
        | zero =>
          obtain rfl : j = 8 := by omega
          rw [← HM.out]
          go_wp2_with fail
          go_roundg gk
          case measure => omega
          case rel => exact ⟨i + 1, by omega, rfl, rfl, rfl⟩
        | succ g2 =>
          have hd8 : decide ((j : Int) < 8) = true := by simp; omega
          have hr := cbn_lt hl1 j
          have HNext : Hid (cbn (j + 1) m1 = cb (cbn j m1)) := rfl
          generalize cbn j m1 = r at hr HNext
          have hand : bits BinOp.and IntKind.u32 (r : Int) 1 = ((r % 2 : Nat) : Int) := by
            have := u32_and_nat r 1 hr (by omega)
            rw [show ((1 : Nat) : Int) = 1 from rfl] at this
            rw [this, show (1 : Nat) = 2 ^ 1 - 1 from rfl, Nat.and_two_pow_sub_one_eq_mod]
          by_cases hodd : r % 2 = 1
          · have hb1 : (((r % 2 : Nat) : Int) == 1) = true := by simp; omega
            rw [hodd] at hand
            have hxr : bits BinOp.xor IntKind.u32 ((r : Int) / 2) 3988292384 = ((cb r : Nat) : Int) := by
              have e : (r : Int) / 2 = ((r / 2 : Nat) : Int) := by omega
              have e2 : (3988292384 : Int) = ((3988292384 : Nat) : Int) := rfl
              rw [e, e2, u32_xor_nat _ _ (by omega) (by omega)]
              unfold cb
              rw [if_pos hodd, Nat.shiftRight_eq_div_pow]
            clear hb1 hodd
            go_wp2_with fail
            go_roundg g2
            case measure => omega
            case rel => exact ⟨j + 1, by omega, by rw [HNext.out], rfl, rfl⟩
          · have h0 : r % 2 = 0 := by omega
            rw [h0] at hand
            have HC0 : Hid ((r : Int) / 2 = ((cb r : Nat) : Int)) := by
              show _ = _
              unfold cb
              rw [if_neg hodd, Nat.xor_zero, Nat.shiftRight_eq_div_pow]
              omega
            clear hodd h0
            go_wp2_with fail
            go_roundg g2
            case measure => omega
            case rel => exact ⟨j + 1, by omega, by rw [HNext.out, HC0.out], rfl, rfl⟩

end Go.Proofs.YtmlbhlfjaagcaaaDoor

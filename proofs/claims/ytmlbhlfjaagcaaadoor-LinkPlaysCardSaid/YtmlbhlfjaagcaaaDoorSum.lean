/- Contracts of Sum and sumBytes: the sum of bytes. -/
import Derived.Test.YtmlbhlfjaagcaaaDoorNums
import Derived.Test.YtmlbhlfjaagcaaaDoorCrc
namespace Go.Proofs.YtmlbhlfjaagcaaaDoor
open Go.RowKit

/-- The table lies in block 0. -/
def Tab (w : World) : Prop := ∀ i, i < 16 → w.cell? ⟨0, i, none⟩ = some (.int .u32 ((nibs.getD i 0 : Nat) : Int))

theorem Tab.below {w w' : World} (h : Tab w) (hb : Below w.heap.size w w') : Tab w' := fun i hi =>
  (hb.cell (World.block_lt_of_cell? w _ (h i hi))).trans (h i hi)
theorem Tab.draw {w : World} (h : Tab w) (n : Nat) : Tab (w.drewN n) := h

theorem nib_step {w : World} (h : Tab w) {m : Nat} (hm : m < 4294967296) : ∃ k t m2 : Nat, bits BinOp.and IntKind.u32 (m : Int) 15 = (k : Int) ∧ k < 16 ∧ w.cell? ⟨0, k, none⟩ = some (.int .u32 (t : Int)) ∧ bits BinOp.xor IntKind.u32 ((m : Int) / 16) (t : Int) = (m2 : Int) ∧ m2 = cb4 m := by
  have hk : m % 16 < 16 := Nat.mod_lt _ (by omega)
  have ht : ∀ k, k < 16 → nibs.getD k 0 < 4294967296 := by decide
  refine ⟨m % 16, nibs.getD (m % 16) 0, cb4 m, ?_, hk, h _ hk, ?_, rfl⟩
  · have := u32_and_nat m 15 hm (by omega)
    rw [show ((15 : Nat) : Int) = 15 from rfl] at this
    rw [this, show (15 : Nat) = 2 ^ 4 - 1 from rfl, Nat.and_two_pow_sub_one_eq_mod]
  · have e : (m : Int) / 16 = ((m / 16 : Nat) : Int) := by omega
    rw [e, u32_xor_nat _ _ (by omega) (ht _ hk), cb4_tab, Nat.shiftRight_eq_div_pow]

set_option maxHeartbeats 1000000 in
set_option maxRecDepth 100000 in
theorem sum_c (v : Value) (bs : List Nat) (w : World) (hv : SlB w v bs) (ht : Tab w) (hn : bs.length ≤ 281474976710656) (hby : ∀ x ∈ bs, x < 256) :
    Calls Tryd.prog 54 #[v] w fun e w' => e = .returned (.int .i64 ((crc bs : Nat) : Int)) ∧ w' = w := by
  obtain ⟨A, c, rfl, hc, hA, hr⟩ := hv
  have HR := Lib.hid hr
  have HT := Lib.hid ht
  have HB := Lib.hid hby
  clear hr ht hby
  go_enter Tryd.func54, Tryd.ntmps54
  go_wp2_with fail
  go_loopg [3, 5, 8] bs.length (fun gg s3 _ s8 wr => ∃ i : Nat, i + gg = bs.length ∧ s3 = .int .u32 ((creg 4294967295 (bs.take i) : Nat) : Int) ∧ s8 = .int .i64 (i : Int) ∧ wr = w)
  case atStart => exact ⟨0, by omega, rfl, rfl, rfl⟩
  case round =>
    obtain ⟨i, hig, rfl, rfl, rfl⟩ := hrel
    cases gk with
    | zero =>
      have ei : i = bs.length := by omega
      subst ei
      have hd : decide (bs.length < bs.length) = false := by simp
      rw [List.take_length]
      have hlt := creg_lt (s := 4294967295) (by omega) HB.out
      generalize hcc : creg 4294967295 bs = s at hlt
      have HC := Lib.hid hcc
      clear hcc
      have hfin : wrap64 (bits BinOp.xor IntKind.u32 IntKind.u32.max (s : Int)) = ((s ^^^ 4294967295 : Nat) : Int) := by
        have e : IntKind.u32.max = ((4294967295 : Nat) : Int) := rfl
        have hlt2 : s ^^^ 4294967295 < 4294967296 := Nat.xor_lt_two_pow (n := 32) hlt (by omega)
        rw [e, u32_xor_nat _ _ (by omega) hlt, Nat.xor_comm, IntWalk.wrap64_in _ ⟨by omega, by omega⟩]
      go_wp2_with fail
      go_ret
      refine ⟨?_, rfl⟩
      simp only [crc, HC.out, ← hfin]
      rfl
    | succ gk =>
      have hil : i < bs.length := by omega
      have hd : decide (i < bs.length) = true := by simpa using hil
      have hii : (i : Int) < (bs.length : Int) := by omega
      obtain ⟨b, o, e, hbB, hcell⟩ := HR.out.spot hil
      rw [U8s_get bs i hil] at hcell
      have hx : bs.getD i 0 < 256 := by rw [List.getD_eq_getElem?_getD, List.getElem?_eq_getElem hil]; exact HB.out _ (List.getElem_mem hil)
      have hlt := creg_lt (s := 4294967295) (l := bs.take i) (by omega) (fun x hx => HB.out x (List.mem_of_mem_take hx))
      have hnext : creg 4294967295 (bs.take (i + 1)) = cby (creg 4294967295 (bs.take i)) (bs.getD i 0) := by
        rw [List.take_add_one, List.getElem?_eq_getElem hil, creg_append, List.getD_eq_getElem?_getD, List.getElem?_eq_getElem hil]
        rfl
      have HN := Lib.hid hnext
      clear hnext
      subst e
      generalize creg 4294967295 (bs.take i) = s at hlt HN
      generalize bs.getD i 0 = x at hcell hx HN
      obtain ⟨m1, hm1⟩ : ∃ m, m = s ^^^ x := ⟨_, rfl⟩
      have hl1 : m1 < 4294967296 := by rw [hm1]; exact Nat.xor_lt_two_pow (n := 32) hlt (by omega)
      have hx1 : bits BinOp.xor IntKind.u32 (s : Int) (x : Int) = (m1 : Int) := by rw [u32_xor_nat s x hlt (by omega), hm1]
      obtain ⟨k1, t1, m2, ha1, hk1, hc1, hs1, hm2⟩ := nib_step HT.out hl1
      obtain ⟨k2, t2, m3, ha2, hk2, hc2, hs2, hm3⟩ := nib_step (m := m2) HT.out (by rw [hm2]; exact cb4_lt hl1)
      have HM : Hid (m3 = cby s x) := by rw [hm3, hm2, hm1]; exact rfl
      have hk1' : (k1 : Int) < 16 := by omega
      have hk2' : (k2 : Int) < 16 := by omega
      clear hm1 hm2 hm3
      go_wp2_with fail
      go_roundg gk
      case measure => omega
      case rel => exact ⟨i + 1, by omega, by rw [HN.out, HM.out], rfl, rfl⟩

end Go.Proofs.YtmlbhlfjaagcaaaDoor

/- The contract of write: the datagram of a part. -/
import Derived.Test.YtmlbhlfjaagcaaaDoorLLeaf
import Derived.BigRegion
import Derived.RegionTactic
namespace Go.Proofs.YtmlbhlfjaagcaaaDoor
open Go.RowKit

/-- The eleven bytes ahead of a part. -/
def headL (so : Bool) (la bi nu ix ct : Nat) : List Nat := [if so then 1 else 0, la / 256, la % 256, bi / 16777216, bi / 65536 % 256, bi / 256 % 256, bi % 256, nu / 256, nu % 256, ix, ct]

structure WrSt (w : World) (so : Bool) (la bi nu ix ct : Nat) (v : Value) (cs : List Nat) (wr : World) : Prop where
  pk : Blk wr w.heap.size 78 #[.bool so, .int .u16 (la : Int), .int .u32 (bi : Int), .int .u16 (nu : Int), .int .i64 (ix : Int), .int .i64 (ct : Int), v]
  ak : Blk wr (w.heap.size + 1) 62 #[.bool so, .int .u16 (la : Int), .int .u32 (bi : Int)]
  bk : Blk wr (w.heap.size + 1 + 1) 5 (U8s cs).toArray
  below : Below w.heap.size w wr

section
variable {w wr : World} {so : Bool} {la bi nu ix ct : Nat} {v : Value} {cs : List Nat}
theorem WrSt.set (S : WrSt w so la bi nu ix ct v cs wr) (i y : Nat) : WrSt w so la bi nu ix ct v (cs.set i y) (wr.setCell ⟨w.heap.size + 1 + 1, i, none⟩ (.int .u8 (y : Int))) := by
  refine ⟨S.pk.far (p := ⟨w.heap.size + 1 + 1, i, none⟩) (by simp; omega) _, S.ak.far (p := ⟨w.heap.size + 1 + 1, i, none⟩) (by simp) _, ?_, S.below.setCell (by simp; omega) _⟩
  have := S.bk.set_ i (.int .u8 (y : Int))
  rw [U8s_set]
  simpa using this
theorem WrSt.draw (S : WrSt w so la bi nu ix ct v cs wr) (n : Nat) : WrSt w so la bi nu ix ct v cs (wr.drewN n) := ⟨S.pk, S.ak, S.bk, below_draw S.below n⟩
theorem WrSt.drew (S : WrSt w so la bi nu ix ct v cs wr) : WrSt w so la bi nu ix ct v cs wr.drew := ⟨S.pk, S.ak, S.bk, S.below.drew⟩
theorem WrSt.at_ (S : WrSt w so la bi nu ix ct v cs wr) (i : Nat) (h : i < cs.length) : wr.cell? ⟨w.heap.size + 1 + 1, i, none⟩ = some (.int .u8 ((cs.getD i 0 : Nat) : Int)) ∧ wr.frozen? ⟨w.heap.size + 1 + 1, i, none⟩ = false :=
  ⟨by rw [S.bk.cell]; simpa using U8s_get cs i h, S.bk.frozen i⟩
end

theorem wmake (n : Nat) (hn : n ≤ 200) (w : World) : (Instr.makeSlice 36 (.int .i64 11) (.int .i64 (11 + (n : Int)))).run Tryd.prog w = .ok (.slice (some ⟨w.heap.size, 0, none⟩) 11 (11 + n)) (w.alloc (.cells (madeCells #[.int .u8 0] (11 + n)) 5)) := by
  obtain ⟨i, hi, hz, hs, hb⟩ := info_parts infoU8
  have h := run_make (P := Tryd.prog) w 36 5 i (.int .u8 0) Tryd.underlying36 hi hz .i64 .i64 11 (11 + (n : Int)) (by omega) (by omega) (by rw [hb]; omega) (by omega)
  rw [hs, Nat.mul_one] at h
  rw [h]
  congr 2

theorem U8s_zero (n : Nat) : U8s (List.replicate n 0) = List.replicate n (Value.int .u8 0) := by simp [U8s]

theorem wr_start (w : World) (so : Bool) (la bi nu ix ct : Nat) (v : Value) (n : Nat) : WrSt w so la bi nu ix ct v ([0, 0, 0, 0, 0, 0, 0, 0, 0, 0, 0] ++ List.replicate n 0)
    (((w.alloc (.cells #[.bool so, .int .u16 (la : Int), .int .u32 (bi : Int), .int .u16 (nu : Int), .int .i64 (ix : Int), .int .i64 (ct : Int), v] 78)).alloc (.cells #[.bool so, .int .u16 (la : Int), .int .u32 (bi : Int)] 62)).alloc (.cells (madeCells #[.int .u8 0] (11 + n)) 5)) := by
  refine ⟨((Blk.new w 78 _).alloc _).alloc _, ?_, ?_, lbel3 _ _ _ _⟩
  · have := (Blk.new (w.alloc (.cells #[.bool so, .int .u16 (la : Int), .int .u32 (bi : Int), .int .u16 (nu : Int), .int .i64 (ix : Int), .int .i64 (ct : Int), v] 78)) 62 #[.bool so, .int .u16 (la : Int), .int .u32 (bi : Int)]).alloc (.cells (madeCells #[.int .u8 0] (11 + n)) 5)
    simpa using this
  · have := made_blk ((w.alloc (.cells #[.bool so, .int .u16 (la : Int), .int .u32 (bi : Int), .int .u16 (nu : Int), .int .i64 (ix : Int), .int .i64 (ct : Int), v] 78)).alloc (.cells #[.bool so, .int .u16 (la : Int), .int .u32 (bi : Int)] 62)) (11 + n)
    unfold Blk
    rw [show [0, 0, 0, 0, 0, 0, 0, 0, 0, 0, 0] ++ List.replicate n 0 = List.replicate (11 + n) 0 from (List.replicate_append_replicate (n := 11) (m := n)), U8s_zero]
    simpa using this

theorem WrSt.own {w wr : World} {so : Bool} {la bi nu ix ct : Nat} {v : Value} {L : List Nat} {n : Nat} (S : WrSt w so la bi nu ix ct v (L ++ List.replicate n 0) wr) (hL : L.length = 11) (hn : n ≤ 200) :
    wr.ownsRow w.heap.size 5 1 (.slice (some ⟨w.heap.size + 1 + 1, 0, none⟩) 11 (11 + n)) 11 (U8s L) := by
  refine ⟨by rw [U8s_length, hL], .inr ⟨w.heap.size + 1 + 1, 11 + n, _, rfl, by omega, S.bk, by omega, by unfold maxLen; omega, by simp [U8s, hL], ?_⟩⟩
  rw [U8s_append]
  simp [U8s_length, hL]

theorem head_lt {so : Bool} {la bi nu ix ct : Nat} (hla : la < 65536) (hbi : bi < 4294967296) (hnu : nu < 65536) (hix : ix < 256) (hct : ct < 256) : ∀ x ∈ headL so la bi nu ix ct, x < 256 := by
  intro x hx
  unfold headL at hx
  simp only [List.mem_cons, List.not_mem_nil, or_false] at hx
  rcases hx with h | h | h | h | h | h | h | h | h | h | h <;> subst h
  · split <;> omega
  all_goals omega

set_option maxHeartbeats 4000000 in
set_option maxRecDepth 100000 in
theorem write_c (so : Bool) (la bi nu ix ct : Nat) (v : Value) (bs : List Nat) (w : World) (hv : SlB w v bs) (ht : Tab w) (hn : bs.length ≤ 200) (hby : ∀ x ∈ bs, x < 256) (hla : la < 65536) (hbi : bi < 4294967296) (hnu : nu < 65536) (hix : ix < 256) (hct : ct < 256) :
    Calls Tryd.prog 32 #[partV so la bi nu ix ct v] w (Fresh w (frame (headL so la bi nu ix ct ++ bs))) := by
  obtain ⟨A, c, rfl, hc, hA, hr⟩ := hv
  have HR := Lib.hid hr
  have HT := Lib.hid ht
  have HBy := Lib.hid hby
  have hmk := wmake bs.length hn
  have S0 := wr_start w so la bi nu ix ct (.slice A bs.length c) bs.length
  clear hr ht hby
  go_enter Tryd.func32, Tryd.ntmps32
  go_upto_if 13 with (fail)
  generalize (((w.alloc (.cells #[.bool so, .int .u16 (la : Int), .int .u32 (bi : Int), .int .u16 (nu : Int), .int .i64 (ix : Int), .int .i64 (ct : Int), .slice A bs.length c] 78)).alloc (.cells #[.bool so, .int .u16 (la : Int), .int .u32 (bi : Int)] 62)).alloc (.cells (madeCells #[.int .u8 0] (11 + bs.length)) 5)) = w0 at S0
  go_cut [] (fun wx => WrSt w so la bi nu ix ct (.slice A bs.length c) ([if so then 1 else 0, 0, 0, 0, 0, 0, 0, 0, 0, 0, 0] ++ List.replicate bs.length 0) wx)
  case first =>
    obtain ⟨q1, q2⟩ := S0.at_ 0 (by simp)
    cases so with
    | true =>
      have S1 := Lib.hid (S0.set 0 1)
      clear S0
      go_wp2_with fail
      go_meet
      exact S1.out
    | false =>
      have S1 := Lib.hid S0
      clear S0
      go_wp2_with fail
      go_meet
      exact S1.out
  case rest =>
    have a1 : wc.cell? ⟨w.heap.size + 1, 1, none⟩ = some (.int .u16 (la : Int)) := hcut.ak.cell 1
    obtain ⟨b1, d1⟩ := hcut.at_ 1 (by simp)
    obtain ⟨b2, d2⟩ := hcut.at_ 2 (by simp)
    have HS := Lib.hid hcut
    clear hcut S0
    go_wp2_with fail
    go_region
    have S5 := ((HS.out.set 1 (la / 256)).set 2 (la % 256)).drew
    rw [show ((la / 256 : Nat) : Int) = (la : Int) / 256 by omega, show ((la % 256 : Nat) : Int) = (la : Int) % 256 by omega] at S5
    generalize ((wc.setCell ⟨w.heap.size + 1 + 1, 1, none⟩ (Value.int IntKind.u8 ((la : Int) / 256))).setCell ⟨w.heap.size + 1 + 1, 2, none⟩ (Value.int IntKind.u8 ((la : Int) % 256))).drew = w5 at S5
    clear a1 b1 d1 b2 d2 HS
    have a2 : w5.cell? ⟨w.heap.size + 1, 2, none⟩ = some (.int .u32 (bi : Int)) := S5.ak.cell 2
    obtain ⟨b3, d3⟩ := S5.at_ 3 (by simp)
    obtain ⟨b4, d4⟩ := S5.at_ 4 (by simp)
    obtain ⟨b5, d5⟩ := S5.at_ 5 (by simp)
    obtain ⟨b6, d6⟩ := S5.at_ 6 (by simp)
    have HS := Lib.hid S5
    clear S5
    go_wp2_with fail
    go_region
    have S6 := ((((HS.out.set 3 (bi / 16777216)).set 4 (bi / 65536 % 256)).set 5 (bi / 256 % 256)).set 6 (bi % 256)).drew
    rw [show ((bi / 16777216 : Nat) : Int) = (bi : Int) / 16777216 by omega, show ((bi / 65536 % 256 : Nat) : Int) = (bi : Int) / 65536 % 256 by omega, show ((bi / 256 % 256 : Nat) : Int) = (bi : Int) / 256 % 256 by omega, show ((bi % 256 : Nat) : Int) = (bi : Int) % 256 by omega] at S6
    generalize ((((w5.setCell ⟨w.heap.size + 1 + 1, 3, none⟩ (Value.int IntKind.u8 ((bi : Int) / 16777216))).setCell ⟨w.heap.size + 1 + 1, 4, none⟩ (Value.int IntKind.u8 ((bi : Int) / 65536 % 256))).setCell ⟨w.heap.size + 1 + 1, 5, none⟩ (Value.int IntKind.u8 ((bi : Int) / 256 % 256))).setCell ⟨w.heap.size + 1 + 1, 6, none⟩ (Value.int IntKind.u8 ((bi : Int) % 256))).drew = w6 at S6
    clear a2 b3 d3 b4 d4 b5 d5 b6 d6 HS
    have a3 : w6.cell? ⟨w.heap.size, 3, none⟩ = some (.int .u16 (nu : Int)) := S6.pk.cell 3
    obtain ⟨b7, d7⟩ := S6.at_ 7 (by simp)
    obtain ⟨b8, d8⟩ := S6.at_ 8 (by simp)
    have HS := Lib.hid S6
    clear S6
    go_wp2_with fail
    go_region
    have S7 := ((HS.out.set 7 (nu / 256)).set 8 (nu % 256)).drew
    rw [show ((nu / 256 : Nat) : Int) = (nu : Int) / 256 by omega, show ((nu % 256 : Nat) : Int) = (nu : Int) % 256 by omega] at S7
    generalize ((w6.setCell ⟨w.heap.size + 1 + 1, 7, none⟩ (Value.int IntKind.u8 ((nu : Int) / 256))).setCell ⟨w.heap.size + 1 + 1, 8, none⟩ (Value.int IntKind.u8 ((nu : Int) % 256))).drew = w7 at S7
    clear a3 b7 d7 b8 d8 HS
    have a4 : w7.cell? ⟨w.heap.size, 4, none⟩ = some (.int .i64 (ix : Int)) := S7.pk.cell 4
    have a5 : w7.cell? ⟨w.heap.size, 5, none⟩ = some (.int .i64 (ct : Int)) := S7.pk.cell 5
    obtain ⟨b9, d9⟩ := S7.at_ 9 (by simp)
    obtain ⟨b10, d10⟩ := S7.at_ 10 (by simp)
    have HS := Lib.hid S7
    clear S7
    have e1 : IntKind.u8.wrap (ix : Int) = (ix : Int) := by simp [IntKind.wrap, IntKind.bits, IntKind.signed]; omega
    have e2 : IntKind.u8.wrap (ct : Int) = (ct : Int) := by simp [IntKind.wrap, IntKind.bits, IntKind.signed]; omega
    go_wp2_with fail
    go_region
    have S8 := ((HS.out.set 9 ix).set 10 ct).drew
    generalize ((w7.setCell ⟨w.heap.size + 1 + 1, 9, none⟩ (Value.int IntKind.u8 ((ix : Int)))).setCell ⟨w.heap.size + 1 + 1, 10, none⟩ (Value.int IntKind.u8 ((ct : Int)))).drew = w8 at S8
    clear a4 a5 b9 d9 b10 d10 HS e1 e2
    have S8 : WrSt w so la bi nu ix ct (.slice A bs.length c) (headL so la bi nu ix ct ++ List.replicate bs.length 0) w8 := S8
    have a6 : w8.cell? ⟨w.heap.size, 6, none⟩ = some (.slice A bs.length c) := S8.pk.cell 6
    have HO := Lib.hid (S8.own rfl hn)
    have HB := Lib.hid S8.below
    have HL := Lib.hid (head_lt (so := so) hla hbi hnu hix hct)
    have HLn : Hid ((headL so la bi nu ix ct).length = 11) := rfl
    have H1 := Lib.hid (U8s_one bs)
    obtain ⟨i, hi, hz, hs1, hb1⟩ := info_u8
    clear S8 hla hbi hnu hix hct hz hb1
    generalize headL so la bi nu ix ct = L at *
    go_wp2_with (at_builtin; refine wpList_append_fits_any _ rfl (.tmp 71) (.tmp 73) 36 rfl w.heap.size 5 i 1 Tryd.underlying36 hi hs1 (w.heap.size + 1 + 1) 11 (11 + bs.length) (U8s L) rfl HO.out A bs.length c (U8s bs) rfl ?a1 ?a2 ?a3 H1.out ?a4 ?_)
    case a1 => simp [U8s]
    case a2 => intro e; have := hA e; omega
    case a3 =>
      intro ad e j x hj
      have h0 : 0 < bs.length := by
        have := (List.getElem?_eq_some_iff.1 hj).1
        rw [U8s_length] at this; omega
      obtain ⟨ad', e', hb, hcell⟩ := HR.out.2 h0
      rw [e] at e'
      obtain rfl := Option.some.inj e'
      exact (HB.out.cell (by rw [block_of_add]; exact hb)).trans (hcell j x hj)
    case a4 => omega
    intro w9 hown hgr
    have hB9 : Below w.heap.size w w9 := HB.out.grown hgr HB.out.size (fun k hk => by injection hk with hk; omega)
    rw [← U8s_append] at hown
    have e9 : 11 + bs.length = (L ++ bs).length := by rw [List.length_append, HLn.out]
    rw [e9] at hown
    rw [e9]
    have hO9 : OwnB w9 w.heap.size (.slice (some ⟨w.heap.size + 1 + 1, 0, none⟩) (L ++ bs).length (L ++ bs).length) (L ++ bs) := hown
    have HO9 := Lib.hid hO9
    have HB9 := Lib.hid hB9
    have hb9 : (L ++ bs).length ≤ 211 := by rw [List.length_append, HLn.out]; omega
    have HX : Hid (∀ x ∈ L ++ bs, x < 256) := fun x hx => (List.mem_append.1 hx).elim (HL.out x) (HBy.out x)
    clear hown hgr hO9 hB9 e9 HO HB
    generalize L ++ bs = X at *
    go_wp2_with fail
    refine (frame_c _ X w9 HO9.out.sl (HT.out.below HB9.out) (by omega) HX.out).mono ?_
    rintro e w10 ⟨g, n, rfl, h1, h2, h3, h4⟩
    have HF : Hid (n = (frame X).length ∧ w.heap.size ≤ g ∧ Blk w10 g 5 (U8s (frame X)).toArray ∧ Below w.heap.size w w10) := ⟨h1, by have := HB9.out.size; omega, h3, below_trans HB9.out h4⟩
    clear h1 h2 h3 h4
    go_wp2_with fail
    go_ret
    exact ⟨g, n, rfl, HF.out⟩

end Go.Proofs.YtmlbhlfjaagcaaaDoor

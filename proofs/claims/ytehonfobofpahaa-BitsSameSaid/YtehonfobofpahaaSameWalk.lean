/- The walk of BitsSame. -/
import Derived.Test.YtehonfobofpahaaAwake
import Derived.Test.YtehonfobofpahaaArgs
import Derived.Test.YtehonfobofpahaaSameBits
import Derived.StillTailTactics
namespace Go.Proofs.Ytehonfobofpahaa
open Go.RowKit

/-- A reader and a writer: what was taken has been put. -/
structure SameSt (w : World) (q g p : Nat) (v : Value) (bs cs : List Nat) (k : Nat) (wr : World) : Prop where
  rd : Rd wr q g bs k
  st : Wr wr p v k cs
  cop : Copies cs bs k
  le : k ≤ 8 * bs.length
  below : Below w.heap.size w wr

theorem SameSt.draw {w wr : World} {q g p k : Nat} {v : Value} {bs cs : List Nat} (S : SameSt w q g p v bs cs k wr) (j : Nat) : SameSt w q g p v bs cs k (wr.drewN j) :=
  ⟨⟨S.rd.blk, S.rd.row⟩, ⟨S.st.blk, S.st.own⟩, S.cop, S.le, below_draw S.below j⟩

theorem Wr.not_mine {w : World} {p n q : Nat} {v : Value} {bs : List Nat} (h : Wr w p v n bs) (hq : q < p) : ¬ Mine p v q := by
  rintro (e | e)
  · omega
  · have := h.own.lt _ e; omega

theorem conv_reads (w : World) (B c : Nat) (A : Option Addr) (bs : List Nat) (h : Reads w B A bs.length (U8s bs)) : (convert 32 9 (.slice A bs.length c)).run Try.prog w = .ok (.string (strOf bs)) w := by
  rcases Nat.eq_zero_or_pos bs.length with h0 | h0
  · obtain rfl : bs = [] := List.eq_nil_of_length_eq_zero h0
    cases A with
    | none => exact run_convert_bytes_nil (P := Try.prog) w 32 5 Try.underlying32 Try.underlying5 0 c 9 Try.underlying9
    | some ad =>
      obtain ⟨b, o, sp⟩ := ad
      rw [run_convert_bytes_string w 32 9 5 _ _ c Try.underlying32 Try.underlying5 Try.underlying9]
      have hl : (loadCells ⟨b, o, sp⟩ 0).run Try.prog w = .ok (([] : List Int).map (Value.int .u8)).toArray w := run_loadCells_list (P := Try.prog) w ⟨b, o, sp⟩ [] (fun j v hj => by simp at hj)
      rw [show ([] : List Nat).length = 0 from rfl, run_bytesToString w _ 0 c [] hl]
      rfl
  · obtain ⟨b, o, rfl, _, _⟩ := h.spot h0
    have e := run_convert_bytes_arg (P := Try.prog) w 32 5 Try.underlying32 Try.underlying5 b o bs.length c (bs.map fun b : Nat => (b : Int)) (by simp) (fun i hi => by
      obtain ⟨b', o', e, _, hc⟩ := h.spot hi
      injection e with e
      injection e with e1 e2
      subst e1 e2
      rw [hc, U8s_get bs i hi]
      simp [List.getD, List.getElem?_eq_getElem hi]) 9 Try.underlying9
    rw [e]
    simp [strOfNums, strOf, Function.comp_def]

set_option maxHeartbeats 2000000 in
set_option maxRecDepth 100000 in
theorem same_walk (a0 a1 : Option Addr) (c0 l1 c1 : Nat) (bs : List Nat) (ys : List Int) (w : World) (h0 : Reads w w.heap.size a0 bs.length (U8s bs)) (h1 : Reads w w.heap.size a1 l1 (Ints ys))
    (hby : ∀ i, bs.getD i 0 < 256) (hl0 : bs.length ≤ 281474976710656) (hl1 : l1 * 8 ≤ 140737488351232) :
    Calls Try.prog 6 #[.slice a0 bs.length c0, .slice a1 l1 c1] w fun e w' => e = .returned (.bool true) ∧ Below w.heap.size w w' := by
  have HR0 := Lib.hid h0
  have HR1 := Lib.hid h1
  have HBy := Lib.hid hby
  clear h0 h1 hby
  go_enter Try.func6, Try.ntmps6
  go_wp2_with fail
  refine (awake_c _).mono ?_
  rintro e wa ⟨rfl, hba⟩
  have BA := Lib.hid hba
  have RA := Lib.hid ((HR0.out.below hba).more hba.size)
  clear hba
  go_wp2_with fail
  refine (read_c a0 c0 bs _ RA.out hl0).mono ?_
  rintro e w1 ⟨q, g, rfl, hq1, hg1, hr1, hb1⟩
  have R1 := Lib.hid hr1
  have B1 := Lib.hid (BA.out.trans (hb1.mono BA.out.size))
  have hqB := Nat.le_trans BA.out.size hq1
  have hgB := Nat.le_trans BA.out.size hg1
  clear hr1 hb1 RA BA hq1 hg1
  go_wp2_with fail
  refine (new_c _).mono ?_
  rintro e w2 ⟨rfl, rfl⟩
  have hqp : q < w1.heap.size := R1.out.blk.lt
  have hgp : g < w1.heap.size := R1.out.row.lt
  have hp : w.heap.size ≤ w1.heap.size := B1.out.size
  have S0 : SameSt w q g w1.heap.size (.slice none 0 0) bs [] 0 (w1.alloc (.cells #[.slice none 0 0, .int .i64 0] 51)) := ⟨⟨R1.out.blk.alloc _, R1.out.row.alloc _⟩, Wr.new w1, Copies.nil bs, by omega, B1.out.alloc B1.out.size _⟩
  generalize (w1.alloc (.cells #[.slice none 0 0, .int .i64 0] 51)) = w0 at S0 ⊢
  generalize w1.heap.size = p at S0 hp hqp hgp ⊢
  clear R1 B1
  by_cases hbig : 100000 < bs.length
  · have hd : decide (100000 < (bs.length : Int)) = true := by simp; omega
    have HS := Lib.hid S0.below
    clear S0
    go_wp2_with fail
    go_ret
    exact ⟨rfl, HS.out⟩
  · have hd : decide (100000 < (bs.length : Int)) = false := by simp; omega
    go_wp2_with fail
    clear hd
    go_loopg [8, 9, 10, 11, 12] (l1 + 8 * bs.length) (fun gg s8 _ _ _ _ wr => ∃ (i k : Nat) (cs : List Nat) (v : Value), (l1 - i) + (8 * bs.length - k) ≤ gg ∧ i ≤ l1 + k ∧ s8 = .int .i64 (i : Int) ∧ SameSt w q g p v bs cs k wr)
    case atStart => exact ⟨0, 0, [], _, by omega, by omega, rfl, S0⟩
    case round =>
      obtain ⟨i, k, cs, v, hm, hik, rfl, S⟩ := hrel
      clear S0
      have hkl := S.le
      go_wp2_with fail
      refine (rest_c q _ _ _ _ _ S.rd.blk (by omega) (by omega) hl0).mono ?_
      rintro e w3 ⟨rfl, j, rfl⟩
      by_cases hend : k = 8 * bs.length
      · have hd : decide (0 < 8 * (bs.length : Int) - (k : Int)) = false := by simp; omega
        have S3 := S.draw j
        have ecs : cs = bs := by have := S.cop; rw [hend] at this; exact this.all HBy.out
        subst ecs
        generalize wr.drewN j = w4 at S3 ⊢
        have HRb := Lib.hid ((HR0.out.below S3.below).more S3.below.size)
        clear S
        have hbl : cs.length ≤ 281474976710656 := hl0
        go_wp2_with fail
        have WD : Hid (Wr w4.drew p v k cs) := ⟨S3.st.blk, S3.st.own⟩
        have RD : Hid (Reads w4.drew w4.drew.heap.size a0 cs.length (U8s cs)) := HRb.out
        have BD : Hid (Below w.heap.size w w4.drew) := S3.below.drew
        have hcb := conv_reads w4.drew _ c0 a0 cs RD.out
        clear S3 HRb
        go_region_with (go_at_call 14; refine (bytes_c p _ v cs w4.drew WD.out hbl).mono ?_; rintro e w9 ⟨g9, rfl, hg9, hk9, hb9⟩; have hcb9 := conv_reads w9 _ c0 a0 cs (RD.out.below hb9); have hcv9 := conv_eq w9 g9 cs.length cs hk9)
        all_goals
          clear hcb9 hcv9 hk9
          go_wp2_with fail
          go_ret
          exact ⟨rfl, BD.out.trans (hb9.mono BD.out.size)⟩
      · have hd : decide (0 < 8 * (bs.length : Int) - (k : Int)) = true := by simp; omega
        have S3 := S.draw j
        generalize wr.drewN j = w4 at S3 ⊢
        clear S
        go_wp2_with fail
        refine (rest_c q _ _ _ _ _ S3.rd.blk (by omega) (by omega) hl0).mono ?_
        rintro e w5 ⟨rfl, j2, rfl⟩
        have S5 := S3.draw j2
        generalize w4.drewN j2 = w5 at S5 ⊢
        clear S3
        go_upto_if 44 with (fail)
        rw [show (if 8 * (bs.length : Int) - (k : Int) < 7 then 8 * (bs.length : Int) - (k : Int) else 7) = ((min 7 (8 * bs.length - k) : Nat) : Int) by split <;> omega]
        obtain ⟨m7, hm7⟩ : ∃ m7, m7 = min 7 (8 * bs.length - k) := ⟨_, rfl⟩
        rw [← hm7]
        have hm7a : m7 ≤ 7 := by omega
        have hm7b : k + m7 ≤ 8 * bs.length := by omega
        have hm7c : 1 ≤ m7 := by omega
        clear hm7
        go_cut [9] (fun s9 wx => ∃ m : Nat, s9 = .int .i64 (m : Int) ∧ m ≤ 63 ∧ k + m ≤ 8 * bs.length ∧ (i < l1 ∨ 1 ≤ m) ∧ SameSt w q g p v bs cs k wx)
        case first =>
          by_cases hil : i < l1
          · obtain ⟨b1, o1, e1, hb1, hc1⟩ := Ints_at HR1.out hil
            generalize ys.getD i 0 = y at hc1
            have d1 : w5.cell? ⟨b1, o1 + i, none⟩ = some (.int .i64 y) := (S5.below.cell hb1).trans hc1
            have hii : (i : Int) < (l1 : Int) := by omega
            have hw1 : decide (i < l1) = true := by simpa using hil
            obtain ⟨m6, h6, hm6⟩ : ∃ m6 : Nat, bits BinOp.and IntKind.i64 y 63 = (m6 : Int) ∧ m6 ≤ 63 := ⟨(y % 64).toNat, by rw [i64_and63]; omega, by omega⟩
            subst e1
            clear hc1
            go_wp2_with fail
            go_quiet ((go_at_call 24; exact Calls.quiet_of (rest_c q _ _ _ _ _ S5.rd.blk (by omega) (by omega) hl0)))
            all_goals go_wp2_with fail
            all_goals go_meet
            · exact ⟨8 * bs.length - k, by congr 1; omega, by omega, by omega, by omega, S5.draw _⟩
            · exact ⟨m6, rfl, by omega, by omega, by omega, S5.draw _⟩
          · have hw1 : decide (i < l1) = false := by simpa using hil
            go_wp2_with fail
            go_meet
            exact ⟨m7, rfl, by omega, by omega, by omega, S5⟩
        case rest =>
          obtain ⟨m, rfl, hm63, hkm, hor, S6⟩ := hcut
          clear S5 hm7a hm7b hm7c
          go_wp2_with fail
          refine (take_yes q g k m bs _ S6.rd HBy.out hl0 hm63 hkm).mono ?_
          rintro e w7 ⟨rfl, hr, hf, hs⟩
          have R7 := Lib.hid hr
          have W7 := Lib.hid (S6.st.fr hf (fun e => by omega) (fun t ht e => by have := S6.st.own.lt t ht; omega))
          have B7 := Lib.hid (below_at S6.below hf hqB S6.below.size)
          have hx := tk_lt bs k m
          have HC := Lib.hid (S6.cop.next m)
          have HRow := Lib.hid S6.cop.row
          clear hr hf hs S6
          obtain ⟨X, hX⟩ : ∃ X, X = tk bs k 0 m := ⟨_, rfl⟩
          rw [← hX] at hx ⊢
          have HX := Lib.hid hX
          have Hx := Lib.hid hx
          clear hX hx
          go_wp2_with fail
          refine (put_yes p k X m v cs _ W7.out HRow.out hm63 Hx.out (by omega)).mono ?_
          rintro e w8 ⟨v8, rfl, hw, hf, hborn⟩
          have S8 : SameSt w q g p v8 bs (putN cs k X m) (k + m) w8 := ⟨R7.out.fr hf (W7.out.not_mine hqp) (W7.out.not_mine hgp), hw, by rw [HX.out]; exact HC.out, hkm, below_put B7.out W7.out hf hp⟩
          clear hw hf hborn
          have hdi : decide ((l1 : Int) + 8 * (bs.length : Int) < (i : Int)) = false := by simp; omega
          go_wp2_with fail
          go_roundg (l1 - (i + 1) + (8 * bs.length - (k + m)))
          case measure => omega
          case rel => exact ⟨i + 1, k + m, _, v8, by omega, by omega, rfl, S8⟩

end Go.Proofs.Ytehonfobofpahaa

/- The walk of BitsPuts. -/
import Derived.Test.YtehonfobofpahaaOwned
import Derived.Test.YtehonfobofpahaaRefBytes
namespace Go.Proofs.Ytehonfobofpahaa
open Go.RowKit

/-- The writer's row has the bits L. -/
structure BitsAre (L : List Bool) (bs : List Nat) (n : Nat) : Prop where
  row : Row bs n
  clean : Clean bs n
  len : L.length = n
  same : ∀ k, k < n → L[k]? = some (bitAt bs k == 1)

theorem BitsAre.nil : BitsAre [] [] 0 := ⟨Row.nil, Clean.nil, rfl, fun k hk => by omega⟩

theorem BitsAre.next {L : List Bool} {bs : List Nat} {n : Nat} (h : BitsAre L bs n) (x s : Nat) : BitsAre (L ++ bitsOf x s) (putN bs n x s) (n + s) := by
  obtain ⟨h1, h2, h3⟩ := bits_putN (x := x) (s := s) h.row h.clean
  refine ⟨h.row.putN, h1, by simp [bitsOf_length, h.len], fun k hk => ?_⟩
  by_cases e : k < n
  · rw [List.getElem?_append_left (by rw [h.len]; exact e), h.same k e, h2 k e]
  · obtain ⟨i, rfl⟩ : ∃ i, k = n + i := ⟨k - n, by omega⟩
    rw [List.getElem?_append_right (by rw [h.len]; omega), h.len, show n + i - n = i by omega, h3 i (by omega)]
    simp [bitsOf, show i < s by omega]

theorem BitsAre.bytes {L : List Bool} {bs cs : List Nat} {n : Nat} (h : BitsAre L bs n) (p : Pk L cs L.length) : cs = bs := by
  refine row_ext (n := n) ⟨by rw [p.len, h.len], p.byte⟩ h.row (fun k hk => p.zero k (by rw [h.len]; exact hk)) h.clean fun k hk => ?_
  have h1 := h.same k hk
  have h2 := p.same k (by rw [h.len]; exact hk)
  rw [h1] at h2
  have b1 := bitAt_lt bs k
  have b2 := bitAt_lt cs k
  injection h2 with h2
  rw [Bool.eq_iff_iff] at h2
  simp at h2
  omega

/-- The writer and the reference's bits. -/
structure PutsSt (w : World) (p : Nat) (v vl : Value) (n : Nat) (bs : List Nat) (L : List Bool) (wr : World) : Prop where
  st : Wr wr p v n bs
  bits : BitsAre L bs n
  le : n ≤ 1048576
  row : wr.ownsRow w.heap.size 4 1 vl L.length (Bools L)
  below : Below w.heap.size w wr

/-- The writer has the bits L'; the reference has L as yet. -/
structure MidSt (w : World) (p : Nat) (v vl : Value) (n : Nat) (bs : List Nat) (L : List Bool) (wr : World) : Prop where
  st : Wr wr p v n bs
  row : wr.ownsRow w.heap.size 4 1 vl L.length (Bools L)
  below : Below w.heap.size w wr

theorem PutsSt.putted {w wr w3 : World} {p n m : Nat} {v v' vl : Value} {bs cs : List Nat} {L : List Bool} (S : PutsSt w p v vl n bs L wr) (hp : w.heap.size ≤ p) (hw : Wr w3 p v' m cs) (hf : Fr (Mine p v) wr w3) : MidSt w p v' vl m cs L w3 := by
  refine ⟨hw, ownsRow_fr S.row hf ?_, below_put S.below S.st hf hp⟩
  rintro k hk (rfl | hm)
  · exact own_ne_blk S.row S.st.blk (by decide) hk
  · exact own_ne_own S.row S.st.own (by decide) k hm hk

theorem MidSt.other {w wr w4 : World} {p n : Nat} {v vl vl' : Value} {bs : List Nat} {L L' : List Bool} (S : MidSt w p v vl n bs L wr) (hown : w4.ownsRow w.heap.size 4 1 vl' L'.length (Bools L')) (hg : wr.grownBy w4 vl.ownBlock) : MidSt w p v vl' n bs L' w4 := by
  refine ⟨⟨?_, ?_⟩, hown, S.below.grown hg S.below.size (fun k hk => (S.row.lt k hk).1)⟩
  · exact (hg.block p S.st.blk.lt (fun e => own_ne_blk S.row S.st.blk (by decide) e.symm)).trans S.st.blk
  · exact ownsRow_fr (S := fun k => vl.ownBlock = some k) S.st.own (Fr.of_grown hg fun _ _ he => he) (fun k hk h => own_ne_own S.row S.st.own (by decide) k hk h)

/-- Three blocks, by number. -/
def three (a b c : Nat) : Nat → Nat
  | 0 => a
  | 1 => b
  | _ => c

theorem three_ne {a b c : Nat} (h1 : a ≠ b) (h2 : a ≠ c) (h3 : b ≠ c) : ∀ i j, i < 3 → j < 3 → i ≠ j → three a b c i ≠ three a b c j := by
  intro i j hi hj hne
  match i, j, hi, hj with
  | 0, 0, _, _ => exact absurd rfl hne
  | 0, 1, _, _ => exact h1
  | 0, 2, _, _ => exact h2
  | 1, 0, _, _ => exact fun e => h1 e.symm
  | 1, 1, _, _ => exact absurd rfl hne
  | 1, 2, _, _ => exact h3
  | 2, 0, _, _ => exact fun e => h2 e.symm
  | 2, 1, _, _ => exact fun e => h3 e.symm
  | 2, 2, _, _ => exact absurd rfl hne

set_option maxHeartbeats 2000000 in
set_option maxRecDepth 100000 in
theorem puts_walk (a0 a1 : Option Addr) (l0 c0 l1 c1 : Nat) (xs ys : List Int) (w : World) (h0 : Reads w w.heap.size a0 l0 (Ints xs)) (h1 : Reads w w.heap.size a1 l1 (Ints ys)) (hl0 : l0 ≤ maxLen) (hl1 : l1 ≤ maxLen) (hwf : ∀ i, xs.getD i 0 ≤ 9223372036854775807) :
    Calls Try.prog 3 #[.slice a0 l0 c0, .slice a1 l1 c1] w fun e w' => e = .returned (.bool true) ∧ Below w.heap.size w w' := by
  unfold maxLen at hl0 hl1
  have HR0 := Lib.hid h0
  have HR1 := Lib.hid h1
  have HWf := Lib.hid hwf
  clear h0 h1 hwf
  go_enter Try.func3, Try.ntmps3
  go_wp2_with fail
  refine (awake_c _).mono ?_
  rintro e wa ⟨rfl, hba⟩
  have BA := Lib.hid hba
  clear hba
  go_wp2_with fail
  refine (new_c _).mono ?_
  rintro e w1 ⟨rfl, rfl⟩
  have W0 := Lib.hid (Wr.new wa)
  have B0 := Lib.hid (BA.out.alloc BA.out.size (.cells #[.slice none 0 0, .int .i64 0] 51))
  have hp : w.heap.size ≤ wa.heap.size := BA.out.size
  generalize (wa.alloc (.cells #[.slice none 0 0, .int .i64 0] 51)) = w0 at W0 B0 ⊢
  generalize wa.heap.size = p at W0 hp ⊢
  clear BA
  have S0 : PutsSt w p (.slice none 0 0) (.slice none 0 0) 0 [] [] w0 := ⟨W0.out, BitsAre.nil, by omega, World.ownsRow_nil _ _ _ _, B0.out⟩
  clear W0 B0
  go_wp2_with fail
  go_loopg [7, 8, 9, 10, 11] (l0 + l1) (fun g s7 s8 _ _ _ wr => ∃ (k n : Nat) (bs : List Nat) (L : List Bool) (v : Value), k + g = l0 + l1 ∧ k ≤ l0 ∧ k ≤ l1 ∧ s8 = .int .i64 (k : Int) ∧ PutsSt w p v s7 n bs L wr)
  case atStart => exact ⟨0, 0, [], [], _, by omega, by omega, by omega, rfl, S0⟩
  case round =>
    obtain ⟨k, n, bs, L, v, hkg, hk0, hk1, rfl, S⟩ := hrel
    clear S0
    obtain ⟨A7, c7, rfl⟩ := own_slice S.row
    by_cases hlt : k < l0 ∧ k < l1
    · obtain ⟨hlt0, hlt1⟩ := hlt
      obtain ⟨b0, o0, e0, hb0, hc0⟩ := Ints_at HR0.out hlt0
      obtain ⟨b1, o1, e1, hb1, hc1⟩ := Ints_at HR1.out hlt1
      have hx63 := HWf.out k
      generalize xs.getD k 0 = x at hc0 hx63
      generalize ys.getD k 0 = y at hc1
      have d0 : wr.cell? ⟨b0, o0 + k, none⟩ = some (.int .i64 x) := (S.below.cell hb0).trans hc0
      have d1 : wr.cell? ⟨b1, o1 + k, none⟩ = some (.int .i64 y) := (S.below.cell hb1).trans hc1
      have Hc0 := Lib.hid hc0
      have Hc1 := Lib.hid hc1
      clear hc0 hc1
      subst e0 e1
      have i0' : (k : Int) < (l0 : Int) := by omega
      have i1' : (k : Int) < (l1 : Int) := by omega
      go_wp2_with fail
      go_still_tail 9, (by kernel_rfl)
      go_wp2_with fail
      have Sd : PutsSt w p v (.slice A7 L.length c7) n bs L wr.drew := ⟨⟨S.st.blk, S.st.own⟩, S.bits, S.le, S.row, S.below.drew⟩
      generalize wr.drew = wq at Sd ⊢
      clear d0 d1 S
      refine (put_any p n v bs x y _ Sd.st Sd.bits.row Sd.le).mono ?_
      rintro e w3 (⟨hbad, rfl, rfl⟩ | ⟨a, sz, rfl, rfl, hs1, hx2, hlong, rfl, rfl⟩ | ⟨a, sz, rfl, rfl, hs1, hx2, hle, v', rfl, hw, hf, _⟩)
      · have HBad := Lib.hid hbad
        clear hbad
        have d3 : wq.cell? ⟨b0, o0 + k, none⟩ = some (.int .i64 x) := (Sd.below.cell hb0).trans Hc0.out
        have d4 : wq.cell? ⟨b1, o1 + k, none⟩ = some (.int .i64 y) := (Sd.below.cell hb1).trans Hc1.out
        go_wp2_with fail
        go_quiet ((go_at_call 12; exact Calls.quiet_of_same ((rput_arg A7 L.length c7 x y _ HBad.out hx63).mono fun _ _ q => ⟨q.1, q.2.symm⟩)))
        have Se : PutsSt w p v (.slice A7 L.length c7) n bs L (wq.drewN nq) := ⟨⟨Sd.st.blk, Sd.st.own⟩, Sd.bits, Sd.le, Sd.row, below_draw Sd.below nq⟩
        generalize wq.drewN nq = wz at Se ⊢
        clear d3 d4 Sd
        have hlen := Se.bits.len
        have hne : ((n : Int) != (L.length : Int)) = false := by rw [bne_eq_false_iff_eq]; omega
        clear hlen
        go_wp2_with fail
        refine (len_c p v _ _ Se.st.blk).mono ?_
        rintro e w5 ⟨rfl, rfl⟩
        go_wp2_with fail
        go_roundg (gk - 1)
        case measure => omega
        case rel => exact ⟨k + 1, n, bs, L, v, by omega, by omega, by omega, rfl, Se⟩
      · have HX := Lib.hid hx2
        clear hx2
        have hlen0 := Sd.bits.len
        have hLm : L.length ≤ 1048576 := by have := Sd.le; omega
        have hLl : 1048576 < L.length + sz := by omega
        clear hlen0
        have d3 : wq.cell? ⟨b0, o0 + k, none⟩ = some (.int .i64 (a : Int)) := (Sd.below.cell hb0).trans Hc0.out
        have d4 : wq.cell? ⟨b1, o1 + k, none⟩ = some (.int .i64 (sz : Int)) := (Sd.below.cell hb1).trans Hc1.out
        go_wp2_with fail
        go_quiet ((go_at_call 12; exact Calls.quiet_of_same ((rput_long A7 L.length c7 a sz _ hs1 HX.out hLm hLl).mono fun _ _ q => ⟨q.1, q.2.symm⟩)))
        have Se : PutsSt w p v (.slice A7 L.length c7) n bs L (wq.drewN nq) := ⟨⟨Sd.st.blk, Sd.st.own⟩, Sd.bits, Sd.le, Sd.row, below_draw Sd.below nq⟩
        generalize wq.drewN nq = wz at Se ⊢
        clear d3 d4 Sd
        have hlen := Se.bits.len
        have hne : ((n : Int) != (L.length : Int)) = false := by rw [bne_eq_false_iff_eq]; omega
        clear hlen
        go_wp2_with fail
        refine (len_c p v _ _ Se.st.blk).mono ?_
        rintro e w5 ⟨rfl, rfl⟩
        go_wp2_with fail
        go_roundg (gk - 1)
        case measure => omega
        case rel => exact ⟨k + 1, n, bs, L, v, by omega, by omega, by omega, rfl, Se⟩
      · have M3 := Sd.putted hp hw hf
        have HX := Lib.hid hx2
        have hlen0 := Sd.bits.len
        have hLs : L.length + sz ≤ 1048576 := by omega
        have HN := Lib.hid (Sd.bits.next a sz)
        clear hlen0 hw hf hx2 Sd
        have d3 : w3.cell? ⟨b0, o0 + k, none⟩ = some (.int .i64 (a : Int)) := (M3.below.cell hb0).trans Hc0.out
        have d4 : w3.cell? ⟨b1, o1 + k, none⟩ = some (.int .i64 (sz : Int)) := (M3.below.cell hb1).trans Hc1.out
        have MD : MidSt w p v' (.slice A7 L.length c7) (n + sz) (putN bs n a sz) L w3.drew := ⟨⟨M3.st.blk, M3.st.own⟩, M3.row, M3.below.drew⟩
        go_upto_region 10 with (fail)
        go_cut [10, 11] (fun s10 s11 wx => s11 = .int .i64 0 ∧ MidSt w p v' s10 (n + sz) (putN bs n a sz) (L ++ bitsOf a sz) wx)
        case first =>
          go_region_with (go_at_call 12; refine (rput_yes w.heap.size a sz (.slice A7 L.length c7) L w3.drew MD.row MD.below.size hs1 HX.out hLs).mono ?_; rintro e w4 ⟨vl', rfl, hown, hgr, _⟩; have M4 := MD.other hown hgr)
          all_goals (clear hown hgr; go_wp2_with fail; go_meet; exact ⟨rfl, M4⟩)
        case rest =>
          obtain ⟨rfl, M4⟩ := hcut
          clear M3 MD d3 d4
          obtain ⟨A9, c9, rfl⟩ := own_slice M4.row
          have S4 : PutsSt w p v' (.slice A9 (L ++ bitsOf a sz).length c9) (n + sz) (putN bs n a sz) (L ++ bitsOf a sz) wc := ⟨M4.st, HN.out, hle, M4.row, M4.below⟩
          clear M4
          generalize L ++ bitsOf a sz = L2 at S4 ⊢
          have hlen := S4.bits.len
          have hne : (((n + sz : Nat) : Int) != (L2.length : Int)) = false := by rw [bne_eq_false_iff_eq]; omega
          clear hlen
          go_wp2_with fail
          refine (len_c p v' _ _ S4.st.blk).mono ?_
          rintro e w5 ⟨rfl, rfl⟩
          go_wp2_with fail
          go_roundg (gk - 1)
          case measure => omega
          case rel => exact ⟨k + 1, n + sz, _, L2, v', by omega, by omega, by omega, rfl, S4⟩
    · have hlenb := S.bits.row.len
      have hle := S.le
      have hlenL := S.bits.len
      have hbl : bs.length ≤ 281474976710656 := by omega
      have hbl2 : bs.length ≤ 1048576 := by omega
      have hLl : L.length ≤ 1048576 := by omega
      clear hlenb hle hlenL
      have hcase : (decide (k < l0) = false) ∨ (decide (k < l0) = true ∧ decide (k < l1) = false) := by
        simp; omega
      clear hlt
      rcases hcase with hd | ⟨hd, hd'⟩
      all_goals
        go_wp2_with fail
        refine (bytes_c p n v bs _ S.st hbl).mono ?_
        rintro e w2 ⟨ga, rfl, hga, hka, hb2⟩
        have KA := Lib.hid hka
        have WA := Lib.hid (S.st.fr (Fr.of_below (S := fun _ => False) hb2) (fun h => h) (fun _ _ h => h))
        have RA := Lib.hid ((Reads.of_own S.row).below hb2 |>.more hb2.size)
        have BA := Lib.hid (S.below.trans (hb2.mono S.below.size))
        have hgaB := Nat.le_trans S.below.size hga
        have HBits := Lib.hid S.bits
        clear hka hb2 hga S
        go_wp2_with fail
        refine (bytes_c p n v bs _ WA.out hbl).mono ?_
        rintro e w3 ⟨gb, rfl, hgb, hkb, hb3⟩
        have KB := Lib.hid hkb
        have KA3 := Lib.hid (KA.out.below hb3 KA.out.lt)
        have WB := Lib.hid (WA.out.fr (Fr.of_below (S := fun _ => False) hb3) (fun h => h) (fun _ _ h => h))
        have RB := Lib.hid (RA.out.below hb3 |>.more hb3.size)
        have BB := Lib.hid (BA.out.trans (hb3.mono BA.out.size))
        have hgbB := Nat.le_trans BA.out.size hgb
        have nab : ga ≠ gb := by have := KA.out.lt; omega
        clear hkb hb3 hgb KA WA RA BA
        go_wp2_with fail
        refine (rbytes_c A7 c7 L _ RB.out hLl).mono ?_
        rintro e w4 ⟨gr, cs, rfl, hgr, hkr, hpk, hb4⟩
        have ecs : cs = bs := HBits.out.bytes hpk
        subst ecs
        have hcr := conv_eq w4 gr cs.length cs hkr
        have hca := conv_eq w4 ga cs.length cs (KA3.out.below hb4 KA3.out.lt)
        have hcb := conv_eq w4 gb cs.length cs (KB.out.below hb4 KB.out.lt)
        have KA4 := Lib.hid (KA3.out.below hb4 KA3.out.lt)
        have KB4 := Lib.hid (KB.out.below hb4 KB.out.lt)
        have WC := Lib.hid (WB.out.fr (Fr.of_below (S := fun _ => False) hb4) (fun h => h) (fun _ _ h => h))
        have BC := Lib.hid (BB.out.trans (hb4.mono BB.out.size))
        clear hkr hpk hb4 hgr KA3 KB WB RB BB
        go_wp2_with fail
        refine (bytes_c p n v cs _ WC.out hbl).mono ?_
        rintro e w5 ⟨gc, rfl, hgc, hkc, hb5⟩
        have KC := Lib.hid hkc
        have KA5 := Lib.hid (KA4.out.below hb5 KA4.out.lt)
        have KB5 := Lib.hid (KB4.out.below hb5 KB4.out.lt)
        have BD := Lib.hid (BC.out.trans (hb5.mono BC.out.size))
        have hgcB := Nat.le_trans BC.out.size hgc
        have nac : ga ≠ gc := by have := KA4.out.lt; omega
        have nbc : gb ≠ gc := by have := KB4.out.lt; omega
        have HBy := Lib.hid HBits.out.row.byte
        clear hkc hb5 hgc KA4 KB4 WC BC hcr hca hcb HBits
        go_wp2_with fail
        refine (owned_c w5.heap.size (three ga gb gc) cs _ (Blk.new _ _ _) (three_ne nab nac nbc) (fun j hj => ?_) HBy.out hbl2).mono ?_
        · match j, hj with
          | 0, _ => exact KA5.out.alloc _
          | 1, _ => exact KB5.out.alloc _
          | 2, _ => exact KC.out.alloc _
        · rintro e w6 ⟨rfl, hf6⟩
          have HB6 := Lib.hid ((BD.out.alloc BD.out.size (.cells #[sl (three ga gb gc) cs.length 0, sl (three ga gb gc) cs.length 1, sl (three ga gb gc) cs.length 2] 32)).trans (hf6.below (by have := BD.out.size; simp; omega) (fun i hi hm => by
            obtain ⟨j, hj, rfl⟩ := hm
            match j, hj, hi with
            | 0, _, hi => exact absurd hi (by show ¬ ga < _; omega)
            | 1, _, hi => exact absurd hi (by show ¬ gb < _; omega)
            | 2, _, hi => exact absurd hi (by show ¬ gc < _; omega))))
          clear hf6
          go_wp2_with fail
          go_ret
          exact ⟨rfl, HB6.out⟩

theorem wf_bound {zs : List Int} (h : ∀ n ∈ zs, (Lit.int .i64 n).wf = true) (i : Nat) : zs.getD i 0 ≤ 9223372036854775807 := by
  rw [List.getD_eq_getElem?_getD]
  rcases Nat.lt_or_ge i zs.length with hi | hi
  · rw [List.getElem?_eq_getElem hi]
    have hw := h _ (List.getElem_mem hi)
    have h2 : IntKind.i64.max = 9223372036854775807 := rfl
    simp only [Lit.wf, Bool.and_eq_true, decide_eq_true_eq, h2] at hw
    exact hw.2
  · rw [List.getElem?_eq_none hi]; decide

end Go.Proofs.Ytehonfobofpahaa

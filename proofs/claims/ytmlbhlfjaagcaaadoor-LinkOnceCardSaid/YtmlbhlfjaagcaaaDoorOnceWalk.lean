/- The contract of LinkOnce. -/
import Derived.Test.YtmlbhlfjaagcaaaDoorOWalk
import Derived.Test.YtmlbhlfjaagcaaaDoorLFr
import Derived.Test.YtmlbhlfjaagcaaaDoorArgs
namespace Go.Proofs.YtmlbhlfjaagcaaaDoor
open Go.RowKit

theorem i64_mask (n : Int) (k m : Nat) (hm : (BitVec.ofInt 64 (m : Int)).toNat = 2 ^ k - 1) (hk : 2 ^ k ≤ 65536) (hp : 0 < 2 ^ k) (hd : (18446744073709551616 : Int) % ((2 ^ k : Nat) : Int) = 0) : bits .and .i64 n (m : Int) = n % ((2 ^ k : Nat) : Int) := by
  have key : (BitVec.ofInt 64 n &&& BitVec.ofInt 64 (m : Int)).toNat = (n % ((2 ^ 64 : Nat) : Int)).toNat % 2 ^ k := by
    rw [BitVec.toNat_and, BitVec.toNat_ofInt, hm, Nat.and_two_pow_sub_one_eq_mod]
  show IntKind.i64.wrap ((BitVec.ofInt 64 n &&& BitVec.ofInt 64 (m : Int)).toNat : Nat) = _
  rw [key]
  generalize 2 ^ k = z at *
  have h64 : (((2 ^ 64 : Nat) : Int)) = 18446744073709551616 := rfl
  rw [h64]
  have e : ((n % 18446744073709551616).toNat % z : Nat) < 65536 := Nat.lt_of_lt_of_le (Nat.mod_lt _ hp) hk
  rw [IntWalk.i64_in _ (by omega)]
  rw [Int.natCast_emod, Int.toNat_of_nonneg (by omega)]
  exact Int.emod_emod_of_dvd _ (Int.dvd_of_emod_eq_zero hd)
theorem i64_and3 (n : Int) : bits .and .i64 n 3 = n % 4 := i64_mask n 2 3 (by decide) (by decide) (by decide) (by decide)
theorem i64_and7 (n : Int) : bits .and .i64 n 7 = n % 8 := i64_mask n 3 7 (by decide) (by decide) (by decide) (by decide)
theorem i64_and12 (n : Int) : bits .and .i64 n 4095 = n % 4096 := i64_mask n 12 4095 (by decide) (by decide) (by decide) (by decide)

/-- A datagram that was sent, in memory. -/
def Dg1 (p : Nat) (bss : List (List Nat)) (w : World) (u : Value) : Prop := ∃ g d, u = .slice (some ⟨g, 0, none⟩) d.length d.length ∧ Blk w g 5 (U8s d).toArray ∧ IsDg p bss d ∧ (∀ q ∈ d, q < 256) ∧ d.length ≤ 215
/-- All that was sent. -/
structure ARow (p : Nat) (bss : List (List Nat)) (base : Nat) (w : World) (v : Value) : Prop where
  own : ∃ n vs, w.ownsRow base 36 1 v n vs ∧ n ≤ 10 * bss.length ∧ ∀ (j : Nat) (u : Value), vs[j]? = some u → Dg1 p bss w u

structure OnSt (w : World) (x y : Lk) (p : Nat) (bss : List (List Nat)) (told : Nat) (v10 v11 : Value) (wr : World) : Prop where
  ax : ∃ sa, One w wr x sa ∧ Ran p bss.length sa ∧ AInv p told sa
  by_ : ∃ sb, One w wr y sb ∧ BInv p bss told sb
  all : ARow p bss w.heap.size wr v10
  sent : SRow w w.heap.size wr v11 bss
  ne : ∀ q, v10.ownBlock = some q → v11.ownBlock ≠ some q

section
variable {w w' : World} {x y : Lk} {p : Nat} {bss : List (List Nat)} {v : Value} {base : Nat}
theorem Dg1.keep {s : LS} {S : Nat → Prop} {u : Value} (h : Dg1 p bss w u) (hx : At1 w x s) (hf : Fr S w w') (hS : ∀ i, S i → S3 x.g x.a x.p i) : Dg1 p bss w' u := by
  obtain ⟨g, d, h1, h2, h3⟩ := h; exact ⟨g, d, h1, keep_blk hx hf hS h2 (by decide), h3⟩
theorem ARow.keep {s : LS} {S : Nat → Prop} (h : ARow p bss base w v) (hx : At1 w x s) (hf : Fr S w w') (hS : ∀ i, S i → S3 x.g x.a x.p i) : ARow p bss base w' v := by
  obtain ⟨n, vs, h1, h2, h3⟩ := h.own
  exact ⟨n, vs, keep_row hx hf hS h1 (by decide), h2, fun j u hu => (h3 j u hu).keep hx hf hS⟩
theorem SRow.keep {w0 : World} {s : LS} {S : Nat → Prop} (h : SRow w0 base w v bss) (hx : At1 w x s) (hf : Fr S w w') (hS : ∀ i, S i → S3 x.g x.a x.p i) : SRow w0 base w' v bss := by
  obtain ⟨vs, h1, h2⟩ := h.own
  exact ⟨vs, keep_row hx hf hS h1 (by decide), h2⟩
theorem ARow.go (h : ARow p bss base w v) (hb : Below w.heap.size w w') : ARow p bss base w' v := by
  obtain ⟨n, vs, h1, h2, h3⟩ := h.own
  exact ⟨n, vs, ownsRow_fr (S := fun _ => False) h1 (Fr.of_below hb) (fun _ _ h => h), h2, fun j u hu => by obtain ⟨g, d, a1, a2, a3⟩ := h3 j u hu; exact ⟨g, d, a1, a2.below hb a2.lt, a3⟩⟩
theorem SRow.go {w0 : World} (h : SRow w0 base w v bss) (hb : Below w.heap.size w w') : SRow w0 base w' v bss := by
  obtain ⟨vs, h1, h2⟩ := h.own
  exact ⟨vs, ownsRow_fr (S := fun _ => False) h1 (Fr.of_below hb) (fun _ _ h => h), h2⟩
end
theorem OnSt.go {w wr w' : World} {x y : Lk} {p told : Nat} {bss : List (List Nat)} {v10 v11 : Value} (h : OnSt w x y p bss told v10 v11 wr) (hb : Below wr.heap.size wr w') : OnSt w x y p bss told v10 v11 w' := by
  obtain ⟨sa, h1, h2⟩ := h.ax
  obtain ⟨sb, h3, h4⟩ := h.by_
  exact ⟨⟨sa, h1.go hb, h2⟩, ⟨sb, h3.go hb, h4⟩, h.all.go hb, h.sent.go hb, h.ne⟩
theorem OnSt.below {w wr : World} {x y : Lk} {p told : Nat} {bss : List (List Nat)} {v10 v11 : Value} (h : OnSt w x y p bss told v10 v11 wr) : Below w.heap.size w wr := by
  obtain ⟨sa, h1, _⟩ := h.ax; exact h1.below
theorem below_drew1 (w : World) (n : Nat) : Below w.heap.size w (w.drewN n) := below_draw (Below.refl _ _) n

theorem rowV_one (gs : List Nat) (ds : List (List Nat)) : ∀ u ∈ rowV gs ds, u.oneCell' = true := by
  intro u hu
  obtain ⟨j, hj⟩ := List.getElem?_of_mem hu
  unfold rowV at hj
  rw [List.getElem?_zipWith] at hj
  cases h1 : gs[j]? with
  | none => rw [h1] at hj; simp at hj
  | some g =>
    cases h2 : ds[j]? with
    | none => rw [h1, h2] at hj; simp at hj
    | some d => rw [h1, h2] at hj; injection hj with hj; subst hj; rfl

abbrev S5s (sa : LS) (dd : List Nat) : LS := (sa.recv dd).st
theorem acked_mem {s : LS} {n : Nat} (h : n ∈ s.acked) : n ∈ s.ak := by
  unfold LS.acked ackTo at h
  exact of_decide_eq_true (List.mem_filter.1 h).2

/-- One more message among those that were sent. -/
theorem SRow.add {w0 w' : World} {base : Nat} {v' : Value} {bss : List (List Nat)} {vs : List Value} {A : Option Addr} {c : Nat} {bs : List Nat} (hvs : vs.length = bss.length) (h : ∀ (j : Nat) (bs : List Nat), bss[j]? = some bs → ∃ A c, vs[j]? = some (.slice A bs.length c) ∧ SlB w0 (.slice A bs.length c) bs) (ho : w'.ownsRow base 36 1 v' (bss.length + 1) (vs ++ [.slice A bs.length c])) (hs : SlB w0 (.slice A bs.length c) bs) : SRow w0 base w' v' (bss ++ [bs]) := by
  refine ⟨vs ++ [.slice A bs.length c], by rw [List.length_append]; exact ho, fun j b hj => ?_⟩
  by_cases hl : j < bss.length
  · rw [List.getElem?_append_left hl] at hj
    obtain ⟨A', c', h1, h2⟩ := h j b hj
    exact ⟨A', c', by rw [List.getElem?_append_left (by omega)]; exact h1, h2⟩
  · rw [List.getElem?_append_right (by omega)] at hj
    have h0 : j - bss.length = 0 := by have := (List.getElem?_eq_some_iff.1 hj).1; simp at this; omega
    rw [h0] at hj
    obtain rfl : bs = b := by simpa using hj
    exact ⟨A, c, by rw [List.getElem?_append_right (by omega), hvs, h0]; rfl, hs⟩
/-- The datagrams of one more message. -/
theorem Dg1.of_row {p k B : Nat} {bss : List (List Nat)} {w : World} {s : LS} {b : List Nat} {gs : List Nat} (hr : Ran p k s) (hz : s.zero) (hok : s.ok) (hk : bss.length = k) (hb : b.length ≤ 2000) (hby : ∀ q ∈ b, q < 256) (h : Rows w B gs (dgrams s b (manyN b.length))) (j : Nat) (u : Value) (hu : (rowV gs (dgrams s b (manyN b.length)))[j]? = some u) : Dg1 p (bss ++ [b]) w u := by
  have hl : j < manyN b.length := by
    have := (List.getElem?_eq_some_iff.1 hu).1
    rw [rowV_len h.len, dgrams_len] at this; exact this
  have hg : j < gs.length := by rw [h.len, dgrams_len]; exact hl
  have hd : (dgrams s b (manyN b.length))[j]? = some (dgram s b j) := by simp [dgrams, hl]
  unfold rowV at hu
  rw [List.getElem?_zipWith, List.getElem?_eq_getElem hg, hd] at hu
  injection hu with hu
  exact ⟨gs[j], dgram s b j, hu.symm, (h.each j _ _ (List.getElem?_eq_getElem hg) hd).2, IsDg.sent hr hz hk hb hl, dgram_lt hok hby hb hl, dgram_le s b j⟩

set_option maxHeartbeats 16000000 in
set_option maxRecDepth 100000 in
theorem once_c (f : Int) (a1 a2 : Option Addr) (len1 cap1 len2 cap2 : Nat) (M : List (List Nat)) (zs : List Int) (w : World) (ht : Tab w) (hr : RowsArg w a1 len1 M) (hl1 : len1 ≤ 140737488351232) (h3 : Reads w w.heap.size a2 len2 (Ints zs)) (hwf : ∀ n ∈ zs, (Lit.int .i64 n).wf = true) (hl2 : len2 ≤ 140737488351232) :
    Calls Tryd.prog 4 #[.int .i64 f, .slice a1 len1 cap1, .slice a2 len2 cap2] w fun e w' => e = .returned (.bool true) ∧ Below w.heap.size w w' := by
  have HT := Lib.hid ht
  have HR := Lib.hid hr
  have H3 := Lib.hid h3
  have HWf := Lib.hid hwf
  clear ht hr h3 hwf
  obtain ⟨i0, hi0, hz0, hz1, hz2⟩ := info_parts info36
  obtain ⟨p, hp⟩ : ∃ p : Nat, p = (f % 65536).toNat := ⟨_, rfl⟩
  have hf1 : bits .and .i64 f 65535 = (p : Int) := by rw [i64_and16]; omega
  have hpl : p < 65536 := by omega
  have HPL := Lib.hid hpl
  have hpp : ((p : Int) % 65536).toNat = p := by omega
  have HPP := Lib.hid hpp
  clear hp hpl hpp
  go_enter Tryd.func4, Tryd.ntmps4
  go_wp2_with fail
  refine (awake_c w HT.out).mono ?_
  rintro e w1 ⟨rfl, hb1⟩
  have HW1 := Lib.hid hb1
  clear hb1
  go_wp2_with fail
  refine (new1_c w w1 (p : Int) HW1.out).mono ?_
  rintro e w2 ⟨x, rfl, hx, _, _⟩
  rw [HPP.out] at hx
  have HX := Lib.hid hx
  clear hx HW1 hf1
  go_wp2_with fail
  refine (new1_c w w2 0 HX.out.below).mono ?_
  rintro e w3 ⟨y, rfl, hy, hy2, hb3⟩
  have HA := Lib.hid (apart_new HX.out hy2)
  have S0 : OnSt w x y p [] 0 (.slice none 0 0) (.slice none 0 0) w3 := ⟨⟨LS.new p, HX.out.go hb3, Ran.new HPL.out, fun n hn => by cases hn⟩, ⟨LS.new 0, hy, BInv.new p 0⟩, ⟨0, [], World.ownsRow_nil _ _ _ _, by omega, fun j u hu => by simp at hu⟩, ⟨[], World.ownsRow_nil _ _ _ _, fun j bs h => by simp at h⟩, fun q h => by cases h⟩
  clear hy hy2 hb3 HX
  go_wp2_with fail
  go_loopg [10, 11, 12, 13, 14] 400 (fun gg s10 s11 s12 s13 s14 wr => ∃ (i at_ told : Nat) (bss : List (List Nat)), i + gg = 400 ∧ i ≤ len2 ∧ at_ ≤ i ∧ bss.length ≤ at_ ∧ s14 = .int .i64 (i : Int) ∧ s13 = .int .i64 (at_ : Int) ∧ s12 = .int .i64 (told : Int) ∧ OnSt w x y p bss told s10 s11 wr)
  case atStart => exact ⟨0, 0, 0, [], rfl, Nat.zero_le _, Nat.le_refl _, Nat.le_refl _, rfl, rfl, rfl, S0⟩
  case round =>
    obtain ⟨i, at_, told, bss, hig, hil, hat, hbl, rfl, rfl, rfl, hS⟩ := hrel
    have HS := Lib.hid hS
    clear hS S0
    rcases Nat.lt_or_ge i len2 with hlt | hge
    · cases gk with
      | zero =>
        obtain rfl : i = 400 := by omega
        have hd1 : decide (((400 : Nat) : Int) < (len2 : Int)) = true := by simp; omega
        have hd2 : decide (((400 : Nat) : Int) < 400) = false := by decide
        have hd3 : decide (400 < len2) = true := by simp; omega
        go_wp2_with fail
        go_ret
        exact ⟨rfl, HS.out.below⟩
      | succ gk =>
        have hd1 : decide (i < len2) = true := by simp; omega
        have hd2 : decide ((i : Int) < 400) = true := by simp; omega
        obtain ⟨bb, oo, hA3, hbb, hcell⟩ := H3.out.spot hlt
        subst hA3
        have hzl : i < zs.length := by have := H3.out.1; simp [Ints] at this; omega
        have hz : (Ints zs)[i]? = some (.int .i64 zs[i]) := by simp [Ints, hzl]
        rw [hz] at hcell
        have hc3 : wr.cell? ⟨bb, oo + i, none⟩ = some (.int .i64 zs[i]) := (HS.out.below.cell (p := ⟨bb, oo + i, none⟩) hbb).trans hcell
        have hzr := wf_range (HWf.out _ (List.getElem_mem hzl))
        generalize zs[i] = z at *
        have e3 : bits .and .i64 z 3 = z % 4 := i64_and3 z
        have e7 : bits .and .i64 z 7 = z % 8 := i64_and7 z
        have HZr := Lib.hid hzr
        clear hzr
        have hi0' : (0 : Int) ≤ (i : Int) := by omega
        have hi2' : (i : Int) < (len2 : Int) := by omega
        have hi3' : (i : Int) < 400 := by omega
        clear hcell hz hzl
        by_cases hA : z % 4 = 0 ∧ at_ < len1
        · obtain ⟨hA1, hA2⟩ := hA
          have q1 : (z % 4 == 0) = true := by simpa using hA1
          have q2 : decide (at_ < len1) = true := by simpa using hA2
          obtain ⟨mb, mo, hm1, hmb, hmat⟩ := HR.out.at_ (by omega)
          subst hm1
          have hMl : at_ < M.length := by rw [HR.out.size]; exact hA2
          obtain ⟨A, c, hmc, hmsl⟩ := hmat at_ M[at_] (List.getElem?_eq_getElem hMl)
          obtain ⟨hby, _⟩ := HR.out.byte M[at_] (List.getElem_mem hMl)
          generalize M[at_] = b at *
          have hmc1 : wr.cell? ⟨mb, mo + at_, none⟩ = some (.slice A b.length c) := (HS.out.below.cell (p := ⟨mb, mo + at_, none⟩) hmb).trans hmc
          have hm0 : (0 : Int) ≤ (at_ : Int) := by omega
          have hm1 : (at_ : Int) < (len1 : Int) := by omega
          have hm2 : (at_ : Int) < 400 := by omega
          obtain ⟨sa, hxa, hran, hain⟩ := HS.out.ax
          have HMsl := Lib.hid hmsl
          have HMc := Lib.hid hmc
          have HMb := Lib.hid hmb
          have HBy := Lib.hid hby
          have HXa := Lib.hid hxa
          have HRan := Lib.hid hran
          have HAi := Lib.hid hain
          clear hmat hMl hmc hmsl hby hxa hran hain hmb hA1
          go_wp2_with fail
          refine (send1_c _ b HXa.out (HMsl.out.below HXa.out.below) (HT.out.below HXa.out.below) HBy.out).mono ?_
          rintro e w4 (⟨h1, rfl, rfl⟩ | ⟨h1, v3, gs, rfl, h2, h3, h4, h5⟩)
          · clear h1
            go_wp2_with fail
            go_roundg gk
            case measure => omega
            case rel => exact ⟨i + 1, at_ + 1, told, bss, by omega, by omega, by omega, by omega, by go_num, by go_num, rfl, HS.out⟩
          · have hS5 : ∀ i, i = x.g ∨ i = x.a → S3 x.g x.a x.p i := fun i h => h.elim .inl (fun e => .inr (.inl e))
            obtain ⟨sb, hyb, hbi⟩ := HS.out.by_
            have HYb := Lib.hid (hyb.other HXa.out HA.out h5 hS5)
            have hall4 := HS.out.all.keep HXa.out.at_ h5 hS5
            obtain ⟨vs1, hs1, hs2⟩ := HS.out.sent.own
            have hs1l := hs1.1
            have hs14 := keep_row HXa.out.at_ h5 hS5 hs1 (by decide)
            have hold : ∀ q, u11.ownBlock = some q → q < wr.heap.size := fun q hq => (hs1.lt q hq).2
            have hold10 : ∀ q, u10.ownBlock = some q → q < wr.heap.size := fun q hq => by obtain ⟨n, vs, ho, _⟩ := HS.out.all.own; exact (ho.lt q hq).2
            obtain ⟨r3, c3', hv3, _, _⟩ := h2.form (by have := many_pos b.length; omega)
            subst hv3
            have hc4 : w4.cell? ⟨mb, mo + at_, none⟩ = some (.slice A b.length c) := (h4.below.cell (p := ⟨mb, mo + at_, none⟩) HMb.out).trans HMc.out
            have HE4 := Lib.hid (And.intro h4 (And.intro hall4 (And.intro hs14 (And.intro h2 (And.intro h3 h1)))))
            have HO := Lib.hid (And.intro hold hold10)
            have HBi := Lib.hid hbi
            have HS2 := Lib.hid hs2
            have HVl : Hid (vs1.length = bss.length) := by have := hs1l; show vs1.length = bss.length; omega
            have hsz4 := h5.size
            have HNe := Lib.hid HS.out.ne
            clear h1 h2 h3 h4 h5 hS5 hyb hbi hall4 hs1 hs2 hs14 hold hold10 hmc1 hs1l HS
            go_wp2_with (at_builtin; refine wpList_append_own_at _ rfl (.tmp 84) (.tmp 89) 29 rfl w.heap.size 36 i0 (.slice none 0 0) 1 24 Tryd.underlying29 hi0 hz0 hz1 hz2 rfl (by decide) _ _ _ rfl (HE4.out.2.2.1.alloc _) ⟨w4.heap.size, 0, none⟩ 1 1 [.slice A b.length c] rfl rfl (cell_one_new _ _ _) ?c2 ?c3 ?c4 ?c5 ?_)
            case c2 => intro u hu; simp at hu; subst hu; rfl
            case c3 => unfold maxLen; omega
            case c4 => omega
            case c5 => have := HE4.out.1.below.size; simp; omega
            intro v9 w9 hown9 hgr9 _ hbk9
            have hfr9 : Fr (fun q => u11.ownBlock = some q) w4 w9 := (Fr.alloc (S := fun q => u11.ownBlock = some q) w4 _).trans (Fr.of_grown hgr9 fun _ _ he => he) (fun _ _ h => h)
            have hb9 : Below w.heap.size w w9 := below_kept HE4.out.1.below HE4.out.1.below.size hgr9 (fun q hq => (HE4.out.2.2.1.lt q hq).1)
            have hx9 : One w w9 x sa.sendS := ⟨one_fr HE4.out.1.at_ HE4.out.2.2.1 hfr9, HE4.out.1.ok, HE4.out.1.zero, HE4.out.1.fr, hb9⟩
            have hy9 : One w w9 y sb := ⟨one_fr HYb.out.at_ HE4.out.2.2.1 hfr9, HYb.out.ok, HYb.out.zero, HYb.out.fr, hb9⟩
            have hsr9 : SRow w w.heap.size w9 v9 (bss ++ [b]) := SRow.add HVl.out HS2.out hown9 HMsl.out
            obtain ⟨n10, vs10, ho10, hn10, hd10⟩ := HE4.out.2.1.own
            have ho10' := ownsRow_fr ho10 hfr9 (fun q hq e => HNe.out q hq e)
            have hd10' : ∀ (j : Nat) (u : Value), vs10[j]? = some u → Dg1 p bss w9 u := fun j u hu => by
              obtain ⟨g, d, a1, a2, a3⟩ := hd10 j u hu
              exact ⟨g, d, a1, a2.fr hfr9 (own_ne_blk HE4.out.2.2.1 a2 (by decide)), a3⟩
            have hr39 := ownsRow_fr HE4.out.2.2.2.1 hfr9 (fun q hq e => by
              have := (HE4.out.2.2.2.1.lt q hq).1
              have := HO.out.1 q e
              omega)
            have hrs9 := HE4.out.2.2.2.2.1.fr hfr9 (fun q cs hq _ => own_ne_blk HE4.out.2.2.1 hq (by decide))
            have hne9 : ∀ q, u10.ownBlock = some q → v9.ownBlock ≠ some q := fun q hq e => by
              rcases hbk9 with h | h
              · exact HNe.out q hq (h ▸ e)
              · have h9 := HO.out.2 q hq
                rw [h] at e
                simp at e
                omega
            have hv9l : ∀ q, v9.ownBlock = some q → q < w9.heap.size := fun q hq => (hown9.lt q hq).2
            obtain ⟨cA10, cc10, hv10⟩ : ∃ A c, u10 = .slice A n10 c := own_slice ho10
            subst hv10
            obtain ⟨cA9, cc9, hv9e⟩ : ∃ A c, v9 = .slice A (bss.length + 1) c := own_slice hown9
            have hmn := many_le HE4.out.2.2.2.2.2
            have HE9 := Lib.hid (And.intro hx9 (And.intro hy9 (And.intro hsr9 (And.intro ho10' (And.intro hd10' (And.intro hr39 (And.intro hrs9 (And.intro hne9 hv9l))))))))
            have HSh := Lib.hid HE4.out.2.2.2.2.2
            have hrl : (rowV gs (dgrams sa b (manyN b.length))).length = manyN b.length := by rw [rowV_len hrs9.len, dgrams_len]
            have HRl := Lib.hid hrl
            clear hown9 hgr9 hbk9 hfr9 hb9 hx9 hy9 hsr9 ho10 hd10 ho10' hd10' hr39 hrs9 hne9 hv9l HE4 HYb hv9e hrl hc4
            go_wp2_with (at_builtin; refine wpList_append_own_at _ rfl (.tmp 91) (.tmp 92) 29 rfl w.heap.size 36 i0 (.slice none 0 0) 1 24 Tryd.underlying29 hi0 hz0 hz1 hz2 rfl (by decide) _ n10 vs10 rfl HE9.out.2.2.2.1 ⟨r3, 0, none⟩ (manyN b.length) c3' (rowV gs (dgrams sa b (manyN b.length))) rfl ?d0 ?d1 ?d2 ?d3 ?d4 ?d5 ?_)
            case d0 => rw [HRl.out]; omega
            case d1 => exact HE9.out.2.2.2.2.2.1.cells (g := r3) rfl
            case d2 => exact rowV_one gs _
            case d3 => unfold maxLen; omega
            case d4 => omega
            case d5 => exact HE9.out.1.below.size
            intro v12 w12 hown12 hgr12 _ hbk12
            have hfr12 : Fr (fun q => (Value.slice cA10 n10 cc10).ownBlock = some q) w9 w12 := Fr.of_grown hgr12 (fun _ _ he => he)
            have hb12 : Below w.heap.size w w12 := Fr.base HE9.out.1.below hfr12 (fun q hq => (HE9.out.2.2.2.1.lt q hq).1)
            have HF : Hid (OnSt w x y p (bss ++ [b]) told v12 v9 w12) := by
              obtain ⟨vsS, hsS, hsS2⟩ := HE9.out.2.2.1.own
              refine ⟨⟨sa.sendS, ⟨one_fr HE9.out.1.at_ HE9.out.2.2.2.1 hfr12, HE9.out.1.ok, HE9.out.1.zero, HE9.out.1.fr, hb12⟩, ?_, HAi.out.send⟩, ⟨sb, ⟨one_fr HE9.out.2.1.at_ HE9.out.2.2.2.1 hfr12, HE9.out.2.1.ok, HE9.out.2.1.zero, HE9.out.2.1.fr, hb12⟩, HBi.out.more b⟩, ⟨n10 + manyN b.length, _, hown12, ?_, ?_⟩, ⟨vsS, ?_, hsS2⟩, ?_⟩
              · rw [List.length_append]; exact HRan.out.send
              · rw [List.length_append]; simp; omega
              · intro j u hu
                by_cases hj : j < vs10.length
                · rw [List.getElem?_append_left hj] at hu
                  obtain ⟨g, d, a1, a2, a3, a4, a5⟩ := HE9.out.2.2.2.2.1 j u hu
                  exact ⟨g, d, a1, a2.fr hfr12 (own_ne_blk HE9.out.2.2.2.1 a2 (by decide)), a3.more b, a4, a5⟩
                · rw [List.getElem?_append_right (by omega)] at hu
                  exact Dg1.of_row HRan.out HXa.out.zero HXa.out.ok rfl HSh.out HBy.out (HE9.out.2.2.2.2.2.2.1.fr hfr12 (fun q cs hq _ => own_ne_blk HE9.out.2.2.2.1 hq (by decide))) _ u hu
              · exact ownsRow_fr hsS hfr12 (fun q hq e => HE9.out.2.2.2.2.2.2.2.1 q e hq)
              · intro q hq e
                rcases hbk12 with h | h
                · exact HE9.out.2.2.2.2.2.2.2.1 q (h ▸ hq) e
                · rw [h] at hq
                  have := HE9.out.2.2.2.2.2.2.2.2 q e
                  injection hq with hq
                  omega
            clear hown12 hgr12 hbk12 hfr12 hb12 HE9
            go_wp2_with fail
            go_roundg gk
            case measure => omega
            case rel => exact ⟨i + 1, at_ + 1, told, bss ++ [b], by omega, by omega, by omega, by rw [List.length_append]; simp; omega, by go_num, by go_num, rfl, HF.out⟩
        · go_upto_region 15 with (fail)
          go_cut [62] (fun s62 wx => s62 = .bool false ∧ wr = wx)
          case first =>
            by_cases hz4 : z % 4 = 0
            · have q1 : (z % 4 == 0) = true := by simpa using hz4
              have q2 : decide (at_ < len1) = false := by simp; exact Nat.le_of_not_lt fun h => hA ⟨hz4, h⟩
              clear hA hz4
              go_wp2_with fail
              go_meet
              exact ⟨rfl, rfl⟩
            · have q1 : (z % 4 == 0) = false := by simpa using hz4
              clear hA hz4
              go_wp2_with fail
              go_meet
              exact ⟨rfl, rfl⟩
          case rest =>
            obtain ⟨rfl, rfl⟩ := hcut
            clear hA e3
            by_cases hB : z % 8 = 2
            · have q1 : (z % 8 == 2) = true := by simpa using hB
              clear hB
              obtain ⟨sa, hxa, hran, hain⟩ := HS.out.ax
              obtain ⟨sb, hyb, hbi⟩ := HS.out.by_
              have HXa := Lib.hid hxa
              have HYb := Lib.hid hyb
              have HRan := Lib.hid hran
              have HAi := Lib.hid hain
              have HBi := Lib.hid hbi
              clear hxa hyb hran hain hbi
              go_wp2_with fail
              refine (send1_c _ [] HYb.out (SlB.nil _) (HT.out.below HYb.out.below) (by simp)).mono ?_
              rintro e w4 (⟨h1, _, _⟩ | ⟨h1, v3, gs, rfl, h2, h3, h4, h5⟩)
              · simp at h1
              have hS5 : ∀ i, i = y.g ∨ i = y.a → S3 y.g y.a y.p i := fun i h => h.elim .inl (fun e => .inr (.inl e))
              have HX4 := Lib.hid (HXa.out.other HYb.out HA.out.symm h5 hS5)
              have HAl4 := Lib.hid (HS.out.all.keep HYb.out.at_ h5 hS5)
              have HSe4 := Lib.hid (HS.out.sent.keep HYb.out.at_ h5 hS5)
              have HNe := Lib.hid HS.out.ne
              have hm1 : manyN ([] : List Nat).length = 1 := rfl
              rw [hm1] at h2 h3
              obtain ⟨g3, r3, c3', hv3, hc4, hsl4, hrest⟩ := row_at h2 h3 (j := 0) (d := dgram sb [] 0) rfl
              clear hrest
              subst hv3
              have HY4 := Lib.hid h4
              have HSl4 := Lib.hid hsl4
              have hdec := dec_dgram (s := sb) (b := []) HYb.out.zero (by simp) 0 (by decide)
              have HAi5 := Lib.hid (HAi.out.recv (k := bss.length) HRan.out (by omega) HBi.out.le hdec HBi.out.so HBi.out.la)
              have HDB := Lib.hid (dgram_lt (s := sb) (b := []) HYb.out.ok (by simp) (by simp) (i := 0) (by decide))
              have HDL := Lib.hid (dgram_le sb [] 0)
              have HRan5 := Lib.hid (HRan.out.recv (dgram sb [] 0))
              generalize hdd : dgram sb [] 0 = dd at *
              have HDd := Lib.hid hdd
              obtain ⟨dl, hdl⟩ : ∃ dl, dl = dd.length := ⟨_, rfl⟩
              rw [← hdl] at hc4 HSl4
              have HDl := Lib.hid hdl
              clear h1 h2 h3 h4 h5 hS5 hm1 hsl4 hdec hdl hdd HXa HYb HS HAi HRan hc3 e7 q1 hl1 hl2
              go_wp2_with fail
              refine (recv1_c _ dd HX4.out HSl4.out (HT.out.below HX4.out.below) (by have := HDL.out; omega) HDB.out).mono ?_
              rintro e w5 ⟨hx5, hf5, h9⟩
              have HY5 := Lib.hid (HY4.out.other HX4.out HA.out hf5 (fun _ h => h))
              have HAl5 := Lib.hid (HAl4.out.keep HX4.out.at_ hf5 (fun _ h => h))
              have HSe5 := Lib.hid (HSe4.out.keep HX4.out.at_ hf5 (fun _ h => h))
              have HX5 := Lib.hid hx5
              have S5 : Hid (OnSt w x y p bss told u10 u11 w5) := ⟨⟨_, HX5.out, HRan5.out, HAi5.out⟩, ⟨_, HY5.out, HBi.out.send⟩, HAl5.out, HSe5.out, HNe.out⟩
              have hsS : (dd, sb) = (dd, sb) := rfl
              clear hsS hx5 hf5 HY4 HX4 HAl4 HSe4 HSl4 hc4 HY5 HAl5 HSe5
              have hcon : ∃ v9, e = .returned v9 := by
                rcases h9 with ⟨m, v, _, _, h, _⟩ | ⟨_, h⟩
                · exact ⟨_, h⟩
                · exact ⟨_, h⟩
              obtain ⟨v9, rfl⟩ := hcon
              clear h9
              go_wp2_with fail
              refine (acked_c HX5.out.at_ HX5.out.ok).mono ?_
              rintro e w6 ⟨vl, rfl, ho6, hb6⟩
              have S6 := S5.out.go hb6
              have hmem : ∀ n ∈ ((S5s sa dd).acked), ∃ q, q < told ∧ n = (p + q) % 65536 := fun n hn => HAi5.out n (acked_mem hn)
              have hlen6 : (S5s sa dd).acked.length ≤ 64 := by have := ackTo_len (S5s sa dd) (S5s sa dd).sent; have := HX5.out.ok.sent; unfold LS.acked; show (ackTo (S5s sa dd) (S5s sa dd).sent).length ≤ 64; have h8 : (S5s sa dd).sent ≤ 64 := HX5.out.ok.sent; omega
              have ho6' : w6.ownsRow w5.heap.size 3 1 vl (S5s sa dd).acked.length (I64s (S5s sa dd).acked) := ho6
              clear ho6
              generalize (S5s sa dd).acked = l at *
              obtain ⟨lA, lc, rfl⟩ : ∃ A c, vl = .slice A l.length c := own_slice ho6'
              have HS6 := Lib.hid S6
              have HO6 := Lib.hid ho6'
              have HMem := Lib.hid hmem
              obtain ⟨sb6, hyb6, hbi6⟩ := S6.by_
              have HYb6 := Lib.hid hyb6
              have HBi6 := Lib.hid hbi6
              clear S6 ho6' hmem hyb6 hbi6 hb6 S5 HX5 HAi5
              go_wp2_with fail
              refine (last_c HYb6.out.at_ HYb6.out.ok.la).mono ?_
              rintro e w7 ⟨rfl, nn, rfl⟩
              have HS7 := Lib.hid (HS6.out.go (below_drew1 w6 nn))
              have HO7 : Hid ((w6.drewN nn).ownsRow w5.heap.size 3 1 (.slice lA l.length lc) l.length (I64s l)) := HO6.out
              have hso6 := HBi6.out.so
              have hla6 := HBi6.out.la
              have hle6 := HBi6.out.le
              generalize sb6.so = so6 at *
              generalize sb6.la = la6 at *
              have HLa6 := Lib.hid hla6
              have HSo6 := Lib.hid hso6
              clear hso6 hla6 HS6 HO6 HYb6 HBi6
              generalize w6.drewN nn = w7 at *
              go_wp2_with fail
              go_loopg [25] l.length (fun gg s25 wz => ∃ j : Nat, j + gg = l.length ∧ s25 = .int .i64 (j : Int) ∧ wz = w7)
              case atStart => exact ⟨0, by omega, rfl, rfl⟩
              case round =>
                obtain ⟨j, hjg, rfl, rfl⟩ := hrel
                cases gk with
                | zero =>
                  obtain rfl : j = l.length := by omega
                  have hdj : decide (l.length < l.length) = false := by simp
                  go_wp2_with fail
                  go_roundg gk
                  case measure => omega
                  case rel => exact ⟨i + 1, at_, told, bss, by omega, by omega, by omega, by omega, by go_num, rfl, rfl, HS7.out⟩
                | succ gk2 =>
                  have hjl : j < l.length := by omega
                  have hdj : decide (j < l.length) = true := by simpa using hjl
                  obtain ⟨qn, hqn, hqe⟩ := HMem.out l[j] (List.getElem_mem hjl)
                  obtain ⟨r8, c8, e8, hc8⟩ := row_cell HO7.out (j := j) (x := l[j]) (List.getElem?_eq_getElem hjl)
                  injection e8 with e8 _ e8c
                  subst e8 e8c
                  have hso : so6 = true := by rw [HSo6.out]; simp; omega
                  have hla : la6 = (p + (told - 1)) % 65536 := HLa6.out (by omega)
                  subst hso
                  generalize l[j] = lj at *
                  have hj0 : (0 : Int) ≤ (j : Int) := by omega
                  have hj1 : (j : Int) < (l.length : Int) := by omega
                  by_cases heq : lj = la6
                  · have q9 : ((lj : Int) != (la6 : Int)) = false := by simp [heq]
                    clear heq hqe hla
                    go_wp2_with fail
                    go_roundg gk2
                    case measure => omega
                    case rel => exact ⟨j + 1, by omega, by go_num, rfl⟩
                  · have q9 : ((lj : Int) != (la6 : Int)) = true := by simp; omega
                    have hnw : newerN ((la6 : Int) % 65536).toNat ((lj : Int) % 65536).toNat = true := by
                      have e1 : ((la6 : Int) % 65536).toNat = (p + (told - 1)) % 65536 := by omega
                      have e2 : ((lj : Int) % 65536).toNat = (p + qn) % 65536 := by omega
                      rw [e1, e2, newer_lt (by omega) (by omega)]
                      simp only [decide_eq_true_eq]
                      rcases Nat.lt_or_ge qn (told - 1) with h | h
                      · exact h
                      · exfalso
                        have : qn = told - 1 := by omega
                        subst this
                        exact heq (by omega)
                    have HNw := Lib.hid hnw
                    clear heq hqe hla hnw
                    go_wp2_with fail
                    refine (bnewer_c (la6 : Int) (lj : Int) _).mono ?_
                    rintro e w8 ⟨rfl, rfl⟩
                    rw [HNw.out]
                    go_wp2_with fail
                    go_roundg gk2
                    case measure => omega
                    case rel => exact ⟨j + 1, by omega, by go_num, rfl⟩
            · have q1 : (z % 8 == 2) = false := by simpa using hB
              clear hB
              obtain ⟨n10, vs10, ho10, hn10, hd10⟩ := HS.out.all.own
              obtain ⟨cA10, cc10, hv10⟩ : ∃ A c, u10 = .slice A n10 c := own_slice ho10
              subst hv10
              rcases Nat.eq_zero_or_pos n10 with h0 | h0
              · subst h0
                clear ho10 hd10 hn10
                go_wp2_with fail
                go_roundg gk
                case measure => omega
                case rel => exact ⟨i + 1, at_, told, bss, by omega, by omega, by omega, by omega, by go_num, rfl, rfl, HS.out⟩
              · obtain ⟨r10, c10', hv2, _, _⟩ := ho10.form h0
                injection hv2 with hv2 _ hv3
                subst hv2 hv3
                have hvl : vs10.length = n10 := by have := ho10.1; omega
                have hd0 : decide ((0 : Int) < (n10 : Int)) = true := by simp; omega
                have hd0' : decide (0 < n10) = true := by simpa using h0
                obtain ⟨m12, hm12⟩ : ∃ m, m = (z / 8 % 4096).toNat := ⟨_, rfl⟩
                have e12 : bits .and .i64 (z / 8) 4095 = (m12 : Int) := by rw [i64_and12]; omega
                obtain ⟨kk, hkk⟩ : ∃ kk, kk = m12 % n10 := ⟨_, rfl⟩
                have hkl : kk < n10 := by rw [hkk]; exact Nat.mod_lt _ h0
                have hk0 : (0 : Int) ≤ (kk : Int) := by omega
                have hk1 : (kk : Int) < (n10 : Int) := by omega
                have hne : ¬ (n10 : Int) = 0 := by omega
                have hne2 : ((n10 : Int) == 0) = false := beq_eq_false_iff_ne.2 (by omega)
                have hkv : kk < vs10.length := by omega
                obtain ⟨gd, d, hud, hbd, hisd, hdby, hdl⟩ := hd10 kk vs10[kk] (List.getElem?_eq_getElem hkv)
                have hcd : wr.cell? ⟨r10, kk, none⟩ = some (.slice (some ⟨gd, 0, none⟩) d.length d.length) := by
                  have := ho10.cells (g := r10) rfl kk vs10[kk] (List.getElem?_eq_getElem hkv)
                  rw [addr0, hud] at this
                  exact this
                have hsd : SlB wr (.slice (some ⟨gd, 0, none⟩) d.length d.length) d := U8s_reads (ys := []) (t := 5) (by rw [List.append_nil]; exact hbd) rfl (Nat.le_refl _)
                have e13 : (m12 : Int).tmod (n10 : Int) = (kk : Int) := by rw [hkk]; rfl
                have e14 : (m12 : Int) % (n10 : Int) = (kk : Int) := by rw [hkk]; rfl
                obtain ⟨sa, hxa, hran, hain⟩ := HS.out.ax
                obtain ⟨sb, hyb, hbi⟩ := HS.out.by_
                have hans := hbi.recv hyb.ok hdby hisd (by omega)
                have HAns := Lib.hid hans
                have HXa := Lib.hid hxa
                have HYb := Lib.hid hyb
                have HRan := Lib.hid hran
                have HAi := Lib.hid hain
                have HSd := Lib.hid hsd
                have HDby := Lib.hid hdby
                have HHm := Lib.hid (And.intro hm12 hkk)
                have h10l : n10 ≤ 4000 := by omega
                clear hm12 hkk ho10 hd10 hn10 hvl hkv hud hbd hisd hdby hsd hxa hyb hran hain hbi hans
                obtain ⟨dl, hdl2⟩ : ∃ dl, dl = d.length := ⟨_, rfl⟩
                rw [← hdl2] at hcd HSd hdl
                have HDl := Lib.hid hdl2
                clear hdl2
                go_wp2_with fail
                refine (recv1_c _ d HYb.out HSd.out (HT.out.below HYb.out.below) (by rw [← HDl.out]; omega) HDby.out).mono ?_
                rintro e w5 ⟨hy5, hf5, h9⟩
                have HX5 := Lib.hid (HXa.out.other HYb.out HA.out.symm hf5 (fun _ h => h))
                have HAl5 := Lib.hid (HS.out.all.keep HYb.out.at_ hf5 (fun _ h => h))
                have HSe5 := Lib.hid (HS.out.sent.keep HYb.out.at_ hf5 (fun _ h => h))
                have HNe := Lib.hid HS.out.ne
                have HY5 := Lib.hid hy5
                clear hy5 hf5 HSd hcd e12 e13 e14 hc3 e7 q1 HXa HYb HS
                rcases HAns.out with ⟨hm, hb⟩ | ⟨i2, bs2, hti, hi2, hm, hb, hla⟩
                · rcases h9 with ⟨m, v5, h1, _⟩ | ⟨h1, rfl⟩
                  · rw [hm] at h1; cases h1
                  · have HF : Hid (OnSt w x y p bss told (.slice (some ⟨r10, 0, none⟩) n10 cc10) u11 w5) := ⟨⟨sa, HX5.out, HRan.out, HAi.out⟩, ⟨_, HY5.out, hb⟩, HAl5.out, HSe5.out, HNe.out⟩
                    clear hm hb h1 HAns HY5 HX5
                    go_wp2_with fail
                    go_roundg gk
                    case measure => omega
                    case rel => exact ⟨i + 1, at_, told, bss, by omega, by omega, by omega, by omega, by go_num, rfl, rfl, HF.out⟩
                · rcases h9 with ⟨m, v5, h1, _, rfl, ho5⟩ | ⟨h1, _⟩
                  · rw [hm] at h1
                    injection h1 with h1
                    subst h1
                    have HF : Hid (OnSt w x y p bss (i2 + 1) (.slice (some ⟨r10, 0, none⟩) n10 cc10) u11 w5) := ⟨⟨sa, HX5.out, HRan.out, HAi.out.mono (by omega)⟩, ⟨_, HY5.out, hb⟩, HAl5.out, HSe5.out, HNe.out⟩
                    have hi2l := (List.getElem?_eq_some_iff.1 hi2).1
                    have HV5 := Lib.hid ho5.sl
                    have HLa := Lib.hid hla
                    have HI2 := Lib.hid hi2
                    clear hm hb HAns HX5 ho5 hla hi2
                    go_wp2_with fail
                    refine (last_c HY5.out.at_ HY5.out.ok.la).mono ?_
                    rintro e w6 ⟨rfl, nn, rfl⟩
                    rw [HLa.out]
                    have HF6 := Lib.hid (HF.out.go (below_drew1 w5 nn))
                    have HV6 := Lib.hid (HV5.out.draw nn)
                    generalize (sb.recv d).st.so = so6 at *
                    obtain ⟨n6, hn6⟩ : ∃ n6, n6 = (p + i2) % 65536 := ⟨_, rfl⟩
                    rw [← hn6]
                    have HN6 := Lib.hid hn6
                    clear hn6
                    have HNum : Hid (Calls Tryd.prog 23 #[u11, v5, .int .i64 (told : Int), .int .i64 (n6 : Int), .int .i64 (p : Int)] (w5.drewN nn) fun e w' => e = .returned (.int .i64 (i2 : Int)) ∧ ∃ q, w' = (w5.drewN nn).drewN q) := by
                      have h7 := number_c w (w5.drewN nn) w.heap.size u11 v5 bss bs2 told i2 p HF6.out.sent HF6.out.below HV6.out HI2.out hti (by omega) HPL.out
                      rw [← HN6.out] at h7
                      exact h7
                    generalize w5.drewN nn = w6 at *
                    clear HF HV5 HY5 HV6
                    go_wp2_with fail
                    refine HNum.out.mono ?_
                    rintro e w7 ⟨rfl, q, hw7⟩
                    have HF7 : Hid (OnSt w x y p bss (i2 + 1) (.slice (some ⟨r10, 0, none⟩) n10 cc10) u11 w7) := by rw [hw7]; exact HF6.out.go (below_drew1 w6 q)
                    clear hw7 HNum HF6
                    have hd8 : decide ((i2 : Int) < 0) = false := by simp
                    go_wp2_with fail
                    go_roundg gk
                    case measure => omega
                    case rel => exact ⟨i + 1, at_, i2 + 1, bss, by omega, by omega, by omega, by omega, by go_num, rfl, by go_num, HF7.out⟩
                  · rw [hm] at h1; cases h1
    · obtain rfl : i = len2 := by omega
      have hd1 : decide (i < i) = false := by simp
      go_wp2_with fail
      go_ret
      exact ⟨rfl, HS.out.below⟩

end Go.Proofs.YtmlbhlfjaagcaaaDoor

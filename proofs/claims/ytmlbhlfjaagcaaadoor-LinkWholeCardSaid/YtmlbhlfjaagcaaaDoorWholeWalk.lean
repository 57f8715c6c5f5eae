/- The contract of LinkWhole. -/
import Derived.Test.YtmlbhlfjaagcaaaDoorNewerWalk
import Derived.Test.YtmlbhlfjaagcaaaDoorWMath
import Derived.Test.YtmlbhlfjaagcaaaDoorWInts
import Derived.Test.YtmlbhlfjaagcaaaDoorArgs
namespace Go.Proofs.YtmlbhlfjaagcaaaDoor
open Go.RowKit

/-- A row of datagrams that was sent. -/
structure DRow (w : World) (v : Value) (s : LS) (b : List Nat) : Prop where
  row : ∃ base gs B, w.ownsRow base 36 1 v (manyN b.length) (rowV gs (dgrams s b (manyN b.length))) ∧ Rows w B gs (dgrams s b (manyN b.length))
  short : b.length ≤ 2000
section
variable {w w' : World} {v : Value} {s : LS} {b : List Nat}
theorem DRow.go (h : DRow w v s b) (hb : Below w.heap.size w w') : DRow w' v s b := by
  obtain ⟨base, gs, B, h1, h2⟩ := h.row
  exact ⟨⟨base, gs, B, ownsRow_fr (S := fun _ => False) h1 (Fr.of_below hb) (fun _ _ h => h), h2.fr (S := fun _ => False) (Fr.of_below hb) (fun _ _ _ _ h => h)⟩, h.short⟩
theorem DRow.keep {x : Lk} {sx : LS} {S : Nat → Prop} (h : DRow w v s b) (hx : At1 w x sx) (hf : Fr S w w') (hS : ∀ i, S i → S3 x.g x.a x.p i) : DRow w' v s b := by
  obtain ⟨base, gs, B, h1, h2⟩ := h.row
  exact ⟨⟨base, gs, B, keep_row hx hf hS h1 (by decide), keep_rows hx hf hS h2⟩, h.short⟩
theorem DRow.grown {n sz base : Nat} {e : TypeId} {u : Value} {xs : List Value} (h : DRow w v s b) (ho : w.ownsRow base e sz u n xs) (hf : Fr (fun q => u.ownBlock = some q) w w') (h36 : e ≠ 36 := by decide) (h5 : e ≠ 5 := by decide) : DRow w' v s b := by
  obtain ⟨base', gs, B, h1, h2⟩ := h.row
  refine ⟨⟨base', gs, B, ownsRow_fr h1 hf (fun k hk hq => own_ne_own ho h1 h36 k hk hq), h2.fr hf (fun k cs hk _ hq => own_ne_blk ho hk h5 hq)⟩, h.short⟩
theorem DRow.form (h : DRow w v s b) : ∃ r c, v = .slice (some ⟨r, 0, none⟩) (manyN b.length) c := by
  obtain ⟨base, gs, B, h1, h2⟩ := h.row
  obtain ⟨r, c, e, _⟩ := h1.form (by have := many_pos b.length; omega)
  exact ⟨r, c, e⟩
theorem DRow.at_ {r c n : Nat} (h : DRow w (.slice (some ⟨r, 0, none⟩) n c) s b) {i : Nat} (hi : i < manyN b.length) : ∃ g, w.cell? ⟨r, i, none⟩ = some (.slice (some ⟨g, 0, none⟩) (dgram s b i).length (dgram s b i).length) ∧ SlB w (.slice (some ⟨g, 0, none⟩) (dgram s b i).length (dgram s b i).length) (dgram s b i) := by
  obtain ⟨base, gs, B, h1, h2⟩ := h.row
  obtain ⟨g, r', c', e, hc, hs, _⟩ := row_at h1 h2 (j := i) (d := dgram s b i) (by simp [dgrams, hi])
  injection e with e
  injection e with e
  injection e with e
  subst e
  exact ⟨g, hc, hs⟩
end

theorem i64_and10 (n : Int) : bits .and .i64 n 1023 = n % 1024 := by
  have h1 : (BitVec.ofInt 64 1023).toNat = 2 ^ 10 - 1 := by decide
  have key : (BitVec.ofInt 64 n &&& BitVec.ofInt 64 1023).toNat = (n % ((2 ^ 64 : Nat) : Int)).toNat % 2 ^ 10 := by
    rw [BitVec.toNat_and, BitVec.toNat_ofInt, h1, Nat.and_two_pow_sub_one_eq_mod]
  show IntKind.i64.wrap ((BitVec.ofInt 64 n &&& BitVec.ofInt 64 1023).toNat : Nat) = n % 1024
  rw [key, IntKind.wrap_i64]
  omega

/-- The law's state around its loop. -/
structure WhSt (w : World) (y : Lk) (s : LS) (b : List Nat) (vrow vl : Value) (left D : List Nat) (wr : World) : Prop where
  cs : ∃ c, One w wr y c ∧ WInv s.next b left D c
  row : DRow wr vrow s b
  own : OwnI wr w.heap.size vl left

theorem own_alloc {w : World} {base : Nat} {v : Value} {l : List Nat} (h : OwnI w base v l) (o : Obj) : OwnI (w.alloc o) base v l := World.ownsRow.alloc h o
theorem one_sli (w : World) (i : Nat) : SlI (w.alloc (.cells #[.int .i64 (i : Int)] 3)) (.slice (some ⟨w.heap.size, 0, none⟩) 1 1) [i] :=
  ⟨some ⟨w.heap.size, 0, none⟩, 1, rfl, (fun e => nomatch e), fun ad e j y hj => by
    injection e with e
    subst e
    exact cell_one_new w (.int .i64 (i : Int)) 3 j _ (by
      match j, hj with
      | 0, hj => simp at hj; subst hj; rfl)⟩
theorem one_fr2 {w w' : World} {x : Lk} {s : LS} {base n sz : Nat} {e : TypeId} {v : Value} {xs : List Value} (h : At1 w x s) (ho : w.ownsRow base e sz v n xs) (hf : Fr (fun q => v.ownBlock = some q) w w') (h64 : e ≠ 64 := by decide) (h5 : e ≠ 5 := by decide) : At1 w' x s := by
  obtain ⟨m, hm, _⟩ := h.pm
  have hb : ∀ q, v.ownBlock = some q → ∃ cs, Blk w q e cs := by
    intro q hq
    rcases ho.2 with ⟨rfl, _⟩ | ⟨g', cap, cur, rfl, _, hh, _⟩
    · simp [Value.ownBlock] at hq
    · have : g' = q := by simpa [Value.ownBlock] using hq
      subst this
      exact ⟨cur, hh⟩
  refine h.fr hf (fun hq => ?_) (fun hq => ?_) (fun hq => ?_) (fun k cs _ hk hq => ?_)
  · obtain ⟨cs, hc⟩ := hb _ hq; exact hc.ne_ h.blk h64 rfl
  · obtain ⟨cs, hc⟩ := hb _ hq; exact h.am.ne_blk hc rfl
  · obtain ⟨cs, hc⟩ := hb _ hq; exact hm.ne_blk hc rfl
  · obtain ⟨cs', hc⟩ := hb _ hq; exact hc.ne_ hk h5 rfl

set_option maxHeartbeats 16000000 in
set_option maxRecDepth 100000 in
theorem whole_c (f : Int) (A1 A2 A3 : Option Addr) (n1 c1 n2 c2 n3 c3 : Nat) (old b : List Nat) (zs : List Int) (w : World) (ht : Tab w) (h1 : SlB w (.slice A1 n1 c1) old) (hb1 : ∀ q ∈ old, q < 256) (h2 : SlB w (.slice A2 n2 c2) b) (hb2 : ∀ q ∈ b, q < 256) (h3 : Reads w w.heap.size A3 n3 (Ints zs)) (hl2 : n2 ≤ 140737488351232) :
    Calls Tryd.prog 5 #[.int .i64 f, .slice A1 n1 c1, .slice A2 n2 c2, .slice A3 n3 c3] w fun e w' => e = .returned (.bool true) ∧ Below w.heap.size w w' := by
  have hn2 : n2 = b.length := by obtain ⟨_, _, e, _⟩ := h2; injection e
  have HT := Lib.hid ht
  have H1 := Lib.hid h1
  have H2 := Lib.hid h2
  have H3 := Lib.hid h3
  have HB1 := Lib.hid hb1
  have HB2 := Lib.hid hb2
  have HN2 := Lib.hid hn2
  clear ht h1 h2 h3 hb1 hb2 hn2
  obtain ⟨p, hp⟩ : ∃ p : Nat, p = (f % 65536).toNat := ⟨_, rfl⟩
  have HP := Lib.hid hp
  clear hp
  go_enter Tryd.func5, Tryd.ntmps5
  go_wp2_with fail
  refine (awake_c w HT.out).mono ?_
  rintro e w1 ⟨rfl, hb1⟩
  have HW1 := Lib.hid hb1
  clear hb1
  go_wp2_with fail
  refine (new1_c w w1 f HW1.out).mono ?_
  rintro e w2 ⟨x, rfl, hx, _, _⟩
  rw [← HP.out] at hx
  have HX := Lib.hid hx
  clear hx HW1
  go_wp2_with fail
  refine (new1_c w w2 0 HX.out.below).mono ?_
  rintro e w3 ⟨y, rfl, hy, hy2, hb3⟩
  have HY : Hid (One w w3 y (LS.new 0)) := hy
  have HA := Lib.hid (apart_new HX.out hy2)
  have HX3 := Lib.hid (HX.out.go hb3)
  clear hy hy2 hb3 HX
  have hsx : (LS.new p).so = false := rfl
  have HSo := Lib.hid hsx
  have HNx := Lib.hid HX3.out.ok.next
  have HOk0 := Lib.hid HX3.out.ok
  clear hsx
  generalize LS.new p = s0 at *
  go_upto_region 6 with (fail)
  go_cut [12, 14] (fun s12 s14 wx => (s12 = .slice none 0 0 ∧ s14 = .int .i64 2 ∧ One w wx x s0 ∧ One w wx y (LS.new 0)) ∨ (s14 = .int .i64 0 ∧ DRow wx s12 s0 old ∧ One w wx x s0.sendS ∧ One w wx y (LS.new 0)))
  case first =>
    go_wp2_with fail
    refine (send1_c _ old HX3.out (H1.out.below HX3.out.below) (HT.out.below HX3.out.below) HB1.out).mono ?_
    rintro e w4 (⟨h1, rfl, rfl⟩ | ⟨h1, v3, gs, rfl, h2, h3, h4, h5⟩)
    · go_wp2_with fail
      go_meet
      exact .inl ⟨rfl, rfl, HX3.out, HY.out⟩
    · have HE := Lib.hid (And.intro (show DRow w4 v3 s0 old from ⟨⟨_, gs, _, h2, h3⟩, h1⟩) (And.intro h4 (HY.out.other HX3.out HA.out h5 (fun i h => h.elim .inl (fun e => .inr (.inl e))))))
      clear h1 h2 h3 h4 h5
      go_wp2_with fail
      go_meet
      exact .inr ⟨rfl, HE.out⟩
  case rest =>
    clear HX3 HY
    have HC := Lib.hid hcut
    clear hcut
    go_upto_region 7 with (fail)
    go_cut [62] (fun s62 wx => (s62 = .bool false ∧ ∃ sa, One w wx x sa ∧ sa.so = false ∧ One w wx y (LS.new 0)) ∨ (s62 = .bool true ∧ DRow wx u12 s0 old ∧ 1 < manyN old.length ∧ One w wx x s0.sendS ∧ One w wx y (LS.new 0)))
    case first =>
      rcases HC.out with ⟨rfl, rfl, hx, hy⟩ | ⟨rfl, hr, hx, hy⟩
      · have HE := Lib.hid (And.intro hx hy)
        clear hx hy HC
        go_wp2_with fail
        go_meet
        exact .inl ⟨rfl, s0, HE.out.1, HSo.out, HE.out.2⟩
      · obtain ⟨r, cc, rfl⟩ := hr.form
        have HE := Lib.hid (And.intro hr (And.intro hx hy))
        clear hr hx hy HC
        have hmp := many_pos old.length
        rcases Nat.lt_or_ge 1 (manyN old.length) with hm | hm
        · have hd : decide ((1 : Int) < (manyN old.length : Int)) = true := by simp; omega
          go_wp2_with fail
          go_meet
          exact .inr ⟨rfl, HE.out.1, hm, HE.out.2⟩
        · have hd : decide ((1 : Int) < (manyN old.length : Int)) = false := by simp; omega
          go_wp2_with fail
          go_meet
          exact .inl ⟨rfl, s0.sendS, HE.out.2.1, HSo.out, HE.out.2.2⟩
    case rest =>
      have HC2 := Lib.hid hcut
      clear hcut HC
      go_upto_if 62 with (fail)
      go_cut [] (fun wx => ∃ sa c, One w wx x sa ∧ sa.so = false ∧ One w wx y c ∧ Pre sa.next c)
      case first =>
        rcases HC2.out with ⟨rfl, sa, hx, hso, hy⟩ | ⟨rfl, hr, hm, hx, hy⟩
        · have HE := Lib.hid (And.intro hx (And.intro hso hy))
          clear hx hso hy HC2
          go_wp2_with fail
          go_meet
          exact ⟨sa, LS.new 0, HE.out.1, HE.out.2.1, HE.out.2.2, Pre.new _ _⟩
        · obtain ⟨r, cc, rfl⟩ := hr.form
          have hz0 : s0.zero := hx.zero
          have hnx0 : s0.next < 65536 := HNx.out
          obtain ⟨c, hrc, hpre⟩ := Pre.part hnx0 HSo.out hz0 hr.short hm 0
          obtain ⟨g, hcell, hsl⟩ := hr.at_ (i := 0) (by omega)
          have HRow := Lib.hid hr
          have HXx := Lib.hid hx
          have HYy := Lib.hid hy
          have HSl := Lib.hid hsl
          have HRc := Lib.hid hrc
          have HPre := Lib.hid hpre
          have hdl := dgram_le s0 old 0
          have HBy := Lib.hid (dgram_lt (s := s0) HOk0.out HB1.out hr.short (i := 0) (by omega))
          have hmi : (0 : Int) < (manyN old.length : Int) := by omega
          have hmi2 : 0 < manyN old.length := by omega
          generalize (dgram s0 old 0).length = dl at *
          clear hr hx hy hsl hrc hpre HC2 hm
          go_wp2_with fail
          refine (recv1_c _ (dgram s0 old 0) HYy.out HSl.out (HT.out.below HXx.out.below) (by have := dgram_le s0 old 0; omega) HBy.out).mono ?_
          rw [HRc.out]
          rintro e w5 ⟨hy5, hf5, ⟨m, v5, q1, _⟩ | ⟨_, rfl⟩⟩
          · cases q1
          have HE := Lib.hid (And.intro (HXx.out.other HYy.out HA.out.symm hf5 (fun _ h => h)) hy5)
          clear hy5 hf5 HYy HXx HSl HRow hcell
          go_wp2_with fail
          go_meet
          exact ⟨s0.sendS, c, HE.out.1, HSo.out, HE.out.2, HPre.out⟩
      case rest =>
        obtain ⟨sa, c, hx, hso, hy, hpre⟩ := hcut
        have HX := Lib.hid hx
        have HY := Lib.hid hy
        have HSa := Lib.hid hso
        have HPre := Lib.hid hpre
        have hnx := hx.ok.next
        have HNx2 := Lib.hid hnx
        clear hx hy hso hpre hnx HC2
        go_wp2_with fail
        refine (send1_c _ b HX.out (H2.out.below HX.out.below) (HT.out.below HX.out.below) HB2.out).mono ?_
        rintro e w4 (⟨h1, rfl, rfl⟩ | ⟨h1, v3, gs, rfl, h2, h3, h4, h5⟩)
        · have hd : decide ((2000 : Int) < (n2 : Int)) = true := by have := HN2.out; simp; omega
          clear h1
          go_wp2_with fail
          go_ret
          exact ⟨rfl, HX.out.below⟩
        · have HRow := Lib.hid (show DRow w4 v3 sa b from ⟨⟨_, gs, _, h2, h3⟩, h1⟩)
          have HY4 := Lib.hid (HY.out.other HX.out HA.out h5 (fun i h => h.elim .inl (fun e => .inr (.inl e))))
          have hby : ∀ i, i < manyN b.length → ∀ q ∈ dgram sa b i, q < 256 := fun i hi => dgram_lt HX.out.ok HB2.out h1 hi
          have HBy := Lib.hid hby
          have HZa := Lib.hid HX.out.zero
          have HSh := Lib.hid h1
          obtain ⟨r, cc, rfl⟩ := HRow.out.form
          clear h1 h2 h3 h4 h5 hby HX HY
          have hmp := many_pos b.length
          have hml := many_le HSh.out
          have L0 : DRow w4 (.slice (some ⟨r, 0, none⟩) (manyN b.length) cc) sa b ∧ One w w4 y c := ⟨HRow.out, HY4.out⟩
          clear HRow HY4
          obtain ⟨mn, hmn⟩ : ∃ mn, mn = manyN b.length := ⟨_, rfl⟩
          rw [← hmn] at L0 hmp hml
          rw [← hmn]
          have HMn := Lib.hid hmn
          clear hmn
          go_wp2_with fail
          go_loopg [22, 23] mn (fun gg s22 s23 wz => ∃ i : Nat, i + gg = mn ∧ s23 = .int .i64 (i : Int) ∧ OwnI wz w.heap.size s22 (List.range i) ∧ DRow wz (.slice (some ⟨r, 0, none⟩) mn cc) sa b ∧ One w wz y c)
          case atStart => exact ⟨0, by omega, rfl, World.ownsRow_nil _ _ _ _, L0⟩
          case round =>
            obtain ⟨i, hig, rfl, hown, hrow, hy⟩ := hrel
            have HO := Lib.hid hown
            have HR := Lib.hid hrow
            have HY := Lib.hid hy
            clear hown hrow hy L0
            cases gk with
            | succ gk =>
              have hd : decide (i < mn) = true := by simp; omega
              have hlr : (List.range i).length = i := List.length_range
              go_wp2_with (at_builtin; refine wpList_ints rfl (.tmp 99) (.tmp 101) rfl w.heap.size _ _ (List.range i) [i] rfl (own_alloc HO.out _) rfl (one_sli _ i) ?a1 ?a2 ?_)
              case a1 => simp; omega
              case a2 => have := HY.out.below.size; simp; omega
              intro v9 w9 hown9 hgr9
              have hfr9 : Fr (fun q => u22.ownBlock = some q) wr w9 := (Fr.alloc (S := fun q => u22.ownBlock = some q) wr _).trans (Fr.of_grown hgr9 fun _ _ he => he) (fun _ _ h => h)
              have HE : Hid (OwnI w9 w.heap.size v9 (List.range (i + 1)) ∧ DRow w9 (.slice (some ⟨r, 0, none⟩) mn cc) sa b ∧ One w w9 y c) := by
                refine ⟨by rw [List.range_succ]; exact hown9, HR.out.grown HO.out hfr9, ⟨one_fr2 HY.out.at_ HO.out hfr9, HY.out.ok, HY.out.zero, HY.out.fr, below_kept HY.out.below HY.out.below.size hgr9 (fun q hq => (HO.out.lt q hq).1)⟩⟩
              clear hown9 hgr9 hfr9 HO HR HY
              go_wp2_with fail
              go_roundg gk
              case measure => omega
              case rel => exact ⟨i + 1, by omega, by go_num, HE.out⟩
            | zero =>
              obtain rfl : i = mn := by omega
              have hd : decide (i < i) = false := by simp
              have S0 : WhSt w y sa b (.slice (some ⟨r, 0, none⟩) i cc) u22 (List.range i) [] wr := ⟨⟨c, HY.out, by rw [HMn.out]; exact WInv.start HPre.out⟩, HR.out, HO.out⟩
              have hbl0 := HY.out.below
              have HB0 := Lib.hid hbl0
              clear hbl0 HO HR HY
              go_wp2_with fail
              go_loopg [21, 22, 24] i (fun gg s21 s22 s24 wz => ∃ (left D : List Nat) (j : Nat), left.length = gg ∧ j ≤ 1000 ∧ j + gg = i ∧ s24 = .int .i64 (j : Int) ∧ s21 = .int .i64 ((if left = [] then 1 else 0 : Nat) : Int) ∧ WhSt w y sa b (.slice (some ⟨r, 0, none⟩) i cc) s22 left D wz)
              case atStart => exact ⟨List.range i, [], 0, by simp, by omega, by omega, rfl, by rw [if_neg (by intro e; have := congrArg List.length e; simp at this; omega)]; rfl, S0⟩
              case round =>
                obtain ⟨left, D, j, hlen, hj1, hjg, rfl, rfl, hS⟩ := hrel
                have HS := Lib.hid hS
                clear hS S0
                cases gk with
                | zero =>
                  obtain rfl : left = [] := List.eq_nil_of_length_eq_zero hlen
                  obtain ⟨cF, hyF, hI⟩ := HS.out.cs
                  obtain ⟨lA, lc, hv⟩ := own_slice HS.out.own
                  subst hv
                  have hDn := hI.st2 rfl
                  have HF := Lib.hid (And.intro hyF hDn)
                  clear hyF hI hDn
                  go_wp2_with fail
                  refine (last_c HF.out.1.at_ HF.out.1.ok.la).mono ?_
                  rintro e w9 ⟨rfl, nn, rfl⟩
                  rw [HF.out.2.so, HF.out.2.la]
                  go_wp2_with fail
                  go_ret
                  exact ⟨rfl, below_draw HF.out.1.below nn⟩
                | succ gk =>
                  have hlp : 0 < left.length := by omega
                  rw [if_neg (by intro e; rw [e] at hlp; simp at hlp), show ((0 : Nat) : Int) = 0 from rfl]
                  obtain ⟨lA, lc, hv⟩ := own_slice HS.out.own
                  subst hv
                  obtain ⟨q, lc', hv2, _, _⟩ := HS.out.own.form hlp
                  injection hv2 with hv2 _ hv3
                  subst hv2 hv3
                  have hdl : decide ((0 : Int) < (left.length : Int)) = true := by simp; omega
                  have hdl2 : decide (0 < left.length) = true := by simpa using hlp
                  have hll : left.length ≤ 10 := by omega
                  have HLen := Lib.hid hlen
                  clear hlen
                  have hbelr : Below w.heap.size w wr := by obtain ⟨c9, h9, _⟩ := HS.out.cs; exact h9.below
                  have HBr := Lib.hid hbelr
                  clear hbelr
                  go_upto_if 111 with (fail)
                  go_cut [25] (fun s25 wx => ∃ k : Nat, s25 = .int .i64 (k : Int) ∧ k < left.length ∧ wr = wx)
                  case first =>
                    rcases Nat.lt_or_ge j n3 with hjn | hjn
                    · obtain ⟨bb, oo, hA3, hbb, hcell⟩ := H3.out.spot hjn
                      subst hA3
                      have hzl : j < zs.length := by have := H3.out.1; simp [Ints] at this; omega
                      have hz : (Ints zs)[j]? = some (.int .i64 zs[j]) := by simp [Ints, hzl]
                      rw [hz] at hcell
                      have hc3 : wr.cell? ⟨bb, oo + j, none⟩ = some (.int .i64 zs[j]) := (HBr.out.cell (p := ⟨bb, oo + j, none⟩) hbb).trans hcell
                      generalize zs[j] = z at *
                      have hdj : decide (j < n3) = true := by simpa using hjn
                      have e1 : bits .and .i64 z 1023 = (((z % 1024).toNat : Nat) : Int) := by rw [i64_and10]; omega
                      obtain ⟨m10, hm10⟩ : ∃ m, m = (z % 1024).toNat := ⟨_, rfl⟩
                      rw [← hm10] at e1
                      have hm1 : m10 < 1024 := by omega
                      obtain ⟨kk, hkk⟩ : ∃ kk, kk = m10 % left.length := ⟨_, rfl⟩
                      have hkl : kk < left.length := by rw [hkk]; exact Nat.mod_lt _ hlp
                      have hne : ¬ (left.length : Int) = 0 := by omega
                      have hne2 : ((left.length : Int) == 0) = false := beq_eq_false_iff_ne.2 (by omega)
                      have hj0 : (0 : Int) ≤ (j : Int) := by omega
                      have hj2 : (j : Int) < (n3 : Int) := by omega
                      have e2 : (m10 : Int).tmod (left.length : Int) = (kk : Int) := by rw [hkk]; rfl
                      have e3 : (m10 : Int) % (left.length : Int) = (kk : Int) := by rw [hkk]; rfl
                      clear hkk hm10 hcell hz
                      go_wp2_with fail
                      go_meet
                      exact ⟨kk, rfl, hkl, rfl⟩
                    · have hdj : decide (j < n3) = false := by simp; omega
                      go_wp2_with fail
                      go_meet
                      exact ⟨0, rfl, hlp, rfl⟩
                  case rest =>
                    obtain ⟨k, rfl, hkl, rfl⟩ := hcut
                    obtain ⟨cF, hyF, hI⟩ := HS.out.cs
                    obtain ⟨c2', hcome, hI2, hagain⟩ := hI.step HNx2.out hkl
                    have hik : left[k] < manyN b.length := (hI.lt _ (List.getElem_mem hkl)).1
                    have hkr : k < (I64s left).length := by rw [I64s_length]; exact hkl
                    have hqk : wr.cell? ⟨q, k, none⟩ = some (.int .i64 (left[k] : Int)) := by
                      have := HS.out.own.cells (g := q) rfl k (.int .i64 (left[k] : Int)) (by simp [I64s, hkl])
                      rw [addr0] at this
                      exact this
                    obtain ⟨gD, hrk, hsD⟩ := HS.out.row.at_ hik
                    have HCome : Hid (cF.recv (dgram sa b left[k]) = ⟨c2', 0, if left.length = 1 then some b else none⟩) := by rw [recv_plain HSa.out HZa.out HSh.out hik]; exact hcome
                    have HAgain : Hid (c2'.recv (dgram sa b left[k]) = ⟨c2', 71, none⟩) := by rw [recv_plain HSa.out HZa.out HSh.out hik]; exact hagain
                    have HDB := Lib.hid (HBy.out _ hik)
                    have HDL := Lib.hid (dgram_le sa b left[k])
                    have HYF := Lib.hid hyF
                    have HI2 := Lib.hid hI2
                    have HSD := Lib.hid hsD
                    have HRow := Lib.hid HS.out.row
                    have HOwn := Lib.hid HS.out.own
                    have hikm : left[k] < i := by rw [HMn.out]; exact hik
                    clear hcome hI2 hagain hyF hI hsD hkr hik HS
                    generalize hlk : left[k] = lk at *
                    have HLk := Lib.hid hlk
                    clear hlk
                    have hk0 : (0 : Int) ≤ (k : Int) := by omega
                    have hk1 : (k : Int) < (left.length : Int) := by omega
                    have hl0 : (0 : Int) ≤ (lk : Int) := by omega
                    have hl1 : (lk : Int) < (i : Int) := by omega
                    obtain ⟨dl, hdl9⟩ : ∃ dl, dl = (dgram sa b lk).length := ⟨_, rfl⟩
                    rw [← hdl9] at hrk HSD HDL
                    have HDl9 := Lib.hid hdl9
                    clear hdl9
                    go_upto_region 26 with (fail)
                    go_cut [26, 27] (fun s26 s27 wx => ((left.length = 1 ∧ s27 = .bool true ∧ SlB wx s26 b) ∨ (left.length ≠ 1 ∧ s27 = .bool false)) ∧ One w wx y c2' ∧ DRow wx (.slice (some ⟨r, 0, none⟩) i cc) sa b ∧ OwnI wx w.heap.size (.slice (some ⟨q, 0, none⟩) left.length lc) left)
                    case first =>
                      go_wp2_with fail
                      refine (recv1_c _ (dgram sa b lk) HYF.out HSD.out (HT.out.below HYF.out.below) (by rw [← HDl9.out]; have := HDL.out; omega) HDB.out).mono ?_
                      rw [HCome.out]
                      rintro e w9 ⟨hy9, hf9, h9⟩
                      have HE := Lib.hid (And.intro hy9 (And.intro (HRow.out.keep HYF.out.at_ hf9 (fun _ h => h)) (keep_row HYF.out.at_ hf9 (fun _ h => h) HOwn.out (by decide))))
                      clear hy9 hf9
                      by_cases hl11 : left.length = 1
                      · rcases h9 with ⟨m, v9, q1, _, rfl, ho9⟩ | ⟨q1, _⟩
                        · rw [if_pos hl11] at q1
                          injection q1 with q1
                          subst q1
                          have HV := Lib.hid ho9.sl
                          have HL11 := Lib.hid hl11
                          clear ho9 HYF HRow HOwn hl11
                          go_wp2_with fail
                          go_meet
                          exact ⟨.inl ⟨HL11.out, rfl, HV.out⟩, HE.out⟩
                        · rw [if_pos hl11] at q1; cases q1
                      · rcases h9 with ⟨m, v9, q1, _⟩ | ⟨q1, rfl⟩
                        · rw [if_neg hl11] at q1; cases q1
                        · have HL11 := Lib.hid hl11
                          clear hl11 HYF HRow HOwn
                          go_wp2_with fail
                          go_meet
                          exact ⟨.inr ⟨HL11.out, rfl⟩, HE.out⟩
                    case rest =>
                      obtain ⟨hres, hy9, hr9, ho9⟩ := hcut
                      have HRes := Lib.hid hres
                      have HY9 := Lib.hid hy9
                      have HR9 := Lib.hid hr9
                      have HO9 := Lib.hid ho9
                      clear hres hy9 hr9 ho9 HYF HRow HOwn HSD hrk hqk HCome
                      obtain ⟨left2, hleft2⟩ : ∃ l2, l2 = left.take k ++ left.drop (k + 1) := ⟨_, rfl⟩
                      have hlen2 : left2.length + 1 = left.length := by rw [hleft2, List.length_append, List.length_take, List.length_drop]; omega
                      rw [← hleft2] at HI2
                      have HL2 := Lib.hid hleft2
                      have HLen2 := Lib.hid hlen2
                      clear hleft2 hlen2
                      go_upto_if 133 with (fail)
                      go_cut [21] (fun s21 wx => s21 = .int .i64 ((if left2 = [] then 1 else 0 : Nat) : Int) ∧ wc = wx)
                      case first =>
                        rcases HRes.out with ⟨hl1, rfl, hv⟩ | ⟨hl1, rfl⟩
                        · have e0 : left2 = [] := List.eq_nil_of_length_eq_zero (by have := HLen2.out; omega)
                          have hc1 := hv.conv
                          have hc2 := (H2.out.below HY9.out.below).conv
                          have hst : (strOf b).toList == (strOf b).toList := by simp
                          have hst2 : ((strOf b).toList != (strOf b).toList) = false := by simp
                          generalize strOf b = sb at *
                          have HE0 := Lib.hid e0
                          have hd9 : decide ((1 : Int) < (left.length : Int)) = false := by simp; omega
                          clear hv e0 hl1 HRes
                          go_wp2_with fail
                          go_meet
                          exact ⟨by rw [if_pos HE0.out]; rfl, rfl⟩
                        · have e0 : left2 ≠ [] := fun e => by have := HLen2.out; rw [e] at this; simp at this; omega
                          have HE0 := Lib.hid e0
                          clear e0 hl1 HRes
                          go_wp2_with fail
                          go_meet
                          exact ⟨by rw [if_neg HE0.out]; rfl, rfl⟩
                      case rest =>
                        obtain ⟨rfl, rfl⟩ := hcut
                        obtain ⟨t2, ht2⟩ : ∃ t2 : Nat, t2 = (if left2 = [] then 1 else 0) := ⟨_, rfl⟩
                        rw [← ht2]
                        have HT2 := Lib.hid ht2
                        clear ht2 HRes
                        have hqk : wc.cell? ⟨q, k, none⟩ = some (.int .i64 (lk : Int)) := by
                          have := HO9.out.cells (g := q) rfl k (.int .i64 (lk : Int)) (by rw [← HLk.out]; simp [I64s, hkl])
                          rw [addr0] at this
                          exact this
                        obtain ⟨gD, hrk, hsD⟩ := HR9.out.at_ (i := lk) (by rw [← HMn.out]; exact hikm)
                        rw [← HDl9.out] at hrk hsD
                        have HSD := Lib.hid hsD
                        clear hsD
                        go_wp2_with fail
                        refine (recv1_c _ (dgram sa b lk) HY9.out HSD.out (HT.out.below HY9.out.below) (by rw [← HDl9.out]; have := HDL.out; omega) HDB.out).mono ?_
                        rw [HAgain.out]
                        rintro e w11 ⟨hy11, hf11, ⟨m, v11, q1, _⟩ | ⟨_, rfl⟩⟩
                        · cases q1
                        have hO11 : OwnI w11 w.heap.size (.slice (some ⟨q, 0, none⟩) left.length lc) left := keep_row HY9.out.at_ hf11 (fun _ h => h) HO9.out (by decide)
                        have HR11 := Lib.hid (HR9.out.keep HY9.out.at_ hf11 (fun _ h => h))
                        have HY11 := Lib.hid hy11
                        have HO11 := Lib.hid hO11
                        obtain ⟨hhead, hsliH⟩ := hO11.head k (by omega)
                        have HSH := Lib.hid hsliH
                        clear hy11 hf11 hO11 hsliH HY9 HR9 HO9 HSD hqk hrk
                        go_wp2_with (at_builtin; refine wpList_ints rfl (.tmp 164) (.tmp 167) rfl w.heap.size (.slice none 0 0) _ [] (left.take k) rfl (World.ownsRow_nil _ _ _ _) rfl HSH.out ?a1 ?a2 ?_)
                        case a1 => simp; omega
                        case a2 => exact HY11.out.below.size
                        intro v12 w12 hown12 hgr12
                        have hfr12 : Fr (fun _ => False) w11 w12 := Fr.of_grown hgr12 (fun _ _ he => by cases he)
                        have hb12 : Below w11.heap.size w11 w12 := hfr12.below (Nat.le_refl _) (fun _ _ h => h)
                        have HY12 := Lib.hid (HY11.out.go hb12)
                        have HR12 := Lib.hid (HR11.out.go hb12)
                        have hO12 : OwnI w12 w.heap.size (.slice (some ⟨q, 0, none⟩) left.length lc) left := ownsRow_fr HO11.out hfr12 (fun _ _ h => h)
                        obtain ⟨ut, htail, hsliT⟩ := hO12.tail rfl (k + 1) ((k : Int) + 1) (by omega) (by omega)
                        have HST := Lib.hid hsliT
                        have HOw12 := Lib.hid hown12
                        clear hown12 hgr12 hfr12 hb12 hO12 hsliT HY11 HR11 HO11 HSH hhead
                        go_wp2_with (at_builtin; refine wpList_ints rfl (.tmp 169) (.tmp 173) rfl w.heap.size v12 _ (left.take k) (left.drop (k + 1)) rfl HOw12.out rfl HST.out ?b1 ?b2 ?_)
                        case b1 => rw [List.length_take, List.length_drop]; omega
                        case b2 => exact HY12.out.below.size
                        intro v13 w13 hown13 hgr13
                        rw [← HL2.out] at hown13
                        have hfr13 : Fr (fun z => v12.ownBlock = some z) w12 w13 := Fr.of_grown hgr13 (fun _ _ he => he)
                        have HF : Hid (WhSt w y sa b (.slice (some ⟨r, 0, none⟩) i cc) v13 left2 (D ++ [lk]) w13) := by
                          refine ⟨⟨c2', ⟨one_fr2 HY12.out.at_ HOw12.out hfr13, HY12.out.ok, HY12.out.zero, HY12.out.fr, Fr.base HY12.out.below hfr13 (fun z hz => (HOw12.out.lt z hz).1)⟩, HI2.out⟩, HR12.out.grown HOw12.out hfr13, hown13⟩
                        clear hown13 hgr13 hfr13 HOw12 HST htail HY12 HR12
                        have hle9 : left2.length = gk := by have := HLen2.out; have := HLen.out; omega
                        have HLe9 := Lib.hid hle9
                        clear hle9
                        go_wp2_with fail
                        go_roundg gk
                        case measure => omega
                        case rel => exact ⟨left2, D ++ [lk], j + 1, HLe9.out, by omega, by omega, by go_num, by rw [HT2.out], HF.out⟩

end Go.Proofs.YtmlbhlfjaagcaaaDoor

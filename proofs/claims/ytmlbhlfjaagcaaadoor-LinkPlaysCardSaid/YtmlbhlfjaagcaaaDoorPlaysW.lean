/- The walk of LinkPlays. -/
import Derived.Test.YtmlbhlfjaagcaaaDoorPlMid
import Derived.Test.YtmlbhlfjaagcaaaDoorLAwake
import Derived.Test.YtmlbhlfjaagcaaaDoorNewerWalk
import Derived.Test.YtmlbhlfjaagcaaaDoorLFr
import Derived.Deep.CutBlock
namespace Go.Proofs.YtmlbhlfjaagcaaaDoor
open Go.RowKit

theorem new_refS {g n i : Nat} (h : refS g RV.new (RS.new n) i) : i = g := by
  rcases h with e | e | e | e | ⟨e, _⟩
  · exact e
  · simp [RV.new, nilV, Value.ownBlock] at e
  · simp [RV.new, nilV, Value.ownBlock] at e
  · simp [RV.new, nilV, Value.ownBlock] at e
  · cases e
theorem rnew1_c (x : Int) (w : World) :
    Calls Tryd.prog 11 #[.int .i64 x] w fun e w' => ∃ g, e = .returned (refP g) ∧ w.heap.size ≤ g ∧ RefAt w' g (refS g RV.new (RS.new (x % 65536).toNat)) RV.new (RS.new (x % 65536).toNat) ∧ Below w.heap.size w w' := by
  refine (rnew_c x w).mono ?_
  rintro e w' ⟨rfl, rfl⟩
  refine ⟨w.heap.size, rfl, Nat.le_refl _, ?_, lbel1 _ _⟩
  have h : RefAt (w.alloc (.cells (refC (RS.new (x % 65536).toNat) RV.new) 70)) w.heap.size (fun _ => True) RV.new (RS.new (x % 65536).toNat) :=
    ⟨Blk.new w 70 _, World.ownsRow_nil _ _ _ _, World.ownsRow_nil _ _ _ _, World.ownsRow_nil _ _ _ _, fun k e => by simp [RV.new, nilV, Value.ownBlock] at e, fun _ _ => trivial, fun _ _ => trivial, fun _ _ => trivial, fun e => by cases e⟩
  exact h.self

/-- An end at its start. -/
def newD (x : Lk) (g p : Nat) : EndD := ⟨x, LS.new p, g, RV.new, RS.new p, .slice none 0 0, [], []⟩
theorem newD_ok (x : Lk) (g : Nat) {p : Nat} (hp : p < 65536) : EndOk 0 (newD x g p) :=
  ⟨new_ok hp, zero_new p, rnew_ok hp, twin_new p, (fun d hd => by cases hd), Nat.le_refl _, Nat.le_refl _, Nat.le_refl _⟩
abbrev D2 (x y : Lk) (g h p q : Nat) (k : Nat) : EndD := if k = 0 then newD x g p else newD y h q

theorem two_new {w0 w : World} {E : Nat} {x y : Lk} {g h p q : Nat} (hp : p < 65536) (hq : q < 65536) (hb : Below w0.heap.size w0 w) (hE : w0.heap.size ≤ E) (hblk : Blk w E 32 (endC (D2 x y g h p q)))
    (hx : At1 w x (LS.new p)) (hy : At1 w y (LS.new q)) (hax : Apart x y) (fx : x.from w0.heap.size) (fy : y.from w0.heap.size)
    (hg : RefAt w g (refS g RV.new (RS.new p)) RV.new (RS.new p)) (hh : RefAt w h (refS h RV.new (RS.new q)) RV.new (RS.new q)) (hne : g ≠ h) (lg : w0.heap.size ≤ g) (lh : w0.heap.size ≤ h) : Two w0 w E 0 (D2 x y g h p q) := by
  have nil2 : ∀ d, Gram2 w d [] [] := fun d => ⟨rfl, fun j x d h => by simp at h⟩
  refine ⟨hblk, fun k hk => ?_, fun k hk => ?_, fun j k hj hk hne' => ?_, fun j k hj hk hne' i => ?_, fun j k hj hk hne' q => ?_, fun k hk => ?_, fun k hk i => ?_, hE, hb⟩
  · rcases two_cases hk with rfl | rfl
    · exact ⟨hx.wide2 (fun _ _ _ hb => hb.lt), hg, World.ownsRow_nil _ _ _ _, nil2 _⟩
    · exact ⟨hy.wide2 (fun _ _ _ hb => hb.lt), hh, World.ownsRow_nil _ _ _ _, nil2 _⟩
  · rcases two_cases hk with rfl | rfl
    · exact newD_ok x g hp
    · exact newD_ok y h hq
  · rcases two_cases hj with rfl | rfl <;> rcases two_cases hk with rfl | rfl
    · exact absurd rfl hne'
    · exact hax
    · exact hax.symm
    · exact absurd rfl hne'
  · rcases two_cases hj with rfl | rfl <;> rcases two_cases hk with rfl | rfl
    · exact absurd rfl hne'
    · exact fun h1 h2 => hne ((new_refS h1).symm.trans (new_refS h2))
    · exact fun h1 h2 => hne ((new_refS h2).symm.trans (new_refS h1))
    · exact absurd rfl hne'
  · rcases two_cases hj with rfl | rfl
    · exact fun e => nomatch (show (none : Option Nat) = some q from e)
    · exact fun e => nomatch (show (none : Option Nat) = some q from e)
  · rcases two_cases hk with rfl | rfl
    · exact fx
    · exact fy
  · rcases two_cases hk with rfl | rfl
    · intro h1; rw [new_refS h1]; exact lg
    · intro h1; rw [new_refS h1]; exact lh

theorem Two.arg {w0 w : World} {E n m : Nat} {D : Nat → EndD} (h : Two w0 w E n D) (hm : m < 2) {k : Nat} (hk : k < w0.heap.size) : k < w.heap.size ∧ ¬ touch (D m) k := by
  refine ⟨Nat.lt_of_lt_of_le hk h.below.size, ?_⟩
  rintro (e | e)
  · have := from_S3 (h.fr m hm) k e; omega
  · have := h.gs m hm k e; omega

theorem link_E {w w' : World} {E : Nat} {cs : Array Value} {x : Lk} {s : LS} (h : At1 w x s) (hE : Blk w E 32 cs) (hf : Fr (fun i => i = E) w w') : At1 w' x s :=
  h.fr hf (fun e => h.ne_S3 hE (by decide) (.inl e.symm)) (fun e => h.ne_S3 hE (by decide) (.inr (.inl e.symm))) (fun e => h.ne_S3 hE (by decide) (.inr (.inr e.symm))) (fun k cs _ hk e => hk.ne_ hE (by decide) e)

set_option maxHeartbeats 8000000 in
set_option maxRecDepth 100000 in
theorem plays_c (f o : Int) (a : Option Addr) (len cap : Nat) (L : List ActL) (w : World) (ht : Tab w) (hr : ActsArg w a len L) (hl : len ≤ 140737488351232) :
    Calls Tryd.prog 3 #[.int .i64 f, .int .i64 o, .slice a len cap] w fun e w' => e = .returned (.bool true) ∧ Below w.heap.size w w' := by
  have HT := Lib.hid ht
  have HR := Lib.hid hr
  clear ht hr
  obtain ⟨p, hp⟩ : ∃ p : Nat, p = (f % 65536).toNat := ⟨_, rfl⟩
  obtain ⟨q, hq⟩ : ∃ q : Nat, q = (o % 65536).toNat := ⟨_, rfl⟩
  have hpl : p < 65536 := by omega
  have hql : q < 65536 := by omega
  have HPL := Lib.hid hpl
  have HQL := Lib.hid hql
  have HP := Lib.hid hp
  have HQ := Lib.hid hq
  clear hp hpl hq hql
  go_enter Tryd.func3, Tryd.ntmps3
  go_wp2_with fail
  refine (awake_c w HT.out).mono ?_
  rintro e w1 ⟨rfl, hb1⟩
  have HB1 := Lib.hid hb1
  clear hb1
  go_upto_region 3 with (fail)
  obtain ⟨E, hEe⟩ : ∃ E, E = w1.heap.size := ⟨_, rfl⟩
  have hblk1 := Blk.new w1 32 #[.pointer none, .pointer none, .pointer none, .pointer none, .slice none 0 0, .slice none 0 0]
  have hbe := lbel1 w1 (.cells #[.pointer none, .pointer none, .pointer none, .pointer none, .slice none 0 0, .slice none 0 0] 32)
  have hsz1 := HB1.out.size
  rw [← hEe] at hblk1 ⊢
  have hEl : w.heap.size ≤ E := by omega
  generalize w1.alloc (.cells #[.pointer none, .pointer none, .pointer none, .pointer none, .slice none 0 0, .slice none 0 0] 32) = w2 at hblk1 hbe ⊢
  have HB2 := Lib.hid (below_trans HB1.out hbe)
  have HE2 := Lib.hid hblk1
  clear hbe hblk1 hEe HB1 hsz1
  go_wp2_with fail
  refine (new1_c w w2 f HB2.out).mono ?_
  rintro e w3 ⟨x, rfl, hx, hxf, hb3⟩
  rw [← HP.out] at hx
  have HX := Lib.hid hx
  have HXF := Lib.hid hxf
  have HB3 := Lib.hid hb3
  clear hx hxf hb3
  go_wp2_with fail
  refine (new1_c w w3 o HX.out.below).mono ?_
  rintro e w4 ⟨y, rfl, hy, hyf, hb4⟩
  rw [← HQ.out] at hy
  have HAp := Lib.hid (apart_new HX.out hyf)
  have HX4 := Lib.hid (HX.out.at_.below hb4)
  have HE4 := Lib.hid ((HE2.out.below HB3.out HE2.out.lt).below hb4 (HE2.out.below HB3.out HE2.out.lt).lt)
  have HY := Lib.hid hy
  clear hy hyf hb4
  have e0 : w4.cell? ⟨E, 0, none⟩ = some (.pointer none) := HE4.out.cell 0
  have e1 : w4.cell? ⟨E, 1, none⟩ = some (.pointer none) := HE4.out.cell 1
  have f0 := HE4.out.frozen 0
  have f1 := HE4.out.frozen 1
  go_upto_region 4 with (fail)
  have hE5 := (HE4.out.set_ 0 x.ptr).set_ 1 y.ptr
  have hf5 : Fr (fun i => i = E) w4 ((w4.setCell ⟨E, 0, none⟩ x.ptr).setCell ⟨E, 1, none⟩ y.ptr) := (Fr.set (S := fun i => i = E) w4 (p := ⟨E, 0, none⟩) rfl _).trans (Fr.set (S := fun i => i = E) _ (p := ⟨E, 1, none⟩) rfl _) (fun _ _ h => h)
  have HX5 := Lib.hid (link_E HX4.out HE4.out hf5)
  have HY5 := Lib.hid (link_E HY.out.at_ HE4.out hf5)
  have HB5 := Lib.hid (Fr.base HY.out.below hf5 (fun i (e : i = E) => by omega))
  have HE5 : Hid (Blk ((w4.setCell ⟨E, 0, none⟩ x.ptr).setCell ⟨E, 1, none⟩ y.ptr) E 32 #[x.ptr, y.ptr, .pointer none, .pointer none, .slice none 0 0, .slice none 0 0]) := hE5
  change Code.wp Tryd.prog _ _ _ ((w4.setCell ⟨E, 0, none⟩ x.ptr).setCell ⟨E, 1, none⟩ y.ptr)
  generalize (w4.setCell ⟨E, 0, none⟩ x.ptr).setCell ⟨E, 1, none⟩ y.ptr = w5 at hE5 hf5 HX5 HY5 HB5 HE5 ⊢
  clear hE5 hf5 e0 e1 f0 f1 HE4 HX4
  go_wp2_with fail
  refine (rnew1_c f w5).mono ?_
  rintro e w6 ⟨g, rfl, hg1, hg2, hb6⟩
  rw [← HP.out] at hg2
  have HB6 := Lib.hid hb6
  have HG6 := Lib.hid hg2
  clear hg2 hb6
  go_wp2_with fail
  refine (rnew1_c o w6).mono ?_
  rintro e w7 ⟨h, rfl, hh1, hh2, hb7⟩
  rw [← HQ.out] at hh2
  have HB7 := Lib.hid (below_trans HB6.out hb7)
  have HG7 := Lib.hid (HG6.out.below hb7)
  have hgh : g < h := by have := HG6.out.blk.lt; omega
  have HH7 := Lib.hid hh2
  have hs6 := HB6.out.size
  have hs5 := HB5.out.size
  clear hh2 hb7 HG6
  have HE7 := Lib.hid (HE5.out.below HB7.out HE5.out.lt)
  have e2 : w7.cell? ⟨E, 2, none⟩ = some (.pointer none) := HE7.out.cell 2
  have e3 : w7.cell? ⟨E, 3, none⟩ = some (.pointer none) := HE7.out.cell 3
  have f2 := HE7.out.frozen 2
  have f3 := HE7.out.frozen 3
  go_upto_region 5 with (fail)
  have hE8 := (HE7.out.set_ 2 (refP g)).set_ 3 (refP h)
  have hf8 : Fr (fun i => i = E) w7 ((w7.setCell ⟨E, 2, none⟩ (refP g)).setCell ⟨E, 3, none⟩ (refP h)) := (Fr.set (S := fun i => i = E) w7 (p := ⟨E, 2, none⟩) rfl _).trans (Fr.set (S := fun i => i = E) _ (p := ⟨E, 3, none⟩) rfl _) (fun _ _ h => h)
  have T8 : Hid (Two w ((w7.setCell ⟨E, 2, none⟩ (refP g)).setCell ⟨E, 3, none⟩ (refP h)) E 0 (D2 x y g h p q)) := by
    have b7 := below_trans HB5.out HB7.out
    refine two_new HPL.out HQL.out (Fr.base b7 hf8 (fun i (e : i = E) => by omega)) hEl hE8 (link_E (HX5.out.below HB7.out) HE7.out hf8) (link_E (HY5.out.below HB7.out) HE7.out hf8) HAp.out HX.out.fr HY.out.fr (HG7.out.keep hf8 (fun i hi e => HG7.out.ne_blk hi HE7.out (by decide) e)) (HH7.out.keep hf8 (fun i hi e => HH7.out.ne_blk hi HE7.out (by decide) e)) (by omega) (by omega) (by omega)
  have e0 : ((w7.setCell ⟨E, 2, none⟩ (refP g)).setCell ⟨E, 3, none⟩ (refP h)).cell? ⟨E, 0, none⟩ = some x.ptr := hE8.cell 0
  have e1 : ((w7.setCell ⟨E, 2, none⟩ (refP g)).setCell ⟨E, 3, none⟩ (refP h)).cell? ⟨E, 1, none⟩ = some y.ptr := hE8.cell 1
  generalize (w7.setCell ⟨E, 2, none⟩ (refP g)).setCell ⟨E, 3, none⟩ (refP h) = w8 at hE8 hf8 T8 e0 e1 ⊢
  clear hE8 hf8 e2 e3 f2 f3 HE7 HG7 HH7 HX5 HY5 HB7 HB6 HB5 HE5 HX HY HXF HB3 HE2 HB2 HAp
  go_wp2_with fail
  refine (bnewer_c f o _).mono ?_
  rintro e w9 ⟨rfl, rfl⟩
  go_wp2_with fail
  refine (rnewer_c f o _).mono ?_
  rintro e w9 ⟨rfl, rfl⟩
  clear e0 e1
  go_wp2_with fail
  go_loopg [9] 300 (fun gg s9 wr => ∃ (i : Nat) (D : Nat → EndD), i + gg = 300 ∧ i ≤ len ∧ s9 = .int .i64 (i : Int) ∧ Two w wr E i D)
  case atStart => exact ⟨0, _, rfl, Nat.zero_le _, rfl, T8.out⟩
  case round =>
    obtain ⟨i, D, hig, hil, rfl, hx⟩ := hrel
    have HX := Lib.hid hx
    clear hx T8
    rcases Nat.lt_or_ge i len with hlt | hge
    · cases gk with
      | zero =>
        obtain rfl : i = 300 := by omega
        have hd1 : decide (((300 : Nat) : Int) < (len : Int)) = true := by simp; omega
        have hd2 : decide (((300 : Nat) : Int) < 300) = false := by decide
        have hd3 : decide (300 < len) = true := by simp; omega
        go_wp2_with fail
        go_ret
        exact ⟨rfl, HX.out.below⟩
      | succ g1 =>
        have hd1 : decide (i < len) = true := by simp; omega
        have hd2 : decide ((i : Int) < 300) = true := by simp; omega
        obtain ⟨bb, oo, rfl, hbb, hat⟩ := HR.out.at_ (by omega)
        have hib : i < L.length := by rw [HR.out.size]; exact hlt
        obtain ⟨A, c, hc0, hc1, hc2, hc3, hsl⟩ := hat i L[i] (List.getElem?_eq_getElem hib)
        have hok := HR.out.okA L[i] (List.getElem_mem hib)
        generalize L[i] = t at *
        have cl := fun (o : Nat) => HX.out.below.cell (p := ⟨bb, o, none⟩) hbb
        have q0 : wr.cell? ⟨bb, oo + i * 4, none⟩ = some (.int .i64 t.do_) := (cl _).trans hc0
        have q1 : wr.cell? ⟨bb, oo + (i * 4 + 1), none⟩ = some (.int .i64 t.who) := (cl _).trans hc1
        have q2 : wr.cell? ⟨bb, oo + (i * 4 + 2), none⟩ = some (.int .i64 t.at_) := (cl _).trans hc2
        have q3 : wr.cell? ⟨bb, oo + (i * 4 + 3), none⟩ = some (.slice A t.b.length c) := (cl _).trans hc3
        have q1' : wr.cell? ⟨bb, oo + i * 4 + 1, none⟩ = some (.int .i64 t.who) := by rw [Nat.add_assoc]; exact q1
        have q2' : wr.cell? ⟨bb, oo + i * 4 + 2, none⟩ = some (.int .i64 t.at_) := by rw [Nat.add_assoc]; exact q2
        have q3' : wr.cell? ⟨bb, oo + i * 4 + 3, none⟩ = some (.slice A t.b.length c) := by rw [Nat.add_assoc]; exact q3
        have HSl := Lib.hid hsl
        have HOk := Lib.hid hok
        have hi1 : (0 : Int) ≤ (i : Int) := by omega
        have hi2 : (i : Int) < (len : Int) := by omega
        have hi3 : (i : Int) < 300 := by omega
        clear hat hsl hc0 hc1 hc2 hc3 hbb hib hok cl
        go_upto_region 11 with (fail)
        have hk10 := Blk.new wr 38 #[.int .i64 t.do_, .int .i64 t.who, .int .i64 t.at_, .slice A t.b.length c]
        have T10 := Lib.hid (HX.out.look (lbel1 wr (.cells #[.int .i64 t.do_, .int .i64 t.who, .int .i64 t.at_, .slice A t.b.length c] 38)))
        generalize wr.alloc (.cells #[.int .i64 t.do_, .int .i64 t.who, .int .i64 t.at_, .slice A t.b.length c] 38) = w10 at hk10 T10 ⊢
        generalize wr.heap.size = G at hk10 ⊢
        have a0 : w10.cell? ⟨G, 0, none⟩ = some (.int .i64 t.do_) := hk10.cell 0
        have a1 : w10.cell? ⟨G, 1, none⟩ = some (.int .i64 t.who) := hk10.cell 1
        have a2 : w10.cell? ⟨G, 2, none⟩ = some (.int .i64 t.at_) := hk10.cell 2
        have a3 : w10.cell? ⟨G, 3, none⟩ = some (.slice A t.b.length c) := hk10.cell 3
        obtain ⟨m, hm⟩ : ∃ m : Nat, m = (t.who % 2).toNat := ⟨_, rfl⟩
        have hwho : bits .and .i64 t.who 1 = (m : Int) := by rw [i64_and1]; omega
        have hm2 : m < 2 := by omega
        have HS10 := Lib.hid (HSl.out.below T10.out.below)
        have HV10 : Hid (∀ A' n' c', Value.slice A t.b.length c = .slice (some A') n' c' → 0 < t.b.length → A'.block < w.heap.size) := fun A' n' c' e h0 => by
          obtain ⟨A2, c2, e2, _, _, hrd⟩ := HSl.out
          obtain ⟨ad, e3, hb, _⟩ := hrd.2 h0
          injection e with e
          injection e2 with e4
          rw [← e4, e] at e3
          injection e3 with e3
          rw [e3]; exact hb
        clear hk10 hm q0 q1 q2 q3 q1' q2' q3' HX
        go_upto_block 2 with (fail)
        go_cut [12] (fun s12 wx => s12 = .bool true ∧ ∃ D', Two w wx E (i + 1) D')
        case first =>
          have HVL : Hid (0 < t.b.length → ∀ A' n' c', Value.slice A t.b.length c = .slice (some A') n' c' → A'.block < w10.heap.size ∧ ¬ touch (D m) A'.block) := fun h0 A' n' c' e => T10.out.arg hm2 (HV10.out A' n' c' e h0)
          have HTb := Lib.hid (HT.out.below T10.out.below)
          by_cases d0 : t.do_ = 0
          · have e0 : (t.do_ == 0) = true := by rw [beq_iff_eq]; exact d0
            clear d0
            go_wp2_with fail
            refine (sends_c (n := i) E m (endC D) _ t.b hm2 T10.out.blk (endC_l D hm2) (endC_x D hm2) (endC_s D hm2) (T10.out.ends m hm2) T10.out.below.size (T10.out.oks m hm2) (by omega) HTb.out HS10.out HVL.out HOk.out.len HOk.out.byte).mono ?_
            rintro e w11 hp
            obtain ⟨rfl, D', T11⟩ := T10.out.send hm2 hp
            have HT11 := Lib.hid T11
            clear T11 hp
            go_wp2_with fail
            go_meet
            exact ⟨rfl, D', HT11.out⟩
          · have e0 : (t.do_ == 0) = false := by rw [beq_eq_false_iff_ne]; exact d0
            by_cases d1 : t.do_ = 1
            · have e1 : (t.do_ == 1) = true := by rw [beq_iff_eq]; exact d1
              clear d1
              obtain ⟨m', hm'⟩ : ∃ m', m' = 1 - m := ⟨_, rfl⟩
              have hom : IntKind.i64.wrap (1 - (m : Int)) = (m' : Int) := by rw [IntWalk.i64_in _ (by omega)]; omega
              have hm2' : m' < 2 := by omega
              have hm3 : (m' : Int) < 2 := by omega
              have hd := T10.out.ends m' hm2'
              have ho := T10.out.oks m' hm2'
              have c4 : w10.cell? ⟨E, 4 + m', none⟩ = some (D m').sv := (T10.out.blk.cell (4 + m')).trans (endC_s D hm2')
              obtain ⟨As, cs, hsv⟩ := own_slice hd.row
              rw [hsv] at c4
              have hnd := ho.nd
              obtain ⟨ns, hns⟩ : ∃ ns, ns = (D m').ds.length := ⟨_, rfl⟩
              rw [← hns] at c4 hsv hnd
              have HSV := Lib.hid hsv
              have HN := Lib.hid hns
              have HDm := Lib.hid hd
              have HOm := Lib.hid ho
              clear hsv hns hd ho hm'
              by_cases h0 : ns = 0
              · subst h0
                go_wp2_with fail
                go_meet
                exact ⟨rfl, D, T10.out.more⟩
              · obtain ⟨aj, haj⟩ : ∃ aj : Nat, aj = (t.at_ % 65536).toNat := ⟨_, rfl⟩
                have hat : bits .and .i64 t.at_ 65535 = (aj : Int) := by rw [i64_and16]; omega
                obtain ⟨j, hj⟩ : ∃ j, j = aj % ns := ⟨_, rfl⟩
                have r1 : ((aj : Int)).tmod (ns : Int) = (j : Int) := by rw [hj]; rfl
                have r2 : ((aj : Int)) % (ns : Int) = (j : Int) := by rw [hj]; rfl
                have hjl : j < ns := by rw [hj]; exact Nat.mod_lt _ (by omega)
                have hpos : decide (0 < ns) = true := by rw [decide_eq_true_eq]; omega
                have hne : ((ns : Int) == 0) = false := by rw [beq_eq_false_iff_ne]; omega
                have hne2 : ¬ ((ns : Int) = 0) := by omega
                have hjd : j < (D m').ds.length := by rw [← HN.out]; exact hjl
                obtain ⟨xj, hxj⟩ : ∃ xj, (D m').xs[j]? = some xj := ⟨_, List.getElem?_eq_getElem (by rw [HDm.out.gr.len]; exact hjd)⟩
                obtain ⟨dj, hdj⟩ : ∃ dj, (D m').ds[j]? = some dj := ⟨_, List.getElem?_eq_getElem hjd⟩
                obtain ⟨r, c', hv, hc⟩ := own_row (row_lower HDm.out.row (Nat.zero_le _)) hxj
                have hp := HDm.out.gr.each j xj dj hxj hdj
                obtain ⟨Aj, cj, hxe, _⟩ := hp.1
                rw [HSV.out] at hv
                injection hv with v1 v2 v3
                subst v1
                have hdl := HOm.out.dl dj (List.mem_of_getElem? hdj)
                have HPj := Lib.hid hp
                subst hxe
                have HVj : Hid (0 < dj.length → ∀ A' n' c', Value.slice Aj dj.length cj = .slice (some A') n' c' → A'.block < w10.heap.size ∧ ¬ touch (D m) A'.block) := fun _ A' n' c' e => by
                  obtain ⟨u1, cs', u2⟩ := HPj.out.2 A' n' c' e
                  exact ⟨u1, (T10.out.ends m hm2).touch_ne u2 (by decide)⟩
                have HDl := Lib.hid hdl
                clear hp hdl hxj hdj haj hj v2 v3
                go_wp2_with fail
                refine (receives_c (n := i) E m (endC D) _ dj hm2 T10.out.blk (endC_l D hm2) (endC_x D hm2) (T10.out.ends m hm2) (T10.out.oks m hm2) (by omega) HTb.out HPj.out.1 HVj.out (by have := HDl.out.1; omega) HDl.out.2).mono ?_
                rintro e w11 hp
                obtain ⟨rfl, D', T11⟩ := T10.out.recv hm2 hp
                have HT11 := Lib.hid T11
                clear T11 hp
                go_wp2_with fail
                go_meet
                exact ⟨rfl, D', HT11.out⟩
            · have e1 : (t.do_ == 1) = false := by rw [beq_eq_false_iff_ne]; exact d1
              by_cases d2 : t.do_ = 2
              · have e2 : (t.do_ == 2) = true := by rw [beq_iff_eq]; exact d2
                clear d2
                go_wp2_with fail
                refine (receives_c (n := i) E m (endC D) _ t.b hm2 T10.out.blk (endC_l D hm2) (endC_x D hm2) (T10.out.ends m hm2) (T10.out.oks m hm2) (by omega) HTb.out HS10.out HVL.out HOk.out.len HOk.out.byte).mono ?_
                rintro e w11 hp
                obtain ⟨rfl, D', T11⟩ := T10.out.recv hm2 hp
                have HT11 := Lib.hid T11
                clear T11 hp
                go_wp2_with fail
                go_meet
                exact ⟨rfl, D', HT11.out⟩
              · have e2 : (t.do_ == 2) = false := by rw [beq_eq_false_iff_ne]; exact d2
                go_wp2_with fail
                go_meet
                exact ⟨rfl, D, T10.out.more⟩
        case rest =>
          obtain ⟨rfl, D', T2⟩ := hcut
          have HT2 := Lib.hid T2
          clear T2 T10 a0 a1 a2 a3 hwho HS10 HV10 HSl HOk
          go_wp2_with fail
          go_loopg [14] 2 (fun gg s14 wx => ∃ k : Nat, k + gg = 2 ∧ s14 = .int .i64 (k : Int) ∧ Two w wx E (i + 1) D')
          case atStart => exact ⟨0, rfl, rfl, HT2.out⟩
          case round =>
            obtain ⟨k, hk, rfl, hT⟩ := hrel
            have HX := Lib.hid hT
            clear hT HT2
            cases gk with
            | zero =>
              obtain rfl : k = 2 := by omega
              go_wp2_with fail
              go_roundg g1
              case measure => omega
              case rel => exact ⟨i + 1, D', by omega, by omega, by go_num, HX.out⟩
            | succ g2 =>
              have hk2 : k < 2 := by omega
              have hkd : decide ((k : Int) < 2) = true := by rw [decide_eq_true_eq]; omega
              have hki : (k : Int) < 2 := by omega
              have c1 : wr.cell? ⟨E, k, none⟩ = some (D' k).x.ptr := (HX.out.blk.cell k).trans (endC_l D' hk2)
              have HE0 := Lib.hid (HX.out.ends k hk2)
              have HO0 := Lib.hid (HX.out.oks k hk2)
              go_wp2_with fail
              refine (last_c HE0.out.link HO0.out.lok.la).mono ?_
              rintro e w20 ⟨rfl, q1, rfl⟩
              have T20 := Lib.hid (HX.out.look (below_draw (Below.refl _ wr) q1))
              clear c1 HX HE0
              generalize wr.drewN q1 = w20 at T20 ⊢
              have c2 : w20.cell? ⟨E, 2 + k, none⟩ = some (refP (D' k).g) := (T20.out.blk.cell (2 + k)).trans (endC_x D' hk2)
              have HE1 := Lib.hid (T20.out.ends k hk2)
              go_wp2_with fail
              refine (rlast_c HE1.out.ref (by have := HO0.out.nt; omega)).mono ?_
              rintro e w21 ⟨rfl, q2, rfl⟩
              have T21 := Lib.hid (T20.out.look (below_draw (Below.refl _ w20) q2))
              clear c2 T20 HE1
              generalize w20.drewN q2 = w21 at T21 ⊢
              rw [← HO0.out.twin.la, ← HO0.out.twin.so]
              have c1 : w21.drew.cell? ⟨E, k, none⟩ = some (D' k).x.ptr := (T21.out.blk.cell k).trans (endC_l D' hk2)
              have c2 : w21.drew.cell? ⟨E, 2 + k, none⟩ = some (refP (D' k).g) := (T21.out.blk.cell (2 + k)).trans (endC_x D' hk2)
              have hT0 : Two w w21.drew E (i + 1) D' := T21.out.look ((Below.refl _ w21).drew)
              have hacked : (D' k).r.acked = (D' k).s.acked := twin_acked HO0.out.twin HO0.out.rok
              have hal : (D' k).s.acked.length ≤ 64 := by have := ackTo_len (D' k).s (D' k).s.sent; have := HO0.out.lok.sent; unfold LS.acked; omega
              have HAk := Lib.hid hacked
              have HAl := Lib.hid hal
              clear hacked hal
              obtain ⟨lp, hlp⟩ : ∃ lp, lp = (D' k).x.ptr := ⟨_, rfl⟩
              obtain ⟨gp, hgp⟩ : ∃ gp, gp = (D' k).g := ⟨_, rfl⟩
              go_upto_region 29 with (fail)
              refine wp_region_held_drew (S := fun w1 => w1.cell? ⟨E, k, none⟩ = some (D' k).x.ptr ∧ w1.cell? ⟨E, 2 + k, none⟩ = some (refP (D' k).g) ∧ Two w w1 E (i + 1) D') (by kernel_rfl) ⟨c1, c2, hT0⟩ (fun hH0 => ?_)
              refine wpAnyH_take (i := 0) (oi := { dst := some 149, op := Op.move (Operand.tmp 8), type := 24, pos := "law.go:118", after := #[], guard := none }) (v := ?v0) rfl (by kernel_rfl) (by kernel_rfl) (by kernel_rfl) (fun _ _ _ h => h) (Or.inl ⟨by rfl, ?h0⟩) hH0 ?r0
              case h0 => intro w' hSw; (try dsimp only at hSw); go_simp; (try with_reducible rfl)
              simp only [Act.put, List.setIfInBounds_toArray, List.set_cons_zero, List.set_cons_succ]
              refine wpAnyH_take (i := 1) (oi := { dst := some 150, op := Op.move (Operand.tmp 14), type := 3, pos := "law.go:118", after := #[], guard := none }) (v := ?v1) rfl (by kernel_rfl) (by kernel_rfl) (by kernel_rfl) (fun _ _ _ h => h) (Or.inl ⟨by rfl, ?h1⟩) hH0 ?r1
              case h1 => intro w' hSw; (try dsimp only at hSw); go_simp; (try with_reducible rfl)
              simp only [Act.put, List.setIfInBounds_toArray, List.set_cons_zero, List.set_cons_succ]
              refine wpAnyH_take (i := 2) (oi := { dst := some 151, op := Op.nilCheck (Operand.tmp 149), type := 0, pos := "law.go:118", after := #[{ on := 0, ground := Ground.data }], guard := none }) (v := ?v2) rfl (by kernel_rfl) (by kernel_rfl) (by kernel_rfl) (fun _ _ _ h => h) (Or.inl ⟨by rfl, ?h2⟩) hH0 ?r2
              case h2 => intro w' hSw; (try dsimp only at hSw); go_simp; (try with_reducible rfl)
              simp only [Act.put, List.setIfInBounds_toArray, List.set_cons_zero, List.set_cons_succ]
              refine wpAnyH_take (i := 3) (oi := { dst := some 152, op := Op.fieldAddr 32 (Operand.tmp 151) 0, type := 0, pos := "law.go:118", after := #[{ on := 2, ground := Ground.data }], guard := none }) (v := ?v3) rfl (by kernel_rfl) (by kernel_rfl) (by kernel_rfl) (fun _ _ _ h => h) (Or.inl ⟨by rfl, ?h3⟩) hH0 ?r3
              case h3 => intro w' hSw; (try dsimp only at hSw); go_simp; (try with_reducible rfl)
              simp only [Act.put, List.setIfInBounds_toArray, List.set_cons_zero, List.set_cons_succ]
              refine wpAnyH_take (i := 4) (oi := { dst := some 153, op := Op.indexAddr 26 (Operand.tmp 152) (Operand.tmp 150), type := 0, pos := "law.go:118", after := #[{ on := 3, ground := Ground.data }, { on := 1, ground := Ground.data }], guard := none }) (v := ?v4) rfl (by kernel_rfl) (by kernel_rfl) (by kernel_rfl) (fun _ _ _ h => h) (Or.inl ⟨by rfl, ?h4⟩) hH0 ?r4
              case h4 => intro w' hSw; (try dsimp only at hSw); go_simp; (try with_reducible rfl)
              simp only [Act.put, List.setIfInBounds_toArray, List.set_cons_zero, List.set_cons_succ]
              refine wpAnyH_take (i := 5) (oi := { dst := some 154, op := Op.load 25 (Operand.tmp 153), type := 25, pos := "law.go:118", after := #[{ on := 4, ground := Ground.data }], guard := none }) (v := ?v5) rfl (by kernel_rfl) (by kernel_rfl) (by kernel_rfl) (fun _ _ _ h => h) (Or.inl ⟨by rfl, ?h5⟩) hH0 ?r5
              case h5 => intro w' hSw; (try dsimp only at hSw); go_simp; (try with_reducible rfl)
              simp only [Act.put, List.setIfInBounds_toArray, List.set_cons_zero, List.set_cons_succ]
              refine wpAnyH_take (i := 7) (oi := { dst := some 156, op := Op.move (Operand.tmp 8), type := 24, pos := "law.go:118", after := #[], guard := none }) (v := ?v7) rfl (by kernel_rfl) (by kernel_rfl) (by kernel_rfl) (fun _ _ _ h => h) (Or.inl ⟨by rfl, ?h7⟩) hH0 ?r7
              case h7 => intro w' hSw; (try dsimp only at hSw); go_simp; (try with_reducible rfl)
              simp only [Act.put, List.setIfInBounds_toArray, List.set_cons_zero, List.set_cons_succ]
              refine wpAnyH_take (i := 8) (oi := { dst := some 157, op := Op.move (Operand.tmp 14), type := 3, pos := "law.go:118", after := #[], guard := none }) (v := ?v8) rfl (by kernel_rfl) (by kernel_rfl) (by kernel_rfl) (fun _ _ _ h => h) (Or.inl ⟨by rfl, ?h8⟩) hH0 ?r8
              case h8 => intro w' hSw; (try dsimp only at hSw); go_simp; (try with_reducible rfl)
              simp only [Act.put, List.setIfInBounds_toArray, List.set_cons_zero, List.set_cons_succ]
              refine wpAnyH_take (i := 9) (oi := { dst := some 158, op := Op.nilCheck (Operand.tmp 156), type := 0, pos := "law.go:118", after := #[{ on := 7, ground := Ground.data }], guard := none }) (v := ?v9) rfl (by kernel_rfl) (by kernel_rfl) (by kernel_rfl) (fun _ _ _ h => h) (Or.inl ⟨by rfl, ?h9⟩) hH0 ?r9
              case h9 => intro w' hSw; (try dsimp only at hSw); go_simp; (try with_reducible rfl)
              simp only [Act.put, List.setIfInBounds_toArray, List.set_cons_zero, List.set_cons_succ]
              refine wpAnyH_take (i := 10) (oi := { dst := some 159, op := Op.fieldAddr 32 (Operand.tmp 158) 1, type := 0, pos := "law.go:118", after := #[{ on := 9, ground := Ground.data }], guard := none }) (v := ?v10) rfl (by kernel_rfl) (by kernel_rfl) (by kernel_rfl) (fun _ _ _ h => h) (Or.inl ⟨by rfl, ?h10⟩) hH0 ?r10
              case h10 => intro w' hSw; (try dsimp only at hSw); go_simp; (try with_reducible rfl)
              simp only [Act.put, List.setIfInBounds_toArray, List.set_cons_zero, List.set_cons_succ]
              refine wpAnyH_take (i := 11) (oi := { dst := some 160, op := Op.indexAddr 28 (Operand.tmp 159) (Operand.tmp 157), type := 0, pos := "law.go:118", after := #[{ on := 10, ground := Ground.data }, { on := 8, ground := Ground.data }], guard := none }) (v := ?v11) rfl (by kernel_rfl) (by kernel_rfl) (by kernel_rfl) (fun _ _ _ h => h) (Or.inl ⟨by rfl, ?h11⟩) hH0 ?r11
              case h11 => intro w' hSw; (try dsimp only at hSw); go_simp; (try with_reducible rfl)
              simp only [Act.put, List.setIfInBounds_toArray, List.set_cons_zero, List.set_cons_succ]
              refine wpAnyH_take (i := 12) (oi := { dst := some 161, op := Op.load 27 (Operand.tmp 160), type := 27, pos := "law.go:118", after := #[{ on := 11, ground := Ground.data }], guard := none }) (v := ?v12) rfl (by kernel_rfl) (by kernel_rfl) (by kernel_rfl) (fun _ _ _ h => h) (Or.inl ⟨by rfl, ?h12⟩) hH0 ?r12
              case h12 => intro w' hSw; (try dsimp only at hSw); go_simp; (try with_reducible rfl)
              simp only [Act.put, List.setIfInBounds_toArray, List.set_cons_zero, List.set_cons_succ]
              clear c1 c2 hlp hgp lp gp
              refine wpAnyH_ready (rs := [6]) (by kernel_rfl) (by simp) ?_
              refine AllReadyH.cons (o := { dst := some 155, op := Op.call { callee := Callee.value (Operand.func 19), args := #[Operand.tmp 154], argTypes := #[25] }, type := 43, pos := "law.go:118", after := #[{ on := 5, ground := Ground.data }], guard := none }) rfl (fun K hK => ?_) AllReadyH.nil
              go_simp
              refine (acked_c (hH0.2.2.ends k hk2).link HO0.out.lok).mono ?_
              rintro e w22 ⟨v1, rfl, ho1, hb1⟩
              have hT1 := hH0.2.2.look hb1
              go_wp2_with fail
              refine hK.out _ _ ⟨(hT1.blk.cell k).trans (endC_l D' hk2), (hT1.blk.cell (2 + k)).trans (endC_x D' hk2), hT1⟩ (fun hH1 => ?_)
              clear hK K hT1 hb1
              refine wpAnyH_ready (rs := [13]) (by kernel_rfl) (by simp) ?_
              refine AllReadyH.cons (o := { dst := some 162, op := Op.call { callee := Callee.value (Operand.func 20), args := #[Operand.tmp 161], argTypes := #[27] }, type := 43, pos := "law.go:118", after := #[{ on := 12, ground := Ground.data }, { on := 6, ground := Ground.chain }], guard := none }) rfl (fun K hK => ?_) AllReadyH.nil
              go_simp
              refine (racked_c (hH1.2.2.ends k hk2).ref HO0.out.rok (by have := HO0.out.ns; omega)).mono ?_
              rintro e w23 ⟨v2, rfl, ho2, hb2⟩
              have hT2 := hH1.2.2.look hb2
              have ho1' := ownsRow_fr (S := fun _ => False) ho1 (Fr.of_below hb2) (fun _ _ h => h)
              go_wp2_with fail
              refine hK.out _ _ ⟨(hT2.blk.cell k).trans (endC_l D' hk2), (hT2.blk.cell (2 + k)).trans (endC_x D' hk2), hT2⟩ (fun hH2 => ?_)
              clear hK K hT2 hb2
              rw [HAk.out] at ho2
              refine wpAnyH_ready (rs := [14]) (by kernel_rfl) (by simp) ?_
              refine AllReadyH.cons (o := { dst := some 163, op := Op.call { callee := Callee.value (Operand.func 18), args := #[Operand.tmp 155, Operand.tmp 162], argTypes := #[43, 43] }, type := 4, pos := "law.go:118", after := #[{ on := 6, ground := Ground.data }, { on := 13, ground := Ground.data }, { on := 13, ground := Ground.chain }], guard := none }) rfl (fun K hK => ?_) AllReadyH.nil
              go_simp
              refine (same_c ho1' ho2 HAl.out).mono ?_
              rintro e w24 ⟨rfl, hb3⟩
              have hT3 := hH2.2.2.look hb3
              go_wp2_with fail
              refine hK.out _ _ ⟨(hT3.blk.cell k).trans (endC_l D' hk2), (hT3.blk.cell (2 + k)).trans (endC_x D' hk2), hT3⟩ (fun hH3 => ?_)
              clear hK K hb3 hH2 hH1 hH0 ho1 ho1' ho2
              refine wpAnyH_take (i := 15) (oi := { dst := some 19, op := Op.assign (Operand.tmp 163), type := 4, pos := "law.go:118", after := #[{ on := 14, ground := Ground.data }, { on := 14, ground := Ground.chain }, { on := 0, ground := Ground.phase }, { on := 1, ground := Ground.phase }, { on := 2, ground := Ground.phase }, { on := 3, ground := Ground.phase }, { on := 4, ground := Ground.phase }, { on := 5, ground := Ground.phase }, { on := 6, ground := Ground.phase }, { on := 7, ground := Ground.phase }, { on := 8, ground := Ground.phase }, { on := 9, ground := Ground.phase }, { on := 10, ground := Ground.phase }, { on := 11, ground := Ground.phase }, { on := 12, ground := Ground.phase }, { on := 13, ground := Ground.phase }, { on := 14, ground := Ground.phase }], guard := none }) (v := ?v15) rfl (by kernel_rfl) (by kernel_rfl) (by kernel_rfl) (fun _ _ _ h => h) (Or.inl ⟨by rfl, ?h15⟩) hH3 ?r15
              case h15 => intro w' hSw; (try dsimp only at hSw); go_simp; (try with_reducible rfl)
              simp only [Act.put, List.setIfInBounds_toArray, List.set_cons_zero, List.set_cons_succ]
              refine wpAnyH_done (by kernel_rfl) ?_ _
              have HT3 := Lib.hid hT3
              clear hH3 hT3 T21 hT0
              go_wp2_with fail
              go_roundg g2
              case measure => omega
              case rel => exact ⟨k + 1, by omega, by go_num, HT3.out⟩
    · have hd1 : decide (i < len) = false := by rw [decide_eq_false_iff_not]; omega
      go_wp2_with fail
      go_ret
      exact ⟨rfl, HX.out.below⟩

end Go.Proofs.YtmlbhlfjaagcaaaDoor

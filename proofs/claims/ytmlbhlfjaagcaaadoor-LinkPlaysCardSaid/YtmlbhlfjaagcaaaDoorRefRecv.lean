/- The contract of the reference's Receive. -/
import Derived.Test.YtmlbhlfjaagcaaaDoorRefAll
namespace Go.Proofs.YtmlbhlfjaagcaaaDoor
open Go.RowKit

def RRecvTo (w : World) (g : Nat) (V : Nat → Prop) (v : RV) (s : RS) (r : RRA) (e : Ending) (w' : World) : Prop :=
  Fr (refS g v s) w w' ∧ (∃ v', RefAt w' g (fun k => V k ∨ w.heap.size ≤ k) v' r.st) ∧ ((∃ m x, r.msg = some m ∧ r.err = 0 ∧ e = .returned (.tuple #[x, .bool true, .int .i64 0]) ∧ OwnB w' w.heap.size x m) ∨
    (r.msg = none ∧ e = .returned (.tuple #[.slice none 0 0, .bool false, .int .i64 (r.err : Int)])))

/-- In the midst of Receive. -/
structure RrX (w : World) (g : Nat) (V : Nat → Prop) (v : RV) (s : RS) (q cb : Nat) (b : List Nat) (v1 : RV) (s1 : RS) (wr : World) : Prop where
  at_ : RefAt wr g (fun k => V k ∨ w.heap.size ≤ k) v1 s1
  own : OwnB wr w.heap.size (.slice (some ⟨q, 0, none⟩) b.length cb) b
  fr : Fr (refS g v s) w wr
  ok : s1.ok
  told : s1.told = s.told
  t : v1.t = v.t
  pe : s1.waits = true → (s.waits = true ∧ v1.p = v.p ∧ v1.e = v.e ∧ s1.parts = s.parts ∧ s1.n = s.n)
section
variable {w wr w' : World} {g : Nat} {V : Nat → Prop} {v v1 : RV} {s s1 : RS} {q cb : Nat} {b : List Nat}
theorem RrX.draw (X : RrX w g V v s q cb b v1 s1 wr) (n : Nat) : RrX w g V v s q cb b v1 s1 (wr.drewN n) :=
  ⟨X.at_.draw n, X.own, X.fr.trans (Fr.drewN (S := fun _ => False) wr n) (fun _ _ h => h.elim), X.ok, X.told, X.t, X.pe⟩
theorem RrX.cell (X : RrX w g V v s q cb b v1 s1 wr) (j : Nat) (hj : j < b.length) : wr.cell? ⟨q, j, none⟩ = some (.int .u8 ((b.getD j 0 : Nat) : Int)) := by
  have hc := World.ownsRow.cells X.own (g := q) rfl j (.int .u8 ((b.getD j 0 : Nat) : Int)) (by simp [U8s, hj])
  rw [addr0] at hc
  exact hc
end

/-- In the midst of Receive, once the parts are laid out. -/
structure RrY (w : World) (g : Nat) (V : Nat → Prop) (v : RV) (s : RS) (q cb : Nat) (b : List Nat) (v1 : RV) (s1 : RS) (wr : World) : Prop where
  at_ : RefAt wr g (fun k => V k ∨ w.heap.size ≤ k) v1 s1
  own : OwnB wr w.heap.size (.slice (some ⟨q, 0, none⟩) b.length cb) b
  fr : Fr (refS g v s) w wr
  ok : s1.ok
  told : s1.told = s.told
  t : v1.t = v.t
  waits : s1.waits = true
  p : ∀ k, v1.p.ownBlock = some k → refS g v s k ∨ w.heap.size ≤ k
  e : ∀ k, v1.e.ownBlock = some k → refS g v s k ∨ w.heap.size ≤ k

theorem RrY.cell {w wr : World} {g : Nat} {V : Nat → Prop} {v v1 : RV} {s s1 : RS} {q cb : Nat} {b : List Nat} (X : RrY w g V v s q cb b v1 s1 wr) (j : Nat) (hj : j < b.length) : wr.cell? ⟨q, j, none⟩ = some (.int .u8 ((b.getD j 0 : Nat) : Int)) := by
  have hc := World.ownsRow.cells X.own (g := q) rfl j (.int .u8 ((b.getD j 0 : Nat) : Int)) (by simp [U8s, hj])
  rw [addr0] at hc
  exact hc

/-- In the midst of the last loop: k parts are put together. -/
structure RpSt (w : World) (s : RS) (k : Nat) (v : Value) (wr : World) : Prop where
  own : OwnB wr w.heap.size v (s.parts.take k).flatten
  all : ∀ j, j < k → s.there[j]? = some true
  below : Below w.heap.size w wr
theorem flat_len : ∀ (l : List (List Nat)) (_ : ∀ p ∈ l, p.length ≤ 200), l.flatten.length ≤ 200 * l.length
  | [], _ => by simp
  | a :: l, h => by
    have h1 := flat_len l (fun p hp => h p (by simp [hp]))
    have h2 := h a (by simp)
    simp only [List.flatten_cons, List.length_append, List.length_cons]
    omega
theorem RpSt.len {w wr : World} {s : RS} {k : Nat} {v : Value} (_ : RpSt w s k v wr) (hp : ∀ p ∈ s.parts, p.length ≤ 200) : (s.parts.take k).flatten.length ≤ 200 * k := by
  have h1 := flat_len (s.parts.take k) (fun p h => hp p (List.mem_of_mem_take h))
  have h2 : (s.parts.take k).length ≤ k := by simp; omega
  omega

theorem hear_rest (s : RS) (b : List Nat) : (s.hear b).told = s.told ∧ (s.hear b).waits = s.waits ∧ (s.hear b).parts = s.parts ∧ (s.hear b).n = s.n ∧ (s.hear b).sent = s.sent := by
  unfold RS.hear; split <;> exact ⟨rfl, rfl, rfl, rfl, rfl⟩

theorem rnewer_s (a b : Nat) (w : World) (ha : a < 65536) (hb : b < 65536) :
    Calls Tryd.prog 13 #[.int .i64 (a : Int), .int .i64 (b : Int)] w fun e w' => e = .returned (.bool (newerN a b)) ∧ w' = w := by
  have h := rnewer_c (a : Int) (b : Int) w
  have e1 : ((a : Int) % 65536).toNat = a := by omega
  have e2 : ((b : Int) % 65536).toNat = b := by omega
  rw [e1, e2] at h
  exact h.mono fun _ _ h => ⟨h.1, h.2.symm⟩

set_option maxHeartbeats 8000000 in
set_option maxRecDepth 100000 in
theorem rrecv_c {g : Nat} {V : Nat → Prop} {v : RV} {s : RS} {w : World} (vb : Value) (d : List Nat) (h : RefAt w g V v s) (hs : s.ok) (hns : s.sent.length < 8796093022208) (hnt : s.told.length < 8796093022208) (hpl : s.waits = true → ∀ p ∈ s.parts, p.length ≤ 200) (hv : SlB w vb d) (hn : d.length ≤ 140737488355318) (hby : ∀ x ∈ d, x < 256) :
    Calls Tryd.prog 30 #[.pointer (some ⟨g, 0, none⟩), vb] w (RRecvTo w g V v s (s.recv d)) := by
  have HFo := Lib.hid (rform_c vb d w hv hn hby)
  have HL := Lib.hid h
  have HS := Lib.hid hs
  have HBy : Hid (∀ x ∈ bodyL d, x < 256) := fun x hx => hby x (List.mem_of_mem_take hx)
  have HPl := Lib.hid hpl
  have HOk : Hid (∀ dg, decD d = some dg → dg.ok) := fun dg hd => dec_ok hby hd
  clear h hs hv hby hpl
  go_enter Tryd.func30, Tryd.ntmps30
  go_wp2_with fail
  refine HFo.out.mono ?_
  rintro e w1 ⟨hb1, ⟨h1, v1, rfl, hown⟩ | ⟨h1, rfl⟩⟩
  · have HQ : Hid (s.recv d = (s.hear (bodyL d)).come (dgOf (bodyL d))) := by unfold RS.recv; rw [h1]; rfl
    have hok := HOk.out _ h1
    have hf : formB (bodyL d) = true := by
      unfold decD at h1
      split at h1
      · rename_i hc; exact hc.2
      · cases h1
    have hlen : 11 ≤ (bodyL d).length := ((form_iff _).1 hf).1
    obtain ⟨b, hbd⟩ : ∃ b, b = bodyL d := ⟨_, rfl⟩
    rw [← hbd] at HQ hok hlen hown HBy
    clear hbd hf h1 HFo HOk hn
    obtain ⟨q, cb, rfl, _, _⟩ := World.ownsRow.form hown (by omega)
    have HO := Lib.hid hown
    have HB := Lib.hid hb1
    have HG := Lib.hid hok
    clear hown hb1 hok
    go_wp2_with fail
    refine (rhear_c (HL.out.below HB.out) HS.out hns HO.out (by omega) HBy.out).mono ?_
    rintro e w2 ⟨rfl, hat, hfr⟩
    have X2 : RrX w g V v s q cb b v (s.hear b) w2 := by
      obtain ⟨r1, r2, r3, r4, r5⟩ := hear_rest s b
      refine ⟨hat.wide (fun _ => .inl), ownsRow_fr HO.out hfr (fun k e1 e2 => own_ne_own (HL.out.below HB.out).heard HO.out (by decide) k e1 e2), (Fr.of_below HB.out).trans hfr (fun _ _ e => .inr (.inr (.inl e))), rhear_ok HS.out b, r1, rfl, fun hw => ?_⟩
      rw [r2] at hw
      exact ⟨hw, rfl, rfl, r3, r4⟩
    obtain ⟨r1, r2, r3, r4, r5⟩ := hear_rest s b
    have el : s.last = (s.hear b).last := by unfold RS.last; rw [r1]
    have hnt1 : (s.hear b).told.length < 8796093022208 := by rw [r1]; exact hnt
    have HP1 : Hid ((s.hear b).waits = true → ∀ p ∈ (s.hear b).parts, p.length ≤ 200) := fun hw p hp => HPl.out (by rw [← r2]; exact hw) p (by rw [← r3]; exact hp)
    clear r1 r2 r3 r4 r5 hat hfr HO HB HPl
    generalize s.hear b = s1 at *
    obtain ⟨dg, hdg⟩ : ∃ dg, dg = dgOf b := ⟨_, rfl⟩
    have e9 : b.getD 9 0 = dg.ix := by rw [hdg]; rfl
    have e10 : b.getD 10 0 = dg.ct := by rw [hdg]; rfl
    have e78 : ((b.getD 7 0 : Nat) : Int) * 256 + ((b.getD 8 0 : Nat) : Int) = (dg.nu : Int) := by rw [hdg]; show _ = (((b.getD 7 0 * 256 + b.getD 8 0 : Nat)) : Int); push_cast; rfl
    have ebs : b.drop 11 = dg.bs := by rw [hdg]; rfl
    rw [← hdg] at HQ HG
    clear hdg
    have HE := Lib.hid (And.intro e9 (And.intro e10 ebs))
    clear e9 e10 ebs
    have HX := Lib.hid X2
    have HBL : Hid (∀ j, b.getD j 0 < 256) := fun j => getD_lt HBy.out j
    obtain ⟨bl, hbl⟩ : ∃ bl, bl = b.length := ⟨_, rfl⟩
    rw [← hbl] at hlen
    have HN := Lib.hid hbl
    have c7 : w2.cell? ⟨q, 7, none⟩ = some (.int .u8 ((b.getD 7 0 : Nat) : Int)) := X2.cell 7 (by omega)
    have c8 : w2.cell? ⟨q, 8, none⟩ = some (.int .u8 ((b.getD 8 0 : Nat) : Int)) := X2.cell 8 (by omega)
    have l7 := HBL.out 7
    have l8 := HBL.out 8
    have hnu := HG.out.nu
    have n7 : 7 < bl := by omega
    have n8 : 8 < bl := by omega
    rw [← hbl]
    clear X2 hbl
    generalize b.getD 7 0 = x7 at *
    generalize b.getD 8 0 = x8 at *
    have e77 : IntKind.i64.wrap ((x7 : Int) * 256) = (x7 : Int) * 256 := IntWalk.i64_in _ (by omega)
    have e79 : IntKind.i64.wrap ((x7 : Int) * 256 + (x8 : Int)) = (dg.nu : Int) := by rw [e78]; exact IntWalk.i64_in _ (by omega)
    go_upto_region 5 with (fail)
    go_quiet (fail)
    go_wp2_with fail
    have X3 := HX.out.draw nq
    generalize w2.drewN nq = w3 at X3 ⊢
    clear c7 c8 e77 e79 e78 HX l7 l8 n7 n8
    have HX := Lib.hid X3
    have c3 : w3.cell? ⟨g, 3, none⟩ = some v.t := X3.at_.blk.cell 3
    clear X3
    go_cut [56] (fun s56 wx => s56 = .bool (decide (s1.told ≠ [] ∧ newerN dg.nu s1.last = false)) ∧ RrX w g V v s q cb b v s1 wx)
    case first =>
      by_cases ht : s1.told = []
      · obtain ⟨A, c, hv⟩ : ∃ A c, v.t = .slice A 0 c := by
          have := own_slice HX.out.at_.told; rw [ht] at this; exact this
        rw [hv] at c3
        have hz : decide (s1.told ≠ [] ∧ newerN dg.nu s1.last = false) = false := decide_eq_false (fun e => e.1 ht)
        have HZ := Lib.hid hz
        clear hv ht hz
        go_quiet (fail)
        go_wp2_with fail
        go_meet
        exact ⟨by rw [HZ.out], HX.out.draw nq⟩
      · obtain ⟨r, c, hv, hc⟩ := own_row HX.out.at_.told (last_at ht)
        rw [hv] at c3
        have hp : 0 < s1.told.length := List.length_pos_iff.2 ht
        have hz : decide (s1.told ≠ [] ∧ newerN dg.nu s1.last = false) = !(newerN dg.nu s1.last) := by
          rw [Bool.eq_iff_iff]; simp [ht]
        have HZ := Lib.hid hz
        have hla := rlast_ok HX.out.ok
        change w3.cell? ⟨r, s1.told.length - 1, none⟩ = some (.int .i64 (s1.last : Int)) at hc
        generalize s1.last = x at *
        generalize s1.told.length = m at *
        have d2 : decide (0 < m) = true := by simpa using hp
        have e2 : IntKind.i64.wrap ((m : Int) - 1) = ((m - 1 : Nat) : Int) := by rw [IntWalk.i64_in _ (by omega)]; omega
        have e3 : m - 1 < m := by omega
        clear hv ht hz
        go_quiet ((go_at_call 13; exact Calls.quiet_of_same (rnewer_s _ _ _ hnu hla)))
        go_wp2_with fail
        go_meet
        exact ⟨by rw [HZ.out], HX.out.draw nq⟩
    case rest =>
      obtain ⟨rfl, X4⟩ := hcut
      clear HX c3
      have HX := Lib.hid X4
      clear X4
      by_cases hst : s1.told ≠ [] ∧ newerN dg.nu s1.last = false
      · have HA : Hid (s.recv d = ⟨s1, 71, none⟩) := by rw [HQ.out]; unfold RS.come; rw [if_pos hst]; exact rfl
        rw [decide_eq_true hst]
        clear hst
        go_wp2_with fail
        go_ret3
        rw [HA.out]
        exact ⟨HX.out.fr, ⟨v, HX.out.at_⟩, .inr ⟨rfl, rfl⟩⟩
      · have HQ2 : Hid (s.recv d = if s1.waits = true ∧ s1.n ≠ dg.nu then (if newerN dg.nu s1.n = false then ⟨s1, 71, none⟩ else RS.same { s1 with waits := false } dg) else s1.same dg) := by rw [HQ.out]; unfold RS.come; rw [if_neg hst]; exact rfl
        have HNw : Hid (s1.told ≠ [] → 1 ≤ aheadN dg.nu s1.last) := fun ht => newer_pos (by
          cases hx : newerN dg.nu s1.last with
          | true => rfl
          | false => exact absurd ⟨ht, hx⟩ hst)
        rw [decide_eq_false hst]
        clear hst HQ
        go_upto_region 8 with (fail)
        obtain ⟨c36, c37, _, _⟩ := HX.out.at_.tail HX.out.ok.bits
        have hn1 := HX.out.ok.n
        go_cut [68] (fun s68 wx => s68 = .bool (decide (s1.waits = true ∧ s1.n ≠ dg.nu)) ∧ wx = wc)
        case first =>
          cases hw : s1.waits with
          | false =>
            rw [hw] at c36
            go_wp2_with fail
            go_meet
            exact ⟨by rw [decide_eq_false (fun e => by rw [hw] at e; cases e.1)], rfl⟩
          | true =>
            rw [hw] at c36
            go_wp2_with fail
            go_meet
            exact ⟨bne_both hw, rfl⟩
        case rest =>
          obtain ⟨rfl, rfl⟩ := hcut
          go_upto_if 68 with (fail)
          go_cut [] (fun wx => ∃ s2, RrX w g V v s q cb b v s2 wx ∧ s.recv d = s2.same dg ∧ (s2.told ≠ [] → 1 ≤ aheadN dg.nu s2.last) ∧ (s2.waits = true → s2.n = dg.nu ∧ ∀ p ∈ s2.parts, p.length ≤ 200))
          case first =>
            by_cases hc : s1.waits = true ∧ s1.n ≠ dg.nu
            · rw [decide_eq_true hc]
              rw [if_pos hc] at HQ2
              clear hc
              cases hnw : newerN dg.nu s1.n with
              | false =>
                rw [if_pos hnw] at HQ2
                go_wp2_with fail
                refine (rnewer_s _ _ _ hnu hn1).mono ?_
                rintro e w5 ⟨rfl, hw5⟩
                subst w5
                rw [hnw]
                go_wp2_with fail
                go_ret3
                rw [HQ2.out]
                exact ⟨HX.out.fr, ⟨v, HX.out.at_⟩, .inr ⟨rfl, rfl⟩⟩
              | true =>
                rw [if_neg (by rw [hnw]; simp)] at HQ2
                have f36 := HX.out.at_.blk.frozen 36
                obtain ⟨O1, O2⟩ := HX.out.at_.off HX.out.ok.bits
                have X5 : Hid (RrX w g V v s q cb b v { s1 with waits := false } (wc.setCell ⟨g, 36, none⟩ (.bool false))) :=
                  ⟨O1, ownsRow_fr HX.out.own O2 (fun k e1 e2 => own_ne_blk HX.out.own HX.out.at_.blk (by decide) (e2 ▸ e1)), HX.out.fr.trans O2 (fun _ _ e => .inl e), ⟨HX.out.ok.next, HX.out.ok.sent, HX.out.ok.heard, HX.out.ok.told, HX.out.ok.bits, HX.out.ok.n, HX.out.ok.same, HX.out.ok.many, HX.out.ok.by_⟩, HX.out.told, HX.out.t, fun e => by cases e⟩
                clear O1 O2
                go_wp2_with fail
                refine (rnewer_s _ _ _ hnu hn1).mono ?_
                rintro e w5 ⟨rfl, hw5⟩
                subst w5
                rw [hnw]
                go_wp2_with fail
                go_meet
                exact ⟨_, X5.out, HQ2.out, HNw.out, fun e => by cases e⟩
            · rw [decide_eq_false hc]
              rw [if_neg hc] at HQ2
              have HH : Hid (s1.waits = true → s1.n = dg.nu) := fun hw => Decidable.byContradiction fun e => hc ⟨hw, e⟩
              clear hc
              go_wp2_with fail
              go_meet
              exact ⟨s1, HX.out, HQ2.out, HNw.out, fun hw => ⟨HH.out hw, HP1.out hw⟩⟩
          case rest =>
            obtain ⟨s2, X6, h1, h2, h3⟩ := hcut
            have HX := Lib.hid X6
            have HQ := Lib.hid h1
            have HNw := Lib.hid h2
            have HW := Lib.hid h3
            clear X6 h1 h2 h3 c36 c37 HQ2 HP1
            go_upto_region 13 with (fail)
            have c10 : wc.cell? ⟨q, 10, none⟩ = some (.int .u8 (dg.ct : Int)) := by rw [← HE.out.2.1]; exact HX.out.cell 10 (by have := HN.out; omega)
            have n10 : 10 < bl := by omega
            have hct := HG.out.ct
            have hix := HG.out.ix
            obtain ⟨c36, c37, c38, c39⟩ := HX.out.at_.tail HX.out.ok.bits
            go_upto_region 14 with (fail)
            clear c10
            go_cut [96] (fun s96 wx => s96 = .bool (decide (s2.waits = true ∧ s2.parts.length ≠ dg.ct)) ∧ wx = wc)
            case first =>
              cases hw : s2.waits with
              | false =>
                rw [hw] at c36
                go_wp2_with fail
                go_meet
                exact ⟨by rw [decide_eq_false (fun e => by rw [hw] at e; cases e.1)], rfl⟩
              | true =>
                rw [hw] at c36
                obtain ⟨kp, ke, hp1, hp2, _⟩ := HX.out.at_.vp hw
                rw [hp1] at c38
                clear hp1 hp2
                go_wp2_with fail
                go_meet
                exact ⟨bne_both hw, rfl⟩
            case rest =>
              obtain ⟨rfl, rfl⟩ := hcut
              by_cases hc : s2.waits = true ∧ s2.parts.length ≠ dg.ct
              · have HA : Hid (s.recv d = ⟨s2, 70, none⟩) := by rw [HQ.out]; unfold RS.same; rw [if_pos hc]; exact rfl
                rw [decide_eq_true hc]
                clear hc
                go_wp2_with fail
                go_ret3
                rw [HA.out]
                exact ⟨HX.out.fr, ⟨v, HX.out.at_⟩, .inr ⟨rfl, rfl⟩⟩
              · have HQ2 : Hid (s.recv d = if s2.waits = true ∧ s2.there.getD dg.ix false = true then ⟨s2, 71, none⟩ else (s2.begins dg).put dg) := by rw [HQ.out]; unfold RS.same; rw [if_neg hc]; exact rfl
                have HPl : Hid (s2.waits = true → s2.parts.length = dg.ct) := fun hw => Decidable.byContradiction fun e => hc ⟨hw, e⟩
                rw [decide_eq_false hc]
                clear hc HQ
                have c9 : wc.cell? ⟨q, 9, none⟩ = some (.int .u8 (dg.ix : Int)) := by rw [← HE.out.1]; exact HX.out.cell 9 (by have := HN.out; omega)
                have n9 : 9 < bl := by omega
                go_upto_region 16 with (fail)
                go_cut [111] (fun s111 wx => s111 = .bool (decide (s2.waits = true ∧ s2.there.getD dg.ix false = true)) ∧ RrX w g V v s q cb b v s2 wx)
                case first =>
                  cases hw : s2.waits with
                  | false =>
                    rw [hw] at c36
                    go_quiet (fail)
                    go_wp2_with fail
                    go_meet
                    exact ⟨by rw [decide_eq_false (fun e => by rw [hw] at e; cases e.1)], HX.out.draw nq⟩
                  | true =>
                    rw [hw] at c36
                    obtain ⟨kp, ke, hp1, hp2, _, hk, _⟩ := HX.out.at_.vp hw
                    rw [hp2, HPl.out hw] at c39
                    have hl : dg.ix < s2.there.length := by rw [HX.out.ok.same, HPl.out hw]; exact hix
                    have ck : wc.cell? ⟨ke, dg.ix, none⟩ = some (.bool (s2.there.getD dg.ix false)) := by
                      rw [hk.cell]; simp [RBools, hl]
                    have HZ : Hid (decide (s2.waits = true ∧ s2.there.getD dg.ix false = true) = s2.there.getD dg.ix false) := by
                      show _ = _
                      rw [Bool.eq_iff_iff]; simp [hw]
                    clear hp1 hp2 hk hl
                    generalize s2.there.getD dg.ix false = z at *
                    go_quiet (fail)
                    go_wp2_with fail
                    go_meet
                    exact ⟨by rw [HZ.out], HX.out.draw nq⟩
                case rest =>
                  obtain ⟨rfl, X7⟩ := hcut
                  clear HX c36 c37 c38 c39 c9
                  have HX := Lib.hid X7
                  clear X7
                  by_cases hc : s2.waits = true ∧ s2.there.getD dg.ix false = true
                  · have HA : Hid (s.recv d = ⟨s2, 71, none⟩) := by rw [HQ2.out, if_pos hc]; exact rfl
                    rw [decide_eq_true hc]
                    clear hc
                    go_wp2_with fail
                    go_ret3
                    rw [HA.out]
                    exact ⟨HX.out.fr, ⟨v, HX.out.at_⟩, .inr ⟨rfl, rfl⟩⟩
                  · have HQ3 : Hid (s.recv d = (s2.begins dg).put dg) := by rw [HQ2.out, if_neg hc]; exact rfl
                    rw [decide_eq_false hc]
                    clear hc HQ2
                    go_upto_region 18 with (fail)
                    obtain ⟨c36, c37, c38, c39⟩ := HX.out.at_.tail HX.out.ok.bits
                    go_upto_if 116 with (fail)
                    go_cut [] (fun wx => ∃ v3 s3, RrY w g V v s q cb b v3 s3 wx ∧ s.recv d = s3.put dg ∧ (s3.told ≠ [] → 1 ≤ aheadN dg.nu s3.last) ∧ (∀ p ∈ s3.parts, p.length ≤ 200) ∧ s3.parts.length = dg.ct)
                    case first =>
                      cases hw : s2.waits with
                      | true =>
                        have HH : Hid (s2.begins dg = s2) := by unfold RS.begins; rw [if_pos hw]; exact rfl
                        have Y : Hid (RrY w g V v s q cb b v s2 wc) := by
                          obtain ⟨p1, p2, p3, p4, p5⟩ := HX.out.pe hw
                          exact ⟨HX.out.at_, HX.out.own, HX.out.fr, HX.out.ok, HX.out.told, HX.out.t, hw, fun k e => .inl (.inr (.inr (.inr (.inr ⟨p1, .inl e⟩)))), fun k e => .inl (.inr (.inr (.inr (.inr ⟨p1, .inr e⟩))))⟩
                        have HW2 := Lib.hid (HW.out hw)
                        have HP2 := Lib.hid (HPl.out hw)
                        go_wp2_with fail
                        go_meet
                        exact ⟨v, s2, Y.out, by rw [HQ3.out, HH.out], HNw.out, HW2.out.2, HP2.out⟩
                      | false =>
                        have HH : Hid (s2.begins dg = s2.fresh dg) := by unfold RS.begins; rw [if_neg (by rw [hw]; simp)]; exact rfl
                        have m1 := mk68 dg.ct hct
                        have m2 := mk66 dg.ct hct
                        obtain ⟨B1, B2⟩ := HX.out.at_.began HX.out.ok.bits dg
                        have f36 := HX.out.at_.blk.frozen 36
                        have f37 := HX.out.at_.blk.frozen 37
                        have f38 := HX.out.at_.blk.frozen 38
                        have f39 := HX.out.at_.blk.frozen 39
                        have Y : Hid (∃ v3, RrY w g V v s q cb b v3 (s2.fresh dg) (beganW wc g dg.nu dg.ct)) := by
                          have hsz := HX.out.fr.size
                          refine ⟨_, B1.wide (fun k => ?_), ownsRow_fr HX.out.own B2 (fun k e1 e2 => own_ne_blk HX.out.own HX.out.at_.blk (by decide) (e2 ▸ e1)), HX.out.fr.trans B2 (fun _ _ e => .inl e), ⟨HX.out.ok.next, HX.out.ok.sent, HX.out.ok.heard, HX.out.ok.told, HX.out.ok.bits, hnu, ?_, ?_, ?_⟩, HX.out.told, HX.out.t, rfl, fun k e => ?_, fun k e => ?_⟩
                          · rintro ((e | e) | e)
                            · exact .inl e
                            · exact .inr e
                            · exact .inr (by omega)
                          · simp [RS.fresh]
                          · simp [RS.fresh]; exact hct
                          · simp [RS.fresh]
                          · have : wc.heap.size = k := by simpa [Value.ownBlock] using e
                            exact .inr (by omega)
                          · have : wc.heap.size + 1 = k := by simpa [Value.ownBlock] using e
                            exact .inr (by omega)
                        have hgl := HX.out.at_.blk.lt
                        have g0 : g ≠ wc.heap.size := by omega
                        have g1 : wc.heap.size ≠ g := by omega
                        have g2 : g ≠ wc.heap.size + 1 := by omega
                        have g3 : wc.heap.size + 1 ≠ g := by omega
                        clear B1 B2
                        go_upto_region 21 with (fail)
                        go_upto_region 22 with (fail)
                        go_wp2_with fail
                        go_meet
                        obtain ⟨v3, Y3⟩ := Y.out
                        exact ⟨v3, s2.fresh dg, Y3, by rw [HQ3.out, HH.out], HNw.out, by simp [RS.fresh], by simp [RS.fresh]⟩
                    case rest =>
                      obtain ⟨v3, s3, Y3, h1, h2, h3, h4⟩ := hcut
                      have HX := Lib.hid Y3
                      have HQ := Lib.hid h1
                      have HNw := Lib.hid h2
                      have HPn := Lib.hid h3
                      have HPl := Lib.hid h4
                      clear Y3 h1 h2 h3 h4 c36 c37 c38 c39 HQ3 HW
                      go_upto_region 23 with (fail)
                      obtain ⟨kp, ke, hp1, hp2, hk1, hk2, _, _, _⟩ := HX.out.at_.vp HX.out.waits
                      obtain ⟨_, _, c38, c39⟩ := HX.out.at_.tail HX.out.ok.bits
                      have c9 : wc.cell? ⟨q, 9, none⟩ = some (.int .u8 (dg.ix : Int)) := by rw [← HE.out.1]; exact HX.out.cell 9 (by have := HN.out; omega)
                      obtain ⟨B, dd, hcut, hsl⟩ := (show SlB wc (.slice (some ⟨q, 0, none⟩) bl cb) b by rw [HN.out]; exact HX.out.own.sl).tail 11 11 rfl (by omega)
                      rw [HE.out.2.2] at hsl
                      have hcv := hsl.conv
                      have hcv2 : (convert 36 9 (.slice B (bl - 11) dd)).run Tryd.prog wc.drew = .ok (.string (strOf dg.bs)) wc.drew := (hsl.below ((Below.refl _ _).drew)).conv
                      have HK1 := Lib.hid hp1
                      have HK2 := Lib.hid hp2
                      rw [hp1, HPl.out] at c38
                      obtain ⟨uo, ck⟩ : ∃ uo, wc.cell? ⟨kp, dg.ix, none⟩ = some (.string uo) := by
                        have hl : dg.ix < s3.parts.length := by rw [HPl.out]; exact hix
                        exact ⟨_, (hk1.cell dg.ix).trans (by simp only [List.getElem?_toArray, List.getElem?_map]; rw [List.getElem?_eq_getElem hl]; rfl)⟩
                      have fk := hk1.frozen dg.ix
                      obtain ⟨P1, P2⟩ := HX.out.at_.set_part HX.out.waits hp1 dg.ix dg.bs
                      have hpne : kp ≠ q := fun e => own_ne_blk HX.out.own hk1 (by decide) (by rw [e]; rfl)
                      have Y4 : Hid (RrY w g V v s q cb b v3 { s3 with parts := s3.parts.set dg.ix dg.bs } (wc.setCell ⟨kp, dg.ix, none⟩ (.string (strOf dg.bs))).drew) := by
                        refine ⟨P1.draw 1, ownsRow_fr HX.out.own P2.drew (fun k e1 e2 => own_ne_blk HX.out.own hk1 (by decide) (e2 ▸ e1)), (HX.out.fr.trans P2 (fun i hi e => ?_)).drew, ⟨HX.out.ok.next, HX.out.ok.sent, HX.out.ok.heard, HX.out.ok.told, HX.out.ok.bits, HX.out.ok.n, ?_, ?_, ?_⟩, HX.out.told, HX.out.t, HX.out.waits, HX.out.p, HX.out.e⟩
                        · have e : i = kp := e
                          rcases HX.out.p kp (by rw [hp1]; rfl) with h | h
                          · rw [e]; exact h
                          · omega
                        · show s3.there.length = (s3.parts.set dg.ix dg.bs).length
                          rw [List.length_set]; exact HX.out.ok.same
                        · show (s3.parts.set dg.ix dg.bs).length ≤ 10
                          rw [List.length_set]; exact HX.out.ok.many
                        · intro p hp
                          rcases List.mem_or_eq_of_mem_set hp with h | h
                          · exact HX.out.ok.by_ p h
                          · rw [h]; exact HG.out.byte
                      clear hp1 hp2 hk1 hk2 c39 hsl P1 P2
                      go_region
                      go_upto_region 24 with (fail)
                      clear c38 c9 ck fk hcv hcv2 hcut HX
                      generalize (wc.setCell ⟨kp, dg.ix, none⟩ (.string (strOf dg.bs))).drew = w8 at Y4 ⊢
                      obtain ⟨kp2, ke2, hp1, hp2, hk1, hk2, _, _, _⟩ := Y4.out.at_.vp Y4.out.waits
                      obtain ⟨_, _, c38, c39⟩ := Y4.out.at_.tail Y4.out.ok.bits
                      have c9 : w8.cell? ⟨q, 9, none⟩ = some (.int .u8 (dg.ix : Int)) := by rw [← HE.out.1]; exact Y4.out.cell 9 (by have := HN.out; omega)
                      have HPl4 : Hid ((s3.parts.set dg.ix dg.bs).length = dg.ct) := by show _ = _; rw [List.length_set]; exact HPl.out
                      have hp2' : v3.e = .slice (some ⟨ke2, 0, none⟩) dg.ct dg.ct := by rw [← HPl4.out]; exact hp2
                      rw [hp2'] at c39
                      obtain ⟨uo2, ck⟩ : ∃ uo2, w8.cell? ⟨ke2, dg.ix, none⟩ = some (.bool uo2) := by
                        have hl : dg.ix < s3.there.length := by have := Y4.out.ok.same; change s3.there.length = (s3.parts.set dg.ix dg.bs).length at this; rw [this, HPl4.out]; exact hix
                        exact ⟨_, (hk2.cell dg.ix).trans (by simp only [List.getElem?_toArray, RBools, List.getElem?_map]; rw [List.getElem?_eq_getElem hl]; rfl)⟩
                      have fk := hk2.frozen dg.ix
                      obtain ⟨P1, P2⟩ := Y4.out.at_.set_there Y4.out.waits hp2 dg.ix
                      have Y5 : Hid (RrY w g V v s q cb b v3 (s3.place dg) (w8.setCell ⟨ke2, dg.ix, none⟩ (.bool true)).drew) := by
                        refine ⟨P1.draw 1, ownsRow_fr Y4.out.own P2.drew (fun k e1 e2 => own_ne_blk Y4.out.own hk2 (by decide) (e2 ▸ e1)), (Y4.out.fr.trans P2 (fun i hi e => ?_)).drew, ⟨Y4.out.ok.next, Y4.out.ok.sent, Y4.out.ok.heard, Y4.out.ok.told, Y4.out.ok.bits, Y4.out.ok.n, ?_, Y4.out.ok.many, Y4.out.ok.by_⟩, Y4.out.told, Y4.out.t, Y4.out.waits, Y4.out.p, Y4.out.e⟩
                        · have e : i = ke2 := e
                          rcases Y4.out.e ke2 (by rw [hp2]; rfl) with h | h
                          · rw [e]; exact h
                          · omega
                        · show (s3.there.set dg.ix true).length = (s3.parts.set dg.ix dg.bs).length
                          rw [List.length_set]; exact Y4.out.ok.same
                      clear hp1 hp2 hp2' hk1 hk2 c38 P1 P2 HK1 HK2
                      go_region
                      go_upto_region 25 with (fail)
                      clear c39 c9 ck fk Y4 HPl4
                      generalize (w8.setCell ⟨ke2, dg.ix, none⟩ (.bool true)).drew = w9 at Y5 ⊢
                      have HQ4 : Hid (s.recv d = if (s3.place dg).there.all id = true then ⟨({ s3.place dg with waits := false } : RS).note dg.nu, 0, some (s3.place dg).parts.flatten⟩ else ⟨s3.place dg, 0, none⟩) := by rw [HQ.out]; exact rfl
                      have HNt : Hid ((s3.place dg).told ≠ [] → 1 ≤ aheadN dg.nu (s3.place dg).last) := HNw.out
                      have HPn4 : Hid (∀ p ∈ (s3.place dg).parts, p.length ≤ 200) := fun p hp => by
                        rcases List.mem_or_eq_of_mem_set hp with h | h
                        · exact HPn.out p h
                        · rw [h]; exact HG.out.len
                      have HPl4 : Hid ((s3.place dg).parts.length = dg.ct) := by show (s3.parts.set dg.ix dg.bs).length = _; rw [List.length_set]; exact HPl.out
                      clear HQ HNw HPn HPl
                      generalize s3.place dg = s4 at *
                      have HTl : Hid (s4.there.length = dg.ct) := by show _ = _; rw [Y5.out.ok.same]; exact HPl4.out
                      have S0 : Hid (RpSt w9 s4 0 (.slice none 0 0) w9) := ⟨by simpa using OwnB.nil w9 w9.heap.size, fun j hj => absurd hj (by omega), Below.refl _ _⟩
                      go_wp2_with fail
                      go_loopg [12, 13] dg.ct (fun gg s12 s13 wr => ∃ k : Nat, k + gg = dg.ct ∧ s13 = .int .i64 (k : Int) ∧ RpSt w9 s4 k s12 wr)
                      case atStart => exact ⟨0, by omega, rfl, S0.out⟩
                      case round =>
                        obtain ⟨k, hk, rfl, S⟩ := hrel
                        have HSt := Lib.hid S
                        clear S S0
                        cases gk with
                        | zero =>
                          have hd : decide (k < dg.ct) = false := by rw [decide_eq_false_iff_not]; omega
                          have hkc : dg.ct = k := by omega
                          have HA : Hid (s.recv d = ⟨({ s4 with waits := false } : RS).note dg.nu, 0, some s4.parts.flatten⟩) := by
                            rw [HQ4.out, if_pos]
                            · exact rfl
                            · rw [List.all_eq_true]
                              intro x hx
                              obtain ⟨j, hj⟩ := List.getElem?_of_mem hx
                              have h1 := HSt.out.all j (by have := (List.getElem?_eq_some_iff.1 hj).1; rw [HTl.out] at this; omega)
                              rw [hj] at h1
                              injection h1 with h1
                          have R9 := Y5.out.at_.below HSt.out.below
                          have f36 := R9.blk.frozen 36
                          obtain ⟨c36, _, _, _⟩ := R9.tail Y5.out.ok.bits
                          obtain ⟨O1, O2⟩ := R9.off Y5.out.ok.bits
                          have hall : s4.parts.take k = s4.parts := List.take_of_length_le (by rw [HPl4.out]; omega)
                          have Hown : Hid (OwnB (wr.setCell ⟨g, 36, none⟩ (.bool false)) w9.heap.size u12 s4.parts.flatten) := by
                            have h1 := HSt.out.own
                            rw [hall] at h1
                            exact ownsRow_fr h1 O2 (fun k e1 e2 => own_ne_blk h1 R9.blk (by decide) (e2 ▸ e1))
                          have HF9 : Hid (Fr (refS g v s) w (wr.setCell ⟨g, 36, none⟩ (.bool false))) := (Y5.out.fr.trans (Fr.of_below (S := fun _ => False) HSt.out.below) (fun _ _ e => e.elim)).trans O2 (fun _ _ e => .inl e)
                          have HO1 := Lib.hid O1
                          have Hok : Hid (RS.ok { s4 with waits := false }) := ⟨Y5.out.ok.next, Y5.out.ok.sent, Y5.out.ok.heard, Y5.out.ok.told, Y5.out.ok.bits, Y5.out.ok.n, Y5.out.ok.same, Y5.out.ok.many, Y5.out.ok.by_⟩
                          have htl : (({ s4 with waits := false } : RS).told.length < 8796093022208) := by show s4.told.length < _; rw [Y5.out.told]; exact hnt
                          have hsz9 : w.heap.size ≤ w9.heap.size := Y5.out.fr.size
                          have hszw : w9.heap.size ≤ wr.heap.size := HSt.out.below.size
                          have HT3 := Lib.hid Y5.out.t
                          clear R9 O1 O2 hall Y5 HSt hkc
                          go_upto_region 33 with (fail)
                          clear c36 f36
                          have hszz : (wr.setCell ⟨g, 36, none⟩ (.bool false)).heap.size = wr.heap.size := by simp
                          generalize wr.setCell ⟨g, 36, none⟩ (.bool false) = w10 at HO1 Hown HF9 hszz ⊢
                          go_wp2_with fail
                          refine (rnote_c HO1.out Hok.out htl hnu HNt.out).mono ?_
                          rintro e w11 ⟨rfl, ⟨t', hat⟩, hfr⟩
                          have Z1 : Hid (RefAt w11 g (fun k => V k ∨ w.heap.size ≤ k) { v3 with t := t' } (({ s4 with waits := false } : RS).note dg.nu)) := hat.wide (fun k => by
                            rintro ((e | e) | e)
                            · exact .inl e
                            · exact .inr e
                            · exact .inr (by omega))
                          have Z2 : Hid (Fr (refS g v s) w w11) := HF9.out.trans hfr (fun i _ e => e.elim .inl (fun e => .inr (.inr (.inr (.inl (by rw [← HT3.out]; exact e))))))
                          have Z3 : Hid (OwnB w11 w.heap.size u12 s4.parts.flatten) := OwnB.lower (ownsRow_fr Hown.out hfr (fun k e1 e2 => e2.elim (fun e => own_ne_blk Hown.out HO1.out.blk (by decide) (e ▸ e1)) (fun e => own_ne_own HO1.out.told Hown.out (by decide) k e1 e))) (by omega)
                          clear hat hfr
                          go_wp2_with fail
                          go_ret3
                          rw [HA.out]
                          exact ⟨Z2.out, ⟨_, Z1.out⟩, .inl ⟨s4.parts.flatten, u12, rfl, rfl, rfl, Z3.out⟩⟩
                        | succ gk =>
                          have hd : decide (k < dg.ct) = true := by rw [decide_eq_true_eq]; omega
                          have hkl : k < dg.ct := by omega
                          obtain ⟨kp3, ke3, hp1, hp2, hk1, hk2, _, _, _⟩ := (Y5.out.at_.below HSt.out.below).vp Y5.out.waits
                          obtain ⟨_, _, c38, c39⟩ := (Y5.out.at_.below HSt.out.below).tail Y5.out.ok.bits
                          rw [hp1, HPl4.out] at c38
                          rw [hp2, HPl4.out] at c39
                          obtain ⟨th, hth⟩ : ∃ th, s4.there[k]? = some th := ⟨_, List.getElem?_eq_getElem (by rw [HTl.out]; exact hkl)⟩
                          obtain ⟨pt, hpt⟩ : ∃ pt, s4.parts[k]? = some pt := ⟨_, List.getElem?_eq_getElem (by rw [HPl4.out]; exact hkl)⟩
                          have ct : wr.cell? ⟨ke3, k, none⟩ = some (.bool th) := by rw [hk2.cell]; simp [RBools, hth]
                          have cp : wr.cell? ⟨kp3, k, none⟩ = some (.string (strOf pt)) := by rw [hk1.cell]; simp [hpt]
                          have hbp : ∀ x ∈ pt, x < 256 := Y5.out.ok.by_ pt (List.mem_of_getElem? hpt)
                          have hlp := HPn4.out pt (List.mem_of_getElem? hpt)
                          have hfl := HSt.out.len HPn4.out
                          have HTh := Lib.hid hth
                          have HPt := Lib.hid hpt
                          have HBp := Lib.hid hbp
                          clear hp1 hp2 hk1 hk2 hth hpt hbp
                          cases th with
                          | false =>
                            have HA : Hid (s.recv d = ⟨s4, 0, none⟩) := by
                              rw [HQ4.out, if_neg]
                              · exact rfl
                              · intro e
                                have := List.all_eq_true.1 e false (List.mem_of_getElem? HTh.out)
                                cases this
                            go_wp2_with fail
                            go_ret3
                            rw [HA.out]
                            exact ⟨Y5.out.fr.trans (Fr.of_below (S := fun _ => False) HSt.out.below) (fun _ _ e => e.elim), ⟨v3, Y5.out.at_.below HSt.out.below⟩, .inr ⟨rfl, rfl⟩⟩
                          | true =>
                            have hsz : (strOf pt).size ≤ 200 := by rw [← bytesOf_length, bytesOf_strOf HBp.out]; exact hlp
                            go_wp2_with (at_builtin; refine wpList_text rfl (.tmp 166) (.tmp 173) rfl w9.heap.size _ _ rfl HSt.out.own (strOf pt) rfl (by omega) (by omega) HSt.out.below.size ?_)
                            intro v12 w12 ho12 hg12
                            have S9 : Hid (RpSt w9 s4 (k + 1) v12 w12) := by
                              refine ⟨?_, fun j hj => ?_, grown_below HSt.out.below HSt.out.below.size HSt.out.own hg12⟩
                              · rw [bytesOf_strOf HBp.out] at ho12
                                rw [List.take_add_one, HPt.out, List.flatten_append]
                                simpa using ho12
                              · by_cases e : j = k
                                · rw [e]; exact HTh.out
                                · exact HSt.out.all j (by omega)
                            clear ho12 hg12 HSt hfl
                            go_wp2_with fail
                            go_roundg gk
                            case measure => omega
                            case rel => exact ⟨k + 1, by omega, by go_num, S9.out⟩
  · have HQ : Hid (s.recv d = ⟨s, 70, none⟩) := by unfold RS.recv; rw [h1]; rfl
    have HB := Lib.hid hb1
    clear h1 hb1 HFo
    go_wp2_with fail
    go_ret3
    rw [HQ.out]
    exact ⟨Fr.of_below HB.out, ⟨v, (HL.out.below HB.out).wide (fun _ => .inl)⟩, .inr ⟨rfl, rfl⟩⟩

end Go.Proofs.YtmlbhlfjaagcaaaDoor

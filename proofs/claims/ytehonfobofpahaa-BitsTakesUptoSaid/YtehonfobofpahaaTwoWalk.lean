/- The walk of BitsTwo. -/
import Derived.Test.YtehonfobofpahaaAwake
import Derived.Test.YtehonfobofpahaaArgs
import Derived.StillTailTactics
namespace Go.Proofs.Ytehonfobofpahaa
open Go.RowKit

/-- Where a reader stands behind a Take, what it answers, and which error. -/
def tkN (bs : List Nat) (k : Nat) (n : Int) : Nat × Nat × Nat :=
  if n < 0 ∨ 63 < n then (k, 0, 1) else if 8 * bs.length < k + n.toNat then (k, 0, 3) else (k + n.toNat, tk bs k 0 n.toNat, 0)

/-- What a Take leaves, as a function. -/
def TakeFn (w : World) (q g : Nat) (bs : List Nat) (r : Nat × Nat × Nat) (e : Ending) (w' : World) : Prop :=
  e = .returned (.tuple #[.int .i64 (r.2.1 : Int), .int .i64 (r.2.2 : Int)]) ∧ Rd w' q g bs r.1 ∧ r.1 ≤ 8 * bs.length ∧ Fr (fun i => i = q) w w' ∧ w'.heap.size = w.heap.size

theorem take_fn (q g k : Nat) (n : Int) (bs : List Nat) (w : World) (h : Rd w q g bs k) (hby : ∀ i, bs.getD i 0 < 256) (hl : bs.length ≤ 281474976710656) (hk : k ≤ 8 * bs.length) :
    Calls Try.prog 21 #[.pointer (some ⟨q, 0, none⟩), .int .i64 n] w (TakeFn w q g bs (tkN bs k n)) := by
  refine (take_any q g k n bs w h hby hl hk).mono ?_
  rintro e w' ⟨k', val, er, he, hr, hk', hf, hs, hc⟩
  have : tkN bs k n = (k', val, er) := by
    unfold tkN
    rcases hc with ⟨h1, rfl, rfl, rfl⟩ | ⟨h1, h2, h3, rfl, rfl, rfl⟩ | ⟨h1, h2, h3, rfl, rfl, rfl⟩
    · rw [if_pos h1]
    · rw [if_neg (by omega), if_pos h3]
    · rw [if_neg (by omega), if_neg (by omega)]
  rw [this]
  exact ⟨he, hr, hk', hf, hs⟩

/-- Three readers of the same bytes; the first and the third stand alike. -/
structure Three (w : World) (q1 g1 q2 g2 q3 g3 : Nat) (bs : List Nat) (ka kb : Nat) (wr : World) : Prop where
  one : Rd wr q1 g1 bs ka
  two : Rd wr q2 g2 bs kb
  three : Rd wr q3 g3 bs ka
  la : ka ≤ 8 * bs.length
  lb : kb ≤ 8 * bs.length
  below : Below w.heap.size w wr

theorem Rd.ne2 {w : World} {q g k q' g' k' : Nat} {bs bs' : List Nat} (h : Rd w q g bs k) (h' : Rd w q' g' bs' k') : q ≠ g' := h.blk.ne_ h'.row (by decide)

set_option maxHeartbeats 1000000 in
set_option maxRecDepth 100000 in
theorem two_walk (a0 a1 a2 : Option Addr) (c0 l1 c1 l2 c2 : Nat) (bs : List Nat) (ys : List Int) (zs : List Bool) (w : World) (h0 : Reads w w.heap.size a0 bs.length (U8s bs)) (h1 : Reads w w.heap.size a1 l1 (Ints ys)) (h2 : Reads w w.heap.size a2 l2 (Bools zs))
    (hby : ∀ i, bs.getD i 0 < 256) (hl0 : bs.length ≤ 281474976710656) (hl1 : l1 ≤ maxLen) :
    Calls Try.prog 7 #[.slice a0 bs.length c0, .slice a1 l1 c1, .slice a2 l2 c2] w fun e w' => e = .returned (.bool true) ∧ Below w.heap.size w w' := by
  unfold maxLen at hl1
  have HR0 := Lib.hid h0
  have HR1 := Lib.hid h1
  have HR2 := Lib.hid h2
  have HBy := Lib.hid hby
  clear h0 h1 h2 hby
  go_enter Try.func7, Try.ntmps7
  go_wp2_with fail
  refine (awake_c _).mono ?_
  rintro e wa ⟨rfl, hba⟩
  have BA := Lib.hid hba
  have RA := Lib.hid ((HR0.out.below hba).more hba.size)
  clear hba
  go_wp2_with fail
  refine (read_c a0 c0 bs _ RA.out hl0).mono ?_
  rintro e w1 ⟨q1, g1, rfl, hq1, hg1, hr1, hb1⟩
  have R1 := Lib.hid hr1
  have B1 := Lib.hid (BA.out.trans (hb1.mono BA.out.size))
  have RB := Lib.hid ((RA.out.below hb1).more hb1.size)
  have hqB := Nat.le_trans BA.out.size hq1
  clear hr1 hb1 RA BA hq1 hg1
  go_wp2_with fail
  refine (read_c a0 c0 bs _ RB.out hl0).mono ?_
  rintro e w2 ⟨q2, g2, rfl, hq2, hg2, hr2, hb2⟩
  have R2 := Lib.hid hr2
  have R12 := Lib.hid (R1.out.fr (Fr.of_below (S := fun _ => False) hb2) (fun h => h) (fun h => h))
  have B2 := Lib.hid (B1.out.trans (hb2.mono B1.out.size))
  have RC := Lib.hid ((RB.out.below hb2).more hb2.size)
  have n12 : q1 ≠ q2 := by have := R1.out.blk.lt; omega
  have hqB2 := Nat.le_trans B1.out.size hq2
  clear hr2 hb2 RB B1 R1 hq2 hg2
  go_wp2_with fail
  refine (read_c a0 c0 bs _ RC.out hl0).mono ?_
  rintro e w3 ⟨q3, g3, rfl, hq3, hg3, hr3, hb3⟩
  have n13 : q1 ≠ q3 := by have := R12.out.blk.lt; omega
  have n23 : q2 ≠ q3 := by have := R2.out.blk.lt; omega
  have hqB3 := Nat.le_trans B2.out.size hq3
  have T0 : Three w q1 g1 q2 g2 q3 g3 bs 0 0 w3 := ⟨R12.out.fr (Fr.of_below (S := fun _ => False) hb3) (fun h => h) (fun h => h), R2.out.fr (Fr.of_below (S := fun _ => False) hb3) (fun h => h) (fun h => h), hr3, by omega, by omega, B2.out.trans (hb3.mono B2.out.size)⟩
  clear hr3 hb3 RC B2 R12 R2 hq3 hg3
  go_wp2_with fail
  go_loopg [11, 12, 13, 14, 15] l1 (fun g s11 _ _ _ _ wr => ∃ (k ka kb : Nat), k + g = l1 ∧ s11 = .int .i64 (k : Int) ∧ Three w q1 g1 q2 g2 q3 g3 bs ka kb wr)
  case atStart => exact ⟨0, 0, 0, by omega, rfl, T0⟩
  case round =>
    obtain ⟨k, ka, kb, hkg, rfl, T⟩ := hrel
    clear T0
    cases gk with
    | zero =>
      have hd : decide (k < l1) = false := by simp; omega
      have HT := Lib.hid T.below
      clear T
      go_wp2_with fail
      go_ret
      exact ⟨rfl, HT.out⟩
    | succ gk =>
      have hd : decide (k < l1) = true := by simp; omega
      have hlt : k < l1 := by omega
      obtain ⟨b1, o1, e1, hb1, hc1⟩ := Ints_at HR1.out hlt
      generalize ys.getD k 0 = y at hc1
      have Hc1 := Lib.hid hc1
      subst e1
      clear hc1
      have hi1 : (k : Int) < (l1 : Int) := by omega
      go_upto_region 10 with (fail)
      go_cut [52] (fun s52 wx => (∃ t : Bool, s52 = .bool t) ∧ wr = wx)
      case first =>
        by_cases hw : k < l2
        · obtain ⟨b2, o2, e2, hb2, hc2⟩ := Bools_at HR2.out hw
          generalize zs.getD k false = z at hc2
          have d2 : wr.cell? ⟨b2, o2 + k, none⟩ = some (.bool z) := (T.below.cell hb2).trans hc2
          have hi2 : (k : Int) < (l2 : Int) := by omega
          have hw1 : decide (k < l2) = true := by simpa using hw
          subst e2
          clear hc2
          go_wp2_with fail
          go_meet
          exact ⟨⟨_, rfl⟩, rfl⟩
        · have hw1 : decide (k < l2) = false := by simpa using hw
          go_wp2_with fail
          go_meet
          exact ⟨⟨_, rfl⟩, rfl⟩
      case rest =>
        obtain ⟨⟨t, rfl⟩, rfl⟩ := hcut
        go_upto_if 52 with (fail)
        go_cut [] (fun wx => ∃ kb, Three w q1 g1 q2 g2 q3 g3 bs ka kb wx)
        case first =>
          cases t with
          | false =>
            go_wp2_with fail
            go_meet
            exact ⟨kb, T⟩
          | true =>
            have d1 : wr.cell? ⟨b1, o1 + k, none⟩ = some (.int .i64 y) := (T.below.cell hb1).trans Hc1.out
            go_wp2_with fail
            refine (take_fn q2 g2 kb y bs _ T.two HBy.out hl0 T.lb).mono ?_
            rintro e w4 ⟨rfl, hr, hk', hf, hs⟩
            have T4 : Three w q1 g1 q2 g2 q3 g3 bs ka (tkN bs kb y).1 w4 := ⟨T.one.fr hf n12 (fun e => T.two.ne2 T.one e.symm), hr, T.three.fr hf (fun e => n23 e.symm) (fun e => T.two.ne2 T.three e.symm), T.la, hk', below_at T.below hf hqB2 T.below.size⟩
            clear hr hk' hf hs d1
            go_wp2_with fail
            go_meet
            exact ⟨_, T4⟩
        case rest =>
          obtain ⟨kb2, T2⟩ := hcut
          have d1 : wc.cell? ⟨b1, o1 + k, none⟩ = some (.int .i64 y) := (T2.below.cell hb1).trans Hc1.out
          go_wp2_with fail
          refine (take_fn q1 g1 ka y bs _ T2.one HBy.out hl0 T2.la).mono ?_
          rintro e w4 ⟨rfl, hr, hk', hf, hs⟩
          obtain ⟨ka', val, er, hfn⟩ : ∃ a b c, tkN bs ka y = (a, b, c) := ⟨_, _, _, rfl⟩
          have HFn := Lib.hid hfn
          rw [hfn] at hr hk' ⊢
          clear hfn
          have R1 := Lib.hid hr
          have R2 := Lib.hid (T2.two.fr hf (fun e => n12 e.symm) (fun e => T2.one.ne2 T2.two e.symm))
          have R3 := Lib.hid (T2.three.fr hf (fun e => n13 e.symm) (fun e => T2.one.ne2 T2.three e.symm))
          have B4 := Lib.hid (below_at T2.below hf hqB T2.below.size)
          have d4 : w4.cell? ⟨b1, o1 + k, none⟩ = some (.int .i64 y) := (B4.out.cell hb1).trans Hc1.out
          clear hr hf hs d1
          go_wp2_with fail
          refine (take_fn q3 g3 ka y bs _ R3.out HBy.out hl0 T2.la).mono ?_
          rintro e w5 ⟨rfl, hr, _, hf, hs⟩
          rw [HFn.out] at hr ⊢
          have R5 := Lib.hid hr
          have R51 := Lib.hid (R1.out.fr hf n13 (fun e => R3.out.ne2 R1.out e.symm))
          have R52 := Lib.hid (R2.out.fr hf n23 (fun e => R3.out.ne2 R2.out e.symm))
          have B5 := Lib.hid (below_at B4.out hf hqB3 B4.out.size)
          clear hr hf hs d4 R1 R2 R3 B4
          go_wp2_with fail
          refine (rest_c q1 _ _ _ _ _ R51.out.blk (by omega) (by omega) hl0).mono ?_
          rintro e w6 ⟨rfl, j, rfl⟩
          go_wp2_with fail
          refine (rest_c q3 _ _ _ _ (w5.drewN j) R5.out.blk (by omega) (by omega) hl0).mono ?_
          rintro e w7 ⟨rfl, j2, rfl⟩
          have T7 : Three w q1 g1 q2 g2 q3 g3 bs ka' kb2 ((w5.drewN j).drewN j2) := ⟨⟨R51.out.blk, R51.out.row⟩, ⟨R52.out.blk, R52.out.row⟩, ⟨R5.out.blk, R5.out.row⟩, hk', T2.lb, below_draw (below_draw B5.out j) j2⟩
          have hself : (8 * (bs.length : Int) - (ka' : Int) != 8 * (bs.length : Int) - (ka' : Int)) = false := by simp
          go_wp2_with fail
          go_roundg gk
          case measure => omega
          case rel => exact ⟨k + 1, ka', kb2, by omega, rfl, by rw [← World.drewN_drewN]; exact T7⟩

end Go.Proofs.Ytehonfobofpahaa

/- The walk of BoxFull. (By tools/genfull.py.) -/
import Derived.Test.YtnffflcfncffpaaBAwake
import Derived.Test.YtnffflcfncffpaaBMath
import Derived.Test.YtnffflcfncffpaaBRPushD
namespace Go.Proofs.Ytnffflcfncffpaa
open Go.RowKit

/-- What is known of a push that was right. -/
theorem push_facts {ax : Int} {a : Bx} {d : Int} {L : List Bx} (h : errP ax a d L = 0) : allB L = true ∧ a.right = true ∧ inB d = true ∧ pWay ax a d L = wayF ax.toNat a d L ∧ pWho ax a d L = whoF ax.toNat a d L := by
  have h1 := h
  unfold errP at h1
  have h2 : pWay ax a d L = wayF ax.toNat a d L := if_pos h
  have h3 : pWho ax a d L = whoF ax.toNat a d L := if_pos h
  cases q1 : allB L <;> cases q2 : a.right <;> cases q3 : inB d <;> simp [q1, q2, q3] at h1 ⊢
  exact ⟨h2, h3⟩
theorem push_none {ax : Int} {a : Bx} {d : Int} {L : List Bx} (h : ¬ errP ax a d L = 0) : pWay ax a d L = 0 ∧ pWho ax a d L = 0 := ⟨if_neg h, if_neg h⟩
theorem way_all {ax : Nat} {a : Bx} {d : Int} {L : List Bx} (h : whoF ax a d L = -1) : wayF ax a d L = d := by
  have h1 := (stF_spec ax a d L L.length).2
  unfold whoF at h
  rcases h1 with h1 | ⟨i, _, h2, _⟩
  · unfold wayF
    rw [h1.1]
    split <;> omega
  · omega

/-- What region 20 and 21 read, and what stays. -/
abbrev FS (w : World) (b i gb gn : Nat) (p q r p2 q2 u v s : Int) (w1 : World) : Prop := w1.cell? ⟨gb, 0, none⟩ = some (.int .i64 p) ∧ w1.cell? ⟨gb, 1, none⟩ = some (.int .i64 q) ∧ w1.cell? ⟨gb, 2, none⟩ = some (.int .i64 r) ∧ w1.cell? ⟨gn, 0, none⟩ = some (.int .i64 p2) ∧ w1.cell? ⟨gn, 1, none⟩ = some (.int .i64 q2) ∧ w1.cell? ⟨gn, 2, none⟩ = some (.int .i64 r) ∧ w1.cell? ⟨b, i, none⟩ = some (.int .i64 u) ∧ w1.cell? ⟨b, i + 1, none⟩ = some (.int .i64 v) ∧ w1.cell? ⟨b, i + 2, none⟩ = some (.int .i64 s) ∧ Blk w1 gb 25 (boxR p q r) ∧ Blk w1 gn 25 (boxR p2 q2 r) ∧ Below w.heap.size w w1 ∧ b < w.heap.size
section
variable {w w1 w2 : World} {b i gb gn : Nat} {p q r p2 q2 u v s : Int}
theorem FS.keep (h : FS w b i gb gn p q r p2 q2 u v s w1) (hb : Below w1.heap.size w1 w2) : FS w b i gb gn p q r p2 q2 u v s w2 := by
  obtain ⟨_, _, _, _, _, _, e0, e1, e2, h1, h2, h3, h4⟩ := h
  have k := h1.below hb h1.lt
  have m := h2.below hb h2.lt
  have hl : b < w1.heap.size := Nat.lt_of_lt_of_le h4 h3.size
  exact ⟨k.cell 0, k.cell 1, k.cell 2, m.cell 0, m.cell 1, m.cell 2, (hb.cell hl).trans e0, (hb.cell hl).trans e1, (hb.cell hl).trans e2, k, m, vbt h3 hb, h4⟩
theorem FS.bel (h : FS w b i gb gn p q r p2 q2 u v s w1) : Below w.heap.size w w1 := h.2.2.2.2.2.2.2.2.2.2.2.1
end

set_option maxRecDepth 100000 in
set_option maxHeartbeats 1000000 in
theorem full_walk0 (a : Bx) (n1 d : Int) (A : Option Addr) (n c : Nat) (L : List Bx) (w : World) (hx : I64 a.x) (hy : I64 a.y) (hd : I64 d) (hn : n ≤ 281474976710656) (hL : RBox w w.heap.size A n L) (hax : bits .and .i64 n1 1 = 0) :
    Calls Try.prog 7 #[boxV a.x a.y a.r, .int .i64 n1, .int .i64 d, .slice A n c] w fun e w' => e = .returned (.bool true) ∧ Below w.heap.size w w' := by
  have HA := Lib.hid (fun w => awake_c w)
  have HP := Lib.hid (fun w hL => Push_c a 0 d A n c L w hx hy hd hn hL)
  have HL := Lib.hid hL
  have HN := Lib.hid hn
  have hn' : n < 9223372036854775808 := by omega
  clear hx hy hd hn hL
  by_cases he : errP 0 a d L = 0
  · obtain ⟨hall, har, hin, e1, e2⟩ := push_facts he
    rw [e1, e2, he] at HP
    have z : Int.toNat 0 = 0 := rfl
    rw [z] at HP
    by_cases hw : whoF 0 a d L = -1
    · rw [way_all hw, hw] at HP
      clear he hall har hin e1 e2 z hw
      go_enter Try.func7, Try.ntmps7
      go_wp2_with fail
      refine (HA.out _).mono ?_
      rintro e w1 ⟨rfl, hb⟩
      have HK := Lib.hid (last_blk hb)
      have HB := Lib.hid (vbt (bel1 w _) hb)
      clear hb
      have c0 := HK.out.cell 0
      have c1 := HK.out.cell 1
      have c2 := HK.out.cell 2
      go_wp2_with fail
      refine (HP.out _ (HL.out.since HB.out)).mono ?_
      rintro e w2 ⟨rfl, hb⟩
      have HB := Lib.hid (vbt HB.out hb)
      clear hb c0 c1 c2
      go_wp2_with fail
      go_ret
      exact ⟨rfl, HB.out⟩
    · obtain ⟨i, hi, g2, g3, g4, g5⟩ := ((stF_spec 0 a d L L.length).2).resolve_left (fun h => hw h.2)
      have hin2 := inB_spec.1 hin
      have s1 := rightB_spec.1 har
      have s2 := rightB_spec.1 (at_right hall hi)
      have gi := inW_iff.1 g3
      have hlen := HL.out.1
      have gw := wayF_in 0 a d L
      have gf := full_gap (W := (stF 0 a d L L.length).1) (d := d) s1.1.1 s2.1.1 gi.1 g4 gi.2.2 g5
      have ew : wayF 0 a d L = if d < 0 then -(stF 0 a d L L.length).1 else (stF 0 a d L L.length).1 := rfl
      have eo : whoF 0 a d L = (i : Int) := g2
      rw [eo] at HP
      obtain ⟨m, hm⟩ : ∃ m : Int, m = if d < 0 then -1 else 1 := ⟨_, rfl⟩
      have hm1 : m = 1 ∨ m = -1 := by rw [hm]; split <;> omega
      rw [← ew, ← hm] at gf
      obtain ⟨f1, f2, f3, f4⟩ := gf
      generalize wayF 0 a d L = W at *
      have hin' : i < n := by omega
      obtain ⟨b, o, rfl, hlt, hall2⟩ := HL.out.2.2 (by omega)
      have hcells := hall2 i hin'
      clear hall2
      have iw := HL.out.2.1 i hin'
      have HO := Lib.hid (show gapA (1 - 0) a (Bx.at L i) < 0 from gi.2.1)
      have F1 := Lib.hid f1
      have F2 := Lib.hid f2
      clear ew eo g2 g3 g4 g5 gi hw hall he e1 e2 z f1 f2
      generalize Bx.at L i = bb at *
      obtain ⟨u, v, s⟩ := bb
      obtain ⟨x, y, r⟩ := a
      unfold gapA Bx.pc at HO
      dsimp only [Bx.pc] at *
      simp only [if_true, Nat.one_ne_zero, if_false, Nat.sub_zero] at F1 F2 HO
      have i1 : wrap64 (x + W) = x + W := IntWalk.wrap64_in _ (by omega)
      have i2 : wrap64 (x + W + m) = x + W + m := IntWalk.wrap64_in _ (by omega)
      have G1 := Lib.hid (fun w => gap_c (x + W) y r u v s w (by unfold I64; omega) (by unfold I64; omega) iw.1 iw.2.1)
      have G2 := Lib.hid (fun w => meet_c (x + W + m) y r u v s w (by unfold I64; omega) (by unfold I64; omega) iw.1 iw.2.1)
      have em : meetB (x + W + m) y r u v s = okB (x + W + m) y r u v s := by
        unfold meetB
        rw [F2.out, decide_eq_true (show gapF y v r s < 0 from HO.out)]
        cases okB (x + W + m) y r u v s <;> rfl
      rw [em] at G2
      rw [F1.out] at G1
      obtain ⟨oth, hoth⟩ : ∃ oth, oth = numB (okB (x + W) y r u v s) (gapF y v r s) := ⟨_, rfl⟩
      rw [← hoth] at G1
      generalize okB (x + W) y r u v s = ok1 at *
      generalize okB (x + W + m) y r u v s = ok2 at *
      have d1 : decide ((i : Int) < 0) = false := decide_eq_false (by omega)
      have d2 : decide (n ≤ i) = false := decide_eq_false (by omega)
      have d3 : decide (i < n) = true := decide_eq_true hin'
      have HM := Lib.hid hm
      have hiI : (i : Int) < (n : Int) := by omega
      have hi0 : (0 : Int) ≤ (i : Int) := by omega
      have HC := Lib.hid hcells
      have HLT := Lib.hid hlt
      clear hoth em F1 F2 HO s1 s2 hin2 gw hlt hcells iw hi hlen har hin hm1
      have hwi : ¬ (i : Int) = -1 := by omega
      have b1 : (d == 0) = false := by simpa using f3
      have b2 : (W == d) = false := by simpa using f4
      clear f3 f4
      clear hm
      go_enter Try.func7, Try.ntmps7
      go_wp2_with fail
      refine (HA.out _).mono ?_
      rintro e w1 ⟨rfl, hb⟩
      have HK := Lib.hid (last_blk hb)
      have HB := Lib.hid (vbt (bel1 w _) hb)
      clear hb
      have c0 := HK.out.cell 0
      have c1 := HK.out.cell 1
      have c2 := HK.out.cell 2
      go_wp2_with fail
      refine (HP.out _ (HL.out.since HB.out)).mono ?_
      rintro e w2 ⟨rfl, hb⟩
      have HK := Lib.hid (HK.out.below hb HK.out.lt)
      have HB := Lib.hid (vbt HB.out hb)
      clear hb c0 c1 c2
      have c0 := HK.out.cell 0
      have c1 := HK.out.cell 1
      have c2 := HK.out.cell 2
      by_cases hd0 : d < 0
      · have em : m = -1 := by rw [HM.out, if_pos hd0]
        subst em
        go_upto_region 14 with (fail)
        have HK := Lib.hid (HK.out.alloc (.cells (boxR x y r) 25))
        have HB2 := Lib.hid (vbt HB.out (bel2 w2 (.cells (boxR x y r) 25) (.cells (boxR x y r) 25)))
        clear c0 c1 c2 b1 b2 d1 d2 d3 hwi
        have c0 := HK.out.cell 0
        have c1 := HK.out.cell 1
        have c2 := HK.out.cell 2
        go_upto_region 15 with (fail)
        have K1 := Lib.hid ((Blk.new w2 25 (boxR x y r)).alloc (.cells (boxR x y r) 25))
        have K2 := Blk.new (w2.alloc (.cells (boxR x y r) 25)) 25 (boxR x y r)
        rw [show (w2.alloc (.cells (boxR x y r) 25)).heap.size = w2.heap.size + 1 by simp] at K2
        have K2 := Lib.hid K2
        have HSZ := Lib.hid (show w.heap.size ≤ w2.heap.size from HB.out.size)
        clear c0 c1 c2 HK
        generalize (w2.alloc (.cells (boxR x y r) 25)).alloc (.cells (boxR x y r) 25) = w3 at *
        generalize w2.heap.size = gb at *
        have k0 := K1.out.cell 0
        have z0 := K1.out.frozen 0
        go_upto_region 17 with (fail)
        have K1 := Lib.hid (K1.out.set_ 0 (.int .i64 (x + W)))
        have K2 := Lib.hid (K2.out.far (p := ⟨gb, 0, none⟩) (by simp) (.int .i64 (x + W)))
        have HB2 : Hid (Below w.heap.size w (w3.setCell ⟨gb, 0, none⟩ (.int .i64 (x + W)))) := Lib.hid (HB2.out.setCell HSZ.out _)
        clear k0 z0
        generalize w3.setCell ⟨gb, 0, none⟩ (.int .i64 (x + W)) = w4 at *
        have k0 := K2.out.cell 0
        have z0 := K2.out.frozen 0
        go_upto_region 20 with (fail)
        have K1 := Lib.hid (K1.out.far (p := ⟨gb + 1, 0, none⟩) (by simp) (.int .i64 (x + W + -1)))
        have K2 := Lib.hid (K2.out.set_ 0 (.int .i64 (x + W + -1)))
        have HB2 : Hid (Below w.heap.size w (w4.setCell ⟨gb + 1, 0, none⟩ (.int .i64 (x + W + -1)))) := Lib.hid (HB2.out.setCell (by have := HSZ.out; simp; omega) _)
        clear k0 z0
        have HF : Hid (FS w b (o + i * 3) gb (gb + 1) (x + W) y r (x + W + -1) y u v s (w4.setCell ⟨gb + 1, 0, none⟩ (.int .i64 (x + W + -1)))) := Lib.hid (by
          have k1 : Blk (w4.setCell ⟨gb + 1, 0, none⟩ (.int .i64 (x + W + -1))) gb 25 (boxR (x + W) y r) := K1.out
          have k2 : Blk (w4.setCell ⟨gb + 1, 0, none⟩ (.int .i64 (x + W + -1))) (gb + 1) 25 (boxR (x + W + -1) y r) := K2.out
          have hcl := fun j : Nat => HB2.out.cell (p := ⟨b, j, none⟩) HLT.out
          exact ⟨k1.cell 0, k1.cell 1, k1.cell 2, k2.cell 0, k2.cell 1, k2.cell 2, (hcl _).trans HC.out.1, (hcl _).trans HC.out.2.1, (hcl _).trans HC.out.2.2, k1, k2, HB2.out, HLT.out⟩)
        clear K1 K2 HB2 i1 i2
        generalize w4.setCell ⟨gb + 1, 0, none⟩ (.int .i64 (x + W + -1)) = w5 at *
        have HX0 := Lib.hid (HF.out.keep (below_draw (Below.refl _ _) 1))
        go_region_held3 (FS w b (o + i * 3) gb (gb + 1) (x + W) y r (x + W + -1) y u v s) (first | exact HX0.out | assumption) (first | (go_at_call 12; refine (G1.out _).mono ?_; rintro e w6 ⟨rfl, hb⟩; have hS6 := FS.keep (by assumption) hb; clear hb))
        have HF := Lib.hid hS6
        clear hS6 HX0
        go_upto_region 21 with (fail)
        have HX0 := Lib.hid (HF.out.keep (below_draw (Below.refl _ _) 1))
        go_region_held3 (FS w b (o + i * 3) gb (gb + 1) (x + W) y r (x + W + -1) y u v s) (first | exact HX0.out | assumption) (first | (go_at_call 14; refine (G2.out _).mono ?_; rintro e w6 ⟨rfl, hb⟩; have hS6 := FS.keep (by assumption) hb; clear hb))
        have HB3 := Lib.hid hS6.bel
        clear hS6 HX0
        unfold numB errB
        cases ok1 <;> cases ok2
        all_goals
          simp only [Bool.false_eq_true, if_false, if_true]
          go_wp2_with fail
          go_ret
          exact ⟨rfl, HB3.out⟩
      · have em : m = 1 := by rw [HM.out, if_neg hd0]
        subst em
        have dd : decide (d < 0) = false := decide_eq_false hd0
        clear hd0
        go_upto_region 14 with (fail)
        have HK := Lib.hid (HK.out.alloc (.cells (boxR x y r) 25))
        have HB2 := Lib.hid (vbt HB.out (bel2 w2 (.cells (boxR x y r) 25) (.cells (boxR x y r) 25)))
        clear c0 c1 c2 b1 b2 d1 d2 d3 hwi
        have c0 := HK.out.cell 0
        have c1 := HK.out.cell 1
        have c2 := HK.out.cell 2
        go_upto_region 15 with (fail)
        have K1 := Lib.hid ((Blk.new w2 25 (boxR x y r)).alloc (.cells (boxR x y r) 25))
        have K2 := Blk.new (w2.alloc (.cells (boxR x y r) 25)) 25 (boxR x y r)
        rw [show (w2.alloc (.cells (boxR x y r) 25)).heap.size = w2.heap.size + 1 by simp] at K2
        have K2 := Lib.hid K2
        have HSZ := Lib.hid (show w.heap.size ≤ w2.heap.size from HB.out.size)
        clear c0 c1 c2 HK
        generalize (w2.alloc (.cells (boxR x y r) 25)).alloc (.cells (boxR x y r) 25) = w3 at *
        generalize w2.heap.size = gb at *
        have k0 := K1.out.cell 0
        have z0 := K1.out.frozen 0
        go_upto_region 17 with (fail)
        have K1 := Lib.hid (K1.out.set_ 0 (.int .i64 (x + W)))
        have K2 := Lib.hid (K2.out.far (p := ⟨gb, 0, none⟩) (by simp) (.int .i64 (x + W)))
        have HB2 : Hid (Below w.heap.size w (w3.setCell ⟨gb, 0, none⟩ (.int .i64 (x + W)))) := Lib.hid (HB2.out.setCell HSZ.out _)
        clear k0 z0
        generalize w3.setCell ⟨gb, 0, none⟩ (.int .i64 (x + W)) = w4 at *
        have k0 := K2.out.cell 0
        have z0 := K2.out.frozen 0
        go_upto_region 20 with (fail)
        have K1 := Lib.hid (K1.out.far (p := ⟨gb + 1, 0, none⟩) (by simp) (.int .i64 (x + W + 1)))
        have K2 := Lib.hid (K2.out.set_ 0 (.int .i64 (x + W + 1)))
        have HB2 : Hid (Below w.heap.size w (w4.setCell ⟨gb + 1, 0, none⟩ (.int .i64 (x + W + 1)))) := Lib.hid (HB2.out.setCell (by have := HSZ.out; simp; omega) _)
        clear k0 z0
        have HF : Hid (FS w b (o + i * 3) gb (gb + 1) (x + W) y r (x + W + 1) y u v s (w4.setCell ⟨gb + 1, 0, none⟩ (.int .i64 (x + W + 1)))) := Lib.hid (by
          have k1 : Blk (w4.setCell ⟨gb + 1, 0, none⟩ (.int .i64 (x + W + 1))) gb 25 (boxR (x + W) y r) := K1.out
          have k2 : Blk (w4.setCell ⟨gb + 1, 0, none⟩ (.int .i64 (x + W + 1))) (gb + 1) 25 (boxR (x + W + 1) y r) := K2.out
          have hcl := fun j : Nat => HB2.out.cell (p := ⟨b, j, none⟩) HLT.out
          exact ⟨k1.cell 0, k1.cell 1, k1.cell 2, k2.cell 0, k2.cell 1, k2.cell 2, (hcl _).trans HC.out.1, (hcl _).trans HC.out.2.1, (hcl _).trans HC.out.2.2, k1, k2, HB2.out, HLT.out⟩)
        clear K1 K2 HB2 i1 i2
        generalize w4.setCell ⟨gb + 1, 0, none⟩ (.int .i64 (x + W + 1)) = w5 at *
        have HX0 := Lib.hid (HF.out.keep (below_draw (Below.refl _ _) 1))
        go_region_held3 (FS w b (o + i * 3) gb (gb + 1) (x + W) y r (x + W + 1) y u v s) (first | exact HX0.out | assumption) (first | (go_at_call 12; refine (G1.out _).mono ?_; rintro e w6 ⟨rfl, hb⟩; have hS6 := FS.keep (by assumption) hb; clear hb))
        have HF := Lib.hid hS6
        clear hS6 HX0
        go_upto_region 21 with (fail)
        have HX0 := Lib.hid (HF.out.keep (below_draw (Below.refl _ _) 1))
        go_region_held3 (FS w b (o + i * 3) gb (gb + 1) (x + W) y r (x + W + 1) y u v s) (first | exact HX0.out | assumption) (first | (go_at_call 14; refine (G2.out _).mono ?_; rintro e w6 ⟨rfl, hb⟩; have hS6 := FS.keep (by assumption) hb; clear hb))
        have HB3 := Lib.hid hS6.bel
        clear hS6 HX0
        unfold numB errB
        cases ok1 <;> cases ok2
        all_goals
          simp only [Bool.false_eq_true, if_false, if_true]
          go_wp2_with fail
          go_ret
          exact ⟨rfl, HB3.out⟩
  · obtain ⟨e1, e2⟩ := push_none he
    have HE := Lib.hid he
    rw [e1, e2] at HP
    generalize errP 0 a d L = e0 at *
    clear e1 e2
    go_enter Try.func7, Try.ntmps7
    go_wp2_with fail
    refine (HA.out _).mono ?_
    rintro e w1 ⟨rfl, hb⟩
    have HK := Lib.hid (last_blk hb)
    have HB := Lib.hid (vbt (bel1 w _) hb)
    clear hb
    have c0 := HK.out.cell 0
    have c1 := HK.out.cell 1
    have c2 := HK.out.cell 2
    go_wp2_with fail
    refine (HP.out _ (HL.out.since HB.out)).mono ?_
    rintro e w2 ⟨rfl, hb⟩
    have HB := Lib.hid (vbt HB.out hb)
    clear hb c0 c1 c2
    go_wp2_with fail
    go_ret
    exact ⟨rfl, HB.out⟩

set_option maxRecDepth 100000 in
set_option maxHeartbeats 1000000 in
theorem full_walk1 (a : Bx) (n1 d : Int) (A : Option Addr) (n c : Nat) (L : List Bx) (w : World) (hx : I64 a.x) (hy : I64 a.y) (hd : I64 d) (hn : n ≤ 281474976710656) (hL : RBox w w.heap.size A n L) (hax : bits .and .i64 n1 1 = 1) :
    Calls Try.prog 7 #[boxV a.x a.y a.r, .int .i64 n1, .int .i64 d, .slice A n c] w fun e w' => e = .returned (.bool true) ∧ Below w.heap.size w w' := by
  have HA := Lib.hid (fun w => awake_c w)
  have HP := Lib.hid (fun w hL => Push_c a 1 d A n c L w hx hy hd hn hL)
  have HL := Lib.hid hL
  have HN := Lib.hid hn
  have hn' : n < 9223372036854775808 := by omega
  clear hx hy hd hn hL
  by_cases he : errP 1 a d L = 0
  · obtain ⟨hall, har, hin, e1, e2⟩ := push_facts he
    rw [e1, e2, he] at HP
    have z : Int.toNat 1 = 1 := rfl
    rw [z] at HP
    by_cases hw : whoF 1 a d L = -1
    · rw [way_all hw, hw] at HP
      clear he hall har hin e1 e2 z hw
      go_enter Try.func7, Try.ntmps7
      go_wp2_with fail
      refine (HA.out _).mono ?_
      rintro e w1 ⟨rfl, hb⟩
      have HK := Lib.hid (last_blk hb)
      have HB := Lib.hid (vbt (bel1 w _) hb)
      clear hb
      have c0 := HK.out.cell 0
      have c1 := HK.out.cell 1
      have c2 := HK.out.cell 2
      go_wp2_with fail
      refine (HP.out _ (HL.out.since HB.out)).mono ?_
      rintro e w2 ⟨rfl, hb⟩
      have HB := Lib.hid (vbt HB.out hb)
      clear hb c0 c1 c2
      go_wp2_with fail
      go_ret
      exact ⟨rfl, HB.out⟩
    · obtain ⟨i, hi, g2, g3, g4, g5⟩ := ((stF_spec 1 a d L L.length).2).resolve_left (fun h => hw h.2)
      have hin2 := inB_spec.1 hin
      have s1 := rightB_spec.1 har
      have s2 := rightB_spec.1 (at_right hall hi)
      have gi := inW_iff.1 g3
      have hlen := HL.out.1
      have gw := wayF_in 1 a d L
      have gf := full_gap (W := (stF 1 a d L L.length).1) (d := d) s1.1.1 s2.1.1 gi.1 g4 gi.2.2 g5
      have ew : wayF 1 a d L = if d < 0 then -(stF 1 a d L L.length).1 else (stF 1 a d L L.length).1 := rfl
      have eo : whoF 1 a d L = (i : Int) := g2
      rw [eo] at HP
      obtain ⟨m, hm⟩ : ∃ m : Int, m = if d < 0 then -1 else 1 := ⟨_, rfl⟩
      have hm1 : m = 1 ∨ m = -1 := by rw [hm]; split <;> omega
      rw [← ew, ← hm] at gf
      obtain ⟨f1, f2, f3, f4⟩ := gf
      generalize wayF 1 a d L = W at *
      have hin' : i < n := by omega
      obtain ⟨b, o, rfl, hlt, hall2⟩ := HL.out.2.2 (by omega)
      have hcells := hall2 i hin'
      clear hall2
      have iw := HL.out.2.1 i hin'
      have HO := Lib.hid (show gapA (1 - 1) a (Bx.at L i) < 0 from gi.2.1)
      have F1 := Lib.hid f1
      have F2 := Lib.hid f2
      clear ew eo g2 g3 g4 g5 gi hw hall he e1 e2 z f1 f2
      generalize Bx.at L i = bb at *
      obtain ⟨u, v, s⟩ := bb
      obtain ⟨x, y, r⟩ := a
      unfold gapA Bx.pc at HO
      dsimp only [Bx.pc] at *
      simp only [if_true, Nat.one_ne_zero, if_false, Nat.sub_self] at F1 F2 HO
      have i1 : wrap64 (y + W) = y + W := IntWalk.wrap64_in _ (by omega)
      have i2 : wrap64 (y + W + m) = y + W + m := IntWalk.wrap64_in _ (by omega)
      have G1 := Lib.hid (fun w => gap_c x (y + W) r u v s w (by unfold I64; omega) (by unfold I64; omega) iw.1 iw.2.1)
      have G2 := Lib.hid (fun w => meet_c x (y + W + m) r u v s w (by unfold I64; omega) (by unfold I64; omega) iw.1 iw.2.1)
      have em : meetB x (y + W + m) r u v s = okB x (y + W + m) r u v s := by
        unfold meetB
        rw [F2.out, decide_eq_true (show gapF x u r s < 0 from HO.out)]
        cases okB x (y + W + m) r u v s <;> rfl
      rw [em] at G2
      rw [F1.out] at G1
      obtain ⟨oth, hoth⟩ : ∃ oth, oth = numB (okB x (y + W) r u v s) (gapF x u r s) := ⟨_, rfl⟩
      rw [← hoth] at G1
      generalize okB x (y + W) r u v s = ok1 at *
      generalize okB x (y + W + m) r u v s = ok2 at *
      have d1 : decide ((i : Int) < 0) = false := decide_eq_false (by omega)
      have d2 : decide (n ≤ i) = false := decide_eq_false (by omega)
      have d3 : decide (i < n) = true := decide_eq_true hin'
      have HM := Lib.hid hm
      have hiI : (i : Int) < (n : Int) := by omega
      have hi0 : (0 : Int) ≤ (i : Int) := by omega
      have HC := Lib.hid hcells
      have HLT := Lib.hid hlt
      clear hoth em F1 F2 HO s1 s2 hin2 gw hlt hcells iw hi hlen har hin hm1
      have hwi : ¬ (i : Int) = -1 := by omega
      have b1 : (d == 0) = false := by simpa using f3
      have b2 : (W == d) = false := by simpa using f4
      clear f3 f4
      clear hm
      go_enter Try.func7, Try.ntmps7
      go_wp2_with fail
      refine (HA.out _).mono ?_
      rintro e w1 ⟨rfl, hb⟩
      have HK := Lib.hid (last_blk hb)
      have HB := Lib.hid (vbt (bel1 w _) hb)
      clear hb
      have c0 := HK.out.cell 0
      have c1 := HK.out.cell 1
      have c2 := HK.out.cell 2
      go_wp2_with fail
      refine (HP.out _ (HL.out.since HB.out)).mono ?_
      rintro e w2 ⟨rfl, hb⟩
      have HK := Lib.hid (HK.out.below hb HK.out.lt)
      have HB := Lib.hid (vbt HB.out hb)
      clear hb c0 c1 c2
      have c0 := HK.out.cell 0
      have c1 := HK.out.cell 1
      have c2 := HK.out.cell 2
      by_cases hd0 : d < 0
      · have em : m = -1 := by rw [HM.out, if_pos hd0]
        subst em
        go_upto_region 14 with (fail)
        have HK := Lib.hid (HK.out.alloc (.cells (boxR x y r) 25))
        have HB2 := Lib.hid (vbt HB.out (bel2 w2 (.cells (boxR x y r) 25) (.cells (boxR x y r) 25)))
        clear c0 c1 c2 b1 b2 d1 d2 d3 hwi
        have c0 := HK.out.cell 0
        have c1 := HK.out.cell 1
        have c2 := HK.out.cell 2
        go_upto_region 15 with (fail)
        have K1 := Lib.hid ((Blk.new w2 25 (boxR x y r)).alloc (.cells (boxR x y r) 25))
        have K2 := Blk.new (w2.alloc (.cells (boxR x y r) 25)) 25 (boxR x y r)
        rw [show (w2.alloc (.cells (boxR x y r) 25)).heap.size = w2.heap.size + 1 by simp] at K2
        have K2 := Lib.hid K2
        have HSZ := Lib.hid (show w.heap.size ≤ w2.heap.size from HB.out.size)
        clear c0 c1 c2 HK
        generalize (w2.alloc (.cells (boxR x y r) 25)).alloc (.cells (boxR x y r) 25) = w3 at *
        generalize w2.heap.size = gb at *
        have k0 := K1.out.cell 1
        have z0 := K1.out.frozen 1
        go_upto_region 19 with (fail)
        have K1 := Lib.hid (K1.out.set_ 1 (.int .i64 (y + W)))
        have K2 := Lib.hid (K2.out.far (p := ⟨gb, 1, none⟩) (by simp) (.int .i64 (y + W)))
        have HB2 : Hid (Below w.heap.size w (w3.setCell ⟨gb, 1, none⟩ (.int .i64 (y + W)))) := Lib.hid (HB2.out.setCell HSZ.out _)
        clear k0 z0
        generalize w3.setCell ⟨gb, 1, none⟩ (.int .i64 (y + W)) = w4 at *
        have k0 := K2.out.cell 1
        have z0 := K2.out.frozen 1
        go_upto_region 20 with (fail)
        have K1 := Lib.hid (K1.out.far (p := ⟨gb + 1, 1, none⟩) (by simp) (.int .i64 (y + W + -1)))
        have K2 := Lib.hid (K2.out.set_ 1 (.int .i64 (y + W + -1)))
        have HB2 : Hid (Below w.heap.size w (w4.setCell ⟨gb + 1, 1, none⟩ (.int .i64 (y + W + -1)))) := Lib.hid (HB2.out.setCell (by have := HSZ.out; simp; omega) _)
        clear k0 z0
        have HF : Hid (FS w b (o + i * 3) gb (gb + 1) x (y + W) r x (y + W + -1) u v s (w4.setCell ⟨gb + 1, 1, none⟩ (.int .i64 (y + W + -1)))) := Lib.hid (by
          have k1 : Blk (w4.setCell ⟨gb + 1, 1, none⟩ (.int .i64 (y + W + -1))) gb 25 (boxR x (y + W) r) := K1.out
          have k2 : Blk (w4.setCell ⟨gb + 1, 1, none⟩ (.int .i64 (y + W + -1))) (gb + 1) 25 (boxR x (y + W + -1) r) := K2.out
          have hcl := fun j : Nat => HB2.out.cell (p := ⟨b, j, none⟩) HLT.out
          exact ⟨k1.cell 0, k1.cell 1, k1.cell 2, k2.cell 0, k2.cell 1, k2.cell 2, (hcl _).trans HC.out.1, (hcl _).trans HC.out.2.1, (hcl _).trans HC.out.2.2, k1, k2, HB2.out, HLT.out⟩)
        clear K1 K2 HB2 i1 i2
        generalize w4.setCell ⟨gb + 1, 1, none⟩ (.int .i64 (y + W + -1)) = w5 at *
        have HX0 := Lib.hid (HF.out.keep (below_draw (Below.refl _ _) 1))
        go_region_held3 (FS w b (o + i * 3) gb (gb + 1) x (y + W) r x (y + W + -1) u v s) (first | exact HX0.out | assumption) (first | (go_at_call 12; refine (G1.out _).mono ?_; rintro e w6 ⟨rfl, hb⟩; have hS6 := FS.keep (by assumption) hb; clear hb))
        have HF := Lib.hid hS6
        clear hS6 HX0
        go_upto_region 21 with (fail)
        have HX0 := Lib.hid (HF.out.keep (below_draw (Below.refl _ _) 1))
        go_region_held3 (FS w b (o + i * 3) gb (gb + 1) x (y + W) r x (y + W + -1) u v s) (first | exact HX0.out | assumption) (first | (go_at_call 14; refine (G2.out _).mono ?_; rintro e w6 ⟨rfl, hb⟩; have hS6 := FS.keep (by assumption) hb; clear hb))
        have HB3 := Lib.hid hS6.bel
        clear hS6 HX0
        unfold numB errB
        cases ok1 <;> cases ok2
        all_goals
          simp only [Bool.false_eq_true, if_false, if_true]
          go_wp2_with fail
          go_ret
          exact ⟨rfl, HB3.out⟩
      · have em : m = 1 := by rw [HM.out, if_neg hd0]
        subst em
        have dd : decide (d < 0) = false := decide_eq_false hd0
        clear hd0
        go_upto_region 14 with (fail)
        have HK := Lib.hid (HK.out.alloc (.cells (boxR x y r) 25))
        have HB2 := Lib.hid (vbt HB.out (bel2 w2 (.cells (boxR x y r) 25) (.cells (boxR x y r) 25)))
        clear c0 c1 c2 b1 b2 d1 d2 d3 hwi
        have c0 := HK.out.cell 0
        have c1 := HK.out.cell 1
        have c2 := HK.out.cell 2
        go_upto_region 15 with (fail)
        have K1 := Lib.hid ((Blk.new w2 25 (boxR x y r)).alloc (.cells (boxR x y r) 25))
        have K2 := Blk.new (w2.alloc (.cells (boxR x y r) 25)) 25 (boxR x y r)
        rw [show (w2.alloc (.cells (boxR x y r) 25)).heap.size = w2.heap.size + 1 by simp] at K2
        have K2 := Lib.hid K2
        have HSZ := Lib.hid (show w.heap.size ≤ w2.heap.size from HB.out.size)
        clear c0 c1 c2 HK
        generalize (w2.alloc (.cells (boxR x y r) 25)).alloc (.cells (boxR x y r) 25) = w3 at *
        generalize w2.heap.size = gb at *
        have k0 := K1.out.cell 1
        have z0 := K1.out.frozen 1
        go_upto_region 19 with (fail)
        have K1 := Lib.hid (K1.out.set_ 1 (.int .i64 (y + W)))
        have K2 := Lib.hid (K2.out.far (p := ⟨gb, 1, none⟩) (by simp) (.int .i64 (y + W)))
        have HB2 : Hid (Below w.heap.size w (w3.setCell ⟨gb, 1, none⟩ (.int .i64 (y + W)))) := Lib.hid (HB2.out.setCell HSZ.out _)
        clear k0 z0
        generalize w3.setCell ⟨gb, 1, none⟩ (.int .i64 (y + W)) = w4 at *
        have k0 := K2.out.cell 1
        have z0 := K2.out.frozen 1
        go_upto_region 20 with (fail)
        have K1 := Lib.hid (K1.out.far (p := ⟨gb + 1, 1, none⟩) (by simp) (.int .i64 (y + W + 1)))
        have K2 := Lib.hid (K2.out.set_ 1 (.int .i64 (y + W + 1)))
        have HB2 : Hid (Below w.heap.size w (w4.setCell ⟨gb + 1, 1, none⟩ (.int .i64 (y + W + 1)))) := Lib.hid (HB2.out.setCell (by have := HSZ.out; simp; omega) _)
        clear k0 z0
        have HF : Hid (FS w b (o + i * 3) gb (gb + 1) x (y + W) r x (y + W + 1) u v s (w4.setCell ⟨gb + 1, 1, none⟩ (.int .i64 (y + W + 1)))) := Lib.hid (by
          have k1 : Blk (w4.setCell ⟨gb + 1, 1, none⟩ (.int .i64 (y + W + 1))) gb 25 (boxR x (y + W) r) := K1.out
          have k2 : Blk (w4.setCell ⟨gb + 1, 1, none⟩ (.int .i64 (y + W + 1))) (gb + 1) 25 (boxR x (y + W + 1) r) := K2.out
          have hcl := fun j : Nat => HB2.out.cell (p := ⟨b, j, none⟩) HLT.out
          exact ⟨k1.cell 0, k1.cell 1, k1.cell 2, k2.cell 0, k2.cell 1, k2.cell 2, (hcl _).trans HC.out.1, (hcl _).trans HC.out.2.1, (hcl _).trans HC.out.2.2, k1, k2, HB2.out, HLT.out⟩)
        clear K1 K2 HB2 i1 i2
        generalize w4.setCell ⟨gb + 1, 1, none⟩ (.int .i64 (y + W + 1)) = w5 at *
        have HX0 := Lib.hid (HF.out.keep (below_draw (Below.refl _ _) 1))
        go_region_held3 (FS w b (o + i * 3) gb (gb + 1) x (y + W) r x (y + W + 1) u v s) (first | exact HX0.out | assumption) (first | (go_at_call 12; refine (G1.out _).mono ?_; rintro e w6 ⟨rfl, hb⟩; have hS6 := FS.keep (by assumption) hb; clear hb))
        have HF := Lib.hid hS6
        clear hS6 HX0
        go_upto_region 21 with (fail)
        have HX0 := Lib.hid (HF.out.keep (below_draw (Below.refl _ _) 1))
        go_region_held3 (FS w b (o + i * 3) gb (gb + 1) x (y + W) r x (y + W + 1) u v s) (first | exact HX0.out | assumption) (first | (go_at_call 14; refine (G2.out _).mono ?_; rintro e w6 ⟨rfl, hb⟩; have hS6 := FS.keep (by assumption) hb; clear hb))
        have HB3 := Lib.hid hS6.bel
        clear hS6 HX0
        unfold numB errB
        cases ok1 <;> cases ok2
        all_goals
          simp only [Bool.false_eq_true, if_false, if_true]
          go_wp2_with fail
          go_ret
          exact ⟨rfl, HB3.out⟩
  · obtain ⟨e1, e2⟩ := push_none he
    have HE := Lib.hid he
    rw [e1, e2] at HP
    generalize errP 1 a d L = e0 at *
    clear e1 e2
    go_enter Try.func7, Try.ntmps7
    go_wp2_with fail
    refine (HA.out _).mono ?_
    rintro e w1 ⟨rfl, hb⟩
    have HK := Lib.hid (last_blk hb)
    have HB := Lib.hid (vbt (bel1 w _) hb)
    clear hb
    have c0 := HK.out.cell 0
    have c1 := HK.out.cell 1
    have c2 := HK.out.cell 2
    go_wp2_with fail
    refine (HP.out _ (HL.out.since HB.out)).mono ?_
    rintro e w2 ⟨rfl, hb⟩
    have HB := Lib.hid (vbt HB.out hb)
    clear hb c0 c1 c2
    go_wp2_with fail
    go_ret
    exact ⟨rfl, HB.out⟩

theorem full_walk (a : Bx) (n1 d : Int) (A : Option Addr) (n c : Nat) (L : List Bx) (w : World) (hx : I64 a.x) (hy : I64 a.y) (hd : I64 d) (hn : n * 24 ≤ 140737488351232) (hL : RBox w w.heap.size A n L) :
    Calls Try.prog 7 #[boxV a.x a.y a.r, .int .i64 n1, .int .i64 d, .slice A n c] w fun e w' => e = .returned (.bool true) ∧ Below w.heap.size w w' := by
  have h := and_one n1
  have h2 : n1 % 2 = 0 ∨ n1 % 2 = 1 := by omega
  rcases h2 with h2 | h2
  · exact full_walk0 a n1 d A n c L w hx hy hd (by omega) hL (h.trans h2)
  · exact full_walk1 a n1 d A n c L w hx hy hd (by omega) hL (h.trans h2)
end Go.Proofs.Ytnffflcfncffpaa

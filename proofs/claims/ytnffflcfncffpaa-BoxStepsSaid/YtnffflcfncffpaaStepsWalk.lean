/- The walk of BoxSteps. (By tools/gensteps.py.) -/
import Derived.Test.YtnffflcfncffpaaBMath2
import Derived.Test.YtnffflcfncffpaaFullWalk
namespace Go.Proofs.Ytnffflcfncffpaa
open Go.RowKit

set_option maxRecDepth 100000 in
set_option maxHeartbeats 1000000 in
theorem steps_walk0 (a : Bx) (n1 d m : Int) (A : Option Addr) (n c : Nat) (L : List Bx) (w : World) (hx : I64 a.x) (hy : I64 a.y) (hd : I64 d) (hm : I64 m) (hn : n ≤ 281474976710656) (hL : RBox w w.heap.size A n L) (hax : bits .and .i64 n1 1 = 0) :
    Calls Try.prog 9 #[boxV a.x a.y a.r, .int .i64 n1, .int .i64 d, .int .i64 m, .slice A n c] w fun e w' => e = .returned (.bool true) ∧ Below w.heap.size w w' := by
  have HA := Lib.hid (fun w => awake_c w)
  have HL := Lib.hid hL
  have HN := Lib.hid hn
  by_cases p1 : 1125899906842624 < d
  · clear hx hy hd hm hn hL
    go_enter Try.func9, Try.ntmps9
    go_wp2_with fail
    refine (HA.out _).mono ?_
    rintro e w1 ⟨rfl, hb⟩
    have HK := Lib.hid (last_blk hb)
    have HB := Lib.hid (vbt (bel1 w _) hb)
    clear hb
    go_wp2_with fail
    go_ret
    exact ⟨rfl, HB.out⟩
  have p1' : decide (1125899906842624 < d) = false := decide_eq_false p1
  by_cases p2 : d < -1125899906842624
  · clear hx hy hd hm hn hL p1
    go_enter Try.func9, Try.ntmps9
    go_wp2_with fail
    refine (HA.out _).mono ?_
    rintro e w1 ⟨rfl, hb⟩
    have HK := Lib.hid (last_blk hb)
    have HB := Lib.hid (vbt (bel1 w _) hb)
    clear hb
    go_wp2_with fail
    go_ret
    exact ⟨rfl, HB.out⟩
  have p2' : decide (d < -1125899906842624) = false := decide_eq_false p2
  by_cases p3 : 1125899906842624 < m
  · clear hx hy hd hm hn hL p1 p2
    go_enter Try.func9, Try.ntmps9
    go_wp2_with fail
    refine (HA.out _).mono ?_
    rintro e w1 ⟨rfl, hb⟩
    have HK := Lib.hid (last_blk hb)
    have HB := Lib.hid (vbt (bel1 w _) hb)
    clear hb
    go_wp2_with fail
    go_ret
    exact ⟨rfl, HB.out⟩
  have p3' : decide (1125899906842624 < m) = false := decide_eq_false p3
  by_cases p4 : m < -1125899906842624
  · clear hx hy hd hm hn hL p1 p2 p3
    go_enter Try.func9, Try.ntmps9
    go_wp2_with fail
    refine (HA.out _).mono ?_
    rintro e w1 ⟨rfl, hb⟩
    have HK := Lib.hid (last_blk hb)
    have HB := Lib.hid (vbt (bel1 w _) hb)
    clear hb
    go_wp2_with fail
    go_ret
    exact ⟨rfl, HB.out⟩
  have p4' : decide (m < -1125899906842624) = false := decide_eq_false p4
  by_cases p5 : (d < 0 ↔ m < 0)
  · have p5' : (decide (d < 0) == decide (m < 0)) = true := beq_iff_eq.2 (decide_eq_decide.2 p5)
    have dm : wrap64 (d + m) = d + m := IntWalk.wrap64_in _ (by omega)
    have HP := Lib.hid (fun w hL => Push_c a 0 d A n c L w hx hy hd hn hL)
    have HQ := Lib.hid (fun w hL => Push_c a 0 (d + m) A n c L w hx hy (by unfold I64; omega) hn hL)
    have i1 : inB d = true := inB_spec.2 (by omega)
    have i2 : inB (d + m) = true := inB_spec.2 (by omega)
    have i3 : inB m = true := inB_spec.2 (by omega)
    have ee : errP 0 a (d + m) L = errP 0 a d L := by unfold errP; rw [i1, i2]
    by_cases he : errP 0 a d L = 0
    · obtain ⟨hall, har, _, f1, f2⟩ := push_facts he
      obtain ⟨_, _, _, f3, f4⟩ := push_facts (ee.trans he)
      rw [f1, f2, he] at HP
      rw [f3, f4, ee.trans he] at HQ
      have z : Int.toNat 0 = 0 := rfl
      rw [z] at HP HQ
      have s1 := rightB_spec.1 har
      have gw := wayF_in 0 a d L
      have hr1 : 1 ≤ a.r := s1.1.1
      have hLr : ∀ i, i < L.length → 1 ≤ (Bx.at L i).r := fun i hi => right_r (at_right hall hi)
      by_cases hw : wayF 0 a d L = d
      · have st2 := step_two (L := L) (m := m) (Or.inl rfl) hr1 hLr p5 hw
        rw [hw] at HP gw
        have gy := wayF_in 0 (a.go 0 d) m L
        have HR := Lib.hid (fun w => right_c (a.go 0 d).x (a.go 0 d).y (a.go 0 d).r w (show I64 (a.x + d) by unfold I64; omega) (show I64 a.y from hy))
        have HY := Lib.hid (fun w hL => Push_c (a.go 0 d) 0 m A n c L w (show I64 (a.x + d) by unfold I64; omega) (show I64 a.y from hy) hm hn hL)
        have hg : (a.go 0 d).right = true → errP 0 (a.go 0 d) m L = 0 ∧ pWay 0 (a.go 0 d) m L = wayF 0 (a.go 0 d) m L := by
          intro hr
          have : errP 0 (a.go 0 d) m L = 0 := by unfold errP; rw [hall, hr, i3]; decide
          exact ⟨this, (push_facts this).2.2.2.1⟩
        have HGG := Lib.hid hg
        have xd : wrap64 (a.x + d) = a.x + d := IntWalk.wrap64_in _ (by omega)
        have dy : wrap64 (d + wayF 0 (a.go 0 d) m L) = d + wayF 0 (a.go 0 d) m L := IntWalk.wrap64_in _ (by omega)
        unfold errR at HR
        have HST := Lib.hid st2
        have HDY := Lib.hid dy
        unfold Bx.right at HGG
        clear hx hy hd hm hn hL p1 p2 p3 p4 p5 i1 i2 i3 ee he hall har f1 f2 f3 f4 z s1 gw hr1 hLr hw st2 gy hg dy
        generalize pWho 0 (a.go 0 d) m L = who2 at *
        generalize pWay 0 (a.go 0 d) m L = pw2 at *
        generalize errP 0 (a.go 0 d) m L = ep2 at *
        generalize wayF 0 (a.go 0 d) m L = Y at *
        generalize wayF 0 a (d + m) L = Z at *
        generalize whoF 0 a (d + m) L = who1 at *
        generalize whoF 0 a d L = who0 at *
        go_enter Try.func9, Try.ntmps9
        go_wp2_with fail
        refine (HA.out _).mono ?_
        rintro e w1 ⟨rfl, hb⟩
        have HK := Lib.hid (last_blk hb)
        have HB := Lib.hid (vbt (bel1 w _) hb)
        clear hb
        have c0 := HK.out.cell 0
        have c1 := HK.out.cell 1
        have c2 := HK.out.cell 2
        go_wp2_with fail
        refine (HP.out _ (HL.out.since HB.out)).mono ?_
        rintro e w2 ⟨rfl, hb⟩
        have HK := Lib.hid (HK.out.below hb HK.out.lt)
        have HB := Lib.hid (vbt HB.out hb)
        clear hb c0 c1 c2
        have c0 := HK.out.cell 0
        have c1 := HK.out.cell 1
        have c2 := HK.out.cell 2
        go_wp2_with fail
        refine (HQ.out _ (HL.out.since HB.out)).mono ?_
        rintro e w3 ⟨rfl, hb⟩
        have HK := Lib.hid (HK.out.below hb HK.out.lt)
        have HB := Lib.hid (vbt HB.out hb)
        clear hb c0 c1 c2 dm
        have c0 := HK.out.cell 0
        have c1 := HK.out.cell 1
        have c2 := HK.out.cell 2
        go_upto_region 10 with (fail)
        have K1 := Lib.hid (Blk.new w3 25 (boxR a.x a.y a.r))
        have HB2 := Lib.hid (vbt HB.out (bel1 w3 (.cells (boxR a.x a.y a.r) 25)))
        have HSZ := Lib.hid HB.out.size
        clear c0 c1 c2 HK
        generalize w3.alloc (.cells (boxR a.x a.y a.r) 25) = w4 at *
        generalize w3.heap.size = gb at *
        have k0 := K1.out.cell 0
        have z0 := K1.out.frozen 0
        go_upto_region 13 with (fail)
        have K1 := Lib.hid (K1.out.set_ 0 (.int .i64 (a.x + d)))
        have HB2 : Hid (Below w.heap.size w (w4.setCell ⟨gb, 0, none⟩ (.int .i64 (a.x + d)))) := Lib.hid (HB2.out.setCell HSZ.out _)
        clear k0 z0
        generalize w4.setCell ⟨gb, 0, none⟩ (.int .i64 (a.x + d)) = w5 at *
        have kb : Blk w5 gb 25 (boxR (a.go 0 d).x (a.go 0 d).y (a.go 0 d).r) := K1.out
        have KB := Lib.hid kb
        have k0 : w5.cell? ⟨gb, 0, none⟩ = some (.int .i64 (a.go 0 d).x) := kb.cell 0
        have k1 : w5.cell? ⟨gb, 1, none⟩ = some (.int .i64 (a.go 0 d).y) := kb.cell 1
        have k2 : w5.cell? ⟨gb, 2, none⟩ = some (.int .i64 (a.go 0 d).r) := kb.cell 2
        clear kb xd
        go_wp2_with fail
        refine (HR.out _).mono ?_
        rintro e w6 ⟨rfl, hb⟩
        have KB := Lib.hid (KB.out.below hb KB.out.lt)
        have HB3 := Lib.hid (vbt HB2.out hb)
        clear hb k0 k1 k2
        cases hr : rightB (a.go 0 d).x (a.go 0 d).y (a.go 0 d).r with
        | true =>
          rw [if_pos rfl]
          obtain ⟨rfl, rfl⟩ := HGG.out hr
          have k0 := KB.out.cell 0
          have k1 := KB.out.cell 1
          have k2 := KB.out.cell 2
          have dy := HDY.out
          clear hr
          go_wp2_with fail
          refine (HY.out _ (HL.out.since HB3.out)).mono ?_
          rintro e w7 ⟨rfl, hb⟩
          have HB4 := Lib.hid (vbt HB3.out hb)
          clear hb k0 k1 k2
          have zz : (Z == d + pw2) = true := by rw [HST.out]; simp
          go_wp2_with fail
          go_ret
          exact ⟨by first | rfl | (rw [zz]; rfl) | simpa using HST.out, HB4.out⟩
        | false =>
          rw [if_neg (by simp)]
          clear hr
          by_cases hz : Z = d
          · have zz : (Z == d) = true := by rw [hz]; simp
            clear hz
            go_wp2_with fail
            go_ret
            exact ⟨rfl, HB3.out⟩
          · have zz : (Z == d) = false := by simpa using hz
            clear hz
            go_wp2_with fail
            go_ret
            exact ⟨rfl, HB3.out⟩
      · have ss := step_same (ax := 0) (a := a) (L := L) p5 hw
        rw [ss] at HQ
        have xd : wrap64 (a.x + wayF 0 a d L) = a.x + wayF 0 a d L := IntWalk.wrap64_in _ (by omega)
        have hw' : (wayF 0 a d L == d) = false := by simpa using hw
        have hw2 : ¬ wayF 0 a d L = d := hw
        clear hx hy hd hm hn hL p1 p2 p3 p4 p5 i1 i2 i3 ee he hall har f1 f2 f3 f4 z s1 gw hr1 hLr hw ss
        generalize wayF 0 a d L = W at *
        generalize whoF 0 a (d + m) L = who1 at *
        generalize whoF 0 a d L = who0 at *
        go_enter Try.func9, Try.ntmps9
        go_wp2_with fail
        refine (HA.out _).mono ?_
        rintro e w1 ⟨rfl, hb⟩
        have HK := Lib.hid (last_blk hb)
        have HB := Lib.hid (vbt (bel1 w _) hb)
        clear hb
        have c0 := HK.out.cell 0
        have c1 := HK.out.cell 1
        have c2 := HK.out.cell 2
        go_wp2_with fail
        refine (HP.out _ (HL.out.since HB.out)).mono ?_
        rintro e w2 ⟨rfl, hb⟩
        have HK := Lib.hid (HK.out.below hb HK.out.lt)
        have HB := Lib.hid (vbt HB.out hb)
        clear hb c0 c1 c2
        have c0 := HK.out.cell 0
        have c1 := HK.out.cell 1
        have c2 := HK.out.cell 2
        go_wp2_with fail
        refine (HQ.out _ (HL.out.since HB.out)).mono ?_
        rintro e w3 ⟨rfl, hb⟩
        have HK := Lib.hid (HK.out.below hb HK.out.lt)
        have HB := Lib.hid (vbt HB.out hb)
        clear hb c0 c1 c2 dm
        have c0 := HK.out.cell 0
        have c1 := HK.out.cell 1
        have c2 := HK.out.cell 2
        go_upto_region 10 with (fail)
        have K1 := Lib.hid (Blk.new w3 25 (boxR a.x a.y a.r))
        have HB2 := Lib.hid (vbt HB.out (bel1 w3 (.cells (boxR a.x a.y a.r) 25)))
        have HSZ := Lib.hid HB.out.size
        clear c0 c1 c2 HK
        generalize w3.alloc (.cells (boxR a.x a.y a.r) 25) = w4 at *
        generalize w3.heap.size = gb at *
        have k0 := K1.out.cell 0
        have z0 := K1.out.frozen 0
        go_upto_region 13 with (fail)
        have K1 := Lib.hid (K1.out.set_ 0 (.int .i64 (a.x + W)))
        have HB2 : Hid (Below w.heap.size w (w4.setCell ⟨gb, 0, none⟩ (.int .i64 (a.x + W)))) := Lib.hid (HB2.out.setCell HSZ.out _)
        clear k0 z0
        generalize w4.setCell ⟨gb, 0, none⟩ (.int .i64 (a.x + W)) = w5 at *
        go_wp2_with fail
        go_ret
        exact ⟨rfl, HB2.out⟩
    · obtain ⟨f1, f2⟩ := push_none he
      obtain ⟨f3, f4⟩ := push_none (fun h => he (ee.symm.trans h))
      rw [f1, f2] at HP
      rw [f3, f4, ee] at HQ
      have xd : wrap64 a.x = a.x := IntWalk.wrap64_in _ (by unfold I64 at hx; omega)
      clear hx hy hd hm hn hL p1 p2 p3 p4 p5 i1 i2 i3 ee f1 f2 f3 f4
      generalize errP 0 a d L = e0 at *
      go_enter Try.func9, Try.ntmps9
      go_wp2_with fail
      refine (HA.out _).mono ?_
      rintro e w1 ⟨rfl, hb⟩
      have HK := Lib.hid (last_blk hb)
      have HB := Lib.hid (vbt (bel1 w _) hb)
      clear hb
      have c0 := HK.out.cell 0
      have c1 := HK.out.cell 1
      have c2 := HK.out.cell 2
      go_wp2_with fail
      refine (HP.out _ (HL.out.since HB.out)).mono ?_
      rintro e w2 ⟨rfl, hb⟩
      have HK := Lib.hid (HK.out.below hb HK.out.lt)
      have HB := Lib.hid (vbt HB.out hb)
      clear hb c0 c1 c2
      have c0 := HK.out.cell 0
      have c1 := HK.out.cell 1
      have c2 := HK.out.cell 2
      go_wp2_with fail
      refine (HQ.out _ (HL.out.since HB.out)).mono ?_
      rintro e w3 ⟨rfl, hb⟩
      have HK := Lib.hid (HK.out.below hb HK.out.lt)
      have HB := Lib.hid (vbt HB.out hb)
      clear hb c0 c1 c2 dm
      have c0 := HK.out.cell 0
      have c1 := HK.out.cell 1
      have c2 := HK.out.cell 2
      go_upto_region 10 with (fail)
      have K1 := Lib.hid (Blk.new w3 25 (boxR a.x a.y a.r))
      have HB2 := Lib.hid (vbt HB.out (bel1 w3 (.cells (boxR a.x a.y a.r) 25)))
      have HSZ := Lib.hid HB.out.size
      clear c0 c1 c2 HK
      generalize w3.alloc (.cells (boxR a.x a.y a.r) 25) = w4 at *
      generalize w3.heap.size = gb at *
      have k0 := K1.out.cell 0
      have z0 := K1.out.frozen 0
      go_upto_region 13 with (fail)
      have K1 := Lib.hid (K1.out.set_ 0 (.int .i64 (a.x)))
      have HB2 : Hid (Below w.heap.size w (w4.setCell ⟨gb, 0, none⟩ (.int .i64 (a.x)))) := Lib.hid (HB2.out.setCell HSZ.out _)
      clear k0 z0
      generalize w4.setCell ⟨gb, 0, none⟩ (.int .i64 (a.x)) = w5 at *
      go_wp2_with fail
      go_ret
      exact ⟨rfl, HB2.out⟩
  · have p5' : (decide (d < 0) == decide (m < 0)) = false := by simpa using p5
    clear hx hy hd hm hn hL p1 p2 p3 p4 p5
    go_enter Try.func9, Try.ntmps9
    go_wp2_with fail
    refine (HA.out _).mono ?_
    rintro e w1 ⟨rfl, hb⟩
    have HK := Lib.hid (last_blk hb)
    have HB := Lib.hid (vbt (bel1 w _) hb)
    clear hb
    go_wp2_with fail
    go_ret
    exact ⟨rfl, HB.out⟩

set_option maxRecDepth 100000 in
set_option maxHeartbeats 1000000 in
theorem steps_walk1 (a : Bx) (n1 d m : Int) (A : Option Addr) (n c : Nat) (L : List Bx) (w : World) (hx : I64 a.x) (hy : I64 a.y) (hd : I64 d) (hm : I64 m) (hn : n ≤ 281474976710656) (hL : RBox w w.heap.size A n L) (hax : bits .and .i64 n1 1 = 1) :
    Calls Try.prog 9 #[boxV a.x a.y a.r, .int .i64 n1, .int .i64 d, .int .i64 m, .slice A n c] w fun e w' => e = .returned (.bool true) ∧ Below w.heap.size w w' := by
  have HA := Lib.hid (fun w => awake_c w)
  have HL := Lib.hid hL
  have HN := Lib.hid hn
  by_cases p1 : 1125899906842624 < d
  · clear hx hy hd hm hn hL
    go_enter Try.func9, Try.ntmps9
    go_wp2_with fail
    refine (HA.out _).mono ?_
    rintro e w1 ⟨rfl, hb⟩
    have HK := Lib.hid (last_blk hb)
    have HB := Lib.hid (vbt (bel1 w _) hb)
    clear hb
    go_wp2_with fail
    go_ret
    exact ⟨rfl, HB.out⟩
  have p1' : decide (1125899906842624 < d) = false := decide_eq_false p1
  by_cases p2 : d < -1125899906842624
  · clear hx hy hd hm hn hL p1
    go_enter Try.func9, Try.ntmps9
    go_wp2_with fail
    refine (HA.out _).mono ?_
    rintro e w1 ⟨rfl, hb⟩
    have HK := Lib.hid (last_blk hb)
    have HB := Lib.hid (vbt (bel1 w _) hb)
    clear hb
    go_wp2_with fail
    go_ret
    exact ⟨rfl, HB.out⟩
  have p2' : decide (d < -1125899906842624) = false := decide_eq_false p2
  by_cases p3 : 1125899906842624 < m
  · clear hx hy hd hm hn hL p1 p2
    go_enter Try.func9, Try.ntmps9
    go_wp2_with fail
    refine (HA.out _).mono ?_
    rintro e w1 ⟨rfl, hb⟩
    have HK := Lib.hid (last_blk hb)
    have HB := Lib.hid (vbt (bel1 w _) hb)
    clear hb
    go_wp2_with fail
    go_ret
    exact ⟨rfl, HB.out⟩
  have p3' : decide (1125899906842624 < m) = false := decide_eq_false p3
  by_cases p4 : m < -1125899906842624
  · clear hx hy hd hm hn hL p1 p2 p3
    go_enter Try.func9, Try.ntmps9
    go_wp2_with fail
    refine (HA.out _).mono ?_
    rintro e w1 ⟨rfl, hb⟩
    have HK := Lib.hid (last_blk hb)
    have HB := Lib.hid (vbt (bel1 w _) hb)
    clear hb
    go_wp2_with fail
    go_ret
    exact ⟨rfl, HB.out⟩
  have p4' : decide (m < -1125899906842624) = false := decide_eq_false p4
  by_cases p5 : (d < 0 ↔ m < 0)
  · have p5' : (decide (d < 0) == decide (m < 0)) = true := beq_iff_eq.2 (decide_eq_decide.2 p5)
    have dm : wrap64 (d + m) = d + m := IntWalk.wrap64_in _ (by omega)
    have HP := Lib.hid (fun w hL => Push_c a 1 d A n c L w hx hy hd hn hL)
    have HQ := Lib.hid (fun w hL => Push_c a 1 (d + m) A n c L w hx hy (by unfold I64; omega) hn hL)
    have i1 : inB d = true := inB_spec.2 (by omega)
    have i2 : inB (d + m) = true := inB_spec.2 (by omega)
    have i3 : inB m = true := inB_spec.2 (by omega)
    have ee : errP 1 a (d + m) L = errP 1 a d L := by unfold errP; rw [i1, i2]
    by_cases he : errP 1 a d L = 0
    · obtain ⟨hall, har, _, f1, f2⟩ := push_facts he
      obtain ⟨_, _, _, f3, f4⟩ := push_facts (ee.trans he)
      rw [f1, f2, he] at HP
      rw [f3, f4, ee.trans he] at HQ
      have z : Int.toNat 1 = 1 := rfl
      rw [z] at HP HQ
      have s1 := rightB_spec.1 har
      have gw := wayF_in 1 a d L
      have hr1 : 1 ≤ a.r := s1.1.1
      have hLr : ∀ i, i < L.length → 1 ≤ (Bx.at L i).r := fun i hi => right_r (at_right hall hi)
      by_cases hw : wayF 1 a d L = d
      · have st2 := step_two (L := L) (m := m) (Or.inr rfl) hr1 hLr p5 hw
        rw [hw] at HP gw
        have gy := wayF_in 1 (a.go 1 d) m L
        have HR := Lib.hid (fun w => right_c (a.go 1 d).x (a.go 1 d).y (a.go 1 d).r w (show I64 a.x from hx) (show I64 (a.y + d) by unfold I64; omega))
        have HY := Lib.hid (fun w hL => Push_c (a.go 1 d) 1 m A n c L w (show I64 a.x from hx) (show I64 (a.y + d) by unfold I64; omega) hm hn hL)
        have hg : (a.go 1 d).right = true → errP 1 (a.go 1 d) m L = 0 ∧ pWay 1 (a.go 1 d) m L = wayF 1 (a.go 1 d) m L := by
          intro hr
          have : errP 1 (a.go 1 d) m L = 0 := by unfold errP; rw [hall, hr, i3]; decide
          exact ⟨this, (push_facts this).2.2.2.1⟩
        have HGG := Lib.hid hg
        have xd : wrap64 (a.y + d) = a.y + d := IntWalk.wrap64_in _ (by omega)
        have dy : wrap64 (d + wayF 1 (a.go 1 d) m L) = d + wayF 1 (a.go 1 d) m L := IntWalk.wrap64_in _ (by omega)
        unfold errR at HR
        have HST := Lib.hid st2
        have HDY := Lib.hid dy
        unfold Bx.right at HGG
        clear hx hy hd hm hn hL p1 p2 p3 p4 p5 i1 i2 i3 ee he hall har f1 f2 f3 f4 z s1 gw hr1 hLr hw st2 gy hg dy
        generalize pWho 1 (a.go 1 d) m L = who2 at *
        generalize pWay 1 (a.go 1 d) m L = pw2 at *
        generalize errP 1 (a.go 1 d) m L = ep2 at *
        generalize wayF 1 (a.go 1 d) m L = Y at *
        generalize wayF 1 a (d + m) L = Z at *
        generalize whoF 1 a (d + m) L = who1 at *
        generalize whoF 1 a d L = who0 at *
        go_enter Try.func9, Try.ntmps9
        go_wp2_with fail
        refine (HA.out _).mono ?_
        rintro e w1 ⟨rfl, hb⟩
        have HK := Lib.hid (last_blk hb)
        have HB := Lib.hid (vbt (bel1 w _) hb)
        clear hb
        have c0 := HK.out.cell 0
        have c1 := HK.out.cell 1
        have c2 := HK.out.cell 2
        go_wp2_with fail
        refine (HP.out _ (HL.out.since HB.out)).mono ?_
        rintro e w2 ⟨rfl, hb⟩
        have HK := Lib.hid (HK.out.below hb HK.out.lt)
        have HB := Lib.hid (vbt HB.out hb)
        clear hb c0 c1 c2
        have c0 := HK.out.cell 0
        have c1 := HK.out.cell 1
        have c2 := HK.out.cell 2
        go_wp2_with fail
        refine (HQ.out _ (HL.out.since HB.out)).mono ?_
        rintro e w3 ⟨rfl, hb⟩
        have HK := Lib.hid (HK.out.below hb HK.out.lt)
        have HB := Lib.hid (vbt HB.out hb)
        clear hb c0 c1 c2 dm
        have c0 := HK.out.cell 0
        have c1 := HK.out.cell 1
        have c2 := HK.out.cell 2
        go_upto_region 10 with (fail)
        have K1 := Lib.hid (Blk.new w3 25 (boxR a.x a.y a.r))
        have HB2 := Lib.hid (vbt HB.out (bel1 w3 (.cells (boxR a.x a.y a.r) 25)))
        have HSZ := Lib.hid HB.out.size
        clear c0 c1 c2 HK
        generalize w3.alloc (.cells (boxR a.x a.y a.r) 25) = w4 at *
        generalize w3.heap.size = gb at *
        have k0 := K1.out.cell 1
        have z0 := K1.out.frozen 1
        go_upto_region 13 with (fail)
        have K1 := Lib.hid (K1.out.set_ 1 (.int .i64 (a.y + d)))
        have HB2 : Hid (Below w.heap.size w (w4.setCell ⟨gb, 1, none⟩ (.int .i64 (a.y + d)))) := Lib.hid (HB2.out.setCell HSZ.out _)
        clear k0 z0
        generalize w4.setCell ⟨gb, 1, none⟩ (.int .i64 (a.y + d)) = w5 at *
        have kb : Blk w5 gb 25 (boxR (a.go 1 d).x (a.go 1 d).y (a.go 1 d).r) := K1.out
        have KB := Lib.hid kb
        have k0 : w5.cell? ⟨gb, 0, none⟩ = some (.int .i64 (a.go 1 d).x) := kb.cell 0
        have k1 : w5.cell? ⟨gb, 1, none⟩ = some (.int .i64 (a.go 1 d).y) := kb.cell 1
        have k2 : w5.cell? ⟨gb, 2, none⟩ = some (.int .i64 (a.go 1 d).r) := kb.cell 2
        clear kb xd
        go_wp2_with fail
        refine (HR.out _).mono ?_
        rintro e w6 ⟨rfl, hb⟩
        have KB := Lib.hid (KB.out.below hb KB.out.lt)
        have HB3 := Lib.hid (vbt HB2.out hb)
        clear hb k0 k1 k2
        cases hr : rightB (a.go 1 d).x (a.go 1 d).y (a.go 1 d).r with
        | true =>
          rw [if_pos rfl]
          obtain ⟨rfl, rfl⟩ := HGG.out hr
          have k0 := KB.out.cell 0
          have k1 := KB.out.cell 1
          have k2 := KB.out.cell 2
          have dy := HDY.out
          clear hr
          go_wp2_with fail
          refine (HY.out _ (HL.out.since HB3.out)).mono ?_
          rintro e w7 ⟨rfl, hb⟩
          have HB4 := Lib.hid (vbt HB3.out hb)
          clear hb k0 k1 k2
          have zz : (Z == d + pw2) = true := by rw [HST.out]; simp
          go_wp2_with fail
          go_ret
          exact ⟨by first | rfl | (rw [zz]; rfl) | simpa using HST.out, HB4.out⟩
        | false =>
          rw [if_neg (by simp)]
          clear hr
          by_cases hz : Z = d
          · have zz : (Z == d) = true := by rw [hz]; simp
            clear hz
            go_wp2_with fail
            go_ret
            exact ⟨rfl, HB3.out⟩
          · have zz : (Z == d) = false := by simpa using hz
            clear hz
            go_wp2_with fail
            go_ret
            exact ⟨rfl, HB3.out⟩
      · have ss := step_same (ax := 1) (a := a) (L := L) p5 hw
        rw [ss] at HQ
        have xd : wrap64 (a.y + wayF 1 a d L) = a.y + wayF 1 a d L := IntWalk.wrap64_in _ (by omega)
        have hw' : (wayF 1 a d L == d) = false := by simpa using hw
        have hw2 : ¬ wayF 1 a d L = d := hw
        clear hx hy hd hm hn hL p1 p2 p3 p4 p5 i1 i2 i3 ee he hall har f1 f2 f3 f4 z s1 gw hr1 hLr hw ss
        generalize wayF 1 a d L = W at *
        generalize whoF 1 a (d + m) L = who1 at *
        generalize whoF 1 a d L = who0 at *
        go_enter Try.func9, Try.ntmps9
        go_wp2_with fail
        refine (HA.out _).mono ?_
        rintro e w1 ⟨rfl, hb⟩
        have HK := Lib.hid (last_blk hb)
        have HB := Lib.hid (vbt (bel1 w _) hb)
        clear hb
        have c0 := HK.out.cell 0
        have c1 := HK.out.cell 1
        have c2 := HK.out.cell 2
        go_wp2_with fail
        refine (HP.out _ (HL.out.since HB.out)).mono ?_
        rintro e w2 ⟨rfl, hb⟩
        have HK := Lib.hid (HK.out.below hb HK.out.lt)
        have HB := Lib.hid (vbt HB.out hb)
        clear hb c0 c1 c2
        have c0 := HK.out.cell 0
        have c1 := HK.out.cell 1
        have c2 := HK.out.cell 2
        go_wp2_with fail
        refine (HQ.out _ (HL.out.since HB.out)).mono ?_
        rintro e w3 ⟨rfl, hb⟩
        have HK := Lib.hid (HK.out.below hb HK.out.lt)
        have HB := Lib.hid (vbt HB.out hb)
        clear hb c0 c1 c2 dm
        have c0 := HK.out.cell 0
        have c1 := HK.out.cell 1
        have c2 := HK.out.cell 2
        go_upto_region 10 with (fail)
        have K1 := Lib.hid (Blk.new w3 25 (boxR a.x a.y a.r))
        have HB2 := Lib.hid (vbt HB.out (bel1 w3 (.cells (boxR a.x a.y a.r) 25)))
        have HSZ := Lib.hid HB.out.size
        clear c0 c1 c2 HK
        generalize w3.alloc (.cells (boxR a.x a.y a.r) 25) = w4 at *
        generalize w3.heap.size = gb at *
        have k0 := K1.out.cell 1
        have z0 := K1.out.frozen 1
        go_upto_region 13 with (fail)
        have K1 := Lib.hid (K1.out.set_ 1 (.int .i64 (a.y + W)))
        have HB2 : Hid (Below w.heap.size w (w4.setCell ⟨gb, 1, none⟩ (.int .i64 (a.y + W)))) := Lib.hid (HB2.out.setCell HSZ.out _)
        clear k0 z0
        generalize w4.setCell ⟨gb, 1, none⟩ (.int .i64 (a.y + W)) = w5 at *
        go_wp2_with fail
        go_ret
        exact ⟨rfl, HB2.out⟩
    · obtain ⟨f1, f2⟩ := push_none he
      obtain ⟨f3, f4⟩ := push_none (fun h => he (ee.symm.trans h))
      rw [f1, f2] at HP
      rw [f3, f4, ee] at HQ
      have xd : wrap64 a.y = a.y := IntWalk.wrap64_in _ (by unfold I64 at hy; omega)
      clear hx hy hd hm hn hL p1 p2 p3 p4 p5 i1 i2 i3 ee f1 f2 f3 f4
      generalize errP 1 a d L = e0 at *
      go_enter Try.func9, Try.ntmps9
      go_wp2_with fail
      refine (HA.out _).mono ?_
      rintro e w1 ⟨rfl, hb⟩
      have HK := Lib.hid (last_blk hb)
      have HB := Lib.hid (vbt (bel1 w _) hb)
      clear hb
      have c0 := HK.out.cell 0
      have c1 := HK.out.cell 1
      have c2 := HK.out.cell 2
      go_wp2_with fail
      refine (HP.out _ (HL.out.since HB.out)).mono ?_
      rintro e w2 ⟨rfl, hb⟩
      have HK := Lib.hid (HK.out.below hb HK.out.lt)
      have HB := Lib.hid (vbt HB.out hb)
      clear hb c0 c1 c2
      have c0 := HK.out.cell 0
      have c1 := HK.out.cell 1
      have c2 := HK.out.cell 2
      go_wp2_with fail
      refine (HQ.out _ (HL.out.since HB.out)).mono ?_
      rintro e w3 ⟨rfl, hb⟩
      have HK := Lib.hid (HK.out.below hb HK.out.lt)
      have HB := Lib.hid (vbt HB.out hb)
      clear hb c0 c1 c2 dm
      have c0 := HK.out.cell 0
      have c1 := HK.out.cell 1
      have c2 := HK.out.cell 2
      go_upto_region 10 with (fail)
      have K1 := Lib.hid (Blk.new w3 25 (boxR a.x a.y a.r))
      have HB2 := Lib.hid (vbt HB.out (bel1 w3 (.cells (boxR a.x a.y a.r) 25)))
      have HSZ := Lib.hid HB.out.size
      clear c0 c1 c2 HK
      generalize w3.alloc (.cells (boxR a.x a.y a.r) 25) = w4 at *
      generalize w3.heap.size = gb at *
      have k0 := K1.out.cell 1
      have z0 := K1.out.frozen 1
      go_upto_region 13 with (fail)
      have K1 := Lib.hid (K1.out.set_ 1 (.int .i64 (a.y)))
      have HB2 : Hid (Below w.heap.size w (w4.setCell ⟨gb, 1, none⟩ (.int .i64 (a.y)))) := Lib.hid (HB2.out.setCell HSZ.out _)
      clear k0 z0
      generalize w4.setCell ⟨gb, 1, none⟩ (.int .i64 (a.y)) = w5 at *
      go_wp2_with fail
      go_ret
      exact ⟨rfl, HB2.out⟩
  · have p5' : (decide (d < 0) == decide (m < 0)) = false := by simpa using p5
    clear hx hy hd hm hn hL p1 p2 p3 p4 p5
    go_enter Try.func9, Try.ntmps9
    go_wp2_with fail
    refine (HA.out _).mono ?_
    rintro e w1 ⟨rfl, hb⟩
    have HK := Lib.hid (last_blk hb)
    have HB := Lib.hid (vbt (bel1 w _) hb)
    clear hb
    go_wp2_with fail
    go_ret
    exact ⟨rfl, HB.out⟩

theorem steps_walk (a : Bx) (n1 d m : Int) (A : Option Addr) (n c : Nat) (L : List Bx) (w : World) (hx : I64 a.x) (hy : I64 a.y) (hd : I64 d) (hm : I64 m) (hn : n * 24 ≤ 140737488351232) (hL : RBox w w.heap.size A n L) :
    Calls Try.prog 9 #[boxV a.x a.y a.r, .int .i64 n1, .int .i64 d, .int .i64 m, .slice A n c] w fun e w' => e = .returned (.bool true) ∧ Below w.heap.size w w' := by
  have h := and_one n1
  have h2 : n1 % 2 = 0 ∨ n1 % 2 = 1 := by omega
  rcases h2 with h2 | h2
  · exact steps_walk0 a n1 d m A n c L w hx hy hd hm (by omega) hL (h.trans h2)
  · exact steps_walk1 a n1 d m A n c L w hx hy hd hm (by omega) hL (h.trans h2)
end Go.Proofs.Ytnffflcfncffpaa

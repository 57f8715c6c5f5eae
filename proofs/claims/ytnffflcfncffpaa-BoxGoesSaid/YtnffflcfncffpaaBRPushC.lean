/- The reference's Push and Go answer as the program's. -/
import Derived.Test.YtnffflcfncffpaaBRPush0
import Derived.Test.YtnffflcfncffpaaBRPush1
import Derived.Test.YtnffflcfncffpaaBGo
namespace Go.Proofs.Ytnffflcfncffpaa
open Go.RowKit

theorem rpush_bad (a : Bx) (ax d : Int) (A : Option Addr) (n c : Nat) (L : List Bx) (w : World) (hn : n ≤ 281474976710656) (hL : RBox w w.heap.size A n L) (hok : (allB L && a.right) = false) :
    Calls Try.prog 24 #[boxV a.x a.y a.r, .int .i64 ax, .int .i64 d, .slice A n c] w fun e w' => e = .returned (.tuple #[.int .i64 0, .int .i64 0, .int .i64 60]) ∧ Below w.heap.size w w' := by
  have H1 := Lib.hid (fun w => rright_c a.x a.y a.r w)
  have H2 := Lib.hid (fun w hL => rights_c A n c L w hn hL)
  have HL := Lib.hid hL
  unfold Bx.right at hok
  clear hn hL
  generalize rightB a.x a.y a.r = p at *
  generalize allB L = q at *
  go_enter Try.func24, Try.ntmps24
  go_wp2_with fail
  refine (H1.out _).mono ?_
  rintro e w1 ⟨rfl, hb⟩
  have HB := Lib.hid (vbt (bel1 w _) hb)
  clear hb H1
  go_wp2_with fail
  refine (H2.out _ (HL.out.since HB.out)).mono ?_
  rintro e w2 ⟨rfl, hb⟩
  have HB := Lib.hid (vbt HB.out hb)
  clear hb H2
  cases p <;> cases q
  case true.true => cases hok
  all_goals
    go_wp2_with fail
    exact bodyPost_ret (v := .tuple #[.int .i64 0, .int .i64 0, .int .i64 60]) (by simp [results, Try.results24, go_sem]) rfl ⟨rfl, HB.out⟩

theorem rpush_arg (a : Bx) (ax d : Int) (A : Option Addr) (n c : Nat) (L : List Bx) (w : World) (hn : n ≤ 281474976710656) (hL : RBox w w.heap.size A n L) (hok : (allB L && a.right) = true) (hax : ax < 0 ∨ 1 < ax ∨ inB d = false) :
    Calls Try.prog 24 #[boxV a.x a.y a.r, .int .i64 ax, .int .i64 d, .slice A n c] w fun e w' => e = .returned (.tuple #[.int .i64 0, .int .i64 0, .int .i64 1]) ∧ Below w.heap.size w w' := by
  have H1 := Lib.hid (fun w => rright_c a.x a.y a.r w)
  have H2 := Lib.hid (fun w hL => rights_c A n c L w hn hL)
  have H3 := Lib.hid (fun w => rwithin_c d w)
  have HL := Lib.hid hL
  unfold Bx.right at hok
  rw [Bool.and_eq_true] at hok
  rw [hok.2] at H1
  rw [hok.1] at H2
  clear hn hL hok
  by_cases h0 : ax < 0
  · clear hax
    go_enter Try.func24, Try.ntmps24
    go_wp2_with fail
    refine (H1.out _).mono ?_
    rintro e w1 ⟨rfl, hb⟩
    have HB := Lib.hid (vbt (bel1 w _) hb)
    clear hb H1
    go_wp2_with fail
    refine (H2.out _ (HL.out.since HB.out)).mono ?_
    rintro e w2 ⟨rfl, hb⟩
    have HB := Lib.hid (vbt HB.out hb)
    clear hb H2
    go_wp2_with fail
    refine (H3.out _).mono ?_
    rintro e w3 ⟨rfl, rfl⟩
    go_wp2_with fail
    exact bodyPost_ret (v := .tuple #[.int .i64 0, .int .i64 0, .int .i64 1]) (by simp [results, Try.results24, go_sem]) rfl ⟨rfl, HB.out⟩
  by_cases h1 : 1 < ax
  · have d0 : decide (ax < 0) = false := decide_eq_false h0
    clear hax h0
    go_enter Try.func24, Try.ntmps24
    go_wp2_with fail
    refine (H1.out _).mono ?_
    rintro e w1 ⟨rfl, hb⟩
    have HB := Lib.hid (vbt (bel1 w _) hb)
    clear hb H1
    go_wp2_with fail
    refine (H2.out _ (HL.out.since HB.out)).mono ?_
    rintro e w2 ⟨rfl, hb⟩
    have HB := Lib.hid (vbt HB.out hb)
    clear hb H2
    go_wp2_with fail
    refine (H3.out _).mono ?_
    rintro e w3 ⟨rfl, rfl⟩
    go_wp2_with fail
    exact bodyPost_ret (v := .tuple #[.int .i64 0, .int .i64 0, .int .i64 1]) (by simp [results, Try.results24, go_sem]) rfl ⟨rfl, HB.out⟩
  have hin : inB d = false := by
    rcases hax with h | h | h
    · exact absurd h h0
    · exact absurd h h1
    · exact h
  have d0 : decide (ax < 0) = false := decide_eq_false h0
  have d1 : decide (1 < ax) = false := decide_eq_false h1
  rw [hin] at H3
  clear hax h0 h1 hin
  go_enter Try.func24, Try.ntmps24
  go_wp2_with fail
  refine (H1.out _).mono ?_
  rintro e w1 ⟨rfl, hb⟩
  have HB := Lib.hid (vbt (bel1 w _) hb)
  clear hb H1
  go_wp2_with fail
  refine (H2.out _ (HL.out.since HB.out)).mono ?_
  rintro e w2 ⟨rfl, hb⟩
  have HB := Lib.hid (vbt HB.out hb)
  clear hb H2
  go_wp2_with fail
  refine (H3.out _).mono ?_
  rintro e w3 ⟨rfl, rfl⟩
  go_wp2_with fail
  exact bodyPost_ret (v := .tuple #[.int .i64 0, .int .i64 0, .int .i64 1]) (by simp [results, Try.results24, go_sem]) rfl ⟨rfl, HB.out⟩

theorem rPush_c (a : Bx) (ax d : Int) (A : Option Addr) (n c : Nat) (L : List Bx) (w : World) (hn : n ≤ 281474976710656) (hL : RBox w w.heap.size A n L) :
    Calls Try.prog 24 #[boxV a.x a.y a.r, .int .i64 ax, .int .i64 d, .slice A n c] w fun e w' => e = .returned (.tuple #[.int .i64 (pWay ax a d L), .int .i64 (pWho ax a d L), .int .i64 (errP ax a d L)]) ∧ Below w.heap.size w w' := by
  cases hok : (allB L && a.right) with
  | false =>
    have e1 : errP ax a d L = 60 := by unfold errP; rw [hok]; rfl
    unfold pWay pWho
    rw [e1]
    exact rpush_bad a ax d A n c L w hn hL hok
  | true =>
    by_cases hb : (decide (0 ≤ ax ∧ ax ≤ 1) && inB d) = true
    · have e1 : errP ax a d L = 0 := by unfold errP; rw [hok, hb]; rfl
      unfold pWay pWho
      rw [e1]
      rw [Bool.and_eq_true, decide_eq_true_iff] at hb
      have hok' := Bool.and_eq_true_iff.1 hok
      have hc : ax = 0 ∨ ax = 1 := by omega
      rcases hc with rfl | rfl
      · exact rpush0_c a d A n c L w hn hL hok'.1 hok'.2 hb.2
      · exact rpush1_c a d A n c L w hn hL hok'.1 hok'.2 hb.2
    · have e1 : errP ax a d L = 1 := by unfold errP; rw [hok, if_pos rfl, if_neg hb]
      unfold pWay pWho
      rw [e1]
      refine rpush_arg a ax d A n c L w hn hL hok ?_
      cases h2 : inB d
      · exact .inr (.inr rfl)
      · rw [h2, Bool.and_true, decide_eq_true_iff] at hb
        omega

/-- The greater of two errors. -/
theorem errG_max (a : Bx) (bx b2 : Int) (L : List Bx) (h : ¬ (errP 0 a bx L = 0 ∧ errP 1 a b2 L = 0)) : errG a bx b2 L = max (errP 0 a bx L) (errP 1 a b2 L) ∧ errG a bx b2 L ≠ 0 := by
  unfold errP at h
  unfold errG errP
  generalize (allB L && a.right) = ok at *
  generalize inB bx = p at *
  generalize inB b2 = q at *
  cases ok <;> cases p <;> cases q <;> simp at h ⊢ <;> decide

set_option maxRecDepth 100000 in
set_option maxHeartbeats 1000000 in
theorem rGo_c (a : Bx) (bx b2 : Int) (A : Option Addr) (n c : Nat) (L : List Bx) (w : World) (hn : n ≤ 281474976710656) (hL : RBox w w.heap.size A n L) :
    Calls Try.prog 25 #[boxV a.x a.y a.r, vecV bx b2, .slice A n c] w fun e w' => e = .returned (goV a bx b2 L) ∧ Below w.heap.size w w' := by
  have H1 := Lib.hid (fun w hL => rPush_c a 0 bx A n c L w hn hL)
  have H2 := Lib.hid (fun w hL => rPush_c a 1 b2 A n c L w hn hL)
  have HL := Lib.hid hL
  by_cases h : errP 0 a bx L = 0 ∧ errP 1 a b2 L = 0
  · obtain ⟨hall, har, hbx, hb2⟩ : allB L = true ∧ a.right = true ∧ inB bx = true ∧ inB b2 = true := by
      have h1 := h.1
      have h2 := h.2
      unfold errP at h1 h2
      cases q1 : allB L <;> cases q2 : a.right <;> cases q3 : inB bx <;> cases q4 : inB b2 <;> simp [q1, q2, q3, q4] at h1 h2 ⊢
    have s1 := rightB_spec.1 har
    have s2 := inB_spec.1 hbx
    have s3 := inB_spec.1 hb2
    have q1 := wayF_in 0 a bx L
    have q2 := wayF_in 1 (goA a bx L) b2 L
    have H3 := Lib.hid (fun w hL => rPush_c (goA a bx L) 1 b2 A n c L w hn hL)
    have e1 : errG a bx b2 L = errB (rightB (a.x + wayF 0 a bx L) (a.y + goY a bx b2 L) a.r) := by unfold errG; rw [hall, har, hbx, hb2]; rfl
    have e2 : errP 1 (goA a bx L) b2 L = errB (rightB (a.x + wayF 0 a bx L) a.y a.r) := by
      unfold errP; rw [hall, hb2]; unfold Bx.right goA errB; dsimp only
      cases rightB (a.x + wayF 0 a bx L) a.y a.r <;> rfl
    have e3 : pWay 0 a bx L = wayF 0 a bx L := if_pos h.1
    have e4 : pWho 0 a bx L = whoF 0 a bx L := if_pos h.1
    rw [e3, e4, h.1] at H1
    rw [h.2] at H2
    have hgo : goY a bx b2 L = wayF 1 (goA a bx L) b2 L := rfl
    have e5 : rightB (a.x + wayF 0 a bx L) a.y a.r = true → pWay 1 (goA a bx L) b2 L = goY a bx b2 L ∧ pWho 1 (goA a bx L) b2 L = whoF 1 (goA a bx L) b2 L := by
      intro hr
      have hz : errP 1 (goA a bx L) b2 L = 0 := by rw [e2, hr]; rfl
      exact ⟨if_pos hz, if_pos hz⟩
    have e6 : rightB (a.x + wayF 0 a bx L) a.y a.r = false → pWay 1 (goA a bx L) b2 L = 0 ∧ rightB (a.x + wayF 0 a bx L) (a.y + goY a bx b2 L) a.r = false := by
      intro hr
      have hz : ¬ errP 1 (goA a bx L) b2 L = 0 := by rw [e2, hr]; decide
      refine ⟨if_neg hz, ?_⟩
      cases hk : rightB (a.x + wayF 0 a bx L) (a.y + goY a bx b2 L) a.r with
      | false => rfl
      | true =>
        have := rightB_spec.1 hk
        rw [rightB_spec.2 ⟨by omega, by omega, by omega⟩] at hr
        cases hr
    rw [e2] at H3
    unfold goV
    rw [e1]
    rw [show (goA a bx L).x = a.x + wayF 0 a bx L from rfl, show (goA a bx L).y = a.y from rfl, show (goA a bx L).r = a.r from rfl] at H3
    rw [← hgo] at q2
    clear hgo e1 e2 e3 e4 hn hL h hall har hbx hb2
    generalize pWay 1 a b2 L = j1 at *
    generalize pWho 1 a b2 L = j2 at *
    generalize pWay 1 (goA a bx L) b2 L = t1 at *
    generalize pWho 1 (goA a bx L) b2 L = t2 at *
    generalize goY a bx b2 L = p1 at *
    generalize whoF 1 (goA a bx L) b2 L = o1 at *
    generalize wayF 0 a bx L = p0 at *
    generalize whoF 0 a bx L = o0 at *
    obtain ⟨x, y, r⟩ := a
    dsimp only at *
    have i0 : wrap64 (x + p0) = x + p0 := IntWalk.wrap64_in _ (by omega)
    obtain ⟨xx, hxx⟩ : ∃ xx, xx = x + p0 := ⟨_, rfl⟩
    have i1 : wrap64 (x + p0) = xx := i0.trans hxx.symm
    rw [← hxx] at H3 e5 e6 ⊢
    have i2 : Hid (wrap64 (y + p1) = y + p1) := Lib.hid (IntWalk.wrap64_in _ (by omega))
    have i3 : Hid (wrap64 y = y) := Lib.hid (IntWalk.wrap64_in _ (by omega))
    have E5 := Lib.hid e5
    have E6 := Lib.hid e6
    clear s1 s2 s3 q1 q2 e5 e6 i0 hxx
    go_enter Try.func25, Try.ntmps25
    go_wp2_with fail
    refine (H1.out _ (HL.out.since (bel4 _ _ _ _ _))).mono ?_
    rintro e w1 ⟨rfl, hb⟩
    have hG := (G0.make w x y r bx b2).below hb
    have HG := Lib.hid hG
    have c0 := hG.a.cell 0
    have c1 := hG.a.cell 1
    have c2 := hG.a.cell 2
    have c3 := hG.d.cell 1
    clear hb hG
    go_wp2_with fail
    refine (H2.out _ (HL.out.since HG.out.bel)).mono ?_
    rintro e w2 ⟨rfl, hb⟩
    have hG := HG.out.below hb
    have HG := Lib.hid hG
    clear c0 c1 c2 c3 hb
    have c0 := hG.a.cell 0
    have c1 := hG.a.cell 1
    have c2 := hG.a.cell 2
    clear hG
    go_upto_region 6 with (fail)
    have hG := HG.out.below (bel1 w2 (.cells (boxR xx y r) 25))
    have HG := Lib.hid hG
    have HN := Lib.hid (Blk.new w2 25 (boxR xx y r))
    clear c0 c1 c2
    generalize w2.heap.size = gn at *
    generalize w2.alloc (.cells (boxR xx y r) 25) = w3 at *
    have c0 := HN.out.cell 0
    have c1 := HN.out.cell 1
    have c2 := HN.out.cell 2
    have c3 := hG.d.cell 1
    clear hG
    go_wp2_with fail
    refine (H3.out _ (HL.out.since HG.out.bel)).mono ?_
    rintro e w4 ⟨rfl, hb⟩
    have hG := HG.out.below hb
    have HG := Lib.hid hG
    have HN := Lib.hid (HN.out.below hb HN.out.lt)
    clear hb c0 c1 c2 c3 i1
    have c0 := HN.out.cell 0
    have c1 := HN.out.cell 1
    have c2 := hG.a.cell 2
    clear hG
    cases hr : rightB xx y r with
    | true =>
      obtain ⟨rfl, rfl⟩ := E5.out hr
      have i4 := i2.out
      clear i2 i3 E5 E6 hr
      unfold errB
      rw [if_pos rfl]
      go_wp2_with fail
      refine (rright_c xx (y + t1) r _).mono ?_
      rintro e w5 ⟨rfl, hb⟩
      have hG := HG.out.below (vbt (bel1 w4 _) hb)
      have HG := Lib.hid hG
      clear hb c0 c1 c2 i4
      have c0 := hG.b.cell 0
      have c1 := hG.b.cell 1
      have c2 := hG.c.cell 0
      have c3 := hG.c.cell 1
      have z0 := hG.b.frozen 0
      have z1 := hG.b.frozen 1
      have z2 := hG.c.frozen 0
      have z3 := hG.c.frozen 1
      clear hG
      cases hk : rightB xx (y + t1) r with
      | true =>
        go_wp2_with fail
        obtain ⟨w3, hw, c0, c1, c2, c3, hb⟩ := four_set (w := w) (p := .int .i64 p0) (q := .int .i64 t1) (s := .int .i64 o0) (t := .int .i64 t2) HG.out.b HG.out.c HG.out.bel (by omega) (by omega)
        rw [← hw]
        exact bodyPost_ret (v := .tuple #[vecV p0 t1, vecV o0 t2, .int .i64 0]) (by simp [results, Try.results25, go_sem, c0, c1, c2, c3]) rfl ⟨by rw [hk]; rfl, hb⟩
      | false =>
        go_wp2_with fail
        obtain ⟨w3, hw, c0, c1, c2, c3, hb⟩ := four_set (w := w) (p := .int .i64 0) (q := .int .i64 0) (s := .int .i64 0) (t := .int .i64 0) HG.out.b HG.out.c HG.out.bel (by omega) (by omega)
        rw [← hw]
        exact bodyPost_ret (v := .tuple #[vecV 0 0, vecV 0 0, .int .i64 60]) (by simp [results, Try.results25, go_sem, c0, c1, c2, c3]) rfl ⟨by rw [hk]; rfl, hb⟩
    | false =>
      obtain ⟨rfl, hk⟩ := E6.out hr
      have HK := Lib.hid hk
      have i4 : wrap64 y = y := i3.out
      clear i2 i3 E5 E6 hr hk
      unfold errB
      rw [if_neg (by simp)]
      go_wp2_with fail
      refine (rright_c xx y r _).mono ?_
      rintro e w5 ⟨rfl, hb⟩
      have hG := HG.out.below (vbt (bel1 w4 _) hb)
      have HG := Lib.hid hG
      clear hb c0 c1 c2 i4
      have c0 := hG.b.cell 0
      have c1 := hG.b.cell 1
      have c2 := hG.c.cell 0
      have c3 := hG.c.cell 1
      have z0 := hG.b.frozen 0
      have z1 := hG.b.frozen 1
      have z2 := hG.c.frozen 0
      have z3 := hG.c.frozen 1
      clear hG
      go_wp2_with fail
      obtain ⟨w3, hw, c0, c1, c2, c3, hb⟩ := four_set (w := w) (p := .int .i64 0) (q := .int .i64 0) (s := .int .i64 0) (t := .int .i64 0) HG.out.b HG.out.c HG.out.bel (by omega) (by omega)
      rw [← hw]
      exact bodyPost_ret (v := .tuple #[vecV 0 0, vecV 0 0, .int .i64 60]) (by simp [results, Try.results25, go_sem, c0, c1, c2, c3]) rfl ⟨by rw [HK.out]; rfl, hb⟩
  · obtain ⟨e1, e2⟩ := errG_max a bx b2 L h
    have HH := Lib.hid h
    have e3 : ∀ v, onG (errG a bx b2 L) v = 0 := fun v => if_neg e2
    unfold goV
    rw [e3, e3, e3, e3, e1]
    clear e1 e2 e3 h hn hL
    generalize pWay 0 a bx L = p0 at *
    generalize pWay 1 a b2 L = p1 at *
    generalize pWho 0 a bx L = o0 at *
    generalize pWho 1 a b2 L = o1 at *
    generalize errP 0 a bx L = e0 at *
    generalize errP 1 a b2 L = f0 at *
    obtain ⟨m, hm⟩ : ∃ m, max e0 f0 = m := ⟨_, rfl⟩
    rw [hm]
    go_enter Try.func25, Try.ntmps25
    go_wp2_with fail
    refine (H1.out _ (HL.out.since (bel4 _ _ _ _ _))).mono ?_
    rintro e w1 ⟨rfl, hb⟩
    have hG := (G0.make w a.x a.y a.r bx b2).below hb
    have HG := Lib.hid hG
    have c0 := hG.a.cell 0
    have c1 := hG.a.cell 1
    have c2 := hG.a.cell 2
    have c3 := hG.d.cell 1
    clear hb hG
    go_wp2_with fail
    refine (H2.out _ (HL.out.since HG.out.bel)).mono ?_
    rintro e w2 ⟨rfl, hb⟩
    have hG := HG.out.below hb
    have HG := Lib.hid hG
    clear c0 c1 c2 c3 hb
    have c0 := hG.b.cell 0
    have c1 := hG.b.cell 1
    have c2 := hG.c.cell 0
    have c3 := hG.c.cell 1
    have z0 := hG.b.frozen 0
    have z1 := hG.b.frozen 1
    have z2 := hG.c.frozen 0
    have z3 := hG.c.frozen 1
    clear hG
    have hmm : (if e0 < f0 then f0 else e0) = m := by rw [← hm]; split <;> omega
    clear hm
    by_cases he : e0 = 0
    · have hf : ¬ f0 = 0 := fun k => HH.out ⟨he, k⟩
      subst he
      go_wp2_with fail
      obtain ⟨w3, hw, c0, c1, c2, c3, hb⟩ := four_set (w := w) (p := .int .i64 0) (q := .int .i64 0) (s := .int .i64 0) (t := .int .i64 0) HG.out.b HG.out.c HG.out.bel (by omega) (by omega)
      rw [← hw]
      exact bodyPost_ret (v := .tuple #[vecV 0 0, vecV 0 0, .int .i64 m]) (by simp [results, Try.results25, go_sem, c0, c1, c2, c3]) rfl ⟨rfl, hb⟩
    · go_wp2_with fail
      obtain ⟨w3, hw, c0, c1, c2, c3, hb⟩ := four_set (w := w) (p := .int .i64 0) (q := .int .i64 0) (s := .int .i64 0) (t := .int .i64 0) HG.out.b HG.out.c HG.out.bel (by omega) (by omega)
      rw [← hw]
      exact bodyPost_ret (v := .tuple #[vecV 0 0, vecV 0 0, .int .i64 m]) (by simp [results, Try.results25, go_sem, c0, c1, c2, c3]) rfl ⟨rfl, hb⟩
end Go.Proofs.Ytnffflcfncffpaa

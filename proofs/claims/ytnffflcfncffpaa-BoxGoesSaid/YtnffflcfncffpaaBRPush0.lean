/- The reference's Push along the axis 0. (By tools/genrpush.py.) -/
import Derived.Test.YtnffflcfncffpaaBRPushD
namespace Go.Proofs.Ytnffflcfncffpaa
open Go.RowKit

set_option maxRecDepth 100000 in
set_option maxHeartbeats 1000000 in
theorem rpush0_c (a : Bx) (d : Int) (A : Option Addr) (n c : Nat) (L : List Bx) (w : World) (hn : n ≤ 281474976710656) (hL : RBox w w.heap.size A n L) (hall : allB L = true) (har : a.right = true) (hd : inB d = true) :
    Calls Try.prog 24 #[boxV a.x a.y a.r, .int .i64 0, .int .i64 d, .slice A n c] w fun e w' => e = .returned (.tuple #[.int .i64 (wayF 0 a d L), .int .i64 (whoF 0 a d L), .int .i64 0]) ∧ Below w.heap.size w w' := by
  have s1 := rightB_spec.1 har
  have s2 := inB_spec.1 hd
  have H1 := Lib.hid (fun w => rright_c a.x a.y a.r w)
  have H2 := Lib.hid (fun w hL => rights_c A n c L w hn hL)
  have H3 := Lib.hid (fun w => rwithin_c d w)
  unfold Bx.right at har
  rw [har] at H1
  rw [hall] at H2
  rw [hd] at H3
  obtain ⟨m, hm⟩ : ∃ m, (if d < -d then -d else d) = m := ⟨_, rfl⟩
  have em : Hid (m = (d.natAbs : Int)) := Lib.hid (by rw [← hm]; split <;> omega)
  have e1 : wrap64 (-d) = -d := IntWalk.wrap64_in _ (by omega)
  have HI := Lib.hid (stF_in 0 a d L n)
  have HD := Lib.hid s2
  have HA := Lib.hid s1
  have HL := Lib.hid hL
  have HLEN := Lib.hid hL.1
  have HALL := Lib.hid hall
  have hn' : n < 9223372036854775808 := by omega
  have EW : Hid (∀ v : Int, (d < 0 → v = -(stF 0 a d L n).1) → (¬ d < 0 → v = (stF 0 a d L n).1) → wayF 0 a d L = v) := Lib.hid (by
    intro v h1 h2
    unfold wayF
    rw [hL.1]
    split
    · exact (h1 ‹_›).symm
    · exact (h2 ‹_›).symm)
  have EO : Hid (whoF 0 a d L = (stF 0 a d L n).2) := Lib.hid (by unfold whoF; rw [hL.1])
  generalize wayF 0 a d L = WW at *
  generalize whoF 0 a d L = OO at *
  clear s1 s2 har hall hd hn hL
  go_enter Try.func24, Try.ntmps24
  go_wp2_with fail
  refine (H1.out _).mono ?_
  rintro e w1 ⟨rfl, hb⟩
  have HK := Lib.hid (last_blk hb)
  have HB := Lib.hid (vbt (bel1 w _) hb)
  clear hb H1
  go_wp2_with fail
  refine (H2.out _ (HL.out.since HB.out)).mono ?_
  rintro e w2 ⟨rfl, hb⟩
  have HK := Lib.hid (HK.out.below hb HK.out.lt)
  have HB := Lib.hid (vbt HB.out hb)
  clear hb H2
  go_wp2_with fail
  refine (H3.out _).mono ?_
  rintro e w3 ⟨rfl, rfl⟩
  go_wp2_with fail
  clear hm e1
  go_loopg [14, 15, 16] n (fun gg s14 s15 s16 wr => ∃ k : Nat, k + gg = n ∧ s16 = .int .i64 (k : Int) ∧ s14 = .int .i64 (stF 0 a d L k).1 ∧ s15 = .int .i64 (stF 0 a d L k).2 ∧ Blk wr w.heap.size 25 (boxR a.x a.y a.r) ∧ Below w.heap.size w wr)
  case atStart => exact ⟨0, by omega, rfl, by rw [em.out]; rfl, rfl, HK.out, HB.out⟩
  case round =>
    obtain ⟨k, hk, rfl, rfl, rfl, hkb, hbl⟩ := hrel
    clear HK HB w2
    have HK := Lib.hid hkb
    have HB := Lib.hid hbl
    clear hkb hbl
    cases gk with
    | zero =>
      obtain rfl : k = n := by omega
      clear hk
      by_cases hd0 : d < 0
      · have HI2 := HI.out
        have e1 : wrap64 (-(stF 0 a d L k).1) = -(stF 0 a d L k).1 := IntWalk.wrap64_in _ (by have := HD.out; omega)
        have E := Lib.hid (EW.out _ (fun _ => rfl) (fun h => by omega))
        clear HI2
        go_wp2_with fail
        exact bodyPost_ret (v := .tuple #[.int .i64 (-(stF 0 a d L k).1), .int .i64 (stF 0 a d L k).2, .int .i64 0]) (by simp [results, Try.results24, go_sem, e1]) rfl ⟨by rw [E.out, EO.out], HB.out⟩
      · have d1 : decide (d < 0) = false := decide_eq_false hd0
        have E := Lib.hid (EW.out _ (fun h => by omega) (fun _ => rfl))
        clear hd0
        go_wp2_with fail
        exact bodyPost_ret (v := .tuple #[.int .i64 (stF 0 a d L k).1, .int .i64 (stF 0 a d L k).2, .int .i64 0]) (by simp [results, Try.results24, go_sem]) rfl ⟨by rw [E.out, EO.out], HB.out⟩
    | succ gk =>
      have hkn : k < n := by omega
      have hkI : (k : Int) < (n : Int) := by omega
      have hk0 : (0 : Int) ≤ (k : Int) := by omega
      obtain ⟨b, o, rfl, hlt, hc⟩ := HL.out.2.2 (by omega)
      have hc := hc k hkn
      have hr := allB_iff.1 HALL.out k (by rw [HL.out.1]; exact hkn)
      have hs := rightB_spec.1 hr
      have hst := @stF_take0 a d L k (by have := HA.out; omega) (by omega)
      have H3 := Lib.hid (fun ax hax w => rgap_c ax a.x a.y a.r (Bx.at L k).x (Bx.at L k).y (Bx.at L k).r w hax (by have := HA.out; omega) (by omega) (by have := HA.out; omega) (by have := HA.out; omega))
      have e2 : IntKind.i64.wrap ((Bx.at L k).x - a.x) = (Bx.at L k).x - a.x := IntWalk.i64_in _ (by have := HA.out; omega)
      have hsp : SP w b (o + k * 3) a.x a.y a.r (Bx.at L k).x (Bx.at L k).y (Bx.at L k).r wr := by
        have hcl := fun j : Nat => HB.out.cell (p := ⟨b, j, none⟩) hlt
        exact ⟨HK.out.cell 0, HK.out.cell 1, HK.out.cell 2, (hcl _).trans hc.1, (hcl _).trans hc.2.1, (hcl _).trans hc.2.2, HK.out, HB.out, hlt⟩
      have HSP := Lib.hid hsp
      rw [show gapF a.x (Bx.at L k).x a.r (Bx.at L k).r = gapI 0 a.x a.y a.r (Bx.at L k).x (Bx.at L k).y (Bx.at L k).r from rfl, show gapF a.y (Bx.at L k).y a.r (Bx.at L k).r = gapI 1 a.x a.y a.r (Bx.at L k).x (Bx.at L k).y (Bx.at L k).r from rfl] at hst
      have HST := Lib.hid hst
      clear hlt hc hr hs hst hsp HK HB
      generalize Bx.at L k = bb at *
      obtain ⟨u, v, s⟩ := bb
      dsimp only at *
      clear HI HA HD
      go_upto_region 13 with (fail)
      have HX0 := Lib.hid HSP.out.drew
      go_region_held3 (SP w b (o + k * 3) a.x a.y a.r u v s) (first | exact HX0.out | assumption) (first | (go_at_call 29; refine (H3.out _ (by decide) _).mono ?_; rintro e w6 ⟨rfl, hb⟩; have hS6 := SP.keep (by assumption) hb; clear hb))
      have HSP := Lib.hid hS6
      clear hS6 HX0
      go_upto_region 14 with (fail)
      have HX0 := Lib.hid HSP.out.drew
      go_region_held3 (SP w b (o + k * 3) a.x a.y a.r u v s) (first | exact HX0.out | assumption) (first | (go_at_call 40; refine (rpart0_c _ _ _).mono ?_; rintro e w6 ⟨rfl, hb⟩; have hS6 := SP.keep (by assumption) hb; clear hb))
      have HSP := Lib.hid hS6
      clear hS6 HX0 e2
      generalize u - a.x = t at *
      generalize gapI 0 a.x a.y a.r u v s = p at *
      generalize stF 0 a d L k = st at *
      obtain ⟨way, who⟩ := st
      dsimp only at *
      go_upto_region 15 with (fail)
      go_cut [19] from 71 to 84 (fun s19 wx => s19 = .bool (aheadR d t) ∧ SP w b (o + k * 3) a.x a.y a.r u v s wx)
      case first =>
        by_cases h1 : 0 < d
        · have d1 : decide (0 < d) = true := decide_eq_true h1
          have d2 : decide (d < 0) = false := decide_eq_false (by omega)
          clear h1
          by_cases h2 : 0 < t
          · have d3 : decide (0 < t) = true := decide_eq_true h2
            clear h2
            go_wp2_with fail
            go_meet
            exact ⟨by unfold aheadR; rw [d1, d2, d3]; rfl, HSP.out⟩
          · have d3 : decide (0 < t) = false := decide_eq_false h2
            clear h2
            go_wp2_with fail
            go_meet
            exact ⟨by unfold aheadR; rw [d1, d2, d3]; rfl, HSP.out⟩
        · have d1 : decide (0 < d) = false := decide_eq_false h1
          by_cases h2 : d < 0
          · have d2 : decide (d < 0) = true := decide_eq_true h2
            clear h1 h2
            go_wp2_with fail
            go_meet
            exact ⟨by unfold aheadR; rw [d1, d2]; rfl, HSP.out⟩
          · have d2 : decide (d < 0) = false := decide_eq_false h2
            clear h1 h2
            go_wp2_with fail
            go_meet
            exact ⟨by unfold aheadR; rw [d1, d2]; rfl, HSP.out⟩
      case rest =>
        obtain ⟨rfl, hsp⟩ := hcut
        clear HSP
        have HSP := Lib.hid hsp
        clear hsp
        go_upto_region 16 with (fail)
        unfold takeR at HST
        generalize aheadR d t = ah at *
        go_cut [105] from 85 to 104 (fun s105 wx => s105 = .bool (ah && (decide (0 ≤ p) && (decide (gapI 1 a.x a.y a.r u v s < 0) && decide (p < way)))) ∧ SP w b (o + k * 3) a.x a.y a.r u v s wx)
        case first =>
          cases ah
          · go_quiet (fail)
            go_wp2_with fail
            go_meet
            exact ⟨by simp, SP.keep HSP.out (below_draw (Below.refl _ _) _)⟩
          · by_cases h1 : 0 ≤ p
            · have d1 : decide (0 ≤ p) = true := decide_eq_true h1
              by_cases h2 : gapI 1 a.x a.y a.r u v s < 0
              · have d2 : decide (gapI 1 a.x a.y a.r u v s < 0) = true := decide_eq_true h2
                clear h1 h2
                have wq : IntKind.i64.wrap (1 - 0) = 1 := by decide
                have wq2 : IntKind.i64.wrap 1 = 1 := by decide
                have HX0 := Lib.hid HSP.out.drew
                go_region_held3 (SP w b (o + k * 3) a.x a.y a.r u v s) (first | exact HX0.out | assumption) (first | (go_at_call 29; refine (H3.out _ (by decide) _).mono ?_; rintro e w6 ⟨rfl, hb⟩; have hS6 := SP.keep (by assumption) hb; clear hb))
                go_wp2_with fail
                go_meet
                exact ⟨by rw [d1, d2]; simp, by assumption⟩
              · have d2 : decide (gapI 1 a.x a.y a.r u v s < 0) = false := decide_eq_false h2
                clear h1 h2
                have wq : IntKind.i64.wrap (1 - 0) = 1 := by decide
                have wq2 : IntKind.i64.wrap 1 = 1 := by decide
                refine wp_region_held_drew (S := SP w b (o + k * 3) a.x a.y a.r u v s) (by kernel_rfl) HSP.out.drew (fun hH0 => ?_)
                refine wpAnyH_take (i := 0) (oi := { dst := some 85, op := Op.move (Operand.tmp 19), type := 4, pos := "ref.go:93", after := #[], guard := none }) (v := ?v0) rfl (by kernel_rfl) (by kernel_rfl) (by kernel_rfl) (fun _ _ _ h => h) (Or.inl ⟨by rfl, ?h0⟩) hH0 ?r0
                case h0 => intro w' hSw; (try dsimp only at hSw); go_simp; (try with_reducible rfl)
                simp only [Act.put, List.setIfInBounds_toArray, List.set_cons_zero, List.set_cons_succ]
                refine wpAnyH_take (i := 1) (oi := { dst := some 86, op := Op.move (Operand.tmp 85), type := 4, pos := "ref.go:93", after := #[{ on := 0, ground := Ground.data }], guard := none }) (v := ?v1) rfl (by kernel_rfl) (by kernel_rfl) (by kernel_rfl) (fun _ _ _ h => h) (Or.inl ⟨by rfl, ?h1⟩) hH0 ?r1
                case h1 => intro w' hSw; (try dsimp only at hSw); go_simp; (try with_reducible rfl)
                simp only [Act.put, List.setIfInBounds_toArray, List.set_cons_zero, List.set_cons_succ]
                refine wpAnyH_take (i := 2) (oi := { dst := some 87, op := Op.move (Operand.tmp 17), type := 3, pos := "ref.go:93", after := #[{ on := 1, ground := Ground.guard }], guard := some (1, true) }) (v := ?v2) rfl (by kernel_rfl) (by kernel_rfl) (by kernel_rfl) (fun _ _ _ h => h) (Or.inl ⟨by rfl, ?h2⟩) hH0 ?r2
                case h2 => intro w' hSw; (try dsimp only at hSw); go_simp; (try with_reducible rfl)
                simp only [Act.put, List.setIfInBounds_toArray, List.set_cons_zero, List.set_cons_succ]
                refine wpAnyH_take (i := 3) (oi := { dst := some 88, op := Op.binOp BinOp.geq 3 (Operand.tmp 87) (Operand.const (Value.int IntKind.i64 0)) 3, type := 4, pos := "ref.go:93", after := #[{ on := 2, ground := Ground.data }, { on := 1, ground := Ground.guard }], guard := some (1, true) }) (v := ?v3) rfl (by kernel_rfl) (by kernel_rfl) (by kernel_rfl) (fun _ _ _ h => h) (Or.inl ⟨by rfl, ?h3⟩) hH0 ?r3
                case h3 => intro w' hSw; (try dsimp only at hSw); go_simp; (try with_reducible rfl)
                simp only [Act.put, List.setIfInBounds_toArray, List.set_cons_zero, List.set_cons_succ]
                refine wpAnyH_take (i := 4) (oi := { dst := some 89, op := Op.pick (Operand.tmp 86) (Operand.tmp 88) (Operand.const (Value.bool false)), type := 4, pos := "ref.go:93", after := #[{ on := 1, ground := Ground.data }, { on := 3, ground := Ground.data }], guard := none }) (v := ?v4) rfl (by kernel_rfl) (by kernel_rfl) (by kernel_rfl) (fun _ _ _ h => h) (Or.inl ⟨by rfl, ?h4⟩) hH0 ?r4
                case h4 => intro w' hSw; (try dsimp only at hSw); go_simp; (try with_reducible rfl)
                simp only [Act.put, List.setIfInBounds_toArray, List.set_cons_zero, List.set_cons_succ]
                refine wpAnyH_take (i := 5) (oi := { dst := some 90, op := Op.move (Operand.tmp 89), type := 4, pos := "ref.go:93", after := #[{ on := 4, ground := Ground.data }, { on := 1, ground := Ground.chain }], guard := none }) (v := ?v5) rfl (by kernel_rfl) (by kernel_rfl) (by kernel_rfl) (fun _ _ _ h => h) (Or.inl ⟨by rfl, ?h5⟩) hH0 ?r5
                case h5 => intro w' hSw; (try dsimp only at hSw); go_simp; (try with_reducible rfl)
                simp only [Act.put, List.setIfInBounds_toArray, List.set_cons_zero, List.set_cons_succ]
                refine wpAnyH_take (i := 6) (oi := { dst := some 91, op := Op.load 25 (Operand.tmp 4), type := 25, pos := "ref.go:93", after := #[{ on := 5, ground := Ground.guard }], guard := some (5, true) }) (v := ?v6) rfl (by kernel_rfl) (by kernel_rfl) (by kernel_rfl) (fun _ _ _ h => h) (Or.inl ⟨by rfl, ?h6⟩) hH0 ?r6
                case h6 => intro w' hSw; (try dsimp only at hSw); go_simp; (try with_reducible rfl)
                simp only [Act.put, List.setIfInBounds_toArray, List.set_cons_zero, List.set_cons_succ]
                refine wpAnyH_take (i := 7) (oi := { dst := some 92, op := Op.move (Operand.tmp 3), type := 36, pos := "ref.go:93", after := #[{ on := 5, ground := Ground.guard }], guard := some (5, true) }) (v := ?v7) rfl (by kernel_rfl) (by kernel_rfl) (by kernel_rfl) (fun _ _ _ h => h) (Or.inl ⟨by rfl, ?h7⟩) hH0 ?r7
                case h7 => intro w' hSw; (try dsimp only at hSw); go_simp; (try with_reducible rfl)
                simp only [Act.put, List.setIfInBounds_toArray, List.set_cons_zero, List.set_cons_succ]
                refine wpAnyH_take (i := 8) (oi := { dst := some 93, op := Op.move (Operand.tmp 16), type := 3, pos := "ref.go:93", after := #[{ on := 5, ground := Ground.guard }], guard := some (5, true) }) (v := ?v8) rfl (by kernel_rfl) (by kernel_rfl) (by kernel_rfl) (fun _ _ _ h => h) (Or.inl ⟨by rfl, ?h8⟩) hH0 ?r8
                case h8 => intro w' hSw; (try dsimp only at hSw); go_simp; (try with_reducible rfl)
                simp only [Act.put, List.setIfInBounds_toArray, List.set_cons_zero, List.set_cons_succ]
                refine wpAnyH_take (i := 9) (oi := { dst := some 94, op := Op.indexAddr 36 (Operand.tmp 92) (Operand.tmp 93), type := 0, pos := "ref.go:93", after := #[{ on := 7, ground := Ground.data }, { on := 8, ground := Ground.data }, { on := 5, ground := Ground.guard }], guard := some (5, true) }) (v := ?v9) rfl (by kernel_rfl) (by kernel_rfl) (by kernel_rfl) (fun _ _ _ h => h) (Or.inl ⟨by rfl, ?h9⟩) hH0 ?r9
                case h9 => intro w' hSw; (try dsimp only at hSw); go_simp; (try with_reducible rfl)
                simp only [Act.put, List.setIfInBounds_toArray, List.set_cons_zero, List.set_cons_succ]
                refine wpAnyH_take (i := 10) (oi := { dst := some 95, op := Op.load 25 (Operand.tmp 94), type := 25, pos := "ref.go:93", after := #[{ on := 9, ground := Ground.data }, { on := 5, ground := Ground.guard }], guard := some (5, true) }) (v := ?v10) rfl (by kernel_rfl) (by kernel_rfl) (by kernel_rfl) (fun _ _ _ h => h) (Or.inl ⟨by rfl, ?h10⟩) hH0 ?r10
                case h10 => intro w' hSw; (try dsimp only at hSw); go_simp; (try with_reducible rfl)
                simp only [Act.put, List.setIfInBounds_toArray, List.set_cons_zero, List.set_cons_succ]
                refine wpAnyH_take (i := 11) (oi := { dst := some 96, op := Op.move (Operand.tmp 1), type := 3, pos := "ref.go:93", after := #[{ on := 5, ground := Ground.guard }], guard := some (5, true) }) (v := ?v11) rfl (by kernel_rfl) (by kernel_rfl) (by kernel_rfl) (fun _ _ _ h => h) (Or.inl ⟨by rfl, ?h11⟩) hH0 ?r11
                case h11 => intro w' hSw; (try dsimp only at hSw); go_simp; (try with_reducible rfl)
                simp only [Act.put, List.setIfInBounds_toArray, List.set_cons_zero, List.set_cons_succ]
                refine wpAnyH_take (i := 12) (oi := { dst := some 97, op := Op.binOp BinOp.sub 3 (Operand.const (Value.int IntKind.i64 1)) (Operand.tmp 96) 3, type := 3, pos := "ref.go:93", after := #[{ on := 11, ground := Ground.data }, { on := 5, ground := Ground.guard }], guard := some (5, true) }) (v := ?v12) rfl (by kernel_rfl) (by kernel_rfl) (by kernel_rfl) (fun _ _ _ h => h) (Or.inl ⟨by rfl, ?h12⟩) hH0 ?r12
                case h12 => intro w' hSw; (try dsimp only at hSw); go_simp; (try with_reducible rfl)
                simp only [Act.put, List.setIfInBounds_toArray, List.set_cons_zero, List.set_cons_succ]
                refine wpAnyH_ready (rs := [13]) (by kernel_rfl) (by simp) ?_
                refine AllReadyH.cons (o := { dst := some 98, op := Op.call { callee := Callee.value (Operand.func 29), args := #[Operand.tmp 91, Operand.tmp 95, Operand.tmp 97], argTypes := #[25, 25, 3] }, type := 3, pos := "ref.go:93", after := #[{ on := 6, ground := Ground.data }, { on := 10, ground := Ground.data }, { on := 12, ground := Ground.data }, { on := 5, ground := Ground.chain }, { on := 5, ground := Ground.guard }], guard := some (5, true) }) rfl (fun K hK => ?_) AllReadyH.nil
                go_simp
                refine (H3.out _ (by decide) _).mono ?_
                rintro e w6 ⟨rfl, hb⟩
                have hH1 := SP.keep hH0 hb
                clear hb
                go_wp2_with fail
                refine hK.out _ _ hH1 (fun hH1 => ?_)
                clear hK K
                refine wpAnyH_take (i := 14) (oi := { dst := some 99, op := Op.binOp BinOp.lss 3 (Operand.tmp 98) (Operand.const (Value.int IntKind.i64 0)) 3, type := 4, pos := "ref.go:93", after := #[{ on := 13, ground := Ground.data }, { on := 5, ground := Ground.guard }], guard := some (5, true) }) (v := ?v14) rfl (by kernel_rfl) (by kernel_rfl) (by kernel_rfl) (fun _ _ _ h => h) (Or.inl ⟨by rfl, ?h14⟩) hH1 ?r14
                case h14 => intro w' hSw; (try dsimp only at hSw); go_simp; (try with_reducible rfl)
                simp only [Act.put, List.setIfInBounds_toArray, List.set_cons_zero, List.set_cons_succ]
                refine wpAnyH_take (i := 15) (oi := { dst := some 100, op := Op.pick (Operand.tmp 90) (Operand.tmp 99) (Operand.const (Value.bool false)), type := 4, pos := "ref.go:93", after := #[{ on := 5, ground := Ground.data }, { on := 14, ground := Ground.data }], guard := none }) (v := ?v15) rfl (by kernel_rfl) (by kernel_rfl) (by kernel_rfl) (fun _ _ _ h => h) (Or.inl ⟨by rfl, ?h15⟩) hH1 ?r15
                case h15 => intro w' hSw; (try dsimp only at hSw); go_simp; (try with_reducible rfl)
                simp only [Act.put, List.setIfInBounds_toArray, List.set_cons_zero, List.set_cons_succ]
                refine wpAnyH_take (i := 16) (oi := { dst := some 101, op := Op.move (Operand.tmp 100), type := 4, pos := "ref.go:93", after := #[{ on := 15, ground := Ground.data }, { on := 13, ground := Ground.chain }], guard := none }) (v := ?v16) rfl (by kernel_rfl) (by kernel_rfl) (by kernel_rfl) (fun _ _ _ h => h) (Or.inl ⟨by rfl, ?h16⟩) hH1 ?r16
                case h16 => intro w' hSw; (try dsimp only at hSw); go_simp; (try with_reducible rfl)
                simp only [Act.put, List.setIfInBounds_toArray, List.set_cons_zero, List.set_cons_succ]
                refine wpAnyH_take (i := 17) (oi := { dst := some 102, op := Op.move (Operand.tmp 17), type := 3, pos := "ref.go:93", after := #[{ on := 16, ground := Ground.guard }], guard := some (16, true) }) (v := undef) rfl (by kernel_rfl) (by kernel_rfl) (by kernel_rfl) (fun _ _ _ h => h) (Or.inr ⟨by rfl, rfl⟩) hH1 ?_
                simp only [Act.put, List.setIfInBounds_toArray, List.set_cons_zero, List.set_cons_succ]
                refine wpAnyH_take (i := 18) (oi := { dst := some 103, op := Op.move (Operand.tmp 14), type := 3, pos := "ref.go:93", after := #[{ on := 16, ground := Ground.guard }], guard := some (16, true) }) (v := undef) rfl (by kernel_rfl) (by kernel_rfl) (by kernel_rfl) (fun _ _ _ h => h) (Or.inr ⟨by rfl, rfl⟩) hH1 ?_
                simp only [Act.put, List.setIfInBounds_toArray, List.set_cons_zero, List.set_cons_succ]
                refine wpAnyH_take (i := 19) (oi := { dst := some 104, op := Op.binOp BinOp.lss 3 (Operand.tmp 102) (Operand.tmp 103) 3, type := 4, pos := "ref.go:93", after := #[{ on := 17, ground := Ground.data }, { on := 18, ground := Ground.data }, { on := 16, ground := Ground.guard }], guard := some (16, true) }) (v := undef) rfl (by kernel_rfl) (by kernel_rfl) (by kernel_rfl) (fun _ _ _ h => h) (Or.inr ⟨by rfl, rfl⟩) hH1 ?_
                simp only [Act.put, List.setIfInBounds_toArray, List.set_cons_zero, List.set_cons_succ]
                refine wpAnyH_take (i := 20) (oi := { dst := some 105, op := Op.pick (Operand.tmp 101) (Operand.tmp 104) (Operand.const (Value.bool false)), type := 4, pos := "ref.go:93", after := #[{ on := 16, ground := Ground.data }, { on := 19, ground := Ground.data }], guard := none }) (v := ?v20) rfl (by kernel_rfl) (by kernel_rfl) (by kernel_rfl) (fun _ _ _ h => h) (Or.inl ⟨by rfl, ?h20⟩) hH1 ?r20
                case h20 => intro w' hSw; (try dsimp only at hSw); go_simp; (try with_reducible rfl)
                simp only [Act.put, List.setIfInBounds_toArray, List.set_cons_zero, List.set_cons_succ]
                refine wpAnyH_done (by kernel_rfl) ?_ _
                go_wp2_with fail
                go_meet
                exact ⟨by rw [d1, d2]; simp, hH1⟩
            · have d1 : decide (0 ≤ p) = false := decide_eq_false h1
              clear h1
              go_quiet (fail)
              go_wp2_with fail
              go_meet
              exact ⟨by rw [d1]; simp, SP.keep HSP.out (below_draw (Below.refl _ _) _)⟩
        case rest =>
          obtain ⟨rfl, hsp⟩ := hcut
          clear HSP
          have HSP := Lib.hid hsp
          clear hsp
          generalize (ah && (decide (0 ≤ p) && (decide (gapI 1 a.x a.y a.r u v s < 0) && decide (p < way)))) = B at *
          cases B
          · have HX := HST
            rw [if_neg (by simp)] at HX
            clear HST
            go_wp2_with fail
            go_roundg gk
            case measure => omega
            case rel => exact ⟨k + 1, by omega, by push_cast; rfl, by rw [HX.out], by rw [HX.out], HSP.out.2.2.2.2.2.2.1, HSP.out.2.2.2.2.2.2.2.1⟩
          · have HX := HST
            rw [if_pos rfl] at HX
            clear HST
            go_wp2_with fail
            go_roundg gk
            case measure => omega
            case rel => exact ⟨k + 1, by omega, by push_cast; rfl, by rw [HX.out], by rw [HX.out], HSP.out.2.2.2.2.2.2.1, HSP.out.2.2.2.2.2.2.2.1⟩
end Go.Proofs.Ytnffflcfncffpaa

/- The reference's Over: long division, bit by bit. -/
import Derived.Test.YtebabgonffbdhaaDoorOverP
import Derived.StillTailTactics
import Derived.Deep.DeepCutAuto
namespace Go.Proofs.YtebabgonffbdhaaDoor
open Go.RowKit

/-- double, with digits under names. -/
theorem double_d (m : Bool) (d : D8) (more : Nat) (w : World) (h : d.ok) (hm : more ≤ 1) (hv : 2 * d.vl + more < 340282366920938463463374607431768211456) :
    Calls Tryd.prog 49 #[.agg (d.cel m), .int .i64 (more : Int)] w fun e w' => (∃ c : D8, e = .returned (.agg (c.cel m)) ∧ c.ok ∧ c.vl = 2 * d.vl + more) ∧ Below w.heap.size w w' :=
  (double_c m d.x0 d.x1 d.x2 d.x3 d.x4 d.x5 d.x6 d.x7 more w h hm hv).mono fun _ _ ⟨⟨c0, c1, c2, c3, c4, c5, c6, c7, he, hd, hv⟩, hb⟩ => ⟨⟨⟨c0, c1, c2, c3, c4, c5, c6, c7⟩, he, hd, hv⟩, hb⟩
theorem less_d (m n : Bool) (d f : D8) (w : World) (h : d.ok) (k : f.ok) (hv : f.vl ≤ d.vl) :
    Calls Tryd.prog 50 #[.agg (d.cel m), .agg (f.cel n)] w fun e w' => (∃ c : D8, e = .returned (.agg (c.cel m)) ∧ c.ok ∧ c.vl = d.vl - f.vl) ∧ Below w.heap.size w w' :=
  (less_c m n d.x0 d.x1 d.x2 d.x3 d.x4 d.x5 d.x6 d.x7 f.x0 f.x1 f.x2 f.x3 f.x4 f.x5 f.x6 f.x7 w h k hv).mono fun _ _ ⟨⟨c0, c1, c2, c3, c4, c5, c6, c7, he, hd, hv⟩, hb⟩ => ⟨⟨⟨c0, c1, c2, c3, c4, c5, c6, c7⟩, he, hd, hv⟩, hb⟩
theorem compare_d (m n : Bool) (d f : D8) (w : World) (h : d.ok) (k : f.ok) :
    Calls Tryd.prog 40 #[.agg (d.cel m), .agg (f.cel n)] w fun e w' => e = .returned (.int .i64 (cmp3 d.vl f.vl)) ∧ Below w.heap.size w w' :=
  compare_c m n d.x0 d.x1 d.x2 d.x3 d.x4 d.x5 d.x6 d.x7 f.x0 f.x1 f.x2 f.x3 f.x4 f.x5 f.x6 f.x7 w h k

theorem load_d {w : World} {g : Nat} {m : Bool} {d : D8} (h : Blk w g 47 (d.cel m)) (k : Nat) : (loadVar 47 ⟨g, 0, none⟩).run Tryd.prog (w.drewN k) = .ok (.agg (d.cel m)) (w.drewN k) :=
  run_loadVar_row (P := Tryd.prog) (w.drewN k) g 47 47 (d.cel m) (0, 0) _ h Tryd.underlying47 rfl info47

theorem size_al (w : World) (o : Obj) : (w.alloc o).heap.size = w.heap.size + 1 := by simp
theorem ov_start (w : World) (m n mn : Bool) (a b : D8) : OvM w m n mn a b ⟨0, 0, 0, 0, 0, 0, 0, 0⟩ ⟨0, 0, 0, 0, 0, 0, 0, 0⟩
      (((((w.alloc (.cells (a.cel m) 47)).alloc (.cells (b.cel n) 47)).alloc (.cells (cel false 0 0 0 0 0 0 0 0) 47)).alloc (.cells (cel mn 0 0 0 0 0 0 0 0) 47)).alloc (.cells (cel false 0 0 0 0 0 0 0 0) 47)) := by
  have b1 := Blk.new (w.alloc (.cells (a.cel m) 47)) 47 (b.cel n)
  have b2 := Blk.new ((w.alloc (.cells (a.cel m) 47)).alloc (.cells (b.cel n) 47)) 47 (cel false 0 0 0 0 0 0 0 0)
  have b3 := Blk.new (((w.alloc (.cells (a.cel m) 47)).alloc (.cells (b.cel n) 47)).alloc (.cells (cel false 0 0 0 0 0 0 0 0) 47)) 47 (cel mn 0 0 0 0 0 0 0 0)
  have b4 := Blk.new ((((w.alloc (.cells (a.cel m) 47)).alloc (.cells (b.cel n) 47)).alloc (.cells (cel false 0 0 0 0 0 0 0 0) 47)).alloc (.cells (cel mn 0 0 0 0 0 0 0 0) 47)) 47 (cel false 0 0 0 0 0 0 0 0)
  rw [size_al] at b1 b2 b3 b4
  rw [size_al] at b2 b3 b4
  rw [size_al] at b3 b4
  rw [size_al] at b4
  exact ⟨((((Blk.new w 47 _).alloc _).alloc _).alloc _).alloc _, ((b1.alloc _).alloc _).alloc _, (b2.alloc _).alloc _, b3.alloc _, b4, (below4 w _ _ _ _).alloc (by simp; omega) _⟩

theorem i64_and1 (n : Int) : bits .and .i64 n 1 = n % 2 := by
  have h1 : (BitVec.ofInt 64 1).toNat = 2 ^ 1 - 1 := by decide
  have key : (BitVec.ofInt 64 n &&& BitVec.ofInt 64 1).toNat = (n % ((2 ^ 64 : Nat) : Int)).toNat % 2 ^ 1 := by
    rw [BitVec.toNat_and, BitVec.toNat_ofInt, h1, Nat.and_two_pow_sub_one_eq_mod]
  show IntKind.i64.wrap ((BitVec.ofInt 64 n &&& BitVec.ofInt 64 1).toNat : Nat) = n % 2
  rw [key, IntKind.wrap_i64]
  omega
theorem ov_bit (x t : Nat) : bits BinOp.and IntKind.i64 ((x : Int) / 2 ^ t) 1 = ((x / 2 ^ t % 2 : Nat) : Int) := by
  rw [i64_and1, show (x : Int) / 2 ^ t = ((x / 2 ^ t : Nat) : Int) by push_cast; rfl]
  generalize x / 2 ^ t = y
  omega

set_option maxRecDepth 100000 in
set_option maxHeartbeats 4000000 in
theorem over_c (m n : Bool) (a b : D8) (w : World) (ha : a.ok) (hb : b.ok) (h0 : 0 < b.vl) (h1 : b.vl < 170141183460469231731687303715884105728) :
    Calls Tryd.prog 37 #[.agg (a.cel m), .agg (b.cel n)] w fun e w' => (∃ c : D8, e = .returned (.agg (c.cel (!(m == n)))) ∧ c.ok ∧ c.vl = a.vl / b.vl) ∧ Below w.heap.size w w' := by
  have HA := Lib.hid ha
  have HBo := Lib.hid hb
  have H0 := Lib.hid h0
  have H1 := Lib.hid h1
  clear ha hb h0 h1
  generalize hmn : (!(m == n)) = mn
  have hmn2 : (!(m == n)) = mn := hmn
  clear hmn
  go_enter Tryd.func37, Tryd.ntmps37
  unfold D8.cel at *
  go_wp2_with fail
  have hst := ov_start w m n mn a b
  unfold D8.cel at hst
  generalize (((((w.alloc (.cells _ 47)).alloc (.cells _ 47)).alloc (.cells _ 47)).alloc (.cells _ 47)).alloc (.cells _ 47)) = w1 at hst ⊢
  have HST := Lib.hid hst
  have HOV := Lib.hid (OvN.start (vl8_lt HA.out) H0.out)
  clear hst
  go_loopg [7] 128 (fun gg s7 wr => ∃ (z : Int) (o s : D8), s7 = .int .i64 z ∧ z = (gg : Int) - 1 ∧ gg ≤ 128 ∧ o.ok ∧ s.ok ∧ OvM w m n mn a b o s wr ∧ OvN a.vl b.vl gg o.vl s.vl)
  case atStart => exact ⟨127, _, _, rfl, rfl, Nat.le_refl _, by simp [D8.ok, Dig8], by simp [D8.ok, Dig8], HST.out, HOV.out⟩
  case round =>
    obtain ⟨z, o, s, rfl, hz, hg, oko, oks, S, V⟩ := hrel
    have HS := Lib.hid S
    have HV := Lib.hid V
    have HO := Lib.hid oko
    have HSo := Lib.hid oks
    clear S HST HOV V oko oks
    cases gk with
    | zero =>
      obtain rfl : z = -1 := by omega
      clear hz hg
      go_upto_region 13 with (fail)
      refine wp_region_lit ?_
      refine wpList_load_row rfl 47 (.tmp 5) rfl (w.heap.size + 1 + 1 + 1) rfl 47 (o.cel mn) (0, 0) _ HS.out.bo Tryd.underlying47 rfl info47 ?_
      refine wpList_store_row rfl 47 (.tmp 4) (.tmp 42) rfl (w.heap.size + 1 + 1) (o.cel mn) rfl rfl 47 (cel false 0 0 0 0 0 0 0 0) HS.out.br info47 rfl (D8.one _ _) ?_
      go_wp2_with fail
      refine bodyPost_ret (results_cell_row rfl _ _ (w.heap.size + 1 + 1) 47 (o.cel mn) (0, 0) _ rfl (setRow_heap _ _ _ _ _ _ HS.out.br) Tryd.underlying47 rfl info47) rfl ?_
      exact ⟨⟨o, rfl, HO.out, HV.out.done⟩, below_setRow HS.out.bel (by omega) _⟩
    | succ k =>
      obtain rfl : z = (k : Int) := by omega
      have hk : k < 128 := by omega
      clear hz hg
      obtain ⟨q, hq⟩ : ∃ q, q = k / 16 := ⟨_, rfl⟩
      obtain ⟨t, ht⟩ : ∃ t, t = k % 16 := ⟨_, rfl⟩
      have hq8 : q < 8 := by omega
      have ht16 : t < 16 := by omega
      have hqt : 16 * q + t = k := by omega
      have e1 : (k : Int) / 16 = (q : Int) := by omega
      have e2 : (k : Int) % 16 = (t : Int) := by omega
      have hbit := a.bit HA.out q t hq8 ht16
      rw [hqt] at hbit
      have hce := HS.out.ba.cell
      have c0 := D8.cell HS.out.ba q hq8
      have e3 := ov_bit (a.at_ q) t
      rw [hbit] at e3
      have hbl : a.vl / 2 ^ k % 2 ≤ 1 := by have := Nat.mod_lt (a.vl / 2 ^ k) (show 0 < 2 by omega); omega
      generalize hB : a.vl / 2 ^ k % 2 = bit at *
      generalize a.at_ q = x at *
      have hx : (0 : Int) ≤ (x : Int) := by omega
      clear hq ht hqt hbit hce
      go_upto_region 6 with (fail)
      have l0 : wr.cell? ⟨w.heap.size + 1 + 1 + 1 + 1, 0, none⟩ = some (.bool false) := HS.out.bs.cell 0
      have l1 : wr.cell? ⟨w.heap.size + 1 + 1 + 1 + 1, 1, none⟩ = some (.int .i64 (s.x0 : Int)) := HS.out.bs.cell 1
      have l2 : wr.cell? ⟨w.heap.size + 1 + 1 + 1 + 1, 2, none⟩ = some (.int .i64 (s.x1 : Int)) := HS.out.bs.cell 2
      have l3 : wr.cell? ⟨w.heap.size + 1 + 1 + 1 + 1, 3, none⟩ = some (.int .i64 (s.x2 : Int)) := HS.out.bs.cell 3
      have l4 : wr.cell? ⟨w.heap.size + 1 + 1 + 1 + 1, 4, none⟩ = some (.int .i64 (s.x3 : Int)) := HS.out.bs.cell 4
      have l5 : wr.cell? ⟨w.heap.size + 1 + 1 + 1 + 1, 5, none⟩ = some (.int .i64 (s.x4 : Int)) := HS.out.bs.cell 5
      have l6 : wr.cell? ⟨w.heap.size + 1 + 1 + 1 + 1, 6, none⟩ = some (.int .i64 (s.x5 : Int)) := HS.out.bs.cell 6
      have l7 : wr.cell? ⟨w.heap.size + 1 + 1 + 1 + 1, 7, none⟩ = some (.int .i64 (s.x6 : Int)) := HS.out.bs.cell 7
      have l8 : wr.cell? ⟨w.heap.size + 1 + 1 + 1 + 1, 8, none⟩ = some (.int .i64 (s.x7 : Int)) := HS.out.bs.cell 8
      have g1 : IntKind.i64.wrap (q : Int) = (q : Int) := by rw [IntKind.wrap_i64]; omega
      have g2 : IntKind.i64.wrap (t : Int) = (t : Int) := by rw [IntKind.wrap_i64]; omega
      have g3 : (k : Int).tmod 16 = (t : Int) := by rw [Int.tmod_eq_emod_of_nonneg (by omega)]; exact e2
      have g4 : (q : Int) < 8 := by omega
      have g5 : min t 64 = t := by omega
      go_still_tail 10, (by kernel_rfl)
      change wpList _ _ _ _ _ wr.drew
      have HS2 := Lib.hid HS.out.drew
      generalize wr.drew = w2 at HS2 ⊢
      have HBIT := Lib.hid hbl
      have HVV := Lib.hid hB
      clear g1 g2 g3 g4 g5 l0 l1 l2 l3 l4 l5 l6 l7 l8 e1 e2 e3 c0 hbl hB hq8 ht16 hx HS
      have hlt := HV.out.lt
      have hfit : 2 * s.vl + bit < 340282366920938463463374607431768211456 := by have := H1.out; have := HBIT.out; omega
      have HF := Lib.hid hfit
      clear hlt hfit
      go_wp2_with fail
      rename_i hK
      refine (double_d false s bit w2 HSo.out HBIT.out HF.out).mono ?_
      rintro e w3 ⟨⟨s2, rfl, ok2, v2⟩, hb3⟩
      have HS3 := Lib.hid (HS2.out.below hb3)
      have OK2 := Lib.hid ok2
      have V2 := Lib.hid v2
      clear HS2 hb3 ok2 v2
      refine hK _ _ ?_
      refine wpList_store_row rfl 47 (.tmp 6) (.tmp 30) rfl (w.heap.size + 1 + 1 + 1 + 1) (s2.cel false) rfl rfl 47 (s.cel false) HS3.out.bs info47 rfl (D8.one _ _) ?_
      have HS4 := Lib.hid (HS3.out.setS s2)
      generalize w3.setRow (w.heap.size + 1 + 1 + 1 + 1) (s2.cel false) = w4 at HS4 ⊢
      clear HS3 hK
      go_upto_region 8 with (fail)
      refine wp_region_lit ?_
      refine wpList_load_row rfl 47 (.tmp 6) rfl (w.heap.size + 1 + 1 + 1 + 1) rfl 47 (s2.cel false) (0, 0) _ HS4.out.bs Tryd.underlying47 rfl info47 ?_
      refine wpList_load_row rfl 47 (.tmp 3) rfl (w.heap.size + 1) rfl 47 (b.cel n) (0, 0) _ HS4.out.bb Tryd.underlying47 rfl info47 ?_
      go_wp2_with fail
      refine (compare_d false n s2 b w4 OK2.out HBo.out).mono ?_
      rintro e w5 ⟨rfl, hb5⟩
      have HS5 := Lib.hid (HS4.out.below hb5)
      clear HS4 hb5
      have hv := HV.out
      have hgo : b.vl ≤ 2 * s.vl + bit ∨ 2 * s.vl + bit < b.vl := by omega
      rcases hgo with hge | hlt
      · have hn := hv.yes (by rw [HVV.out]; exact hge)
        rw [HVV.out] at hn
        have HN := Lib.hid hn
        have hf := hn.fits H0.out
        have hfo : 2 * o.vl + 1 < 340282366920938463463374607431768211456 := by have := vl8_lt HA.out; change a.vl < _ at this; omega
        have HFO := Lib.hid hfo
        have hd : decide (0 ≤ cmp3 s2.vl b.vl) = true := decide_eq_true (by rw [V2.out]; unfold cmp3; rw [if_neg (by omega)]; split <;> omega)
        have HGE := Lib.hid hge
        generalize cmp3 s2.vl b.vl = cc at hd ⊢
        clear hv hn hf hfo hge
        go_upto_region 10 with (fail)
        refine wp_region_lit ?_
        refine wpList_load_row rfl 47 (.tmp 6) rfl (w.heap.size + 1 + 1 + 1 + 1) rfl 47 (s2.cel false) (0, 0) _ HS5.out.bs Tryd.underlying47 rfl info47 ?_
        refine wpList_load_row rfl 47 (.tmp 3) rfl (w.heap.size + 1) rfl 47 (b.cel n) (0, 0) _ HS5.out.bb Tryd.underlying47 rfl info47 ?_
        go_wp2_with fail
        rename_i hK
        refine (less_d false n s2 b w5 OK2.out HBo.out (by rw [V2.out]; exact HGE.out)).mono ?_
        rintro e w6 ⟨⟨s5, rfl, ok5, v5⟩, hb6⟩
        have HS6 := Lib.hid (HS5.out.below hb6)
        have OK5 := Lib.hid ok5
        have V5 := Lib.hid v5
        clear HS5 hb6 ok5 v5
        refine hK _ _ ?_
        refine wpList_store_row rfl 47 (.tmp 6) (.tmp 38) rfl (w.heap.size + 1 + 1 + 1 + 1) (s5.cel false) rfl rfl 47 (s2.cel false) HS6.out.bs info47 rfl (D8.one _ _) ?_
        have HS7 := Lib.hid (HS6.out.setS s5)
        generalize w6.setRow (w.heap.size + 1 + 1 + 1 + 1) (s5.cel false) = w7 at HS7 ⊢
        clear HS6 hK
        go_upto_region 12 with (fail)
        refine wp_region_lit ?_
        refine wpList_load_row rfl 47 (.tmp 5) rfl (w.heap.size + 1 + 1 + 1) rfl 47 (o.cel mn) (0, 0) _ HS7.out.bo Tryd.underlying47 rfl info47 ?_
        go_wp2_with fail
        rename_i hK
        refine (double_d mn o 1 w7 HO.out (by omega) HFO.out).mono ?_
        rintro e w8 ⟨⟨o2, rfl, ok3, v3⟩, hb8⟩
        have HS8 := Lib.hid (HS7.out.below hb8)
        have OK3 := Lib.hid ok3
        have V3 := Lib.hid v3
        clear HS7 hb8 ok3 v3
        refine hK _ _ ?_
        refine wpList_store_row rfl 47 (.tmp 5) (.tmp 41) rfl (w.heap.size + 1 + 1 + 1) (o2.cel mn) rfl rfl 47 (o.cel mn) HS8.out.bo info47 rfl (D8.one _ _) ?_
        have HS9 := Lib.hid (HS8.out.setO o2)
        generalize w8.setRow (w.heap.size + 1 + 1 + 1) (o2.cel mn) = w9 at HS9 ⊢
        clear HS8 hK
        go_wp2_with fail
        go_roundg k
        case measure => omega
        case rel => exact ⟨(k : Int) - 1, o2, s5, rfl, rfl, by omega, OK3.out, OK5.out, HS9.out, by rw [V3.out, V5.out, V2.out]; exact HN.out⟩
      · have hn := hv.no (by rw [HVV.out]; exact hlt)
        rw [HVV.out] at hn
        have HN := Lib.hid hn
        have hf := hn.fits H0.out
        have hfo : 2 * o.vl + 0 < 340282366920938463463374607431768211456 := by have := vl8_lt HA.out; change a.vl < _ at this; omega
        have HFO := Lib.hid hfo
        have hd : decide (0 ≤ cmp3 s2.vl b.vl) = false := decide_eq_false (by rw [V2.out]; unfold cmp3; rw [if_pos hlt]; omega)
        generalize cmp3 s2.vl b.vl = cc at hd ⊢
        clear hv hn hf hfo hlt
        go_upto_region 12 with (fail)
        refine wp_region_lit ?_
        refine wpList_load_row rfl 47 (.tmp 5) rfl (w.heap.size + 1 + 1 + 1) rfl 47 (o.cel mn) (0, 0) _ HS5.out.bo Tryd.underlying47 rfl info47 ?_
        go_wp2_with fail
        rename_i hK
        refine (double_d mn o 0 w5 HO.out (by omega) HFO.out).mono ?_
        rintro e w8 ⟨⟨o2, rfl, ok3, v3⟩, hb8⟩
        have HS8 := Lib.hid (HS5.out.below hb8)
        have OK3 := Lib.hid ok3
        have V3 := Lib.hid v3
        clear HS5 hb8 ok3 v3
        refine hK _ _ ?_
        refine wpList_store_row rfl 47 (.tmp 5) (.tmp 41) rfl (w.heap.size + 1 + 1 + 1) (o2.cel mn) rfl rfl 47 (o.cel mn) HS8.out.bo info47 rfl (D8.one _ _) ?_
        have HS9 := Lib.hid (HS8.out.setO o2)
        generalize w8.setRow (w.heap.size + 1 + 1 + 1) (o2.cel mn) = w9 at HS9 ⊢
        clear HS8 hK
        go_wp2_with fail
        go_roundg k
        case measure => omega
        case rel => exact ⟨(k : Int) - 1, o2, s2, rfl, rfl, by omega, OK3.out, OK2.out, HS9.out, by rw [V3.out, V2.out]; exact HN.out⟩
end Go.Proofs.YtebabgonffbdhaaDoor

/- The document's own Encode. -/
import Derived.Test.YtebdjahcahgafaaDoorIPage
import Derived.Test.YtebdjahcahgafaaDoorRefM
namespace Go.Proofs.YtebdjahcahgafaaDoor
open Go.RowKit

theorem elem52 : Tryd.prog.elem 52 = 3 := by kernel_rfl
theorem size_int (w : World) : (sizeOf 3).run Tryd.prog w = .ok 1 w := by kernel_rfl
/-- 'l[k:]' of numbers. -/
theorem Shows.from_ {w : World} {A : Option Addr} {c : Nat} {l : List Int} (h : Shows w (.slice A l.length c) 1 l.length (intsV l)) (k : Nat) (hk : k ≤ l.length) :
    ∃ B d, (∀ w', (Instr.sliceAt 52 (.slice A l.length c) (some (.int .i64 (k : Int))) none none).run Tryd.prog w' = .ok (.slice B (l.length - k) d) w') ∧ Shows w (.slice B (l.length - k) d) 1 (l.drop k).length (intsV (l.drop k)) := by
  obtain ⟨A', c', e, hnc⟩ := h.slice
  injection e with e1 _ e2
  subst e1 e2
  refine ⟨if c = k then A else A.map (·.add k), c - k, fun w' => ?_, ?_⟩
  · rw [run_sliceAt_slice w' 52 _ _ _ _ (by rw [elem52]; exact Tryd.underlying52), run_slice_l w' 52 A l.length c (by rw [elem52]; exact Tryd.underlying52) .i64 (k : Int) (by omega) (by omega), elem52, size_int]
    simp [Result.andThen, sliced]
  · refine ⟨by rw [intsV_len]; omega, _, _, by rw [List.length_drop], by rw [List.length_drop]; omega, fun hn => ?_⟩
    rw [List.length_drop] at hn
    obtain ⟨b, o, c2, e3, _, hlt, hj⟩ := h.spot (by omega)
    injection e3 with e4 _ _
    subst e4
    refine ⟨b, o + k, ?_, hlt, fun j u hu => ?_⟩
    · rw [if_neg (by omega)]
      show some _ = some _
      congr 1
      unfold Addr.add
      split
      · simp_all
      · rfl
    · rw [Nat.add_assoc]
      refine hj (k + j) u ?_
      unfold intsV at hu ⊢
      rw [List.map_drop, List.getElem?_drop] at hu
      exact hu

theorem PageSt.alloc {w0 : World} {g m : Nat} {bs : List Nat} {w : World} (h : PageSt w0 g m bs w) (o : Obj) : PageSt w0 g m bs (w.alloc o) := by
  obtain ⟨v, a, b⟩ := h.ex
  exact ⟨⟨v, a.alloc o, b.below ((Below.refl _ _).alloc (Nat.le_refl _) o)⟩, h.new, h.below.alloc h.below.size o, h.len⟩

/-- Encode's answer. -/
def EncR (w : World) (x : ImgR) (e : Ending) (w' : World) : Prop :=
  Below w.heap.size w w' ∧
  if imgK x = true then
    (if 1048576 < (frame (imgB x)).length then e = .returned (.tuple #[.slice none 0 0, .int .i64 2])
     else ∃ v, e = .returned (.tuple #[v, .int .i64 0]) ∧ OwnB w' w.heap.size v (frame (imgB x)))
  else e = .returned (.tuple #[.slice none 0 0, .int .i64 150])

set_option maxHeartbeats 8000000 in
set_option maxRecDepth 100000 in
theorem rencode_c (gv fv : Value) (x : ImgR) (w : World) (h : ImgShows w gv fv x) (hs : x.small) (hw : x.wide) : Calls Tryd.prog 13 #[imgV gv fv] w (EncR w x) := by
  have HI := Lib.hid h
  obtain ⟨A1, c1, rfl, _⟩ := h.globs.slice
  obtain ⟨_, ts, _, hf0, _⟩ := h
  obtain ⟨A2, cF, rfl, _⟩ := hf0.slice
  clear hf0
  have ng := hs.ng
  have nf := hs.nf
  have HSm := Lib.hid hs
  have HW := Lib.hid hw
  clear hs hw
  have HB0 := Lib.hid ((Below.refl w.heap.size w).alloc (Nat.le_refl _) (.cells #[.slice A1 x.globs.length c1, .slice A2 x.fns.length cF] 25))
  have HK0 := Lib.hid (Blk.new w 25 #[.slice A1 x.globs.length c1, .slice A2 x.fns.length cF])
  go_enter Tryd.func13, Tryd.ntmps13
  go_wp2_with fail
  generalize w.alloc (.cells #[.slice A1 x.globs.length c1, .slice A2 x.fns.length cF] 25) = w0 at *
  refine (rok_c _ _ x w0 (HI.out.below HB0.out) HSm.out).mono ?_
  rintro e w1 ⟨rfl, hb⟩
  have HB := Lib.hid (HB0.out.trans (hb.mono HB0.out.size))
  have HKI := Lib.hid (HK0.out.below hb HK0.out.lt)
  clear hb HB0 HK0 w0
  generalize hik : imgK x = ok
  have HOK := Lib.hid hik
  clear hik
  cases ok with
  | false =>
    go_wp2_with fail
    go_ret2
    refine ⟨HB.out, ?_⟩
    rw [if_neg (by rw [HOK.out]; decide)]
    rfl
  | true =>
  obtain ⟨g64, f64, HG', HF'⟩ := imgK_iff.1 HOK.out
  have HGK := Lib.hid HG'
  have HFK := Lib.hid HF'
  clear HG' HF' ng nf
  have hnew : OwnB (w1.alloc (.cells (U8s [84, 73, 76, 84]).toArray 5)) w.heap.size (.slice (some ⟨w1.heap.size, 0, none⟩) 4 4) [84, 73, 76, 84] := OwnB.lower (own_new w1 [84, 73, 76, 84] (by simp)) HB.out.size
  go_upto_region 5 with (fail)
  have S0 : Hid (PageSt w (w1.heap.size + 1) 4 [84, 73, 76, 84] ((w1.alloc (.cells #[.int .u8 84, .int .u8 73, .int .u8 76, .int .u8 84] 5)).alloc (.cells #[.slice (some ⟨w1.heap.size, 0, none⟩) 4 4] 64))) := by
    refine ⟨⟨_, ?_, OwnB.below hnew ((Below.refl _ _).alloc (Nat.le_refl _) _)⟩, by have := HB.out.size; omega, (HB.out.alloc HB.out.size _).alloc (by have := HB.out.size; simp; omega) _, Nat.le_refl _⟩
    have := Blk.new (w1.alloc (.cells #[.int .u8 84, .int .u8 73, .int .u8 76, .int .u8 84] 5)) 64 #[.slice (some ⟨w1.heap.size, 0, none⟩) 4 4]
    simpa using this
  have HKI := Lib.hid ((HKI.out.alloc (.cells #[.int .u8 84, .int .u8 73, .int .u8 76, .int .u8 84] 5)).alloc (.cells #[.slice (some ⟨w1.heap.size, 0, none⟩) 4 4] 64))
  generalize ((w1.alloc (.cells #[.int .u8 84, .int .u8 73, .int .u8 76, .int .u8 84] 5)).alloc (.cells #[.slice (some ⟨w1.heap.size, 0, none⟩) 4 4] 64)) = w2 at *
  generalize w1.heap.size + 1 = g at *
  clear HB hnew
  have k0 := HKI.out.cell 0
  go_wp2_with fail
  refine (rpnat_c w g 4 _ (x.globs.length : Int) w2 S0.out (by omega) ⟨by omega, by omega⟩).mono ?_
  rintro e w3 ⟨rfl, s3, p3⟩
  have e1 : natB (x.globs.length : Int) = vn x.globs.length := by unfold natB; rw [Int.toNat_natCast]
  rw [e1] at s3
  have HS := Lib.hid (s3.mono (show 4 + 10 ≤ 14 by omega))
  have HKI := Lib.hid (p3 _ _ _ (by decide) (by decide) HKI.out)
  clear s3 p3 e1 S0 k0
  have k0 := HKI.out.cell 0
  go_wp2_with fail
  go_loopg [6] x.globs.length (fun gg s6 wr => ∃ k : Nat, k + gg = x.globs.length ∧ s6 = .int .i64 (k : Int) ∧ Hid (PageSt w g (14 + 30 * k) ([84, 73, 76, 84] ++ vn x.globs.length ++ (x.globs.take k).flatMap globB) wr) ∧ Hid (Blk wr w.heap.size 25 #[.slice A1 x.globs.length c1, .slice A2 x.fns.length cF]))
  case atStart => exact ⟨0, by omega, rfl, by show PageSt _ _ _ _ _; simpa using HS.out, HKI⟩
  case round =>
    clear k0 HS HKI
    obtain ⟨k, hk, rfl, HS, HKI⟩ := hrel
    have k0 := HKI.out.cell 0
    cases gk with
    | succ gk =>
      have hkn : k < x.globs.length := by omega
      obtain ⟨b, o, c', e0, _, hlt, q0, q1, q2⟩ := HI.out.globs.glob hkn
      injection e0 with e1 _ e2
      subst e1 e2
      have HLT := Lib.hid hlt
      have HQ := Lib.hid (And.intro q0 (And.intro q1 q2))
      have c0 := (HS.out.below.cell (p := ⟨b, o + k * 3, none⟩) hlt).trans q0
      have hgk := HGK.out _ (List.getElem_mem hkn)
      have hgw := HW.out.globs _ (List.getElem_mem hkn)
      simp only [globK, Bool.and_eq_true, Bool.not_eq_true', decide_eq_false_iff_not] at hgk
      have HN1 := Lib.hid (typeK_nat hgk.1)
      have HN2 : Hid (kNat x.globs[k].size) := ⟨by omega, by omega⟩
      have HN3 := Lib.hid hgw.2.2
      have HG : Hid ((x.globs.take (k + 1)).flatMap globB = (x.globs.take k).flatMap globB ++ globB x.globs[k]) := listB_snoc globB (List.getElem?_eq_getElem hkn)
      generalize x.globs[k] = gr at *
      clear hgk hgw q0 q1 q2 hlt
      go_wp2_with fail
      refine (rpnat_c w g (14 + 30 * k) _ gr.ty wr HS.out (by omega) HN1.out).mono ?_
      rintro e w4 ⟨rfl, s4, p4⟩
      have HS4 := Lib.hid s4
      have HKI4 := Lib.hid (p4 _ _ _ (by decide) (by decide) HKI.out)
      clear s4 p4 HS HKI k0 c0
      have k0 := HKI4.out.cell 0
      have c1 := (HS4.out.below.cell (p := ⟨b, o + k * 3 + 1, none⟩) HLT.out).trans HQ.out.2.1
      go_wp2_with fail
      refine (rpnat_c w g (14 + 30 * k + 10) _ gr.size w4 HS4.out (by omega) HN2.out).mono ?_
      rintro e w5 ⟨rfl, s5, p5⟩
      have HS5 := Lib.hid s5
      have HKI5 := Lib.hid (p5 _ _ _ (by decide) (by decide) HKI4.out)
      clear s5 p5 HS4 HKI4 k0 c1
      have k0 := HKI5.out.cell 0
      have c2 := (HS5.out.below.cell (p := ⟨b, o + k * 3 + 2, none⟩) HLT.out).trans HQ.out.2.2
      go_wp2_with fail
      refine (rpnum_c w g (14 + 30 * k + 10 + 10) _ gr.val w5 HS5.out (by omega) HN3.out).mono ?_
      rintro e w6 ⟨rfl, s6, p6⟩
      have HS6 : Hid (PageSt w g (14 + 30 * (k + 1)) ([84, 73, 76, 84] ++ vn x.globs.length ++ (x.globs.take (k + 1)).flatMap globB) w6) := by
        show PageSt _ _ _ _ _
        rw [HG.out, show globB gr = natB gr.ty ++ (natB gr.size ++ intB gr.val) from rfl]
        simp only [← List.append_assoc]
        exact s6.mono (show 14 + 30 * k + 10 + 10 + 10 ≤ 14 + 30 * (k + 1) by omega)
      have HKI6 := Lib.hid (p6 _ _ _ (by decide) (by decide) HKI5.out)
      clear s6 p6 HS5 HKI5 k0 c2 HQ HLT HN1 HN2 HN3 HG
      go_wp2_with fail
      go_roundg gk
      case measure => omega
      case rel => exact ⟨k + 1, by omega, by push_cast; rfl, HS6, HKI6⟩
    | zero =>
      have ek : k = x.globs.length := by omega
      subst ek
      have hd : decide ((x.globs.length : Int) < (x.globs.length : Int)) = false := by simp
      have k1 := HKI.out.cell 1
      have HS := Lib.hid (HS.out.mono (show 14 + 30 * x.globs.length ≤ 2000 by omega))
      rw [List.take_length] at HS
      clear hk
      go_wp2_with fail
      refine (rpnat_c w g 2000 _ (x.fns.length : Int) wr HS.out (by omega) ⟨by omega, by omega⟩).mono ?_
      rintro e w3 ⟨rfl, s3, p3⟩
      have e1 : natB (x.fns.length : Int) = vn x.fns.length := by unfold natB; rw [Int.toNat_natCast]
      rw [e1] at s3
      generalize hpre : [84, 73, 76, 84] ++ vn x.globs.length ++ x.globs.flatMap globB ++ vn x.fns.length = pre at *
      have HPre := Lib.hid hpre
      have HS := Lib.hid s3
      have HKI := Lib.hid (p3 _ _ _ (by decide) (by decide) HKI.out)
      clear s3 p3 e1 k0 k1 hd hpre
      have k1 := HKI.out.cell 1
      go_wp2_with fail
      go_loopg [7, 8, 9] x.fns.length (fun gg s7 _ _ wr => ∃ k : Nat, k + gg = x.fns.length ∧ s7 = .int .i64 (k : Int) ∧ Hid (PageSt w g (2010 + 983600 * k) (pre ++ (x.fns.take k).flatMap fnB) wr) ∧ Hid (Blk wr w.heap.size 25 #[.slice A1 x.globs.length c1, .slice A2 x.fns.length cF]))
      case atStart => exact ⟨0, by omega, rfl, by show PageSt _ _ _ _ _; simpa using HS.out, HKI⟩
      case round =>
        clear k1 HS HKI
        obtain ⟨k, hk, rfl, HS, HKI⟩ := hrel
        have k1 := HKI.out.cell 1
        cases gk with
        | succ gk =>
          have hkn : k < x.fns.length := by omega
          obtain ⟨b, o, c, t, e0, _, hlt, hfs, q0, q1, q2, q3, q4⟩ := HI.out.fn hkn
          injection e0 with e1 _ e2
          subst e1 e2
          have hgood := fnK_iff.1 (HFK.out _ (List.getElem_mem hkn))
          have hwide := HW.out.fns _ (List.getElem_mem hkn)
          have HG : Hid ((x.fns.take (k + 1)).flatMap fnB = (x.fns.take k).flatMap fnB ++ fnB x.fns[k]) := listB_snoc fnB (List.getElem?_eq_getElem hkn)
          generalize x.fns[k] = f at *
          obtain ⟨Ap, cp, Al, cl, Ac, cc, rfl⟩ := trip_slices hfs
          simp only at q0 q1 q2 q3 q4
          have c0 := (HS.out.below.cell (p := ⟨b, o + k * 5, none⟩) hlt).trans q0
          have c1 := (HS.out.below.cell (p := ⟨b, o + k * 5 + 1, none⟩) hlt).trans q1
          have c2 := (HS.out.below.cell (p := ⟨b, o + k * 5 + 2, none⟩) hlt).trans q2
          have c3 := (HS.out.below.cell (p := ⟨b, o + k * 5 + 3, none⟩) hlt).trans q3
          have c4 := (HS.out.below.cell (p := ⟨b, o + k * 5 + 4, none⟩) hlt).trans q4
          have HGd := Lib.hid hgood
          have HWd := Lib.hid hwide
          have HFS := Lib.hid hfs
          have hn1 := hgood.size
          have hn2 := hgood.np
          have hn3 := hgood.nl
          have hn4 := hgood.nc
          have hn5 := hgood.le
          have hres : Hid (kNat f.result) := by
            rcases hgood.result with h | h
            · exact typeK_nat h
            · rw [h]; exact ⟨by omega, by omega⟩
          clear hgood hwide hfs q0 q1 q2 q3 q4 hlt
          generalize hP : pre ++ (x.fns.take k).flatMap fnB = P at *
          have HP := Lib.hid hP
          clear hP
          generalize hM : 2010 + 983600 * k = M at *
          have hMb : M ≤ 70000000 := by omega
          have HM := Lib.hid hM
          clear hM
          go_upto_region 17 with (fail)
          have S1 := Lib.hid (HS.out.alloc (.cells (fnBox f (.slice Ap f.params.length cp, .slice Al f.locals.length cl, .slice Ac f.code.length cc)) 54))
          have HKF := Lib.hid (Blk.new wr 54 (fnBox f (.slice Ap f.params.length cp, .slice Al f.locals.length cl, .slice Ac f.code.length cc)))
          have HKI := Lib.hid (HKI.out.alloc (.cells (fnBox f (.slice Ap f.params.length cp, .slice Al f.locals.length cl, .slice Ac f.code.length cc)) 54))
          generalize wr.alloc (.cells (fnBox f (.slice Ap f.params.length cp, .slice Al f.locals.length cl, .slice Ac f.code.length cc)) 54) = wf at *
          clear HS k1 c0 c1 c2 c3 c4
          generalize wr.heap.size = gF at *
          have d0 := HKF.out.cell 0
          go_wp2_with fail
          refine (rpnat_c w g M _ (f.name.size : Int) wf S1.out (by omega) ⟨by omega, by omega⟩).mono ?_
          rintro e w3 ⟨rfl, s3, p3⟩
          have e1 : natB (f.name.size : Int) = vn f.name.size := by unfold natB; rw [Int.toNat_natCast]
          rw [e1] at s3
          obtain ⟨v, hkp, ho⟩ := s3.ex
          have HKP : Hid (Blk w3.drew g 64 #[v]) := hkp
          have HO : Hid (OwnB w3.drew w.heap.size v (P ++ vn f.name.size)) := ho
          have HS := Lib.hid (s3.draw 1)
          have HKI : Hid (Blk w3.drew w.heap.size 25 _) := p3 _ _ _ (by decide) (by decide) HKI.out
          have HKF : Hid (Blk w3.drew gF 54 (fnBox f (.slice Ap f.params.length cp, .slice Al f.locals.length cl, .slice Ac f.code.length cc))) := p3 _ _ _ (by decide) (by decide) HKF.out
          have hH0 : w3.drew.cell? ⟨g, 0, none⟩ = some v ∧ w3.drew.cell? ⟨gF, 0, none⟩ = some (.string f.name) := ⟨HKP.out.cell 0, HKF.out.cell 0⟩
          have hfit : (P ++ vn f.name.size).length ≤ 70000010 := by have := s3.len; omega
          have hbase : w.heap.size ≤ w3.drew.heap.size := s3.below.size
          clear s3 p3 e1 S1 d0 hkp ho
          go_upto_region 18 with (fail)
          refine wp_region_T (S := fun w1 => w1.cell? ⟨g, 0, none⟩ = some v ∧ w1.cell? ⟨gF, 0, none⟩ = some (.string f.name)) 10 (by kernel_rfl) hH0 (fun _ => ?_)
          refine wpAnyT_take (i := 0) (oi := { dst := some 76, op := Op.move (Operand.tmp 5), type := 62, pos := "ref.go:130", after := #[], guard := none }) (v := ?v0) rfl (by kernel_rfl) (by kernel_rfl) (by kernel_rfl) (by kernel_rfl) (fun _ _ _ h => h) (Or.inl ⟨by rfl, ?h0⟩) hH0 ?r0
          case h0 => intro w' hSw; (try dsimp only at hSw); go_simp; (try with_reducible rfl)
          simp only [Act.put, List.setIfInBounds_toArray, List.set_cons_zero, List.set_cons_succ]
          refine wpAnyT_take (i := 1) (oi := { dst := some 77, op := Op.move (Operand.tmp 5), type := 62, pos := "ref.go:130", after := #[], guard := none }) (v := ?v1) rfl (by kernel_rfl) (by kernel_rfl) (by kernel_rfl) (by kernel_rfl) (fun _ _ _ h => h) (Or.inl ⟨by rfl, ?h1⟩) hH0 ?r1
          case h1 => intro w' hSw; (try dsimp only at hSw); go_simp; (try with_reducible rfl)
          simp only [Act.put, List.setIfInBounds_toArray, List.set_cons_zero, List.set_cons_succ]
          refine wpAnyT_take (i := 2) (oi := { dst := some 78, op := Op.nilCheck (Operand.tmp 77), type := 0, pos := "ref.go:130", after := #[{ on := 1, ground := Ground.data }], guard := none }) (v := ?v2) rfl (by kernel_rfl) (by kernel_rfl) (by kernel_rfl) (by kernel_rfl) (fun _ _ _ h => h) (Or.inl ⟨by rfl, ?h2⟩) hH0 ?r2
          case h2 => intro w' hSw; (try dsimp only at hSw); go_simp; (try with_reducible rfl)
          simp only [Act.put, List.setIfInBounds_toArray, List.set_cons_zero, List.set_cons_succ]
          refine wpAnyT_take (i := 3) (oi := { dst := some 79, op := Op.fieldAddr 64 (Operand.tmp 78) 0, type := 0, pos := "ref.go:130", after := #[{ on := 2, ground := Ground.data }], guard := none }) (v := ?v3) rfl (by kernel_rfl) (by kernel_rfl) (by kernel_rfl) (by kernel_rfl) (fun _ _ _ h => h) (Or.inl ⟨by rfl, ?h3⟩) hH0 ?r3
          case h3 => intro w' hSw; (try dsimp only at hSw); go_simp; (try with_reducible rfl)
          simp only [Act.put, List.setIfInBounds_toArray, List.set_cons_zero, List.set_cons_succ]
          refine wpAnyT_take (i := 4) (oi := { dst := some 80, op := Op.load 30 (Operand.tmp 79), type := 30, pos := "ref.go:130", after := #[{ on := 3, ground := Ground.data }], guard := none }) (v := ?v4) rfl (by kernel_rfl) (by kernel_rfl) (by kernel_rfl) (by kernel_rfl) (fun _ _ _ h => h) (Or.inl ⟨by rfl, ?h4⟩) hH0 ?r4
          case h4 => intro w' hSw; (try dsimp only at hSw); go_simp; (try with_reducible rfl)
          simp only [Act.put, List.setIfInBounds_toArray, List.set_cons_zero, List.set_cons_succ]
          refine wpAnyT_take (i := 5) (oi := { dst := some 81, op := Op.fieldAddr 54 (Operand.tmp 8) 0, type := 0, pos := "ref.go:130", after := #[], guard := none }) (v := ?v5) rfl (by kernel_rfl) (by kernel_rfl) (by kernel_rfl) (by kernel_rfl) (fun _ _ _ h => h) (Or.inl ⟨by rfl, ?h5⟩) hH0 ?r5
          case h5 => intro w' hSw; (try dsimp only at hSw); go_simp; (try with_reducible rfl)
          simp only [Act.put, List.setIfInBounds_toArray, List.set_cons_zero, List.set_cons_succ]
          refine wpAnyT_take (i := 6) (oi := { dst := some 82, op := Op.load 9 (Operand.tmp 81), type := 9, pos := "ref.go:130", after := #[{ on := 5, ground := Ground.data }], guard := none }) (v := ?v6) rfl (by kernel_rfl) (by kernel_rfl) (by kernel_rfl) (by kernel_rfl) (fun _ _ _ h => h) (Or.inl ⟨by rfl, ?h6⟩) hH0 ?r6
          case h6 => intro w' hSw; (try dsimp only at hSw); go_simp; (try with_reducible rfl)
          simp only [Act.put, List.setIfInBounds_toArray, List.set_cons_zero, List.set_cons_succ]
          refine wpAnyT_one (i := 7) (o := { dst := some 83, op := Op.call { callee := Callee.builtin Builtin.append, args := #[Operand.tmp 80, Operand.tmp 82], argTypes := #[30, 9] }, type := 30, pos := "ref.go:130", after := #[{ on := 4, ground := Ground.data }, { on := 6, ground := Ground.data }], guard := none }) (by kernel_rfl) rfl (fun K hK => ?_)
          rw [if_pos (by rfl)]
          refine wp_text (.tmp 80) (.tmp 82) rfl w.heap.size _ _ f.name rfl HO.out rfl (by omega) (by omega) hbase ?_
          intro v2 w2 ho2 hg2
          obtain ⟨A2, c2, rfl⟩ := own_slice ho2
          obtain ⟨S2, K2⟩ := page_step (k := 24) HS.out HKP.out HO.out (Below.refl _ _) ho2 hg2 (by rw [bytesOf_length]; omega)
          have hf2 : Fr (fun i => v.ownBlock = some i) _ w2 := Fr.of_grown (S := fun i => v.ownBlock = some i) hg2 fun _ _ e => e
          have hkp := HKP.out.fr hf2 (own_ne_blk HO.out HKP.out (by decide))
          have hH2 : w2.cell? ⟨g, 0, none⟩ = some v ∧ w2.cell? ⟨gF, 0, none⟩ = some (.string f.name) := ⟨hkp.cell 0, (HKF.out.fr hf2 (own_ne_blk HO.out HKF.out (by decide))).cell 0⟩
          have hfr2 : w2.frozen? ⟨g, 0, none⟩ = false := hkp.frozen 0
          have hc0 := hH2.1
          have HS2 := Lib.hid S2
          have HK2 := Lib.hid K2
          clear S2 K2 ho2 hg2 hkp hf2
          refine hK.out _ _ (fun _ => hH2) ?_
          clear hK K
          simp only [Act.put, List.setIfInBounds_toArray, List.set_cons_zero, List.set_cons_succ]
          refine wpAnyT_one (i := 8) (o := { dst := some 84, op := Op.nilCheck (Operand.tmp 76), type := 0, pos := "ref.go:130", after := #[{ on := 0, ground := Ground.data }, { on := 0, ground := Ground.phase }, { on := 1, ground := Ground.phase }, { on := 2, ground := Ground.phase }, { on := 3, ground := Ground.phase }, { on := 4, ground := Ground.phase }, { on := 5, ground := Ground.phase }, { on := 6, ground := Ground.phase }, { on := 7, ground := Ground.phase }], guard := none }) (by kernel_rfl) rfl (fun K hK => ?_)
          go_simp
          go_wp2_with fail
          refine hK.out _ _ (fun _ => hH2) ?_
          clear hK K
          refine wpAnyT_one (i := 9) (o := { dst := some 85, op := Op.fieldAddr 64 (Operand.tmp 84) 0, type := 0, pos := "ref.go:130", after := #[{ on := 8, ground := Ground.data }, { on := 0, ground := Ground.phase }, { on := 1, ground := Ground.phase }, { on := 2, ground := Ground.phase }, { on := 3, ground := Ground.phase }, { on := 4, ground := Ground.phase }, { on := 5, ground := Ground.phase }, { on := 6, ground := Ground.phase }, { on := 7, ground := Ground.phase }], guard := none }) (by kernel_rfl) rfl (fun K hK => ?_)
          go_simp
          go_wp2_with fail
          refine hK.out _ _ (fun _ => hH2) ?_
          clear hK K
          refine wpAnyT_one (i := 10) (o := { dst := none, op := Op.store 30 (Operand.tmp 85) (Operand.tmp 83), type := 0, pos := "ref.go:130", after := #[{ on := 9, ground := Ground.data }, { on := 7, ground := Ground.data }, { on := 7, ground := Ground.chain }, { on := 0, ground := Ground.phase }, { on := 1, ground := Ground.phase }, { on := 2, ground := Ground.phase }, { on := 3, ground := Ground.phase }, { on := 4, ground := Ground.phase }, { on := 5, ground := Ground.phase }, { on := 6, ground := Ground.phase }, { on := 7, ground := Ground.phase }], guard := none }) (by kernel_rfl) rfl (fun K hK => ?_)
          go_simp
          go_wp2_with fail
          refine hK.out _ _ (fun h => absurd rfl h) ?_
          clear hK K
          refine wpAnyT_done (by kernel_rfl) ?_ _
          have HKI := Lib.hid (HK2.out _ _ _ (by decide) (by decide) HKI.out)
          have HKF := Lib.hid (HK2.out _ _ _ (by decide) (by decide) HKF.out)
          have ew : P.length + ((vn f.name.size).length + (bytesOf f.name).length) = (P ++ vn f.name.size ++ bytesOf f.name).length := by simp only [List.length_append]; omega
          rw [ew]
          generalize w2.setCell ⟨g, 0, none⟩ (.slice A2 (P ++ vn f.name.size ++ bytesOf f.name).length c2) = wt at *
          generalize hP1 : P ++ vn f.name.size ++ bytesOf f.name = P1 at *
          have HP1 := Lib.hid hP1
          clear HK2 HKP HO hH0 hH2 hc0 hfr2 ew hP1 hfit hbase
          have HS := HS2
          clear HS2
          have d1 := HKF.out.cell 1
          go_wp2_with fail
          refine (rprow_c w g (M + 10 + 24) _ _ f.params wt HS.out (by omega) HFS.out.params (by omega) (fun n hn => typeK_nat (HGd.out.params n hn))).mono ?_
          rintro e w4 ⟨rfl, s4, p4⟩
          have HS := Lib.hid s4
          have HKI := Lib.hid (p4 _ _ _ (by decide) (by decide) HKI.out)
          have HKF := Lib.hid (p4 _ _ _ (by decide) (by decide) HKF.out)
          clear s4 p4 d1
          have d2 := HKF.out.cell 2
          go_wp2_with fail
          refine (rpnat_c w g _ _ f.result w4 HS.out (by omega) hres.out).mono ?_
          rintro e w5 ⟨rfl, s5, p5⟩
          have HS := Lib.hid s5
          have HKI := Lib.hid (p5 _ _ _ (by decide) (by decide) HKI.out)
          have HKF := Lib.hid (p5 _ _ _ (by decide) (by decide) HKF.out)
          clear s5 p5 d2
          have d1 := HKF.out.cell 1
          have d3 := HKF.out.cell 3
          obtain ⟨B, d, hsl, hsh⟩ := HFS.out.locals.from_ f.params.length hn5
          have HSH := Lib.hid hsh
          clear hsh
          go_wp2_with fail
          refine (rprow_c w g _ _ _ (f.locals.drop f.params.length) w5 HS.out (by omega) HSH.out (by rw [List.length_drop]; omega) (fun n hn => typeK_nat (HGd.out.locals n (List.mem_of_mem_drop hn)))).mono ?_
          rintro e w6 ⟨rfl, s6, p6⟩
          have HS := Lib.hid s6
          have HKI := Lib.hid (p6 _ _ _ (by decide) (by decide) HKI.out)
          have HKF := Lib.hid (p6 _ _ _ (by decide) (by decide) HKF.out)
          clear s6 p6 d1 d3 hsl HSH
          have d4 := HKF.out.cell 4
          go_wp2_with fail
          refine (rpnat_c w g _ _ (f.code.length : Int) w6 HS.out (by rw [List.length_drop]; omega) ⟨by omega, by omega⟩).mono ?_
          rintro e w7 ⟨rfl, s7, p7⟩
          have e1 : natB (f.code.length : Int) = vn f.code.length := by unfold natB; rw [Int.toNat_natCast]
          rw [e1] at s7
          have HS := Lib.hid (s7.mono (show _ ≤ M + 500 by rw [List.length_drop]; omega))
          have HKI := Lib.hid (p7 _ _ _ (by decide) (by decide) HKI.out)
          have HKF := Lib.hid (p7 _ _ _ (by decide) (by decide) HKF.out)
          clear s7 p7 d4 e1
          generalize hP2 : P1 ++ listB natB f.params ++ natB f.result ++ listB natB (f.locals.drop f.params.length) ++ vn f.code.length = P2 at *
          have HP2 := Lib.hid hP2
          clear hP2
          have d4 := HKF.out.cell 4
          go_wp2_with fail
          go_loopg [9] f.code.length (fun gg s9 wr => ∃ j : Nat, j + gg = f.code.length ∧ s9 = .int .i64 (j : Int) ∧ Hid (PageSt w g (M + 500 + 30 * j) (P2 ++ (f.code.take j).flatMap insB) wr) ∧ Hid (Blk wr w.heap.size 25 #[.slice A1 x.globs.length c1, .slice (some ⟨b, o, none⟩) x.fns.length cF]) ∧ Hid (Blk wr gF 54 (fnBox f (.slice Ap f.params.length cp, .slice Al f.locals.length cl, .slice Ac f.code.length cc))))
          case atStart => exact ⟨0, by omega, rfl, by show PageSt _ _ _ _ _; simpa using HS.out, HKI, HKF⟩
          case round =>
            clear d4 HS HKI HKF
            obtain ⟨j, hj, rfl, HS, HKI, HKF⟩ := hrel
            have d4 := HKF.out.cell 4
            cases gk with
            | zero =>
              have ek : j = f.code.length := by omega
              subst ek
              have hd : decide ((f.code.length : Int) < (f.code.length : Int)) = false := by simp
              have HS2 : Hid (PageSt w g (2010 + 983600 * (k + 1)) (pre ++ (x.fns.take (k + 1)).flatMap fnB) wr) := by
                show PageSt _ _ _ _ _
                have e2 : P2 ++ (f.code.take f.code.length).flatMap insB = pre ++ (x.fns.take (k + 1)).flatMap fnB := by
                  rw [List.take_length, HG.out, ← HP2.out, ← HP1.out, ← HP.out]
                  unfold fnB textB' listB
                  simp only [List.append_assoc]
                rw [← e2]
                exact HS.out.mono (by have := HM.out; omega)
              clear hj HS HKF
              go_wp2_with fail
              go_roundg gk
              case measure => omega
              case rel => exact ⟨k + 1, by omega, by push_cast; rfl, HS2, HKI⟩
            | succ gj =>
              have hjn : j < f.code.length := by omega
              obtain ⟨b3, o3, c3', e3, _, hlt3, q1, q2, q3⟩ := HFS.out.code.ins hjn
              simp only at e3
              injection e3 with ea3 _ ec3
              subst ea3 ec3
              have HLT := Lib.hid hlt3
              have HQ := Lib.hid (And.intro q1 (And.intro q2 q3))
              have i0 := (HS.out.below.cell (p := ⟨b3, o3 + j * 3, none⟩) hlt3).trans q1
              have hik := HGd.out.code _ (List.getElem_mem hjn)
              have hiw := HWd.out.code _ (List.getElem_mem hjn)
              simp only [insK, Bool.and_eq_true, Bool.not_eq_true', decide_eq_false_iff_not] at hik
              have HGj : Hid ((f.code.take (j + 1)).flatMap insB = (f.code.take j).flatMap insB ++ insB f.code[j]) := listB_snoc insB (List.getElem?_eq_getElem hjn)
              generalize f.code[j] = ir at *
              have HN1 : Hid (kNat ir.op) := ⟨by omega, by omega⟩
              have HN2 := Lib.hid hiw.2.1
              have HN3 : Hid (kNat ir.b) := ⟨by omega, by omega⟩
              clear hik hiw q1 q2 q3 hlt3
              go_wp2_with fail
              refine (rpnat_c w g (M + 500 + 30 * j) _ ir.op wr HS.out (by omega) HN1.out).mono ?_
              rintro e v4 ⟨rfl, s4, p4⟩
              have HS := Lib.hid s4
              have HKI := Lib.hid (p4 _ _ _ (by decide) (by decide) HKI.out)
              have HKF := Lib.hid (p4 _ _ _ (by decide) (by decide) HKF.out)
              clear s4 p4 d4 i0
              have d4 := HKF.out.cell 4
              have i1 := (HS.out.below.cell (p := ⟨b3, o3 + j * 3 + 1, none⟩) HLT.out).trans HQ.out.2.1
              go_wp2_with fail
              refine (rpnum_c w g _ _ ir.a v4 HS.out (by omega) HN2.out).mono ?_
              rintro e v5 ⟨rfl, s5, p5⟩
              have HS := Lib.hid s5
              have HKI := Lib.hid (p5 _ _ _ (by decide) (by decide) HKI.out)
              have HKF := Lib.hid (p5 _ _ _ (by decide) (by decide) HKF.out)
              clear s5 p5 d4 i1
              have d4 := HKF.out.cell 4
              have i2 := (HS.out.below.cell (p := ⟨b3, o3 + j * 3 + 2, none⟩) HLT.out).trans HQ.out.2.2
              go_wp2_with fail
              refine (rpnat_c w g _ _ ir.b v5 HS.out (by omega) HN3.out).mono ?_
              rintro e v6 ⟨rfl, s6, p6⟩
              have HS2 : Hid (PageSt w g (M + 500 + 30 * (j + 1)) (P2 ++ (f.code.take (j + 1)).flatMap insB) v6) := by
                show PageSt _ _ _ _ _
                rw [HGj.out, show insB ir = natB ir.op ++ (intB ir.a ++ natB ir.b) from rfl]
                simp only [← List.append_assoc]
                exact s6.mono (show M + 500 + 30 * j + 10 + 10 + 10 ≤ M + 500 + 30 * (j + 1) by omega)
              have HKI := Lib.hid (p6 _ _ _ (by decide) (by decide) HKI.out)
              have HKF := Lib.hid (p6 _ _ _ (by decide) (by decide) HKF.out)
              clear s6 p6 d4 i2 HS HQ HLT HN1 HN2 HN3 HGj
              go_wp2_with fail
              go_roundg gj
              case measure => omega
              case rel => exact ⟨j + 1, by omega, by push_cast; rfl, HS2, HKI, HKF⟩
        | zero =>
          have ek : k = x.fns.length := by omega
          subst ek
          have hd : decide ((x.fns.length : Int) < (x.fns.length : Int)) = false := by simp
          rw [List.take_length] at HS
          have e2 : pre ++ x.fns.flatMap fnB = imgB x := by
            rw [← HPre.out]
            unfold imgB bodyI listB
            simp only [List.append_assoc]
          rw [e2] at HS
          obtain ⟨v, hkp, ho⟩ := HS.out.ex
          have hfr := rframe_c v (imgB x) wr ho.sl (by have := HS.out.len; omega) imgB_lt
          have HFr := Lib.hid hfr
          have c0 : wr.cell? ⟨g, 0, none⟩ = some v := hkp.cell 0
          have HB := Lib.hid HS.out.below
          clear hk e2 hkp ho hfr HS
          go_wp2_with fail
          refine HFr.out.mono ?_
          rintro e w4 ⟨u, rfl, ho4, hb4⟩
          have HO4 := Lib.hid (OwnB.lower ho4 HB.out.size)
          have HB4 := Lib.hid (below_trans HB.out hb4)
          clear ho4 hb4 c0 HB HFr k1
          obtain ⟨A5, c5, rfl⟩ := own_slice HO4.out
          by_cases hbig : (1048576 : Int) < ((frame (imgB x)).length : Int)
          · have hd2 : decide ((1048576 : Int) < ((frame (imgB x)).length : Int)) = true := decide_eq_true hbig
            have HBg : Hid (1048576 < (frame (imgB x)).length) := by show _ < _; omega
            clear hbig
            go_wp2_with fail
            go_ret2
            refine ⟨HB4.out, ?_⟩
            rw [if_pos HOK.out, if_pos HBg.out]
            rfl
          · have hd2 : decide ((1048576 : Int) < ((frame (imgB x)).length : Int)) = false := decide_eq_false hbig
            have HBg : Hid (¬ 1048576 < (frame (imgB x)).length) := by show ¬ _; omega
            clear hbig
            go_wp2_with fail
            go_ret2
            refine ⟨HB4.out, ?_⟩
            rw [if_pos HOK.out, if_neg HBg.out]
            exact ⟨_, rfl, HO4.out⟩

end Go.Proofs.YtebdjahcahgafaaDoor

/- The document's own Same: are two images alike? -/
import Derived.Test.YtebdjahcahgafaaDoorIOkM
import Derived.Deep.QuietTactic
import Derived.BigQuiet
import Derived.Deep.DeepCutAuto
import Derived.Laws.StructEq
namespace Go.Proofs.YtebdjahcahgafaaDoor
open Go.RowKit

theorem guard48 : Tryd.prog.eqGuardType Tryd.prog.depth 48 = false := by kernel_rfl
theorem held48 : Tryd.prog.stoodInHeld 48 = false := by kernel_rfl
theorem neq48 (a1 a2 a3 b1 b2 b3 : Int) (w : World) : (binOp .neq 48 (.agg #[.int .i64 a1, .int .i64 a2, .int .i64 a3]) (.agg #[.int .i64 b1, .int .i64 b2, .int .i64 b3])).run Tryd.prog w = .ok (.bool (!(a1 == b1 && (a2 == b2 && a3 == b3)))) w := by
  have e1 : Tryd.prog.underlying 48 = some (.struct (Tryd.prog.fieldsOf 48)) := by kernel_rfl
  have e2 := held48
  rw [run_neq_struct, run_equalIn_agg w 9999 48 _ _ e1 e2]
  clear e1
  simp [go_sem]
  by_cases h1 : a1 = b1 <;> by_cases h2 : a2 = b2 <;> by_cases h3 : a3 = b3 <;> simp [h1, h2, h3]
theorem neq48_no (a1 a2 a3 b1 b2 b3 : Int) (h : a1 = b1 ∧ a2 = b2 ∧ a3 = b3) (w : World) : (binOp .neq 48 (.agg #[.int .i64 a1, .int .i64 a2, .int .i64 a3]) (.agg #[.int .i64 b1, .int .i64 b2, .int .i64 b3])).run Tryd.prog w = .ok (.bool false) w := by
  rw [neq48]; simp [h.1, h.2.1, h.2.2]
theorem neq48_yes (a1 a2 a3 b1 b2 b3 : Int) (h : ¬ (a1 = b1 ∧ a2 = b2 ∧ a3 = b3)) (w : World) : (binOp .neq 48 (.agg #[.int .i64 a1, .int .i64 a2, .int .i64 a3]) (.agg #[.int .i64 b1, .int .i64 b2, .int .i64 b3])).run Tryd.prog w = .ok (.bool true) w := by
  rw [neq48]
  by_cases h1 : a1 = b1
  · by_cases h2 : a2 = b2
    · have h3 : ¬ a3 = b3 := fun e => h ⟨h1, h2, e⟩
      simp [h3]
    · simp [h2]
  · simp [h1]
theorem guard50 : Tryd.prog.eqGuardType Tryd.prog.depth 50 = false := by kernel_rfl
theorem held50 : Tryd.prog.stoodInHeld 50 = false := by kernel_rfl
theorem neq50 (a1 a2 a3 b1 b2 b3 : Int) (w : World) : (binOp .neq 50 (.agg #[.int .i64 a1, .int .i64 a2, .int .i64 a3]) (.agg #[.int .i64 b1, .int .i64 b2, .int .i64 b3])).run Tryd.prog w = .ok (.bool (!(a1 == b1 && (a2 == b2 && a3 == b3)))) w := by
  have e1 : Tryd.prog.underlying 50 = some (.struct (Tryd.prog.fieldsOf 50)) := by kernel_rfl
  have e2 := held50
  rw [run_neq_struct, run_equalIn_agg w 9999 50 _ _ e1 e2]
  clear e1
  simp [go_sem]
  by_cases h1 : a1 = b1 <;> by_cases h2 : a2 = b2 <;> by_cases h3 : a3 = b3 <;> simp [h1, h2, h3]
theorem neq50_no (a1 a2 a3 b1 b2 b3 : Int) (h : a1 = b1 ∧ a2 = b2 ∧ a3 = b3) (w : World) : (binOp .neq 50 (.agg #[.int .i64 a1, .int .i64 a2, .int .i64 a3]) (.agg #[.int .i64 b1, .int .i64 b2, .int .i64 b3])).run Tryd.prog w = .ok (.bool false) w := by
  rw [neq50]; simp [h.1, h.2.1, h.2.2]
theorem neq50_yes (a1 a2 a3 b1 b2 b3 : Int) (h : ¬ (a1 = b1 ∧ a2 = b2 ∧ a3 = b3)) (w : World) : (binOp .neq 50 (.agg #[.int .i64 a1, .int .i64 a2, .int .i64 a3]) (.agg #[.int .i64 b1, .int .i64 b2, .int .i64 b3])).run Tryd.prog w = .ok (.bool true) w := by
  rw [neq50]
  by_cases h1 : a1 = b1
  · by_cases h2 : a2 = b2
    · have h3 : ¬ a3 = b3 := fun e => h ⟨h1, h2, e⟩
      simp [h3]
    · simp [h2]
  · simp [h1]
theorem res_of (p : Prop) : ∃ r : Bool, (r = true ↔ p) := by
  by_cases h : p
  · exact ⟨true, by simp [h]⟩
  · exact ⟨false, by simp [h]⟩
theorem res_false {r : Bool} {p : Prop} (h : r = true ↔ p) (hp : ¬ p) : r = false := by
  cases r with
  | false => rfl
  | true => exact absurd (h.1 rfl) hp
/-- Lists of one length, alike place by place. -/
theorem list_ext {α : Type} {a b : List α} (hl : a.length = b.length) (h : ∀ (i : Nat) (x y : α), a[i]? = some x → b[i]? = some y → x = y) : a = b := by
  apply List.ext_getElem?
  intro i
  rcases Nat.lt_or_ge i a.length with hi | hi
  · have e1 := List.getElem?_eq_getElem hi
    have e2 := List.getElem?_eq_getElem (l := b) (i := i) (by omega)
    rw [e1, e2, h i _ _ e1 e2]
  · rw [List.getElem?_eq_none hi, List.getElem?_eq_none (by omega)]

set_option maxHeartbeats 1000000 in
set_option maxRecDepth 100000 in
theorem rsrow_c (u v : Value) (a b : List Int) (w : World) (hu : Shows w u 1 a.length (intsV a)) (hv : Shows w v 1 b.length (intsV b)) (hn : a.length ≤ 281474976710656) :
    Calls Tryd.prog 24 #[u, v] w fun e w' => e = .returned (.bool (decide (a = b))) ∧ Below w.heap.size w w' := by
  have HU := Lib.hid hu
  have HV := Lib.hid hv
  obtain ⟨A1, c1, rfl, _⟩ := hu.slice
  obtain ⟨A2, c2, rfl, _⟩ := hv.slice
  clear hu hv
  generalize hr : decide (a = b) = res
  have HR := Lib.hid hr
  clear hr
  go_enter Tryd.func24, Tryd.ntmps24
  by_cases hl : a.length = b.length
  case neg =>
    have hd : ((a.length : Int) != (b.length : Int)) = true := by simp; omega
    obtain rfl : res = false := by rw [← HR.out, decide_eq_false_iff_not]; intro e; exact hl (by rw [e])
    clear hl
    go_wp2_with fail
    go_ret
    exact ⟨rfl, Below.refl _ _⟩
  case pos =>
  have hd : ((a.length : Int) != (b.length : Int)) = false := by simp [hl]
  have HL := Lib.hid hl
  clear hl
  go_wp2_with fail
  go_loopg [5] a.length (fun gg s5 wr => ∃ k : Nat, k + gg = a.length ∧ s5 = .int .i64 (k : Int) ∧ Hid (∀ (i : Nat) (x y : Int), i < k → a[i]? = some x → b[i]? = some y → x = y) ∧ Hid (Below w.heap.size w wr))
  case atStart => exact ⟨0, by omega, rfl, fun i x y hi => absurd hi (by omega), Below.refl _ _⟩
  case round =>
    clear hd
    obtain ⟨k, hk, rfl, HE, HB⟩ := hrel
    cases gk with
    | zero =>
      have ek : k = a.length := by omega
      subst ek
      have hd : decide ((a.length : Int) < (a.length : Int)) = false := by simp
      obtain rfl : res = true := by rw [← HR.out, decide_eq_true_eq]; exact list_ext HL.out fun i x y hx hy => HE.out i x y (List.getElem?_eq_some_iff.1 hx).1 hx hy
      clear hk HE
      go_wp2_with fail
      go_ret
      exact ⟨rfl, HB.out⟩
    | succ gk =>
      have hka : k < a.length := by omega
      have hkb : k < b.length := by have := HL.out; omega
      obtain ⟨b1, o1, c1', e1, _, hlt1, p1⟩ := (HU.out.below HB.out).int hka
      obtain ⟨b2, o2, c2', e2, _, hlt2, p2⟩ := (HV.out.below HB.out).int hkb
      injection e1 with ea1 _ ec1
      injection e2 with ea2 _ ec2
      subst ea1 ec1 ea2 ec2
      have HG1 : Hid (a[k]? = some a[k]) := List.getElem?_eq_getElem hka
      have HG2 : Hid (b[k]? = some b[k]) := List.getElem?_eq_getElem hkb
      generalize a[k] = x at *
      generalize b[k] = y at *
      clear hlt1 hlt2
      have hki : (k : Int) < (a.length : Int) := by omega
      have hkj : (k : Int) < (b.length : Int) := by omega
      by_cases hxy : x = y
      · have hn : (x != y) = false := by simp [hxy]
        have HX := Lib.hid hxy
        clear hxy
        go_wp2_with fail
        go_quiet (fail)
        go_wp2_with fail
        go_roundg gk
        case measure => omega
        case rel =>
          refine ⟨k + 1, by omega, by push_cast; rfl, fun i x' y' hi hx hy => ?_, below_draw HB.out _⟩
          rcases Nat.lt_or_ge i k with h | h
          · exact HE.out i x' y' h hx hy
          · obtain rfl : i = k := by omega
            have g1 := HG1.out
            have g2 := HG2.out
            rw [g1] at hx
            rw [g2] at hy
            injection hx with hx
            injection hy with hy
            rw [← hx, ← hy]; exact HX.out
      · have hn : (x != y) = true := by simp [hxy]
        obtain rfl : res = false := by
          rw [← HR.out, decide_eq_false_iff_not]
          intro e
          have g1 := HG1.out
          rw [e, HG2.out] at g1
          injection g1 with g1
          exact hxy g1.symm
        clear hxy
        go_wp2_with fail
        go_quiet (fail)
        go_wp2_with fail
        go_ret
        exact ⟨rfl, below_draw HB.out _⟩

/-- What Same answers. -/
def SameR (x y : ImgR) (w : World) (e : Ending) (w' : World) : Prop := (∃ r : Bool, e = .returned (.bool r) ∧ (r = true ↔ x = y)) ∧ Below w.heap.size w w'

set_option maxHeartbeats 8000000 in
set_option maxRecDepth 100000 in
theorem rsame_c (gv fv gv' fv' : Value) (x y : ImgR) (w : World) (h : ImgShows w gv fv x) (h' : ImgShows w gv' fv' y) (hs : x.small) (hs' : y.small) :
    Calls Tryd.prog 12 #[imgV gv fv, imgV gv' fv'] w (SameR x y w) := by
  have HX := Lib.hid h
  have HY := Lib.hid h'
  obtain ⟨A1, c1, rfl, _⟩ := h.globs.slice
  obtain ⟨_, _, _, hf1, _⟩ := h
  obtain ⟨A2, c2, rfl, _⟩ := hf1.slice
  obtain ⟨A3, c3, rfl, _⟩ := h'.globs.slice
  obtain ⟨_, _, _, hf2, _⟩ := h'
  obtain ⟨A4, c4, rfl, _⟩ := hf2.slice
  clear hf1 hf2
  have ng := hs.ng
  have nf := hs.nf
  have HSx := Lib.hid hs
  have HSy := Lib.hid hs'
  clear hs hs'
  obtain ⟨res, hres⟩ := res_of (x = y)
  have HR := Lib.hid hres
  clear hres
  have HB0 := Lib.hid (((Below.refl w.heap.size w).alloc (Nat.le_refl _) (.cells #[.slice A1 x.globs.length c1, .slice A2 x.fns.length c2] 25)).alloc (by simp) (.cells #[.slice A3 y.globs.length c3, .slice A4 y.fns.length c4] 25))
  have HKx := Lib.hid ((Blk.new w 25 #[.slice A1 x.globs.length c1, .slice A2 x.fns.length c2]).alloc (.cells #[.slice A3 y.globs.length c3, .slice A4 y.fns.length c4] 25))
  have HKy : Hid (Blk ((w.alloc (.cells #[.slice A1 x.globs.length c1, .slice A2 x.fns.length c2] 25)).alloc (.cells #[.slice A3 y.globs.length c3, .slice A4 y.fns.length c4] 25)) (w.heap.size + 1) 25 #[.slice A3 y.globs.length c3, .slice A4 y.fns.length c4]) := by
    have := Blk.new (w.alloc (.cells #[.slice A1 x.globs.length c1, .slice A2 x.fns.length c2] 25)) 25 #[.slice A3 y.globs.length c3, .slice A4 y.fns.length c4]
    exact Lib.hid (by simpa using this)
  go_enter Tryd.func12, Tryd.ntmps12
  go_upto_region 1 with (fail)
  generalize (w.alloc (.cells #[.slice A1 x.globs.length c1, .slice A2 x.fns.length c2] 25)).alloc (.cells #[.slice A3 y.globs.length c3, .slice A4 y.fns.length c4] 25) = w0 at *
  obtain ⟨gy, hgy⟩ : ∃ gy, gy = w.heap.size + 1 := ⟨_, rfl⟩
  rw [← hgy] at HKy ⊢
  clear hgy
  obtain ⟨gx, hgx⟩ : ∃ gx, gx = w.heap.size := ⟨_, rfl⟩
  rw [← hgx] at HKx
  rw [show (some { block := w.heap.size, off := 0, spot := none } : Option Addr) = some ⟨gx, 0, none⟩ by rw [hgx]]
  clear hgx
  have x0 := HKx.out.cell 0
  have x1 := HKx.out.cell 1
  have y0 := HKy.out.cell 0
  have y1 := HKy.out.cell 1
  by_cases hg : x.globs.length = y.globs.length
  case neg =>
    have hd : ((x.globs.length : Int) != (y.globs.length : Int)) = true := by simp; omega
    obtain rfl : res = false := res_false HR.out (fun e => hg (by rw [e]))
    clear hg
    go_wp2_with fail
    go_ret
    exact ⟨⟨false, rfl, HR.out⟩, HB0.out⟩
  case pos =>
  by_cases hf : x.fns.length = y.fns.length
  case neg =>
    have hd : ((x.globs.length : Int) != (y.globs.length : Int)) = false := by simp [hg]
    have hd2 : ((x.fns.length : Int) != (y.fns.length : Int)) = true := by simp; omega
    obtain rfl : res = false := res_false HR.out (fun e => hf (by rw [e]))
    clear hg hf
    go_wp2_with fail
    go_ret
    exact ⟨⟨false, rfl, HR.out⟩, HB0.out⟩
  case pos =>
  have hd : ((x.globs.length : Int) != (y.globs.length : Int)) = false := by simp [hg]
  have hd2 : ((x.fns.length : Int) != (y.fns.length : Int)) = false := by simp [hf]
  have HLg := Lib.hid hg
  have HLf := Lib.hid hf
  clear hg hf
  go_wp2_with fail
  go_loopg [5] x.globs.length (fun gg s5 wr => ∃ k : Nat, k + gg = x.globs.length ∧ s5 = .int .i64 (k : Int) ∧ Hid (∀ (i : Nat) (a b : GlobR), i < k → x.globs[i]? = some a → y.globs[i]? = some b → a = b) ∧ Hid (Below w.heap.size w wr) ∧ Hid (Blk wr gx 25 #[.slice A1 x.globs.length c1, .slice A2 x.fns.length c2]) ∧ Hid (Blk wr gy 25 #[.slice A3 y.globs.length c3, .slice A4 y.fns.length c4]))
  case atStart => exact ⟨0, by omega, rfl, fun i a b hi => absurd hi (by omega), HB0, HKx, HKy⟩
  case round =>
    clear hd hd2 x0 x1 y0 y1 HB0 HKx HKy
    obtain ⟨k, hk, rfl, HE, HB, HKx, HKy⟩ := hrel
    have x0 := HKx.out.cell 0
    have y0 := HKy.out.cell 0
    cases gk with
    | succ gk =>
      have hka : k < x.globs.length := by omega
      have hkb : k < y.globs.length := by have := HLg.out; omega
      obtain ⟨b1, o1, c1', e1, _, hlt1, p1, p2, p3⟩ := (HX.out.globs.below HB.out).glob hka
      obtain ⟨b2, o2, c2', e2, _, hlt2, q1, q2, q3⟩ := (HY.out.globs.below HB.out).glob hkb
      injection e1 with ea1 _ ec1
      injection e2 with ea2 _ ec2
      subst ea1 ec1 ea2 ec2
      have HG1 : Hid (x.globs[k]? = some x.globs[k]) := List.getElem?_eq_getElem hka
      have HG2 : Hid (y.globs[k]? = some y.globs[k]) := List.getElem?_eq_getElem hkb
      generalize x.globs[k] = a at *
      generalize y.globs[k] = b at *
      obtain ⟨a1, a2, a3⟩ := a
      obtain ⟨b1', b2', b3'⟩ := b
      simp only at p1 p2 p3 q1 q2 q3
      clear hlt1 hlt2
      have hki : (k : Int) < (x.globs.length : Int) := by omega
      have hkj : (k : Int) < (y.globs.length : Int) := by omega
      have e1 := guard48
      by_cases hab : a1 = b1' ∧ a2 = b2' ∧ a3 = b3'
      · have e2 := neq48_no a1 a2 a3 b1' b2' b3' hab
        have HAB : Hid (GlobR.mk a1 a2 a3 = GlobR.mk b1' b2' b3') := by show _ = _; rw [hab.1, hab.2.1, hab.2.2]
        clear hab
        go_wp2_with fail
        go_quiet (fail)
        go_wp2_with fail
        go_roundg gk
        case measure => omega
        case rel =>
          refine ⟨k + 1, by omega, by push_cast; rfl, fun i x' y' hi hx hy => ?_, below_draw HB.out _, HKx.out, HKy.out⟩
          rcases Nat.lt_or_ge i k with h | h
          · exact HE.out i x' y' h hx hy
          · obtain rfl : i = k := by omega
            have g1 := HG1.out
            have g2 := HG2.out
            rw [g1] at hx
            rw [g2] at hy
            injection hx with hx
            injection hy with hy
            rw [← hx, ← hy]; exact HAB.out
      · have e2 := neq48_yes a1 a2 a3 b1' b2' b3' hab
        obtain rfl : res = false := res_false HR.out (fun e => hab (by
          have g1 := HG1.out
          rw [e, HG2.out] at g1
          injection g1 with g1
          injection g1 with h1 h2 h3
          exact ⟨h1.symm, h2.symm, h3.symm⟩))
        clear hab
        go_wp2_with fail
        go_quiet (fail)
        go_wp2_with fail
        go_ret
        exact ⟨⟨false, rfl, HR.out⟩, below_draw HB.out _⟩
    | zero =>
      have ek : k = x.globs.length := by omega
      subst ek
      have hd : decide ((x.globs.length : Int) < (x.globs.length : Int)) = false := by simp
      have HEg : Hid (x.globs = y.globs) := list_ext HLg.out fun i a b hx hy => HE.out i a b (List.getElem?_eq_some_iff.1 hx).1 hx hy
      clear hk HE
      have x1 := HKx.out.cell 1
      go_wp2_with fail
      go_loopg [6, 7, 8, 9, 10, 11] x.fns.length (fun gg s6 _ _ _ _ _ wr => ∃ k : Nat, k + gg = x.fns.length ∧ s6 = .int .i64 (k : Int) ∧ Hid (∀ (i : Nat) (a b : FnR), i < k → x.fns[i]? = some a → y.fns[i]? = some b → a = b) ∧ Hid (Below w.heap.size w wr) ∧ Hid (Blk wr gx 25 #[.slice A1 x.globs.length c1, .slice A2 x.fns.length c2]) ∧ Hid (Blk wr gy 25 #[.slice A3 y.globs.length c3, .slice A4 y.fns.length c4]))
      case atStart => exact ⟨0, by omega, rfl, fun i a b hi => absurd hi (by omega), HB, HKx, HKy⟩
      case round =>
        clear hd x0 y0 x1 HB HKx HKy
        obtain ⟨k, hk, rfl, HE, HB, HKx, HKy⟩ := hrel
        have x1 := HKx.out.cell 1
        have y1 := HKy.out.cell 1
        cases gk with
        | zero =>
          have ek : k = x.fns.length := by omega
          subst ek
          have hd : decide ((x.fns.length : Int) < (x.fns.length : Int)) = false := by simp
          have HEf : Hid (x.fns = y.fns) := list_ext HLf.out fun i a b hx hy => HE.out i a b (List.getElem?_eq_some_iff.1 hx).1 hx hy
          obtain rfl : res = true := HR.out.2 (by
            obtain ⟨xg, xf⟩ := x
            obtain ⟨yg, yf⟩ := y
            have h1 : xg = yg := HEg.out
            have h2 : xf = yf := HEf.out
            rw [h1, h2])
          clear hk HE
          go_wp2_with fail
          go_ret
          exact ⟨⟨true, rfl, by simpa using HR.out⟩, HB.out⟩
        | succ gk =>
          have hka : k < x.fns.length := by omega
          have hkb : k < y.fns.length := by have := HLf.out; omega
          obtain ⟨b1, o1, c1', t, e1, _, hlt1, hft, p0, p1, p2, p3, p4⟩ := (HX.out.below HB.out).fn hka
          obtain ⟨b2, o2, c2', t', e2, _, hlt2, hft', q0, q1, q2, q3, q4⟩ := (HY.out.below HB.out).fn hkb
          injection e1 with ea1 _ ec1
          injection e2 with ea2 _ ec2
          subst ea1 ec1 ea2 ec2
          have HG1 : Hid (x.fns[k]? = some x.fns[k]) := List.getElem?_eq_getElem hka
          have HG2 : Hid (y.fns[k]? = some y.fns[k]) := List.getElem?_eq_getElem hkb
          have hfsm := HSx.out.fns _ (List.getElem_mem hka)
          generalize x.fns[k] = f at *
          generalize y.fns[k] = f' at *
          obtain ⟨Ap, cp, Al, cl, Ac, cc, rfl⟩ := trip_slices hft
          obtain ⟨Ap', cp', Al', cl', Ac', cc', rfl⟩ := trip_slices hft'
          simp only at p0 p1 p2 p3 p4 q0 q1 q2 q3 q4
          have HFT := Lib.hid hft
          have HFT' := Lib.hid hft'
          have nc1 := hfsm.nc
          have HFSm := Lib.hid hfsm
          have hbad : f ≠ f' → res = false := fun h => res_false HR.out (fun e => h (by
            have g1 := HG1.out
            rw [e, HG2.out] at g1
            injection g1 with g1
            exact g1.symm))
          have HBad := Lib.hid hbad
          have hki : (k : Int) < (x.fns.length : Int) := by omega
          have hkj : (k : Int) < (y.fns.length : Int) := by omega
          have HLT := Lib.hid hlt2
          have HQ := Lib.hid (And.intro q0 (And.intro q1 (And.intro q2 (And.intro q3 q4))))
          clear hft hft' hfsm hbad hlt1 hlt2 q0 q1 q2 q3 q4
          have HKA := Lib.hid (Blk.new wr 54 (fnBox f (.slice Ap f.params.length cp, .slice Al f.locals.length cl, .slice Ac f.code.length cc)))
          have hb1 : Below wr.heap.size wr (wr.alloc (.cells (fnBox f (.slice Ap f.params.length cp, .slice Al f.locals.length cl, .slice Ac f.code.length cc)) 54)) := (Below.refl _ _).alloc (Nat.le_refl _) _
          have HQ := Lib.hid (And.intro ((hb1.cell (p := ⟨b2, o2 + k * 5, none⟩) HLT.out).trans HQ.out.1) (And.intro ((hb1.cell (p := ⟨b2, o2 + k * 5 + 1, none⟩) HLT.out).trans HQ.out.2.1) (And.intro ((hb1.cell (p := ⟨b2, o2 + k * 5 + 2, none⟩) HLT.out).trans HQ.out.2.2.1) (And.intro ((hb1.cell (p := ⟨b2, o2 + k * 5 + 3, none⟩) HLT.out).trans HQ.out.2.2.2.1) ((hb1.cell (p := ⟨b2, o2 + k * 5 + 4, none⟩) HLT.out).trans HQ.out.2.2.2.2)))))
          have HFT := Lib.hid (HFT.out.below hb1)
          have HFT' := Lib.hid (HFT'.out.below hb1)
          have HB := Lib.hid (HB.out.trans (hb1.mono HB.out.size))
          have HKx := Lib.hid (HKx.out.alloc (.cells (fnBox f (.slice Ap f.params.length cp, .slice Al f.locals.length cl, .slice Ac f.code.length cc)) 54))
          have HKy := Lib.hid (HKy.out.alloc (.cells (fnBox f (.slice Ap f.params.length cp, .slice Al f.locals.length cl, .slice Ac f.code.length cc)) 54))
          clear hb1
          go_upto_region 12 with (fail)
          generalize wr.alloc (.cells (fnBox f (.slice Ap f.params.length cp, .slice Al f.locals.length cl, .slice Ac f.code.length cc)) 54) = wa at *
          generalize wr.heap.size = gA at *
          clear p0 p1 p2 p3 p4 x1 y1 HLT
          have y1 := HKy.out.cell 1
          obtain ⟨q0, q1, q2, q3, q4⟩ := HQ.out
          have HKB := Lib.hid (Blk.new wa 54 (fnBox f' (.slice Ap' f'.params.length cp', .slice Al' f'.locals.length cl', .slice Ac' f'.code.length cc')))
          have hb2 : Below wa.heap.size wa (wa.alloc (.cells (fnBox f' (.slice Ap' f'.params.length cp', .slice Al' f'.locals.length cl', .slice Ac' f'.code.length cc')) 54)) := (Below.refl _ _).alloc (Nat.le_refl _) _
          have HFT := Lib.hid (HFT.out.below hb2)
          have HFT' := Lib.hid (HFT'.out.below hb2)
          have HB := Lib.hid (HB.out.trans (hb2.mono HB.out.size))
          have HKA := Lib.hid (HKA.out.below hb2 HKA.out.lt)
          have HKx := Lib.hid (HKx.out.below hb2 HKx.out.lt)
          have HKy := Lib.hid (HKy.out.below hb2 HKy.out.lt)
          clear hb2
          go_upto_region 13 with (fail)
          generalize wa.alloc (.cells (fnBox f' (.slice Ap' f'.params.length cp', .slice Al' f'.locals.length cl', .slice Ac' f'.code.length cc')) 54) = wb at *
          generalize wa.heap.size = gB at *
          clear y1 q0 q1 q2 q3 q4 HQ
          have p1 := HKA.out.cell 1
          have q1 := HKB.out.cell 1
          go_wp2_with fail
          refine (rsrow_c _ _ f.params f'.params wb HFT.out.params HFT'.out.params HFSm.out.np).mono ?_
          rintro e wc ⟨rfl, hbc⟩
          have HFT := Lib.hid (HFT.out.below hbc)
          have HFT' := Lib.hid (HFT'.out.below hbc)
          have HB := Lib.hid (HB.out.trans (hbc.mono HB.out.size))
          have HKA := Lib.hid (HKA.out.below hbc HKA.out.lt)
          have HKB := Lib.hid (HKB.out.below hbc HKB.out.lt)
          have HKx := Lib.hid (HKx.out.below hbc HKx.out.lt)
          have HKy := Lib.hid (HKy.out.below hbc HKy.out.lt)
          generalize hr1 : decide (f.params = f'.params) = r1
          have HR1 := Lib.hid hr1
          clear hbc hr1 p1 q1
          have p3 := HKA.out.cell 3
          have q3 := HKB.out.cell 3
          go_wp2_with fail
          refine (rsrow_c _ _ f.locals f'.locals wc HFT.out.locals HFT'.out.locals HFSm.out.nl).mono ?_
          rintro e wd ⟨rfl, hbd⟩
          have HFT := Lib.hid (HFT.out.below hbd)
          have HFT' := Lib.hid (HFT'.out.below hbd)
          have HB := Lib.hid (HB.out.trans (hbd.mono HB.out.size))
          have HKA := Lib.hid (HKA.out.below hbd HKA.out.lt)
          have HKB := Lib.hid (HKB.out.below hbd HKB.out.lt)
          have HKx := Lib.hid (HKx.out.below hbd HKx.out.lt)
          have HKy := Lib.hid (HKy.out.below hbd HKy.out.lt)
          generalize hr2 : decide (f.locals = f'.locals) = r2
          have HR2 := Lib.hid hr2
          clear hbd hr2 p3 q3
          have p0 := HKA.out.cell 0
          have q0 := HKB.out.cell 0
          have p2 := HKA.out.cell 2
          have q2 := HKB.out.cell 2
          have p4 := HKA.out.cell 4
          have q4 := HKB.out.cell 4
          by_cases hn : f.name = f'.name
          case neg =>
            have d0 : (f.name.toList == f'.name.toList) = false := str_ne hn
            obtain rfl : res = false := HBad.out (fun e => hn (by rw [e]))
            clear hn
            go_wp2_with fail
            go_ret
            exact ⟨⟨false, rfl, HR.out⟩, HB.out⟩
          case pos =>
          have d0 : (f.name.toList == f'.name.toList) = true := by rw [hn]; simp
          have HN := Lib.hid hn
          clear hn
          by_cases hrs : f.result = f'.result
          case neg =>
            have d1 : (f.result != f'.result) = true := by simp [hrs]
            obtain rfl : res = false := HBad.out (fun e => hrs (by rw [e]))
            clear hrs
            go_wp2_with fail
            go_ret
            exact ⟨⟨false, rfl, HR.out⟩, HB.out⟩
          case pos =>
          have d1 : (f.result != f'.result) = false := by simp [hrs]
          have HRs := Lib.hid hrs
          clear hrs
          cases r1 with
          | false =>
            obtain rfl : res = false := HBad.out (fun e => by have := HR1.out; rw [e] at this; simp at this)
            go_wp2_with fail
            go_ret
            exact ⟨⟨false, rfl, HR.out⟩, HB.out⟩
          | true =>
          cases r2 with
          | false =>
            obtain rfl : res = false := HBad.out (fun e => by have := HR2.out; rw [e] at this; simp at this)
            go_wp2_with fail
            go_ret
            exact ⟨⟨false, rfl, HR.out⟩, HB.out⟩
          | true =>
          by_cases hcl : f.code.length = f'.code.length
          case neg =>
            have d2 : ((f.code.length : Int) != (f'.code.length : Int)) = true := by simp; omega
            obtain rfl : res = false := HBad.out (fun e => hcl (by rw [e]))
            clear hcl
            go_wp2_with fail
            go_ret
            exact ⟨⟨false, rfl, HR.out⟩, HB.out⟩
          case pos =>
          have d2 : ((f.code.length : Int) != (f'.code.length : Int)) = false := by simp [hcl]
          have HCl := Lib.hid hcl
          clear hcl
          go_wp2_with fail
          go_loopg [11] f.code.length (fun gg s11 wr => ∃ j : Nat, j + gg = f.code.length ∧ s11 = .int .i64 (j : Int) ∧ Hid (∀ (i : Nat) (a b : InsR), i < j → f.code[i]? = some a → f'.code[i]? = some b → a = b) ∧ Hid (Below wd.heap.size wd wr))
          case atStart => exact ⟨0, by omega, rfl, fun i a b hi => absurd hi (by omega), Below.refl _ _⟩
          case round =>
            clear d0 d1 d2 p0 q0 p2 q2 p4 q4
            obtain ⟨j, hj, rfl, HEj, HBj⟩ := hrel
            have HKA2 := Lib.hid (HKA.out.below HBj.out HKA.out.lt)
            have HKB2 := Lib.hid (HKB.out.below HBj.out HKB.out.lt)
            have p4 := HKA2.out.cell 4
            have q4 := HKB2.out.cell 4
            cases gk with
            | zero =>
              have ek : j = f.code.length := by omega
              subst ek
              have hd : decide ((f.code.length : Int) < (f.code.length : Int)) = false := by simp
              have HFF : Hid (f = f') := by
                show _ = _
                have h1 : f.params = f'.params := by simpa using HR1.out
                have h2 : f.locals = f'.locals := by simpa using HR2.out
                have h3 : f.code = f'.code := list_ext HCl.out fun i a b hx hy => HEj.out i a b (List.getElem?_eq_some_iff.1 hx).1 hx hy
                have h4 := HN.out
                have h5 := HRs.out
                obtain ⟨n1, n2, n3, n4, n5⟩ := f
                obtain ⟨m1, m2, m3, m4, m5⟩ := f'
                simp only at h1 h2 h3 h4 h5
                rw [h1, h2, h3, h4, h5]
              have HKx2 := Lib.hid (HKx.out.below HBj.out HKx.out.lt)
              have HKy2 := Lib.hid (HKy.out.below HBj.out HKy.out.lt)
              have HB2 := Lib.hid (HB.out.trans (HBj.out.mono HB.out.size))
              clear hj HEj
              go_wp2_with fail
              go_roundg gk
              case measure => omega
              case rel =>
                refine ⟨k + 1, by omega, by push_cast; rfl, fun i a b hi ha hb => ?_, HB2, HKx2, HKy2⟩
                rcases Nat.lt_or_ge i k with h | h
                · exact HE.out i a b h ha hb
                · obtain rfl : i = k := by omega
                  have g1 := HG1.out
                  have g2 := HG2.out
                  rw [g1] at ha
                  rw [g2] at hb
                  injection ha with ha
                  injection hb with hb
                  rw [← ha, ← hb]; exact HFF.out
            | succ gj =>
              have hja : j < f.code.length := by omega
              have hjb : j < f'.code.length := by have := HCl.out; omega
              obtain ⟨b3, o3, c3', e3, _, hlt3, u1, u2, u3⟩ := (HFT.out.code.below HBj.out).ins hja
              obtain ⟨b4, o4, c4', e4, _, hlt4, v1, v2, v3⟩ := (HFT'.out.code.below HBj.out).ins hjb
              simp only at e3 e4
              injection e3 with ea3 _ ec3
              injection e4 with ea4 _ ec4
              subst ea3 ec3 ea4 ec4
              have HI1 : Hid (f.code[j]? = some f.code[j]) := List.getElem?_eq_getElem hja
              have HI2 : Hid (f'.code[j]? = some f'.code[j]) := List.getElem?_eq_getElem hjb
              generalize f.code[j] = a at *
              generalize f'.code[j] = b at *
              obtain ⟨a1, a2, a3⟩ := a
              obtain ⟨b1', b2', b3'⟩ := b
              simp only at u1 u2 u3 v1 v2 v3
              clear hlt3 hlt4
              have hji : (j : Int) < (f.code.length : Int) := by omega
              have hjj : (j : Int) < (f'.code.length : Int) := by omega
              have e1 := guard50
              by_cases hab : a1 = b1' ∧ a2 = b2' ∧ a3 = b3'
              · have e2 := neq50_no a1 a2 a3 b1' b2' b3' hab
                have HAB : Hid (InsR.mk a1 a2 a3 = InsR.mk b1' b2' b3') := by show _ = _; rw [hab.1, hab.2.1, hab.2.2]
                clear hab
                go_wp2_with fail
                go_quiet (fail)
                go_wp2_with fail
                go_roundg gj
                case measure => omega
                case rel =>
                  refine ⟨j + 1, by omega, by push_cast; rfl, fun i x' y' hi hx hy => ?_, below_draw HBj.out _⟩
                  rcases Nat.lt_or_ge i j with h | h
                  · exact HEj.out i x' y' h hx hy
                  · obtain rfl : i = j := by omega
                    have g1 := HI1.out
                    have g2 := HI2.out
                    rw [g1] at hx
                    rw [g2] at hy
                    injection hx with hx
                    injection hy with hy
                    rw [← hx, ← hy]; exact HAB.out
              · have e2 := neq50_yes a1 a2 a3 b1' b2' b3' hab
                obtain rfl : res = false := HBad.out (fun e => hab (by
                  have g1 := HI1.out
                  rw [e, HI2.out] at g1
                  injection g1 with g1
                  injection g1 with h1 h2 h3
                  exact ⟨h1.symm, h2.symm, h3.symm⟩))
                have HB2 := Lib.hid (HB.out.trans (HBj.out.mono HB.out.size))
                clear hab
                go_wp2_with fail
                go_quiet (fail)
                go_wp2_with fail
                go_ret
                exact ⟨⟨false, rfl, HR.out⟩, below_draw HB2.out _⟩

end Go.Proofs.YtebdjahcahgafaaDoor

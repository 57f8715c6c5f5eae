/- The document's own look at types and variables: typed, types, globOk. The document's own look at functions: fnOk. The document's own look at images: Ok. -/
import Derived.Test.YtebdjahcahgafaaDoorINam
import Derived.Deep.DeepCutAuto
namespace Go.Proofs.YtebdjahcahgafaaDoor
open Go.RowKit

theorem rtyped_c (t : Int) (w : World) : Calls Tryd.prog 78 #[.int .i64 t] w fun e w' => e = .returned (.bool (typeK t)) ∧ w' = w := by
  unfold typeK
  by_cases h : 1 ≤ t
  · have d1 : decide (1 ≤ t) = true := decide_eq_true h
    rw [d1, Bool.true_and]
    clear h
    generalize hq : decide (t ≤ 4) = q
    go_enter Tryd.func78, Tryd.ntmps78
    go_wp2_with fail
    go_ret
    exact ⟨rfl, rfl⟩
  · have d1 : decide (1 ≤ t) = false := decide_eq_false h
    rw [d1, Bool.false_and]
    clear h
    go_enter Tryd.func78, Tryd.ntmps78
    go_wp2_with fail
    go_ret
    exact ⟨rfl, rfl⟩

set_option maxRecDepth 100000 in
theorem rtypes_c (v : Value) (l : List Int) (w : World) (hv : Shows w v 1 l.length (intsV l)) (hn : l.length ≤ 281474976710656) : Calls Tryd.prog 80 #[v] w fun e w' => e = .returned (.bool (l.all typeK)) ∧ w' = w := by
  have HV := Lib.hid hv
  obtain ⟨A, c, rfl, hnc⟩ := hv.slice
  clear hv
  go_enter Tryd.func80, Tryd.ntmps80
  go_wp2_with fail
  go_loopg [3, 4] l.length (fun gg s3 _ wr => ∃ k : Nat, k + gg = l.length ∧ s3 = .int .i64 (k : Int) ∧ Hid (∀ i x, i < k → l[i]? = some x → typeK x = true) ∧ wr = w)
  case atStart => exact ⟨0, by omega, rfl, fun i x hi => absurd hi (by omega), rfl⟩
  case round =>
    obtain ⟨k, hk, rfl, HK, rfl⟩ := hrel
    cases gk with
    | zero =>
      have ek : k = l.length := by omega
      subst ek
      have hd : decide ((l.length : Int) < (l.length : Int)) = false := by simp
      clear hk
      go_wp2_with fail
      go_ret
      refine ⟨?_, rfl⟩
      have : l.all typeK = true := by
        rw [List.all_eq_true]
        intro x hx
        obtain ⟨i, hi, e⟩ := List.getElem_of_mem hx
        exact HK.out i x hi (by rw [List.getElem?_eq_getElem hi, e])
      rw [this]
      rfl
    | succ gk =>
      have hkn : k < l.length := by omega
      obtain ⟨b, o, c', e0, _, hlt, hcell⟩ := HV.out.int hkn
      injection e0 with e1 _ e2
      subst e1 e2
      have HG : Hid (l[k]? = some l[k]) := List.getElem?_eq_getElem hkn
      have HM : Hid (l[k] ∈ l) := List.getElem_mem hkn
      have HC := Lib.hid (rtyped_c l[k] wr)
      generalize l[k] = x at *
      generalize hq : typeK x = q at *
      have HQ := Lib.hid hq
      clear hq hlt
      go_wp2_with fail
      refine HC.out.mono ?_
      rintro e w1 ⟨rfl, rfl⟩
      cases q with
      | true =>
        go_wp2_with fail
        go_roundg gk
        case measure => omega
        case rel =>
          refine ⟨k + 1, by omega, by push_cast; rfl, fun i y hi hy => ?_, rfl⟩
          rcases Nat.lt_or_ge i k with h | h
          · exact HK.out i y h hy
          · obtain rfl : i = k := by omega
            have := HG.out
            rw [this] at hy
            injection hy with hy
            rw [← hy]
            exact HQ.out
      | false =>
        go_wp2_with fail
        go_ret
        refine ⟨?_, rfl⟩
        have : l.all typeK = false := by
          rw [← Bool.not_eq_true, List.all_eq_true]
          intro h
          have := h x HM.out
          rw [HQ.out] at this
          cases this
        rw [this]
        rfl

set_option maxRecDepth 100000 in
theorem rglobok_c (g : GlobR) (w : World) : Calls Tryd.prog 49 #[globV g] w fun e w' => e = .returned (.bool (globK g)) ∧ Below w.heap.size w w' := by
  obtain ⟨t, z, v⟩ := g
  have HC := Lib.hid (fun w => rtyped_c t w)
  have HB := Lib.hid (fun (o : Obj) => (Below.refl w.heap.size w).alloc (Nat.le_refl _) o)
  unfold globK
  simp only
  generalize hres : (typeK t && (!decide (z < 0) && (!decide (256 < z) && (if 0 < z ∨ t = 4 then v == 0 else if t = 3 then (v == 0 || v == 1) else true)))) = res
  generalize typeK t = bt at *
  have HR := Lib.hid hres
  clear hres
  go_enter Tryd.func49, Tryd.ntmps49
  go_wp2_with fail
  refine (HC.out _).mono ?_
  rintro e w1 ⟨rfl, rfl⟩
  clear HC
  have HB := Lib.hid (HB.out (.cells #[.int .i64 t, .int .i64 z, .int .i64 v] 48))
  cases bt with
  | false =>
    obtain rfl : res = false := HR.out.symm
    go_wp2_with fail
    go_ret
    exact ⟨rfl, HB.out⟩
  | true =>
    by_cases h1 : z < 0
    · have d1 : decide (z < 0) = true := decide_eq_true h1
      obtain rfl : res = false := by rw [← HR.out]; simp [h1]
      clear h1 HR
      go_wp2_with fail
      go_ret
      exact ⟨rfl, HB.out⟩
    have d1 : decide (z < 0) = false := decide_eq_false h1
    by_cases h2 : 256 < z
    · have d2 : decide (256 < z) = true := decide_eq_true h2
      obtain rfl : res = false := by rw [← HR.out]; simp [h2]
      clear h1 h2 HR
      go_wp2_with fail
      go_ret
      exact ⟨rfl, HB.out⟩
    have d2 : decide (256 < z) = false := decide_eq_false h2
    have HR2 : Hid ((if 0 < z ∨ t = 4 then v == 0 else if t = 3 then (v == 0 || v == 1) else true) = res) := by
      show _ = _
      rw [← HR.out]; simp [h1, h2]
    clear HR h1 h2
    by_cases h3 : 0 < z
    · have d3 : decide (0 < z) = true := decide_eq_true h3
      have d4 : (v == 0) = res := by rw [← HR2.out, if_pos (.inl h3)]
      clear HR2 h3
      go_wp2_with fail
      go_ret
      exact ⟨rfl, HB.out⟩
    have d3 : decide (0 < z) = false := decide_eq_false h3
    by_cases h4 : t = 4
    · have d5 : (t == 4) = true := by simp [h4]
      have d4 : (v == 0) = res := by rw [← HR2.out, if_pos (.inr h4)]
      clear HR2 h3 h4
      go_wp2_with fail
      go_ret
      exact ⟨rfl, HB.out⟩
    have d5 : (t == 4) = false := by simp [h4]
    have HR3 : Hid ((if t = 3 then (v == 0 || v == 1) else true) = res) := by
      show _ = _
      rw [← HR2.out, if_neg (show ¬ (0 < z ∨ t = 4) from fun h => h.elim h3 h4)]
    clear HR2 h3 h4
    by_cases h6 : t = 3
    · have d6 : (t == 3) = true := by simp [h6]
      have HR4 : Hid ((v == 0 || v == 1) = res) := by
        show _ = _
        rw [← HR3.out, if_pos h6]
      clear HR3 h6
      by_cases h7 : v = 0
      · have d7 : (v == 0) = true := by simp [h7]
        obtain rfl : res = true := by rw [← HR4.out]; simp [h7]
        clear HR4 h7
        go_wp2_with fail
        go_ret
        exact ⟨rfl, HB.out⟩
      · have d7 : (v == 0) = false := by simp [h7]
        have d8 : (v == 1) = res := by rw [← HR4.out, d7, Bool.false_or]
        clear HR4 h7
        go_wp2_with fail
        go_ret
        exact ⟨rfl, HB.out⟩
    · have d6 : (t == 3) = false := by simp [h6]
      obtain rfl : res = true := by rw [← HR3.out, if_neg h6]
      clear HR3 h6
      go_wp2_with fail
      go_ret
      exact ⟨rfl, HB.out⟩

/-- In the midst of a look at a function: what lies in its box. -/
abbrev fnBox (f : FnR) (t : Trip) : Array Value := #[.string f.name, t.1, .int .i64 f.result, t.2.1, t.2.2]

structure FnR.small (f : FnR) : Prop where
  np : f.params.length ≤ 281474976710656
  nl : f.locals.length ≤ 281474976710656
  nc : f.code.length ≤ 281474976710656
  nn : f.name.size ≤ 281474976710656

theorem trip_slices {w : World} {t : Trip} {f : FnR} (h : FnShows w t f) : ∃ A1 c1 A2 c2 A3 c3, t = (.slice A1 f.params.length c1, .slice A2 f.locals.length c2, .slice A3 f.code.length c3) := by
  obtain ⟨t1, t2, t3⟩ := t
  obtain ⟨A1, c1, e1, _⟩ := h.params.slice
  obtain ⟨A2, c2, e2, _⟩ := h.locals.slice
  obtain ⟨A3, c3, e3, _⟩ := h.code.slice
  simp only at e1 e2 e3
  subst e1 e2 e3
  exact ⟨A1, c1, A2, c2, A3, c3, rfl⟩

theorem take_eq_iff {l m : List Int} (h : l.length ≤ m.length) : m.take l.length = l ↔ ∀ (i : Nat) (x y : Int), l[i]? = some x → m[i]? = some y → x = y := by
  constructor
  · intro e i x y hx hy
    have hi : i < l.length := (List.getElem?_eq_some_iff.1 hx).1
    have : (m.take l.length)[i]? = some y := by rw [List.getElem?_take, if_pos hi, hy]
    rw [e, hx] at this
    injection this
  · intro hall
    apply List.ext_getElem?
    intro i
    rw [List.getElem?_take]
    by_cases hi : i < l.length
    · rw [if_pos hi, List.getElem?_eq_getElem hi, List.getElem?_eq_getElem (by omega)]
      exact congrArg some (hall i _ _ (List.getElem?_eq_getElem hi) (List.getElem?_eq_getElem (by omega))).symm
    · rw [if_neg hi, List.getElem?_eq_none (by omega)]

set_option maxHeartbeats 4000000 in
set_option maxRecDepth 100000 in
theorem rfnok_c (f : FnR) (t : Trip) (w : World) (h : FnShows w t f) (hs : f.small) : Calls Tryd.prog 50 #[fnV f t] w fun e w' => e = .returned (.bool (fnK f)) ∧ Below w.heap.size w w' := by
  have HF := Lib.hid h
  obtain ⟨A1, c1, A2, c2, A3, c3, rfl⟩ := trip_slices h
  clear h
  obtain ⟨np, nl, nc, nn⟩ := hs
  have HN := Lib.hid (fun w => rname_c f.name w (by unfold maxLen; omega))
  have HT1 := Lib.hid (fun w1 (hb : Below w.heap.size w w1) => rtypes_c _ f.params w1 (HF.out.params.below hb) np)
  have HT2 := Lib.hid (fun w1 (hb : Below w.heap.size w w1) => rtypes_c _ f.locals w1 (HF.out.locals.below hb) nl)
  have HTR := Lib.hid (fun w => rtyped_c f.result w)
  have HB0 := Lib.hid (fun (o : Obj) => (Below.refl w.heap.size w).alloc (Nat.le_refl _) o)
  have HRES : Hid (fnK f = fnK f) := rfl
  generalize hfk : fnK f = res at HRES ⊢
  have HR := Lib.hid hfk
  clear hfk HRES nn
  go_enter Tryd.func50, Tryd.ntmps50
  go_wp2_with fail
  have HK0 := Lib.hid (Blk.new w 54 (fnBox f (.slice A1 f.params.length c1, .slice A2 f.locals.length c2, .slice A3 f.code.length c3)))
  have HB := Lib.hid (HB0.out (.cells (fnBox f (.slice A1 f.params.length c1, .slice A2 f.locals.length c2, .slice A3 f.code.length c3)) 54))
  generalize w.alloc (.cells (fnBox f (.slice A1 f.params.length c1, .slice A2 f.locals.length c2, .slice A3 f.code.length c3)) 54) = w0 at *
  refine (HN.out w0).mono ?_
  rintro e w1 ⟨rfl, hb⟩
  have HB := Lib.hid (HB.out.trans (hb.mono HB.out.size))
  have HK := Lib.hid (HK0.out.below hb HK0.out.lt)
  clear hb HK0 HN HB0
  have k0 := HK.out.cell 0
  have k1 := HK.out.cell 1
  have k2 := HK.out.cell 2
  have k3 := HK.out.cell 3
  have k4 := HK.out.cell 4
  unfold fnK headK at HR
  generalize nameK f.name = bn at *
  go_wp2_with fail
  refine (HT1.out w1 HB.out).mono ?_
  rintro e w2 ⟨rfl, rfl⟩
  clear HT1
  generalize f.params.all typeK = b1 at *
  go_wp2_with fail
  refine (HT2.out w2 HB.out).mono ?_
  rintro e w3 ⟨rfl, rfl⟩
  clear HT2
  generalize f.locals.all typeK = b2 at *
  go_wp2_with fail
  refine (HTR.out w3).mono ?_
  rintro e w4 ⟨rfl, rfl⟩
  clear HTR
  generalize typeK f.result = bt at *
  generalize hhb : (bn && (b1 && (b2 && ((bt || f.result == 0) && (decide (f.params.length ≤ 8) && (decide (f.locals.length ≤ 32) && (decide (f.params.length ≤ f.locals.length) && decide (f.code.length ≤ 32768)))))))) = hb at HR
  have HH := Lib.hid hhb
  clear hhb
  go_upto_region 5 with (fail)
  go_cut [67] (fun s67 wx => s67 = .bool (!hb) ∧ wx = w4)
  case first =>
    cases bn with
    | false =>
      obtain rfl : hb = false := HH.out.symm
      go_wp2_with fail
      go_meet
      exact ⟨rfl, rfl⟩
    | true =>
    cases b1 with
    | false =>
      obtain rfl : hb = false := HH.out.symm
      go_wp2_with fail
      go_meet
      exact ⟨rfl, rfl⟩
    | true =>
    cases b2 with
    | false =>
      obtain rfl : hb = false := HH.out.symm
      go_wp2_with fail
      go_meet
      exact ⟨rfl, rfl⟩
    | true =>
    have HH2 : Hid (((bt || f.result == 0) && (decide (f.params.length ≤ 8) && (decide (f.locals.length ≤ 32) && (decide (f.params.length ≤ f.locals.length) && decide (f.code.length ≤ 32768))))) = hb) := HH.out
    clear HH
    generalize f.params.length = a1 at *
    generalize f.locals.length = a2 at *
    generalize f.code.length = a3 at *
    cases bt with
    | true =>
      rw [Bool.true_or, Bool.true_and] at HH2
      by_cases h0 : (8 : Int) < (a1 : Int)
      · have d0 : decide ((8 : Int) < (a1 : Int)) = true := decide_eq_true h0
        obtain rfl : hb = false := by rw [← HH2.out, decide_eq_false (show ¬ a1 ≤ 8 by omega)]; simp
        clear HH2
        go_wp2_with fail
        go_meet
        exact ⟨rfl, rfl⟩
      have d0 : decide ((8 : Int) < (a1 : Int)) = false := decide_eq_false h0
      by_cases h1 : (32 : Int) < (a2 : Int)
      · have d1 : decide ((32 : Int) < (a2 : Int)) = true := decide_eq_true h1
        obtain rfl : hb = false := by rw [← HH2.out, decide_eq_false (show ¬ a2 ≤ 32 by omega)]; simp
        clear HH2
        go_wp2_with fail
        go_meet
        exact ⟨rfl, rfl⟩
      have d1 : decide ((32 : Int) < (a2 : Int)) = false := decide_eq_false h1
      by_cases h2 : (a2 : Int) < (a1 : Int)
      · have d2 : decide ((a2 : Int) < (a1 : Int)) = true := decide_eq_true h2
        obtain rfl : hb = false := by rw [← HH2.out, decide_eq_false (show ¬ a1 ≤ a2 by omega)]; simp
        clear HH2
        go_wp2_with fail
        go_meet
        exact ⟨rfl, rfl⟩
      have d2 : decide ((a2 : Int) < (a1 : Int)) = false := decide_eq_false h2
      by_cases h3 : (32768 : Int) < (a3 : Int)
      · have d3 : decide ((32768 : Int) < (a3 : Int)) = true := decide_eq_true h3
        obtain rfl : hb = false := by rw [← HH2.out, decide_eq_false (show ¬ a3 ≤ 32768 by omega)]; simp
        clear HH2
        go_wp2_with fail
        go_meet
        exact ⟨rfl, rfl⟩
      have d3 : decide ((32768 : Int) < (a3 : Int)) = false := decide_eq_false h3
      obtain rfl : hb = true := by rw [← HH2.out, decide_eq_true (show a1 ≤ 8 by omega), decide_eq_true (show a2 ≤ 32 by omega), decide_eq_true (show a1 ≤ a2 by omega), decide_eq_true (show a3 ≤ 32768 by omega)]; rfl
      clear HH2
      go_wp2_with fail
      go_meet
      exact ⟨rfl, rfl⟩
    | false =>
      rw [Bool.false_or] at HH2
      by_cases hz : f.result = 0
      · have z1 : (f.result == 0) = true := by simp [hz]
        have z2 : (f.result != 0) = false := by simp [hz]
        rw [z1, Bool.true_and] at HH2
        clear hz z1
        by_cases h0 : (8 : Int) < (a1 : Int)
        · have d0 : decide ((8 : Int) < (a1 : Int)) = true := decide_eq_true h0
          obtain rfl : hb = false := by rw [← HH2.out, decide_eq_false (show ¬ a1 ≤ 8 by omega)]; simp
          clear HH2
          go_wp2_with fail
          go_meet
          exact ⟨rfl, rfl⟩
        have d0 : decide ((8 : Int) < (a1 : Int)) = false := decide_eq_false h0
        by_cases h1 : (32 : Int) < (a2 : Int)
        · have d1 : decide ((32 : Int) < (a2 : Int)) = true := decide_eq_true h1
          obtain rfl : hb = false := by rw [← HH2.out, decide_eq_false (show ¬ a2 ≤ 32 by omega)]; simp
          clear HH2
          go_wp2_with fail
          go_meet
          exact ⟨rfl, rfl⟩
        have d1 : decide ((32 : Int) < (a2 : Int)) = false := decide_eq_false h1
        by_cases h2 : (a2 : Int) < (a1 : Int)
        · have d2 : decide ((a2 : Int) < (a1 : Int)) = true := decide_eq_true h2
          obtain rfl : hb = false := by rw [← HH2.out, decide_eq_false (show ¬ a1 ≤ a2 by omega)]; simp
          clear HH2
          go_wp2_with fail
          go_meet
          exact ⟨rfl, rfl⟩
        have d2 : decide ((a2 : Int) < (a1 : Int)) = false := decide_eq_false h2
        by_cases h3 : (32768 : Int) < (a3 : Int)
        · have d3 : decide ((32768 : Int) < (a3 : Int)) = true := decide_eq_true h3
          obtain rfl : hb = false := by rw [← HH2.out, decide_eq_false (show ¬ a3 ≤ 32768 by omega)]; simp
          clear HH2
          go_wp2_with fail
          go_meet
          exact ⟨rfl, rfl⟩
        have d3 : decide ((32768 : Int) < (a3 : Int)) = false := decide_eq_false h3
        obtain rfl : hb = true := by rw [← HH2.out, decide_eq_true (show a1 ≤ 8 by omega), decide_eq_true (show a2 ≤ 32 by omega), decide_eq_true (show a1 ≤ a2 by omega), decide_eq_true (show a3 ≤ 32768 by omega)]; rfl
        clear HH2
        go_wp2_with fail
        go_meet
        exact ⟨rfl, rfl⟩
      · have z1 : (f.result == 0) = false := by simp [hz]
        have z2 : (f.result != 0) = true := by simp [hz]
        rw [z1, Bool.false_and] at HH2
        clear hz z1
        obtain rfl : hb = false := HH2.out.symm
        clear HH2
        go_wp2_with fail
        go_meet
        exact ⟨rfl, rfl⟩
  case rest =>
    obtain ⟨rfl, rfl⟩ := hcut
    cases hb with
    | false =>
      obtain rfl : res = false := HR.out.symm
      rw [show (!false) = true from rfl]
      go_wp2_with fail
      go_ret
      exact ⟨rfl, HB.out⟩
    | true =>
    have HR2 : Hid ((decide (f.locals.take f.params.length = f.params) && f.code.all insK) = res) := by show _ = _; rw [← HR.out, Bool.true_and]
    clear HR
    rw [show (!true) = false from rfl]
    have HPL : Hid (f.params.length ≤ f.locals.length) := by
      have := HH.out
      simp only [Bool.and_eq_true, decide_eq_true_eq] at this
      exact this.2.2.2.2.2.2.1
    clear HH
    clear k0 k1 k2 k3 k4
    have k1 := HK.out.cell 1
    go_wp2_with fail
    go_loopg [7] f.params.length (fun gg s7 wr => ∃ k : Nat, k + gg = f.params.length ∧ s7 = .int .i64 (k : Int) ∧ Hid (∀ (i : Nat) (x y : Int), i < k → f.params[i]? = some x → f.locals[i]? = some y → x = y) ∧ Hid (Below w.heap.size w wr) ∧ Hid (Blk wr w.heap.size 54 (fnBox f (.slice A1 f.params.length c1, .slice A2 f.locals.length c2, .slice A3 f.code.length c3))))
    case atStart => exact ⟨0, by omega, rfl, fun i x y hi => absurd hi (by omega), HB, HK⟩
    case round =>
      clear k1 HB HK
      obtain ⟨k, hk, rfl, HE, HB, HK⟩ := hrel
      have k1 := HK.out.cell 1
      cases gk with
      | zero =>
        have ek : k = f.params.length := by omega
        subst ek
        have HT : Hid (f.locals.take f.params.length = f.params) := (take_eq_iff HPL.out).2 fun i x y hx => HE.out i x y (List.getElem?_eq_some_iff.1 hx).1 hx
        have hd : decide ((f.params.length : Int) < (f.params.length : Int)) = false := by simp
        have HR3 : Hid (f.code.all insK = res) := by show _ = _; rw [← HR2.out, decide_eq_true HT.out, Bool.true_and]
        clear hk HE HR2 HT
        go_wp2_with fail
        go_loopg [8, 9] f.code.length (fun gg s8 _ wr => ∃ k : Nat, k + gg = f.code.length ∧ s8 = .int .i64 (k : Int) ∧ Hid (∀ (i : Nat) (x : InsR), i < k → f.code[i]? = some x → insK x = true) ∧ Hid (Below w.heap.size w wr) ∧ Hid (Blk wr w.heap.size 54 (fnBox f (.slice A1 f.params.length c1, .slice A2 f.locals.length c2, .slice A3 f.code.length c3))))
        case atStart => exact ⟨0, by omega, rfl, fun i x hi => absurd hi (by omega), HB, HK⟩
        case round =>
          clear k1 HB HK hd
          obtain ⟨k, hk, rfl, HE, HB, HK⟩ := hrel
          have k4 := HK.out.cell 4
          cases gk with
          | zero =>
            have ek : k = f.code.length := by omega
            subst ek
            have hd : decide ((f.code.length : Int) < (f.code.length : Int)) = false := by simp
            have HT : Hid (f.code.all insK = true) := by
              show _ = _
              rw [List.all_eq_true]
              intro x hx
              obtain ⟨i, hi, e⟩ := List.getElem_of_mem hx
              exact HE.out i x hi (by rw [List.getElem?_eq_getElem hi, e])
            obtain rfl : res = true := by rw [← HR3.out, HT.out]
            clear hk HE HR3 HT
            go_wp2_with fail
            go_ret
            exact ⟨rfl, HB.out⟩
          | succ gk =>
            have hkn : k < f.code.length := by omega
            obtain ⟨b3, o3, c3', e3, _, hlt3, q1, q2, q3⟩ := (HF.out.code.below HB.out).ins hkn
            simp only at e3
            injection e3 with ea3 _ ec3
            subst ea3 ec3
            have HG : Hid (f.code[k]? = some f.code[k]) := List.getElem?_eq_getElem hkn
            generalize f.code[k] = x at *
            obtain ⟨op, xa, xb⟩ := x
            simp only at q1 q2 q3
            have HB2 := Lib.hid (HB.out.alloc (by have := HB.out.size; omega) (.cells #[.int .i64 op, .int .i64 xa, .int .i64 xb] 50))
            have HK2 := Lib.hid (HK.out.alloc (.cells #[.int .i64 op, .int .i64 xa, .int .i64 xb] 50))
            have hbad : insK ⟨op, xa, xb⟩ = false → Hid (res = false) := by
              intro h
              show _ = _
              rw [← HR3.out, ← Bool.not_eq_true, List.all_eq_true]
              intro q
              have := q _ (List.mem_of_getElem? HG.out)
              rw [h] at this
              cases this
            have hgood : insK ⟨op, xa, xb⟩ = true → Hid (∀ (i : Nat) (x : InsR), i < k + 1 → f.code[i]? = some x → insK x = true) := by
              intro h i x hi hx
              rcases Nat.lt_or_ge i k with q | q
              · exact HE.out i x q hx
              · obtain rfl : i = k := by omega
                have := HG.out
                rw [this] at hx
                injection hx with hx
                rw [← hx]; exact h
            clear hlt3 HE HG HR3
            have hk1 : k + 1 + gk = f.code.length := by omega
            clear hk
            by_cases h0 : op < 1
            · have d0 : decide (op < 1) = true := decide_eq_true h0
              obtain rfl : res = false := (hbad (by simp [insK, h0])).out
              clear hbad hgood h0
              go_wp2_with fail
              go_ret
              exact ⟨rfl, HB2.out⟩
            have d0 : decide (op < 1) = false := decide_eq_false h0
            by_cases h1 : 33 < op
            · have d1 : decide (33 < op) = true := decide_eq_true h1
              obtain rfl : res = false := (hbad (by simp [insK, h1])).out
              clear hbad hgood h0 h1
              go_wp2_with fail
              go_ret
              exact ⟨rfl, HB2.out⟩
            have d1 : decide (33 < op) = false := decide_eq_false h1
            by_cases h2 : xb < 0
            · have d2 : decide (xb < 0) = true := decide_eq_true h2
              obtain rfl : res = false := (hbad (by simp [insK, h2])).out
              clear hbad hgood h0 h1 h2
              go_wp2_with fail
              go_ret
              exact ⟨rfl, HB2.out⟩
            have d2 : decide (xb < 0) = false := decide_eq_false h2
            by_cases h3 : 4 < xb
            · have d3 : decide (4 < xb) = true := decide_eq_true h3
              obtain rfl : res = false := (hbad (by simp [insK, h3])).out
              clear hbad hgood h0 h1 h2 h3
              go_wp2_with fail
              go_ret
              exact ⟨rfl, HB2.out⟩
            have d3 : decide (4 < xb) = false := decide_eq_false h3
            have HGO := hgood (by simp [insK, d0, d1, d2, d3])
            clear hbad hgood h0 h1 h2 h3
            go_wp2_with fail
            go_roundg gk
            case measure => omega
            case rel => exact ⟨k + 1, hk1, by push_cast; rfl, HGO, HB2, HK2⟩
      | succ gk =>
        have hkn : k < f.params.length := by omega
        have hkl : k < f.locals.length := Nat.lt_of_lt_of_le hkn HPL.out
        have k3 := HK.out.cell 3
        obtain ⟨b1, o1, c1', e1, _, hlt1, p1⟩ := (HF.out.params.below HB.out).int hkn
        obtain ⟨b2, o2, c2', e2, _, hlt2, p2⟩ := (HF.out.locals.below HB.out).int hkl
        simp only at e1 e2
        injection e1 with ea1 _ ec1
        injection e2 with ea2 _ ec2
        subst ea1 ec1 ea2 ec2
        have HG1 : Hid (f.params[k]? = some f.params[k]) := List.getElem?_eq_getElem hkn
        have HG2 : Hid (f.locals[k]? = some f.locals[k]) := List.getElem?_eq_getElem hkl
        generalize f.params[k] = x at *
        generalize f.locals[k] = y at *
        clear hlt1 hlt2
        by_cases hxy : x = y
        · have hn : (x != y) = false := by simp [hxy]
          have HX := Lib.hid hxy
          clear hxy
          go_wp2_with fail
          go_quiet (fail)
          go_wp2_with fail
          go_roundg gk
          case measure => omega
          case rel =>
            refine ⟨k + 1, by omega, by push_cast; rfl, fun i a b hi ha hb => ?_, below_draw HB.out _, HK.out⟩
            rcases Nat.lt_or_ge i k with h | h
            · exact HE.out i a b h ha hb
            · obtain rfl : i = k := by omega
              have g1 := HG1.out
              have g2 := HG2.out
              rw [g1] at ha
              rw [g2] at hb
              injection ha with ha
              injection hb with hb
              rw [← ha, ← hb]; exact HX.out
        · have hn : (x != y) = true := by simp [hxy]
          have HT : Hid (¬ f.locals.take f.params.length = f.params) := fun e => hxy ((take_eq_iff HPL.out).1 e k x y HG1.out HG2.out)
          obtain rfl : res = false := by rw [← HR2.out, decide_eq_false HT.out]; rfl
          clear hxy HR2
          go_wp2_with fail
          go_quiet (fail)
          go_wp2_with fail
          go_ret
          exact ⟨rfl, below_draw HB.out _⟩

structure ImgR.small (x : ImgR) : Prop where
  ng : x.globs.length ≤ 281474976710656
  nf : x.fns.length ≤ 281474976710656
  fns : ∀ f ∈ x.fns, f.small

set_option maxHeartbeats 4000000 in
set_option maxRecDepth 100000 in
theorem rok_c (gv fv : Value) (x : ImgR) (w : World) (h : ImgShows w gv fv x) (hs : x.small) : Calls Tryd.prog 25 #[imgV gv fv] w fun e w' => e = .returned (.bool (imgK x)) ∧ Below w.heap.size w w' := by
  have HI := Lib.hid h
  obtain ⟨A1, c1, rfl, _⟩ := h.globs.slice
  obtain ⟨_, ts, _, hf0, _⟩ := h
  obtain ⟨A2, c2, rfl, _⟩ := hf0.slice
  clear hf0
  obtain ⟨ng, nf, HS'⟩ := hs
  have HS := Lib.hid HS'
  clear HS'
  generalize hik : imgK x = res
  have HR := Lib.hid hik
  clear hik
  have HB0 := Lib.hid ((Below.refl w.heap.size w).alloc (Nat.le_refl _) (.cells #[.slice A1 x.globs.length c1, .slice A2 x.fns.length c2] 25))
  have HK0 := Lib.hid (Blk.new w 25 #[.slice A1 x.globs.length c1, .slice A2 x.fns.length c2])
  go_enter Tryd.func25, Tryd.ntmps25
  by_cases h1 : (64 : Int) < (x.globs.length : Int)
  · have d1 : decide ((64 : Int) < (x.globs.length : Int)) = true := decide_eq_true h1
    obtain rfl : res = false := by rw [← HR.out]; unfold imgK; rw [decide_eq_false (show ¬ x.globs.length ≤ 64 by omega)]; rfl
    clear h1 HR
    go_wp2_with fail
    go_ret
    exact ⟨rfl, HB0.out⟩
  have d1 : decide ((64 : Int) < (x.globs.length : Int)) = false := decide_eq_false h1
  by_cases h2 : (64 : Int) < (x.fns.length : Int)
  · have d2 : decide ((64 : Int) < (x.fns.length : Int)) = true := decide_eq_true h2
    obtain rfl : res = false := by rw [← HR.out]; unfold imgK; rw [decide_eq_false (show ¬ x.fns.length ≤ 64 by omega)]; simp
    clear h1 h2 HR
    go_wp2_with fail
    go_ret
    exact ⟨rfl, HB0.out⟩
  have d2 : decide ((64 : Int) < (x.fns.length : Int)) = false := decide_eq_false h2
  have HR2 : Hid ((x.globs.all globK && x.fns.all fnK) = res) := by
    show _ = _
    rw [← HR.out]; unfold imgK
    rw [decide_eq_true (show x.globs.length ≤ 64 by omega), decide_eq_true (show x.fns.length ≤ 64 by omega)]
    rfl
  clear h1 h2 HR
  go_wp2_with fail
  generalize w.alloc (.cells #[.slice A1 x.globs.length c1, .slice A2 x.fns.length c2] 25) = w0 at *
  go_loopg [3, 4] x.globs.length (fun gg s3 _ wr => ∃ k : Nat, k + gg = x.globs.length ∧ s3 = .int .i64 (k : Int) ∧ Hid (∀ (i : Nat) (g : GlobR), i < k → x.globs[i]? = some g → globK g = true) ∧ Hid (Below w.heap.size w wr) ∧ Hid (Blk wr w.heap.size 25 #[.slice A1 x.globs.length c1, .slice A2 x.fns.length c2]))
  case atStart => exact ⟨0, by omega, rfl, fun i x hi => absurd hi (by omega), HB0, HK0⟩
  case round =>
    clear d1 d2 HB0 HK0
    obtain ⟨k, hk, rfl, HE, HB, HK⟩ := hrel
    have k0 := HK.out.cell 0
    cases gk with
    | zero =>
      have ek : k = x.globs.length := by omega
      subst ek
      have hd : decide ((x.globs.length : Int) < (x.globs.length : Int)) = false := by simp
      have HR3 : Hid (x.fns.all fnK = res) := by
        show _ = _
        have : x.globs.all globK = true := by
          rw [List.all_eq_true]
          intro g hg
          obtain ⟨i, hi, e⟩ := List.getElem_of_mem hg
          exact HE.out i g hi (by rw [List.getElem?_eq_getElem hi, e])
        rw [← HR2.out, this, Bool.true_and]
      clear hk HE HR2
      go_wp2_with fail
      go_loopg [5, 6] x.fns.length (fun gg s5 _ wr => ∃ k : Nat, k + gg = x.fns.length ∧ s5 = .int .i64 (k : Int) ∧ Hid (∀ (i : Nat) (f : FnR), i < k → x.fns[i]? = some f → fnK f = true) ∧ Hid (Below w.heap.size w wr) ∧ Hid (Blk wr w.heap.size 25 #[.slice A1 x.globs.length c1, .slice A2 x.fns.length c2]))
      case atStart => exact ⟨0, by omega, rfl, fun i x hi => absurd hi (by omega), HB, HK⟩
      case round =>
        clear k0 HB HK hd
        obtain ⟨k, hk, rfl, HE, HB, HK⟩ := hrel
        have k1 := HK.out.cell 1
        cases gk with
        | zero =>
          have ek : k = x.fns.length := by omega
          subst ek
          have hd : decide ((x.fns.length : Int) < (x.fns.length : Int)) = false := by simp
          obtain rfl : res = true := by
            have : x.fns.all fnK = true := by
              rw [List.all_eq_true]
              intro g hg
              obtain ⟨i, hi, e⟩ := List.getElem_of_mem hg
              exact HE.out i g hi (by rw [List.getElem?_eq_getElem hi, e])
            rw [← HR3.out, this]
          clear hk HE HR3
          go_wp2_with fail
          go_ret
          exact ⟨rfl, HB.out⟩
        | succ gk =>
          have hkn : k < x.fns.length := by omega
          obtain ⟨b, o, c, t, e0, _, hlt, hfs, q0, q1, q2, q3, q4⟩ := (HI.out.below HB.out).fn hkn
          injection e0 with e1 _ e2
          subst e1 e2
          have HG : Hid (x.fns[k]? = some x.fns[k]) := List.getElem?_eq_getElem hkn
          have HC := Lib.hid (rfnok_c x.fns[k] t wr hfs (HS.out _ (List.getElem_mem hkn)))
          generalize x.fns[k] = f at *
          obtain ⟨t1, t2, t3⟩ := t
          simp only at q0 q1 q2 q3 q4
          clear hlt hfs
          go_wp2_with fail
          refine HC.out.mono ?_
          rintro e w1 ⟨rfl, hb⟩
          have HB := Lib.hid (HB.out.trans (hb.mono HB.out.size))
          have HK := Lib.hid (HK.out.below hb HK.out.lt)
          clear hb HC q0 q1 q2 q3 q4 k1
          generalize hq : fnK f = q at *
          have HQ := Lib.hid hq
          clear hq
          cases q with
          | true =>
            go_wp2_with fail
            go_roundg gk
            case measure => omega
            case rel =>
              refine ⟨k + 1, by omega, by push_cast; rfl, fun i y hi hy => ?_, HB, HK⟩
              rcases Nat.lt_or_ge i k with h | h
              · exact HE.out i y h hy
              · obtain rfl : i = k := by omega
                have := HG.out
                rw [this] at hy
                injection hy with hy
                rw [← hy]; exact HQ.out
          | false =>
            obtain rfl : res = false := by
              rw [← HR3.out, ← Bool.not_eq_true, List.all_eq_true]
              intro h
              have := h f (List.mem_of_getElem? HG.out)
              rw [HQ.out] at this
              cases this
            go_wp2_with fail
            go_ret
            exact ⟨rfl, HB.out⟩
    | succ gk =>
      have hkn : k < x.globs.length := by omega
      obtain ⟨b, o, c, e0, _, hlt, q0, q1, q2⟩ := (HI.out.globs.below HB.out).glob hkn
      injection e0 with e1 _ e2
      subst e1 e2
      have HG : Hid (x.globs[k]? = some x.globs[k]) := List.getElem?_eq_getElem hkn
      have HC := Lib.hid (rglobok_c x.globs[k] wr)
      generalize x.globs[k] = g at *
      clear hlt
      go_wp2_with fail
      refine HC.out.mono ?_
      rintro e w1 ⟨rfl, hb⟩
      have HB := Lib.hid (HB.out.trans (hb.mono HB.out.size))
      have HK := Lib.hid (HK.out.below hb HK.out.lt)
      clear hb HC q0 q1 q2 k0
      generalize hq : globK g = q at *
      have HQ := Lib.hid hq
      clear hq
      cases q with
      | true =>
        go_wp2_with fail
        go_roundg gk
        case measure => omega
        case rel =>
          refine ⟨k + 1, by omega, by push_cast; rfl, fun i y hi hy => ?_, HB, HK⟩
          rcases Nat.lt_or_ge i k with h | h
          · exact HE.out i y h hy
          · obtain rfl : i = k := by omega
            have := HG.out
            rw [this] at hy
            injection hy with hy
            rw [← hy]; exact HQ.out
      | false =>
        obtain rfl : res = false := by
          have : x.globs.all globK = false := by
            rw [← Bool.not_eq_true, List.all_eq_true]
            intro h
            have := h g (List.mem_of_getElem? HG.out)
            rw [HQ.out] at this
            cases this
          rw [← HR2.out, this, Bool.false_and]
        go_wp2_with fail
        go_ret
        exact ⟨rfl, HB.out⟩

end Go.Proofs.YtebdjahcahgafaaDoor

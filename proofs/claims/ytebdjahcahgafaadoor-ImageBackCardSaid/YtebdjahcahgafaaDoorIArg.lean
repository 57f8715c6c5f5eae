/- An image that came in, opened. -/
import Derived.Test.YtebdjahcahgafaaDoorICopy
import Derived.Test.YtebdjahcahgafaaDoorDr
import Derived.Lib.SmallJoins
import Derived.Deep.Slices
import Derived.SizedLaws
namespace Go.Proofs.YtebdjahcahgafaaDoor
open Go.ChangeShapes Go.WideShapes Go.ChangeAt Go.RowKit Go.Joins Go.Deep

theorem ci3 : Tryd.prog.cellsOf 3 = 1 := by kernel_rfl
theorem ci9 : Tryd.prog.cellsOf 9 = 1 := by kernel_rfl
theorem ci22 : Tryd.prog.cellsOf 22 = 1 := by kernel_rfl
theorem ci23 : Tryd.prog.cellsOf 23 = 1 := by kernel_rfl
theorem ci25 : Tryd.prog.cellsOf 25 = 2 := by kernel_rfl
theorem ci48 : Tryd.prog.cellsOf 48 = 3 := by kernel_rfl
theorem ci50 : Tryd.prog.cellsOf 50 = 3 := by kernel_rfl
theorem ci51 : Tryd.prog.cellsOf 51 = 1 := by kernel_rfl
theorem ci52 : Tryd.prog.cellsOf 52 = 1 := by kernel_rfl
theorem ci54 : Tryd.prog.cellsOf 54 = 5 := by kernel_rfl
theorem bi3 : Tryd.prog.bytesOf 3 = 8 := by kernel_rfl
theorem bi48 : Tryd.prog.bytesOf 48 = 24 := by kernel_rfl
theorem bi50 : Tryd.prog.bytesOf 50 = 24 := by kernel_rfl
theorem bi54 : Tryd.prog.bytesOf 54 = 96 := by kernel_rfl

theorem addr_spot (b o j : Nat) : (⟨b, o, none⟩ : Addr).add j = ⟨b, o + j, none⟩ := by unfold Addr.add; split <;> simp_all

section
variable {H : Type} {enc : TypeId × Value → H} {W : World} {d : DataW H} {p : List MemPlace} {base : Nat}

theorem wts_all {e : TypeId} : ∀ {l : List (DataW H)}, (DataW.weightsAll Tryd.prog e l).all (· ≤ reachBytes) = true → ∀ x ∈ l, (x.weights Tryd.prog e).all (· ≤ reachBytes) = true
  | [], _, x, hx => by cases hx
  | y :: r, h, x, hx => by
    unfold DataW.weightsAll at h
    rw [List.all_append, Bool.and_eq_true] at h
    rcases List.mem_cons.1 hx with rfl | hx
    · exact h.1
    · exact wts_all h.2 x hx
theorem wts_each : ∀ {ts : List TypeId} {l : List (DataW H)}, (DataW.weightsEach Tryd.prog ts l).all (· ≤ reachBytes) = true → ∀ (j : Nat) t x, ts[j]? = some t → l[j]? = some x → (x.weights Tryd.prog t).all (· ≤ reachBytes) = true
  | [], _, _, j, t, x, ht, _ => by simp at ht
  | _ :: _, [], _, j, t, x, _, hx => by simp at hx
  | t0 :: ts, y :: r, h, j, t, x, ht, hx => by
    unfold DataW.weightsEach at h
    rw [List.all_append, Bool.and_eq_true] at h
    match j, ht, hx with
    | 0, ht, hx =>
      obtain rfl : t0 = t := by simpa using ht
      obtain rfl : y = x := by simpa using hx
      exact h.1
    | j + 1, ht, hx => exact wts_each h.2 j t x (by simpa using ht) (by simpa using hx)

set_option maxRecDepth 100000 in
/-- A slice of elements of one kind, each opened by the same word. -/
theorem open_row {α : Type} [Inhabited α] {t e : TypeId} {k b : Nat} (ht : Tryd.prog.underlying t = some (.slice e)) (hk : Tryd.prog.cellsOf e = k) (hb : Tryd.prog.bytesOf e = b) (hk0 : 0 < k) (f : α → List Value) (hf : ∀ x, (f x).length = k) (P : α → Prop)
    (helt : ∀ m cs (x : DataW H × List MemPlace), DataW.trod enc Tryd.prog W 0 (fun _ => true) true m e cs = some x → (x.1.weights Tryd.prog e).all (· ≤ reachBytes) = true → ∃ a, cs = f a ∧ P a)
    {fuel : Nat} {cs : List Value} {x : DataW H × List MemPlace} (h : DataW.trod enc Tryd.prog W 0 (fun _ => true) true fuel t cs = some x) (hw : (x.1.weights Tryd.prog t).all (· ≤ reachBytes) = true) :
    ∃ (v : Value) (L : List α), cs = [v] ∧ Shows W v k L.length (L.flatMap f) ∧ NilOk v ∧ (∀ a ∈ L, P a) ∧ L.length * b ≤ 140737488351232 := by
  rcases open_slice ht h with ⟨rfl, _⟩ | ⟨ad, l, c, m, n, D, Pl, rfl, _, hl, hm, hmm, rfl, hi⟩
  · exact ⟨_, [], rfl, Shows.nil W k, (fun n c e => by injection e with e1 e2 e3; exact ⟨e2.symm, e3.symm⟩), by simp, by simp⟩
  · simp only [if_true] at hmm
    rw [hk] at hi
    have hw2 := hw
    unfold DataW.weights at hw2
    simp only [ht, List.all_cons, List.all_append, Bool.and_eq_true, decide_eq_true_eq] at hw2
    have hws : ∀ i, i < l → ((D i).weights Tryd.prog e).all (· ≤ reachBytes) = true := fun i hi => wts_all hw2.2.1 _ (List.mem_map.2 ⟨i, by simpa using hi, rfl⟩)
    have hall : ∀ i, ∃ a : α, i < l → P a ∧ ∀ (j : Nat) (u : Value), (f a)[j]? = some u → W.cell? (ad.add (i * k + j)) = some u := by
      intro i
      rcases Nat.lt_or_ge i l with hlt | hge
      · obtain ⟨cs', hc, hd⟩ := hi i (by omega)
        obtain ⟨_, hcl, hat⟩ := World.cells?_some hc
        obtain ⟨a, rfl, hp⟩ := helt _ _ _ hd (hws i hlt)
        refine ⟨a, fun _ => ⟨hp, fun j u hu => ?_⟩⟩
        have hj : j < (f a).length := (List.getElem?_eq_some_iff.1 hu).1
        have := hat j (by rw [hf] at hj; exact hj)
        rw [add_add] at this
        rw [this]
        exact hu
      · exact ⟨default, fun hlt => absurd hlt (by omega)⟩
    obtain ⟨F, hF⟩ := Classical.skolem.1 hall
    refine ⟨_, (List.range l).map F, rfl, ⟨by rw [flat_length hf], some ad, c, by simp, by simp; omega, fun hn => ?_⟩, (fun n c e => by injection e with e1; cases e1), fun a ha => ?_, ?_⟩
    · have hl0 : 0 < l := by simpa using hn
      have h0 := (hF 0 hl0).2 0 ((f (F 0))[0]'(by rw [hf]; exact hk0)) (List.getElem?_eq_getElem (by rw [hf]; exact hk0))
      rw [Nat.zero_mul] at h0
      obtain ⟨b', o, sp⟩ := ad
      have hsp : sp = none := by simpa [Addr.add] using World.cell?_spot h0
      subst hsp
      have hbl := World.block_lt_of_cell? W _ h0
      rw [block_of_add] at hbl
      refine ⟨b', o, rfl, hbl, fun j u hu => ?_⟩
      have hju : j < ((List.range l).map F).length * k := by
        have := (List.getElem?_eq_some_iff.1 hu).1
        rw [flat_length hf] at this
        exact this
      have hq : j / k < l := by
        rw [List.length_map, List.length_range] at hju
        exact Nat.div_lt_of_lt_mul (by rw [Nat.mul_comm]; exact hju)
      have e : j = j / k * k + j % k := by rw [Nat.mul_comm, Nat.div_add_mod]
      have hx : ((List.range l).map F)[j / k]? = some (F (j / k)) := by simp [hq]
      rw [e, flat_at hf hx (Nat.mod_lt _ hk0)] at hu
      have := (hF (j / k) hq).2 (j % k) u hu
      rw [← e] at this
      rw [addr_spot] at this
      exact this
    · obtain ⟨i, hi', rfl⟩ := List.mem_map.1 ha
      exact (hF i (by simpa using hi')).1
    · have := hw2.1
      rw [hb, List.length_map, List.length_range] at this
      have h2 : ((List.range l).map F).length * b ≤ (l + ((List.range (m - l)).map fun j => D (l + j)).length) * b := by
        rw [List.length_map, List.length_range]
        exact Nat.mul_le_mul_right _ (Nat.le_add_right _ _)
      simp only [reachBytes] at this
      omega

theorem num_of_trod {m : Nat} {cs : List Value} {x : DataW H × List MemPlace} (h : DataW.trod enc Tryd.prog W 0 (fun _ => true) true m 3 cs = some x) : ∃ a : Int, cs = [.int .i64 a] ∧ kInt a := by
  obtain ⟨a, h1, _, h2⟩ := DataW.trod_int Tryd.underlying3 h
  exact ⟨a, h1, wf_range h2⟩
theorem flat_ints (l : List Int) : l.flatMap (fun n => [Value.int .i64 n]) = intsV l := by
  induction l with
  | nil => rfl
  | cons a l ih => rw [List.flatMap_cons, ih]; rfl

set_option maxRecDepth 100000 in
theorem nums_of_trod {m : Nat} {cs : List Value} {x : DataW H × List MemPlace} (h : DataW.trod enc Tryd.prog W 0 (fun _ => true) true m 52 cs = some x) (hw : (x.1.weights Tryd.prog 52).all (· ≤ reachBytes) = true) :
    ∃ (v : Value) (L : List Int), cs = [v] ∧ Shows W v 1 L.length (intsV L) ∧ NilOk v ∧ (∀ a ∈ L, kInt a) ∧ L.length * 8 ≤ 140737488351232 := by
  obtain ⟨v, L, h1, h2, h3, h4, h5⟩ := open_row Tryd.underlying52 ci3 bi3 (by decide) (fun n : Int => [Value.int .i64 n]) (fun _ => rfl) kInt (fun m cs x h _ => num_of_trod h) h hw
  rw [flat_ints] at h2
  exact ⟨v, L, h1, h2, h3, h4, h5⟩

set_option maxRecDepth 100000 in
theorem three_of_trod {t : TypeId} {fs : Array Field} (ht : Tryd.prog.underlying t = some (.struct fs)) (hc : Tryd.prog.cellsOf t = 3) (hfs : fs.size = 3) (h0 : ∃ f, fs[0]? = some f ∧ f.type = 3 ∧ f.offset = 0) (h1 : ∃ f, fs[1]? = some f ∧ f.type = 3 ∧ f.offset = 1) (h2 : ∃ f, fs[2]? = some f ∧ f.type = 3 ∧ f.offset = 2)
    {m : Nat} {cs : List Value} {x : DataW H × List MemPlace} (h : DataW.trod enc Tryd.prog W 0 (fun _ => true) true m t cs = some x) : ∃ a b c : Int, cs = [.int .i64 a, .int .i64 b, .int .i64 c] ∧ kInt a ∧ kInt b ∧ kInt c := by
  obtain ⟨xs, n, _, _, hl, hxs, hf⟩ := DataW.trod_struct ht h
  rw [hc] at hl
  obtain ⟨f0, e0, t0, o0⟩ := h0
  obtain ⟨f1, e1, t1, o1⟩ := h1
  obtain ⟨f2, e2, t2, o2⟩ := h2
  match cs, hl with
  | [c0, c1, c2], _ =>
    have g0 := hf 0 f0 e0
    have g1 := hf 1 f1 e1
    have g2 := hf 2 f2 e2
    rw [hfs] at hxs
    rw [List.getElem?_eq_getElem (by omega), t0, o0, ci3] at g0
    rw [List.getElem?_eq_getElem (by omega), t1, o1, ci3] at g1
    rw [List.getElem?_eq_getElem (by omega), t2, o2, ci3] at g2
    simp only [List.drop_zero, List.take_succ_cons, List.take_zero, List.drop_succ_cons] at g0 g1 g2
    obtain ⟨a0, q0, r0⟩ := num_of_trod g0
    obtain ⟨a1, q1, r1⟩ := num_of_trod g1
    obtain ⟨a2, q2, r2⟩ := num_of_trod g2
    injection q0 with q0
    injection q1 with q1
    injection q2 with q2
    subst q0 q1 q2
    exact ⟨a0, a1, a2, rfl, r0, r1, r2⟩

instance : Inhabited GlobR := ⟨⟨0, 0, 0⟩⟩
instance : Inhabited InsR := ⟨⟨0, 0, 0⟩⟩
instance : Inhabited FnR := ⟨⟨⟨#[]⟩, [], 0, [], []⟩⟩

set_option maxRecDepth 100000 in
theorem globs_of_trod {m : Nat} {cs : List Value} {x : DataW H × List MemPlace} (h : DataW.trod enc Tryd.prog W 0 (fun _ => true) true m 22 cs = some x) (hw : (x.1.weights Tryd.prog 22).all (· ≤ reachBytes) = true) :
    ∃ (v : Value) (L : List GlobR), cs = [v] ∧ Shows W v 3 L.length (globsV L) ∧ NilOk v ∧ (∀ g ∈ L, kInt g.ty ∧ kInt g.size ∧ kInt g.val) ∧ L.length * 24 ≤ 140737488351232 :=
  open_row Tryd.underlying22 ci48 bi48 (by decide) globC globC_len (fun g => kInt g.ty ∧ kInt g.size ∧ kInt g.val) (fun m cs x h _ => by
    obtain ⟨a, b, c, e, h1, h2, h3⟩ := three_of_trod Tryd.underlying48 ci48 rfl ⟨_, rfl, rfl, rfl⟩ ⟨_, rfl, rfl, rfl⟩ ⟨_, rfl, rfl, rfl⟩ h
    exact ⟨⟨a, b, c⟩, e, h1, h2, h3⟩) h hw
set_option maxRecDepth 100000 in
theorem code_of_trod {m : Nat} {cs : List Value} {x : DataW H × List MemPlace} (h : DataW.trod enc Tryd.prog W 0 (fun _ => true) true m 51 cs = some x) (hw : (x.1.weights Tryd.prog 51).all (· ≤ reachBytes) = true) :
    ∃ (v : Value) (L : List InsR), cs = [v] ∧ Shows W v 3 L.length (codeV L) ∧ NilOk v ∧ (∀ g ∈ L, kInt g.op ∧ kInt g.a ∧ kInt g.b) ∧ L.length * 24 ≤ 140737488351232 :=
  open_row Tryd.underlying51 ci50 bi50 (by decide) insC insC_len (fun g => kInt g.op ∧ kInt g.a ∧ kInt g.b) (fun m cs x h _ => by
    obtain ⟨a, b, c, e, h1, h2, h3⟩ := three_of_trod Tryd.underlying50 ci50 rfl ⟨_, rfl, rfl, rfl⟩ ⟨_, rfl, rfl, rfl⟩ ⟨_, rfl, rfl, rfl⟩ h
    exact ⟨⟨a, b, c⟩, e, h1, h2, h3⟩) h hw

set_option maxRecDepth 100000 in
theorem fn_of_trod {m : Nat} {cs : List Value} {x : DataW H × List MemPlace} (h : DataW.trod enc Tryd.prog W 0 (fun _ => true) true m 54 cs = some x) (hw : (x.1.weights Tryd.prog 54).all (· ≤ reachBytes) = true) :
    ∃ (q : FnR × Trip), cs = fnC q.1 q.2 ∧ FnArg W q.2 q.1 ∧ q.1.wide := by
  obtain ⟨xs, n, _, hx, hl, hxs, hf⟩ := DataW.trod_struct Tryd.underlying54 h
  rw [ci54] at hl
  match cs, hl with
  | [c0, c1, c2, c3, c4], _ =>
    have h0 : DataW.trod enc Tryd.prog W 0 (fun _ => true) true n 9 (List.take (Tryd.prog.cellsOf 9) (List.drop 0 [c0, c1, c2, c3, c4])) = xs[0]? := hf 0 _ rfl
    have h1 : DataW.trod enc Tryd.prog W 0 (fun _ => true) true n 52 (List.take (Tryd.prog.cellsOf 52) (List.drop 1 [c0, c1, c2, c3, c4])) = xs[1]? := hf 1 _ rfl
    have h2 : DataW.trod enc Tryd.prog W 0 (fun _ => true) true n 3 (List.take (Tryd.prog.cellsOf 3) (List.drop 2 [c0, c1, c2, c3, c4])) = xs[2]? := hf 2 _ rfl
    have h3 : DataW.trod enc Tryd.prog W 0 (fun _ => true) true n 52 (List.take (Tryd.prog.cellsOf 52) (List.drop 3 [c0, c1, c2, c3, c4])) = xs[3]? := hf 3 _ rfl
    have h4 : DataW.trod enc Tryd.prog W 0 (fun _ => true) true n 51 (List.take (Tryd.prog.cellsOf 51) (List.drop 4 [c0, c1, c2, c3, c4])) = xs[4]? := hf 4 _ rfl
    have hxs5 : xs.length = 5 := hxs
    have w_ : ∀ (j : Nat) (t : TypeId) (hj : j < xs.length), (9 :: 52 :: 3 :: 52 :: 51 :: [] : List TypeId)[j]? = some t → ((xs[j]).1.weights Tryd.prog t).all (· ≤ reachBytes) = true := by
      intro j t hj ht
      rw [hx] at hw
      unfold DataW.weights at hw
      simp only [Tryd.underlying54] at hw
      exact wts_each hw j t _ ht (by rw [List.getElem?_map, List.getElem?_eq_getElem hj]; rfl)
    have w0 := w_ 0 9 (by omega) rfl
    have w1 := w_ 1 52 (by omega) rfl
    have w3 := w_ 3 52 (by omega) rfl
    have w4 := w_ 4 51 (by omega) rfl
    rw [List.getElem?_eq_getElem (by omega)] at h0 h1 h2 h3 h4
    simp only [ci3, ci9, ci51, ci52, List.drop_zero, List.take_succ_cons, List.take_zero, List.drop_succ_cons] at h0 h1 h2 h3 h4
    obtain ⟨s, e0, ex0, _⟩ := DataW.trod_string Tryd.underlying9 h0
    obtain ⟨v1, l1, e1, s1, n1, k1, b1⟩ := nums_of_trod h1 w1
    obtain ⟨r, e2, k2⟩ := num_of_trod h2
    obtain ⟨v3, l3, e3, s3, n3, k3, b3⟩ := nums_of_trod h3 w3
    obtain ⟨v4, l4, e4, s4, n4, k4, b4⟩ := code_of_trod h4 w4
    have hsz : s.size ≤ 140737488351232 := by
      rw [ex0] at w0
      unfold DataW.weights at w0
      simp only [List.all_cons, List.all_nil, Bool.and_true, reachBytes, Array.length_toList] at w0
      exact of_decide_eq_true w0
    injection e0 with e0
    injection e1 with e1
    injection e2 with e2
    injection e3 with e3
    injection e4 with e4
    subst e0 e1 e2 e3 e4
    exact ⟨(⟨s, l1, r, l3, l4⟩, (c1, c3, c4)), rfl, ⟨⟨s1, s3, s4⟩, n1, n3, n4, b1, b3, b4, hsz⟩, ⟨k2, k1, k3, k4⟩⟩

set_option maxRecDepth 100000 in
theorem open_img {v : Value} (hval : Value.okWide Tryd.prog W .any base 25 v) (h : DataW.Trod enc Tryd.prog W 0 (fun _ => true) true 25 v d p) (hw : (d.weights Tryd.prog 25).all (· ≤ reachBytes) = true) :
    ∃ (gv fv : Value) (x : ImgR), v = imgV gv fv ∧ ImgArg W gv fv x := by
  obtain ⟨cs, rfl, hsz⟩ := okWide_struct Tryd.underlying25 hval
  obtain ⟨fuel, hf⟩ := h
  obtain ⟨xs, n, _, hx, hl, hxs, hfl⟩ := DataW.trod_struct Tryd.underlying25 hf
  rw [ci25] at hl
  obtain ⟨l⟩ := cs
  have hl2 : l.length = 2 := by simpa [Value.cells] using hl
  match l, hl2 with
  | [c0, c1], _ =>
    have hcs : (Value.agg ⟨[c0, c1]⟩).cells.toList = [c0, c1] := rfl
    have h0 : DataW.trod enc Tryd.prog W 0 (fun _ => true) true n 22 (List.take (Tryd.prog.cellsOf 22) (List.drop 0 [c0, c1])) = xs[0]? := hfl 0 _ rfl
    have h1 : DataW.trod enc Tryd.prog W 0 (fun _ => true) true n 23 (List.take (Tryd.prog.cellsOf 23) (List.drop 1 [c0, c1])) = xs[1]? := hfl 1 _ rfl
    have hxs2 : xs.length = 2 := hxs
    have w_ : ∀ (j : Nat) (t : TypeId) (hj : j < xs.length), (22 :: 23 :: [] : List TypeId)[j]? = some t → ((xs[j]).1.weights Tryd.prog t).all (· ≤ reachBytes) = true := by
      intro j t hj ht
      rw [(Prod.mk.inj hx).1] at hw
      unfold DataW.weights at hw
      simp only [Tryd.underlying25] at hw
      exact wts_each hw j t _ ht (by rw [List.getElem?_map, List.getElem?_eq_getElem hj]; rfl)
    have w0 := w_ 0 22 (by omega) rfl
    have w1 := w_ 1 23 (by omega) rfl
    rw [List.getElem?_eq_getElem (by omega)] at h0 h1
    simp only [ci22, ci23, List.drop_zero, List.take_succ_cons, List.take_zero, List.drop_succ_cons] at h0 h1
    obtain ⟨gv, Lg, e0, s0, n0, k0, b0⟩ := globs_of_trod h0 w0
    obtain ⟨fv, Lf, e1, s1, n1, k1, b1⟩ := open_row Tryd.underlying23 ci54 bi54 (by decide) (fun q : FnR × Trip => fnC q.1 q.2) fnC_len (fun q => FnArg W q.2 q.1 ∧ q.1.wide) (fun m cs x h hw => by
      obtain ⟨q, e, h1, h2⟩ := fn_of_trod h hw
      exact ⟨q, e, h1, h2⟩) h1 w1
    injection e0 with e0
    injection e1 with e1
    subst e0 e1
    refine ⟨c0, c1, ⟨Lg, Lf.map (·.1)⟩, rfl, ⟨s0, n0, b0, by show (Lf.map (·.1)).length * 96 ≤ _; rw [List.length_map]; exact b1, ⟨Lf.map (·.2), by simp, ?_, fun i f t hi ht => ?_⟩, ⟨k0, fun f hf => ?_⟩⟩⟩
    · show Shows W c1 5 (Lf.map (·.1)).length (fnsV (Lf.map (·.1)) (Lf.map (·.2)))
      have ez : (Lf.map (·.1)).zip (Lf.map (·.2)) = Lf := by
        rw [List.zip_map']
        simp
      unfold fnsV
      rw [ez, List.length_map]
      exact s1
    · have hi' : (Lf.map (·.1))[i]? = some f := hi
      rw [List.getElem?_map] at hi' ht
      cases hq : Lf[i]? with
      | none => rw [hq] at hi'; cases hi'
      | some q =>
        rw [hq] at hi' ht
        injection hi' with hi'
        injection ht with ht
        subst hi' ht
        exact (k1 q (List.mem_of_getElem? hq)).1
    · have hf' : f ∈ Lf.map (·.1) := hf
      obtain ⟨q, hq, rfl⟩ := List.mem_map.1 hf'
      exact (k1 q hq).2
end

end Go.Proofs.YtebdjahcahgafaaDoor

/- Slices of byte slices and slices of acts that came in, opened as lists. -/
import Derived.Test.YtmlbhlfjaagcaaaDoorDr
import Derived.Lib.SmallJoins
import Derived.Deep.Slices
import Derived.SizedLaws
import Derived.Test.YtmlbhlfjaagcaaaDoorLTwo
namespace Go.Proofs.YtmlbhlfjaagcaaaDoor
open Go.ChangeShapes Go.WideShapes Go.ChangeAt Go.RowKit Go.Joins Go.Deep

theorem cells36 : Tryd.prog.cellsOf 36 = 1 := by kernel_rfl
theorem cells38 : Tryd.prog.cellsOf 38 = 4 := by kernel_rfl
theorem cells3 : Tryd.prog.cellsOf 3 = 1 := by kernel_rfl
theorem bytes5 : Tryd.prog.bytesOf 5 = 1 := by kernel_rfl

section
variable {H : Type} {enc : TypeId × Value → H} {W : World} {d : DataW H} {p : List MemPlace}

theorem weights_all {e : TypeId} : ∀ {l : List (DataW H)}, (DataW.weightsAll Tryd.prog e l).all (· ≤ reachBytes) = true → ∀ x ∈ l, (x.weights Tryd.prog e).all (· ≤ reachBytes) = true
  | [], _, x, hx => by cases hx
  | y :: r, h, x, hx => by
    unfold DataW.weightsAll at h
    rw [List.all_append, Bool.and_eq_true] at h
    rcases List.mem_cons.1 hx with rfl | hx
    · exact h.1
    · exact weights_all h.2 x hx
theorem weights_each : ∀ {ts : List TypeId} {l : List (DataW H)}, (DataW.weightsEach Tryd.prog ts l).all (· ≤ reachBytes) = true → ∀ (j : Nat) t x, ts[j]? = some t → l[j]? = some x → (x.weights Tryd.prog t).all (· ≤ reachBytes) = true
  | [], _, _, j, t, x, ht, _ => by simp at ht
  | _ :: _, [], _, j, t, x, _, hx => by simp at hx
  | t0 :: ts, y :: r, h, j, t, x, ht, hx => by
    unfold DataW.weightsEach at h
    rw [List.all_append, Bool.and_eq_true] at h
    match j, ht, hx with
    | 0, ht, hx =>
      obtain rfl : t0 = t := by simpa using ht
      obtain rfl : y = x := by simpa using hx
      exact h.1
    | j + 1, ht, hx => exact weights_each h.2 j t x (by simpa using ht) (by simpa using hx)

/-- An element that is a slice of bytes. -/
theorem sl_of_trod {m : Nat} {cs : List Value} {x : DataW H × List MemPlace} (h : DataW.trod enc Tryd.prog W 0 (fun _ => true) true m 36 cs = some x) (hw : (x.1.weights Tryd.prog 36).all (· ≤ reachBytes) = true) :
    ∃ A n c bs, cs = [.slice A n c] ∧ SlB W (.slice A n c) bs ∧ (∀ y ∈ bs, y < 256) ∧ bs.length ≤ 140737488351232 := by
  rcases open_ints Tryd.underlying36 Tryd.underlying5 (by kernel_rfl) h with ⟨hcs, _⟩ | ⟨a, l, c, zs, hcs, _, hl, hm, hz, hx, hcell, hwz⟩
  · exact ⟨none, 0, 0, [], hcs, SlB.nil W, by simp, by simp⟩
  · simp only [if_true] at hz
    have hrange : ∀ n ∈ zs, 0 ≤ n ∧ n ≤ 255 := fun n hn => by
      have h := hwz n hn
      have h1 : IntKind.u8.min = 0 := rfl
      have h2 : IntKind.u8.max = 255 := rfl
      simp only [Lit.wf, Bool.and_eq_true, decide_eq_true_eq, h1, h2] at h
      exact h
    have hlen : ((zs.take l).map Int.toNat).length = l := by simp; omega
    have hsz : l ≤ 140737488351232 := by
      rw [hx] at hw
      unfold DataW.weights at hw
      simp only [Tryd.underlying36, List.all_cons, Bool.and_eq_true, bytes5, reachBytes] at hw
      have := hw.1
      simp [lits] at this
      omega
    refine ⟨some a, l, c, (zs.take l).map Int.toNat, hcs, ⟨some a, c, by rw [hlen], by omega, (fun e => nomatch e), ?_⟩, fun y hy => ?_, by omega⟩
    · rw [hlen]
      exact reads_of (by simp [U8s]; omega) (fun i hi => by
        have hi' : i < zs.length := by omega
        have hr := hrange zs[i] (List.getElem_mem hi')
        rw [hcell i hi']
        simp [U8s, List.getD, hi, List.getElem?_eq_getElem hi']
        omega)
    · obtain ⟨n, hn, rfl⟩ := List.mem_map.1 hy
      have := hrange n (List.mem_of_mem_take hn)
      omega

/-- A slice of byte slices reads as bss. -/
structure RowsArg (W : World) (a : Option Addr) (len : Nat) (bss : List (List Nat)) : Prop where
  size : bss.length = len
  byte : ∀ bs ∈ bss, (∀ y ∈ bs, y < 256) ∧ bs.length ≤ 140737488351232
  at_ : 0 < len → ∃ b o, a = some ⟨b, o, none⟩ ∧ b < W.heap.size ∧ ∀ k bs, bss[k]? = some bs → ∃ A c, W.cell? ⟨b, o + k, none⟩ = some (.slice A bs.length c) ∧ SlB W (.slice A bs.length c) bs

theorem addr_plain {x : Addr} {b o : Nat} (hx : x = ⟨b, o, none⟩) (i : Nat) : x.add i = ⟨b, o + i, none⟩ := by
  subst hx
  unfold Addr.add
  split <;> simp_all

theorem open_rows {a : Option Addr} {len cap : Nat} (h : DataW.Trod enc Tryd.prog W 0 (fun _ => true) true 29 (.slice a len cap) d p) (hw : (d.weights Tryd.prog 29).all (· ≤ reachBytes) = true) :
    ∃ bss, RowsArg W a len bss ∧ LenOf d len := by
  obtain ⟨fuel, hf⟩ := h
  rcases open_slice Tryd.underlying29 hf with ⟨hcs, _⟩ | ⟨x, l, c, m, n, D, Pl, hcs, _, hl, hm, hmm, hx, hi⟩
  · simp [Value.cells] at hcs
    obtain ⟨rfl, rfl, rfl⟩ := hcs
    exact ⟨[], ⟨rfl, by simp, fun hk => absurd hk (by omega)⟩, .inl rfl⟩
  · simp [Value.cells] at hcs
    obtain ⟨rfl, rfl, rfl⟩ := hcs
    simp only [if_true] at hmm
    rw [cells36] at hi
    have hd : d = .slice ((List.range len).map D) ((List.range (m - len)).map fun j => D (len + j)) := (Prod.mk.inj hx).1
    have hws : ∀ i, i < len → ((D i).weights Tryd.prog 36).all (· ≤ reachBytes) = true := by
      intro i hi
      rw [hd] at hw
      unfold DataW.weights at hw
      simp only [Tryd.underlying29, List.all_cons, List.all_append, Bool.and_eq_true] at hw
      exact weights_all hw.2.1 _ (List.mem_map.2 ⟨i, by simpa using hi, rfl⟩)
    have hall : ∀ i, ∃ bs : List Nat, i < len → (∃ A c, W.cell? (x.add i) = some (.slice A bs.length c) ∧ SlB W (.slice A bs.length c) bs) ∧ (∀ y ∈ bs, y < 256) ∧ bs.length ≤ 140737488351232 := by
      intro i
      rcases Nat.lt_or_ge i len with hlt | hge
      · obtain ⟨cs', hc, ht⟩ := hi i (by omega)
        obtain ⟨_, hcl, hat⟩ := World.cells?_some hc
        obtain ⟨A, n1, c1, bs, rfl, h1, h2, h3⟩ := sl_of_trod ht (hws i hlt)
        have hn1 : n1 = bs.length := by obtain ⟨_, _, e, _⟩ := h1; injection e
        subst hn1
        have a0 := hat 0 (by omega)
        refine ⟨bs, fun _ => ⟨⟨A, c1, ?_, h1⟩, h2, h3⟩⟩
        simpa [Addr.add] using a0
      · exact ⟨[], fun hk => absurd hk (by omega)⟩
    obtain ⟨f, hf⟩ := Classical.skolem.1 hall
    refine ⟨(List.range len).map f, ⟨by simp, fun bs hbs => ?_, fun hn => ?_⟩, .inr ⟨_, _, hd, by simp⟩⟩
    · obtain ⟨i, hi', rfl⟩ := List.mem_map.1 hbs
      exact (hf i (by simpa using hi')).2
    · obtain ⟨⟨A, c0, h0, _⟩, _⟩ := hf 0 hn
      obtain ⟨b, o, sp⟩ := x
      have hsp : sp = none := by simpa [Addr.add] using World.cell?_spot h0
      subst hsp
      have hb := World.block_lt_of_cell? W _ h0
      rw [block_of_add] at hb
      refine ⟨b, o, rfl, hb, fun k bs hk => ?_⟩
      have hk' : k < len := by have := (List.getElem?_eq_some_iff.1 hk).1; simpa using this
      have e : f k = bs := by simpa [hk'] using hk
      obtain ⟨⟨A, c1, h1, h2⟩, _⟩ := hf k hk'
      rw [addr_plain rfl] at h1
      rw [e] at h1 h2
      exact ⟨A, c1, h1, h2⟩

theorem int_of_trod {m : Nat} {cs : List Value} {x : DataW H × List MemPlace} (h : DataW.trod enc Tryd.prog W 0 (fun _ => true) true m 3 cs = some x) : ∃ a : Int, cs = [.int .i64 a] ∧ -9223372036854775808 ≤ a ∧ a < 9223372036854775808 := by
  obtain ⟨a, h1, _, h2⟩ := DataW.trod_int Tryd.underlying3 h
  exact ⟨a, h1, wf_range h2⟩

/-- An act. -/
structure ActL where
  do_ : Int
  who : Int
  at_ : Int
  b : List Nat
structure ActL.ok (x : ActL) : Prop where
  do_ : -9223372036854775808 ≤ x.do_ ∧ x.do_ < 9223372036854775808
  who : -9223372036854775808 ≤ x.who ∧ x.who < 9223372036854775808
  at_ : -9223372036854775808 ≤ x.at_ ∧ x.at_ < 9223372036854775808
  byte : ∀ y ∈ x.b, y < 256
  len : x.b.length ≤ 140737488351232

theorem act_of_trod {m : Nat} {cs : List Value} {x : DataW H × List MemPlace} (h : DataW.trod enc Tryd.prog W 0 (fun _ => true) true m 38 cs = some x) (hw : (x.1.weights Tryd.prog 38).all (· ≤ reachBytes) = true) :
    ∃ (t : ActL) (A : Option Addr) (c : Nat), cs = [.int .i64 t.do_, .int .i64 t.who, .int .i64 t.at_, .slice A t.b.length c] ∧ SlB W (.slice A t.b.length c) t.b ∧ t.ok := by
  obtain ⟨xs, n, _, hx, hl, hxs, hf⟩ := DataW.trod_struct Tryd.underlying38 h
  rw [cells38] at hl
  match cs, hl with
  | [c0, c1, c2, c3], _ =>
    have h0 : DataW.trod enc Tryd.prog W 0 (fun _ => true) true n 3 (List.take (Tryd.prog.cellsOf 3) (List.drop 0 [c0, c1, c2, c3])) = xs[0]? := hf 0 _ rfl
    have h1 : DataW.trod enc Tryd.prog W 0 (fun _ => true) true n 3 (List.take (Tryd.prog.cellsOf 3) (List.drop 1 [c0, c1, c2, c3])) = xs[1]? := hf 1 _ rfl
    have h2 : DataW.trod enc Tryd.prog W 0 (fun _ => true) true n 3 (List.take (Tryd.prog.cellsOf 3) (List.drop 2 [c0, c1, c2, c3])) = xs[2]? := hf 2 _ rfl
    have h3 : DataW.trod enc Tryd.prog W 0 (fun _ => true) true n 36 (List.take (Tryd.prog.cellsOf 36) (List.drop 3 [c0, c1, c2, c3])) = xs[3]? := hf 3 _ rfl
    have hxs4 : xs.length = 4 := hxs
    have hx3 : xs[3]? = some xs[3] := List.getElem?_eq_getElem (by omega)
    rw [List.getElem?_eq_getElem (by omega)] at h0 h1 h2 h3
    simp only [cells3, cells36, List.drop_zero, List.take_succ_cons, List.take_zero, List.drop_succ_cons] at h0 h1 h2 h3
    obtain ⟨a0, e0, r0⟩ := int_of_trod h0
    obtain ⟨a1, e1, r1⟩ := int_of_trod h1
    obtain ⟨a2, e2, r2⟩ := int_of_trod h2
    have hw3 : ((xs[3]).1.weights Tryd.prog 36).all (· ≤ reachBytes) = true := by
      rw [hx] at hw
      unfold DataW.weights at hw
      simp only [Tryd.underlying38] at hw
      exact weights_each hw 3 36 _ rfl (by rw [List.getElem?_map, hx3]; rfl)
    obtain ⟨A, n1, c4, bs, e3, s1, s2, s3⟩ := sl_of_trod h3 hw3
    have hn1 : n1 = bs.length := by obtain ⟨_, _, e, _⟩ := s1; injection e
    subst hn1
    injection e0 with e0
    injection e1 with e1
    injection e2 with e2
    injection e3 with e3
    subst e0 e1 e2 e3
    exact ⟨⟨a0, a1, a2, bs⟩, A, c4, rfl, s1, ⟨r0, r1, r2, s2, s3⟩⟩

/-- A slice of acts reads as L. -/
structure ActsArg (W : World) (a : Option Addr) (len : Nat) (L : List ActL) : Prop where
  size : L.length = len
  okA : ∀ t ∈ L, t.ok
  at_ : 0 < len → ∃ b o, a = some ⟨b, o, none⟩ ∧ b < W.heap.size ∧ ∀ (k : Nat) (t : ActL), L[k]? = some t → ∃ A c, W.cell? ⟨b, o + k * 4, none⟩ = some (.int .i64 t.do_) ∧ W.cell? ⟨b, o + (k * 4 + 1), none⟩ = some (.int .i64 t.who) ∧ W.cell? ⟨b, o + (k * 4 + 2), none⟩ = some (.int .i64 t.at_) ∧ W.cell? ⟨b, o + (k * 4 + 3), none⟩ = some (.slice A t.b.length c) ∧ SlB W (.slice A t.b.length c) t.b

theorem open_acts {a : Option Addr} {len cap : Nat} (h : DataW.Trod enc Tryd.prog W 0 (fun _ => true) true 22 (.slice a len cap) d p) (hw : (d.weights Tryd.prog 22).all (· ≤ reachBytes) = true) :
    ∃ L, ActsArg W a len L ∧ LenOf d len := by
  obtain ⟨fuel, hf⟩ := h
  rcases open_slice Tryd.underlying22 hf with ⟨hcs, _⟩ | ⟨x, l, c, m, n, D, Pl, hcs, _, hl, hm, hmm, hx, hi⟩
  · simp [Value.cells] at hcs
    obtain ⟨rfl, rfl, rfl⟩ := hcs
    exact ⟨[], ⟨rfl, by simp, fun hk => absurd hk (by omega)⟩, .inl rfl⟩
  · simp [Value.cells] at hcs
    obtain ⟨rfl, rfl, rfl⟩ := hcs
    simp only [if_true] at hmm
    rw [cells38] at hi
    have hd : d = .slice ((List.range len).map D) ((List.range (m - len)).map fun j => D (len + j)) := (Prod.mk.inj hx).1
    have hws : ∀ i, i < len → ((D i).weights Tryd.prog 38).all (· ≤ reachBytes) = true := by
      intro i hi
      rw [hd] at hw
      unfold DataW.weights at hw
      simp only [Tryd.underlying22, List.all_cons, List.all_append, Bool.and_eq_true] at hw
      exact weights_all hw.2.1 _ (List.mem_map.2 ⟨i, by simpa using hi, rfl⟩)
    have hall : ∀ i, ∃ t : ActL, i < len → (∃ A c, W.cell? (x.add (i * 4)) = some (.int .i64 t.do_) ∧ W.cell? (x.add (i * 4 + 1)) = some (.int .i64 t.who) ∧ W.cell? (x.add (i * 4 + 2)) = some (.int .i64 t.at_) ∧ W.cell? (x.add (i * 4 + 3)) = some (.slice A t.b.length c) ∧ SlB W (.slice A t.b.length c) t.b) ∧ t.ok := by
      intro i
      rcases Nat.lt_or_ge i len with hlt | hge
      · obtain ⟨cs', hc, ht⟩ := hi i (by omega)
        obtain ⟨_, hcl, hat⟩ := World.cells?_some hc
        obtain ⟨t, A, c1, rfl, h1, h2⟩ := act_of_trod ht (hws i hlt)
        have a0 := hat 0 (by omega)
        have a1 := hat 1 (by omega)
        have a2 := hat 2 (by omega)
        have a3 := hat 3 (by omega)
        rw [add_add] at a0 a1 a2 a3
        exact ⟨t, fun _ => ⟨⟨A, c1, by simpa using a0, by simpa using a1, by simpa using a2, by simpa using a3, h1⟩, h2⟩⟩
      · exact ⟨⟨0, 0, 0, []⟩, fun hk => absurd hk (by omega)⟩
    obtain ⟨f, hf⟩ := Classical.skolem.1 hall
    refine ⟨(List.range len).map f, ⟨by simp, fun t ht => ?_, fun hn => ?_⟩, .inr ⟨_, _, hd, by simp⟩⟩
    · obtain ⟨i, hi', rfl⟩ := List.mem_map.1 ht
      exact (hf i (by simpa using hi')).2
    · obtain ⟨⟨A, c0, h0, _⟩, _⟩ := hf 0 hn
      obtain ⟨b, o, sp⟩ := x
      have hsp : sp = none := by simpa [Addr.add] using World.cell?_spot h0
      subst hsp
      have hb := World.block_lt_of_cell? W _ h0
      rw [block_of_add] at hb
      refine ⟨b, o, rfl, hb, fun k t hk => ?_⟩
      have hk' : k < len := by have := (List.getElem?_eq_some_iff.1 hk).1; simpa using this
      have e : f k = t := by simpa [hk'] using hk
      obtain ⟨⟨A, c1, h1, h2, h3, h4, h5⟩, _⟩ := hf k hk'
      rw [addr_plain rfl] at h1 h2 h3 h4
      rw [e] at h1 h2 h3 h4 h5
      exact ⟨A, c1, h1, h2, h3, h4, h5⟩
end

end Go.Proofs.YtmlbhlfjaagcaaaDoor

/- How a box, and a slice of boxes, that came in reads. -/
import Derived.Test.YtnffflcfncffpaaFr
import Derived.Test.YtnffflcfncffpaaBRow
import Derived.Deep.Slices
import Derived.SizedLaws
namespace Go.Proofs.Ytnffflcfncffpaa
open Go.ChangeShapes Go.WideShapes Go.ChangeAt Go.RowKit Go.Joins Go.Deep

theorem cells25 : Try.prog.cellsOf 25 = 3 := by kernel_rfl
theorem cells3 : Try.prog.cellsOf 3 = 1 := by kernel_rfl
theorem bytes25 : Try.prog.bytesOf 25 = 24 := by kernel_rfl

section
variable {H : Type} {enc : TypeId × Value → H} {W : World} {base : Nat} {v : Value} {d : DataW H} {p : List MemPlace}

theorem box_of_trod {m : Nat} {cs : List Value} {x : DataW H × List MemPlace} (h : DataW.trod enc Try.prog W 0 (fun _ => true) true m 25 cs = some x) :
    ∃ a b c : Int, cs = [.int .i64 a, .int .i64 b, .int .i64 c] ∧ I64 a ∧ I64 b ∧ I64 c := by
  obtain ⟨xs, n, _, _, hl, hxs, hf⟩ := DataW.trod_struct Try.underlying25 h
  rw [cells25] at hl
  match cs, hl with
  | [c0, c1, c2], _ =>
    have h0 : DataW.trod enc Try.prog W 0 (fun _ => true) true n 23 (List.take (Try.prog.cellsOf 23) (List.drop 0 [c0, c1, c2])) = xs[0]? := hf 0 _ rfl
    have h1 : DataW.trod enc Try.prog W 0 (fun _ => true) true n 3 (List.take (Try.prog.cellsOf 3) (List.drop 2 [c0, c1, c2])) = xs[1]? := hf 1 _ rfl
    have hxs2 : xs.length = 2 := hxs
    rw [List.getElem?_eq_getElem (by omega)] at h0 h1
    simp only [cells23, cells3, List.drop_zero, List.take_succ_cons, List.take_zero, List.drop_succ_cons] at h0 h1
    obtain ⟨ys, n2, _, _, _, hys, hg⟩ := DataW.trod_struct Try.underlying23 h0
    have g0 : DataW.trod enc Try.prog W 0 (fun _ => true) true n2 3 (List.take (Try.prog.cellsOf 3) (List.drop 0 [c0, c1])) = ys[0]? := hg 0 _ rfl
    have g1 : DataW.trod enc Try.prog W 0 (fun _ => true) true n2 3 (List.take (Try.prog.cellsOf 3) (List.drop 1 [c0, c1])) = ys[1]? := hg 1 _ rfl
    have hys2 : ys.length = 2 := hys
    rw [List.getElem?_eq_getElem (by omega)] at g0 g1
    simp only [cells3, List.drop_zero, List.take_succ_cons, List.take_zero, List.drop_succ_cons] at g0 g1
    obtain ⟨a, rfl, ha⟩ := int_of_trod g0
    obtain ⟨b, rfl, hb⟩ := int_of_trod g1
    obtain ⟨c, rfl, hc⟩ := int_of_trod h1
    exact ⟨a, b, c, rfl, ha, hb, hc⟩

theorem open_box (hval : Value.okWide Try.prog W .any base 25 v) (h : DataW.Trod enc Try.prog W 0 (fun _ => true) true 25 v d p) :
    ∃ x y r : Int, v = boxV x y r ∧ I64 x ∧ I64 y ∧ I64 r := by
  obtain ⟨cs, rfl, hsz⟩ := okWide_struct Try.underlying25 hval
  obtain ⟨fuel, hf⟩ := h
  obtain ⟨a, b, c, e, ha, hb, hc⟩ := box_of_trod hf
  refine ⟨a, b, c, ?_, ha, hb, hc⟩
  obtain ⟨l⟩ := cs
  have e2 : l = [.int .i64 a, .int .i64 b, .int .i64 c] := by simpa [Value.cells] using e
  rw [e2]

/-- What a datum says of a slice's length. -/
def LenOf {H : Type} (d : DataW H) (len : Nat) : Prop := len = 0 ∨ ∃ elems spare, d = .slice elems spare ∧ elems.length = len

theorem addr_plain {x : Addr} {b o : Nat} (hx : x = ⟨b, o, none⟩) (i : Nat) : x.add i = ⟨b, o + i, none⟩ := by
  subst hx
  unfold Addr.add
  split <;> simp_all

theorem open_boxes {a : Option Addr} {len cap : Nat} (h : DataW.Trod enc Try.prog W 0 (fun _ => true) true 36 (.slice a len cap) d p) :
    ∃ L : List Bx, RBox W W.heap.size a len L ∧ LenOf d len := by
  obtain ⟨fuel, hf⟩ := h
  rcases open_slice Try.underlying36 hf with ⟨hcs, _⟩ | ⟨x, l, c, m, n, D, Pl, hcs, _, hl, hm, hmm, hx, hi⟩
  · simp [Value.cells] at hcs
    obtain ⟨rfl, rfl, rfl⟩ := hcs
    exact ⟨[], ⟨rfl, fun k hk => absurd hk (by omega), fun hk => absurd hk (by omega)⟩, .inl rfl⟩
  · simp [Value.cells] at hcs
    obtain ⟨rfl, rfl, rfl⟩ := hcs
    simp only [if_true] at hmm
    rw [cells25] at hi
    have hd : d = .slice ((List.range len).map D) ((List.range (m - len)).map fun j => D (len + j)) := (Prod.mk.inj hx).1
    have hall : ∀ i, ∃ b : Bx, i < len → W.cell? (x.add (i * 3)) = some (.int .i64 b.x) ∧ W.cell? (x.add (i * 3 + 1)) = some (.int .i64 b.y) ∧ W.cell? (x.add (i * 3 + 2)) = some (.int .i64 b.r) ∧ I64 b.x ∧ I64 b.y ∧ I64 b.r := by
      intro i
      rcases Nat.lt_or_ge i len with hlt | hge
      · obtain ⟨cs', hc, ht⟩ := hi i (by omega)
        obtain ⟨_, hcl, hat⟩ := World.cells?_some hc
        obtain ⟨u, v, s, rfl, hu, hv, hs⟩ := box_of_trod ht
        have a0 := hat 0 (by omega)
        have a1 := hat 1 (by omega)
        have a2 := hat 2 (by omega)
        rw [add_add] at a0 a1 a2
        exact ⟨⟨u, v, s⟩, fun _ => ⟨by simpa using a0, by simpa using a1, by simpa using a2, hu, hv, hs⟩⟩
      · exact ⟨⟨0, 0, 0⟩, fun hk => absurd hk (by omega)⟩
    obtain ⟨f, hf⟩ := Classical.skolem.1 hall
    refine ⟨(List.range len).map f, ?_, .inr ⟨_, _, hd, by simp⟩⟩
    have hat : ∀ k, k < len → Bx.at ((List.range len).map f) k = f k := by
      intro k hk
      rw [Bx.at_get (by simpa using hk)]
      simp
    refine ⟨by simp, fun k hk => ?_, fun hn => ?_⟩
    · rw [hat k hk]
      exact (hf k hk).2.2.2
    · have h0 := (hf 0 hn).1
      obtain ⟨b, o, sp⟩ := x
      have hsp : sp = none := by simpa [Addr.add] using World.cell?_spot h0
      subst hsp
      have hb := World.block_lt_of_cell? W _ h0
      rw [block_of_add] at hb
      refine ⟨b, o, rfl, hb, fun k hk => ?_⟩
      obtain ⟨c0, c1, c2, _⟩ := hf k hk
      rw [addr_plain rfl] at c0 c1 c2
      rw [hat k hk]
      exact ⟨c0, c1, c2⟩

theorem reach_of {len : Nat} {ts : List TypeId} {ds : List (DataW H)} (hsz : (DataW.weightsEach Try.prog ts ds).all (· ≤ reachBytes) = true) {j : Nat} {t e : TypeId} {k : Nat} (ht : ts[j]? = some t) (hd : ds[j]? = some d) (hu : Try.prog.underlying t = some (.slice e))
    (hb : Try.prog.bytesOf e = k) (hl : LenOf d len) : len * k ≤ 140737488351232 := by
  rcases hl with rfl | ⟨elems, spare, rfl, rfl⟩
  · simp
  · have := sized_slice hsz ht hd hu
    rw [hb] at this
    simp only [reachBytes] at this
    exact Nat.le_trans (Nat.mul_le_mul_right _ (Nat.le_add_right _ _)) this
end

end Go.Proofs.Ytnffflcfncffpaa

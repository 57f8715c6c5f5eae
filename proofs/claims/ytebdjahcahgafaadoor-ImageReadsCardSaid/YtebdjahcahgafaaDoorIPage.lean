/- The document's own page: natural, num, row. -/
import Derived.Test.YtebdjahcahgafaaDoorIOkM
import Derived.Test.YtebdjahcahgafaaDoorHeldT
import Derived.Test.YtebdjahcahgafaaDoorRefM
namespace Go.Proofs.YtebdjahcahgafaaDoor
open Go.RowKit

/-- A page in block g holds the bytes bs; of what was at w0 nothing is written. -/
structure PageSt (w0 : World) (g m : Nat) (bs : List Nat) (w : World) : Prop where
  ex : ∃ v, Blk w g 64 #[v] ∧ OwnB w w0.heap.size v bs
  new : w0.heap.size ≤ g
  below : Below w0.heap.size w0 w
  len : bs.length ≤ m
/-- Blocks that are neither bytes nor pages stay. -/
def PKeep (w w' : World) : Prop := ∀ (k : Nat) (cs : Array Value) (t : TypeId), t ≠ 5 → t ≠ 64 → Blk w k t cs → Blk w' k t cs
theorem PKeep.refl (w : World) : PKeep w w := fun _ _ _ _ _ h => h
theorem PKeep.trans {a b c : World} (h : PKeep a b) (k : PKeep b c) : PKeep a c := fun i cs t h1 h2 h3 => k i cs t h1 h2 (h i cs t h1 h2 h3)
theorem PageSt.draw {w0 : World} {g m : Nat} {bs : List Nat} {w : World} (h : PageSt w0 g m bs w) (n : Nat) : PageSt w0 g m bs (w.drewN n) := by
  obtain ⟨v, a, b⟩ := h.ex
  exact ⟨⟨v, a, b⟩, h.new, below_draw h.below n, h.len⟩
theorem PageSt.mono {w0 : World} {g m m' : Nat} {bs : List Nat} {w : World} (h : PageSt w0 g m bs w) (hm : m ≤ m') : PageSt w0 g m' bs w := ⟨h.ex, h.new, h.below, Nat.le_trans h.len hm⟩

/-- Appending bytes to bytes of one's own, at an operation. -/
theorem wp_bytes {w : World} {o : Oper} {a : Act} {K : Act → World → Prop} {Q : Exit → Act → World → Prop} (sl x : Operand) (ho : o.op = .call { callee := .builtin .append, args := #[sl, x], argTypes := #[30, 30] })
    (base : Nat) (v u : Value) (xs ys : List Nat) (hsl : a.eval sl = v) (hown : OwnB w base v xs) (hx : a.eval x = u) (hu : SlB w u ys) (hfit : xs.length + ys.length ≤ 140737488355328) (hbase : base ≤ w.heap.size)
    (h : ∀ v' w', OwnB w' base v' (xs ++ ys) → w.grownBy w' v.ownBlock → K (a.put o.dst v') w') : o.wp Tryd.prog a w K Q := by
  obtain ⟨v', w', hr, h2, h3⟩ := run_bytes w base o.type v u xs ys hown hu hfit hbase
  unfold Oper.wp execOp
  simp only [ho, resolve, invoke, builtin, Sem.run_bind, Sem.run_pure, Result.andThen_ok, List.map_toArray, List.map_cons, List.map_nil, hsl, hx, hr]
  exact h v' w' h2 h3
theorem wp_text {w : World} {o : Oper} {a : Act} {K : Act → World → Prop} {Q : Exit → Act → World → Prop} (sl x : Operand) (ho : o.op = .call { callee := .builtin .append, args := #[sl, x], argTypes := #[30, 9] })
    (base : Nat) (v : Value) (xs : List Nat) (s : ByteArray) (hsl : a.eval sl = v) (hown : OwnB w base v xs) (hx : a.eval x = .string s) (hfit : xs.length + s.size ≤ 140737488500000) (hs : s.size ≤ 140737488355328) (hbase : base ≤ w.heap.size)
    (h : ∀ v' w', OwnB w' base v' (xs ++ bytesOf s) → w.grownBy w' v.ownBlock → K (a.put o.dst v') w') : o.wp Tryd.prog a w K Q := by
  obtain ⟨v', w', hr, h2, h3⟩ := run_text w base o.type v xs hown s hfit hs hbase
  unfold Oper.wp execOp
  simp only [ho, resolve, invoke, builtin, Sem.run_bind, Sem.run_pure, Result.andThen_ok, List.map_toArray, List.map_cons, List.map_nil, hsl, hx, hr]
  exact h v' w' h2 h3

/-- More bytes behind those of a page. -/
theorem page_step {w0 w w1 w2 : World} {g m k : Nat} {v v' : Value} {bs cs : List Nat} (hs : PageSt w0 g m bs w) (hk : Blk w g 64 #[v]) (ho : OwnB w w0.heap.size v bs) (hb : Below w.heap.size w w1)
    (ho2 : OwnB w2 w0.heap.size v' (bs ++ cs)) (hg : w1.grownBy w2 v.ownBlock) (hl : cs.length ≤ k) :
    PageSt w0 g (m + k) (bs ++ cs) (w2.setCell ⟨g, 0, none⟩ v') ∧ PKeep w (w2.setCell ⟨g, 0, none⟩ v') := by
  have ho1 : OwnB w1 w0.heap.size v bs := ho.below hb
  have hk1 : Blk w1 g 64 #[v] := hk.below hb hk.lt
  have f2 : Fr (fun i => v.ownBlock = some i) w1 w2 := Fr.of_grown hg fun _ _ e => e
  have hk2 : Blk w2 g 64 #[v] := hk1.fr f2 (own_ne_blk ho1 hk1 (by decide))
  have f3 : Fr (fun i => i = g) w2 (w2.setCell ⟨g, 0, none⟩ v') := Fr.set (S := fun i => i = g) w2 (p := ⟨g, 0, none⟩) rfl _
  refine ⟨⟨⟨v', ?_, ?_⟩, hs.new, ?_, ?_⟩, ?_⟩
  · have := hk2.set_ 0 v'
    simpa using this
  · exact ownsRow_fr ho2 f3 (fun i e e2 => own_ne_blk ho2 hk2 (by decide) (by rw [e, e2]))
  · have b1 := below_trans hs.below hb
    have b2 := grown_below b1 b1.size ho1 hg
    exact b2.trans (f3.below b2.size (fun i hi e => by have := hs.new; have e : i = g := e; omega))
  · rw [List.length_append]; have := hs.len; omega
  · intro i ds t h1 h2 h3
    have k1 : Blk w1 i t ds := h3.below hb h3.lt
    have k2 : Blk w2 i t ds := k1.fr f2 (own_ne_blk ho1 k1 (fun e => h1 e.symm))
    exact k2.fr f3 (fun e => (Blk.ne_ k2 hk2 h2) e)

set_option maxHeartbeats 1000000 in
set_option maxRecDepth 100000 in
theorem rpnat_c (w0 : World) (g m : Nat) (bs : List Nat) (n : Int) (w : World) (hs : PageSt w0 g m bs w) (hm : m ≤ 2000000000) (hn : kNat n) :
    Calls Tryd.prog 26 #[.pointer (some ⟨g, 0, none⟩), .int .i64 n] w fun e w' => e = .returned (.tuple #[]) ∧ PageSt w0 g (m + 10) (bs ++ natB n) w' ∧ PKeep w w' := by
  obtain ⟨v, hk, ho⟩ := hs.ex
  obtain ⟨n0, n1⟩ := hn
  obtain ⟨n, rfl⟩ : ∃ k : Nat, n = (k : Int) := ⟨n.toNat, by omega⟩
  have HC := Lib.hid (rnum_c (.slice none 0 0) [] n w (SlB.nil w) (by simp) (by omega))
  have hlen := hs.len
  have hv9 := vn_len9 (z := n) (by omega)
  have e1 : natB (n : Int) = vn n := by unfold natB; rw [Int.toNat_natCast]
  rw [e1]
  rw [List.nil_append] at HC
  have HS := Lib.hid hs
  have HK := Lib.hid hk
  have HO := Lib.hid ho
  have hbase : w0.heap.size ≤ w.heap.size := hs.below.size
  clear hs hk ho e1
  go_enter Tryd.func26, Tryd.ntmps26
  go_wp2_with fail
  refine HC.out.mono ?_
  rintro e w1 ⟨u, rfl, ho1, hb1⟩
  have hk1 : w1.cell? ⟨g, 0, none⟩ = some v := (HK.out.below hb1 HK.out.lt).cell 0
  have hfr : w1.frozen? ⟨g, 0, none⟩ = false := (HK.out.below hb1 HK.out.lt).frozen 0
  have HSl := Lib.hid ho1.sl
  have HO1 := Lib.hid (HO.out.below hb1)
  have HB1 := Lib.hid hb1
  clear ho1 hb1
  go_wp2_with (at_builtin; refine wpList_bytes rfl (.tmp 15) (.tmp 16) rfl w0.heap.size _ _ bs (vn n) rfl HO1.out rfl HSl.out (by omega) (by have := HB1.out.size; omega) ?_)
  intro v2 w2 ho2 hg2
  obtain ⟨A2, c2, rfl⟩ := own_slice ho2
  obtain ⟨S2, K2⟩ := page_step (k := 10) HS.out HK.out HO.out HB1.out ho2 hg2 (by omega)
  have hfr2 : w2.frozen? ⟨g, 0, none⟩ = false := ((HK.out.below HB1.out HK.out.lt).fr (Fr.of_grown (S := fun i => v.ownBlock = some i) hg2 fun _ _ e => e) (own_ne_blk HO1.out (HK.out.below HB1.out HK.out.lt) (by decide))).frozen 0
  have hc2 : w2.cell? ⟨g, 0, none⟩ = some v := ((HK.out.below HB1.out HK.out.lt).fr (Fr.of_grown (S := fun i => v.ownBlock = some i) hg2 fun _ _ e => e) (own_ne_blk HO1.out (HK.out.below HB1.out HK.out.lt) (by decide))).cell 0
  have HS2 := Lib.hid S2
  have HK2 := Lib.hid K2
  clear S2 K2 ho2 hg2 hk1 hfr hlen hv9 hm n0 n1 hbase
  go_wp2_with fail
  go_end0
  exact ⟨rfl, by simpa only [List.length_append] using HS2.out, by simpa only [List.length_append] using HK2.out⟩

set_option maxHeartbeats 1000000 in
set_option maxRecDepth 100000 in
theorem rpnum_c (w0 : World) (g m : Nat) (bs : List Nat) (n : Int) (w : World) (hs : PageSt w0 g m bs w) (hm : m ≤ 2000000000) (hn : kInt n) :
    Calls Tryd.prog 27 #[.pointer (some ⟨g, 0, none⟩), .int .i64 n] w fun e w' => e = .returned (.tuple #[]) ∧ PageSt w0 g (m + 10) (bs ++ intB n) w' ∧ PKeep w w' := by
  obtain ⟨v, hk, ho⟩ := hs.ex
  have HC := Lib.hid (fun w => rint_c (.slice none 0 0) [] n w (SlB.nil w) (by simp) hn.1 hn.2)
  simp only [List.nil_append] at HC
  have hlen := hs.len
  have hv10 := vn_len10 (zz_lt hn.1 hn.2)
  have HS := Lib.hid (hs.draw 1)
  have HK : Hid (Blk w.drew g 64 #[v]) := hk
  have HO : Hid (OwnB w.drew w0.heap.size v bs) := ho
  have hbase : w0.heap.size ≤ w.drew.heap.size := hs.below.size
  have HPK : Hid (PKeep w w.drew) := fun _ _ _ _ _ h => h
  have hH0 : w.drew.cell? ⟨g, 0, none⟩ = some v := HK.out.cell 0
  clear hs hk ho hn
  unfold intB
  go_enter Tryd.func27, Tryd.ntmps27
  go_upto_region 0 with (fail)
  refine wp_region_T (S := fun w1 => w1.cell? ⟨g, 0, none⟩ = some v) 10 (by kernel_rfl) hH0 (fun _ => ?_)
  refine wpAnyT_take (i := 0) (oi := { dst := some 4, op := Op.move (Operand.tmp 0), type := 62, pos := "ref.go:97", after := #[], guard := none }) (v := ?v0) rfl (by kernel_rfl) (by kernel_rfl) (by kernel_rfl) (by kernel_rfl) (fun _ _ _ h => h) (Or.inl ⟨by rfl, ?h0⟩) hH0 ?r0
  case h0 => intro w' hSw; (try dsimp only at hSw); go_simp; (try with_reducible rfl)
  simp only [Act.put, List.setIfInBounds_toArray, List.set_cons_zero, List.set_cons_succ]
  refine wpAnyT_take (i := 1) (oi := { dst := some 5, op := Op.move (Operand.tmp 0), type := 62, pos := "ref.go:97", after := #[], guard := none }) (v := ?v1) rfl (by kernel_rfl) (by kernel_rfl) (by kernel_rfl) (by kernel_rfl) (fun _ _ _ h => h) (Or.inl ⟨by rfl, ?h1⟩) hH0 ?r1
  case h1 => intro w' hSw; (try dsimp only at hSw); go_simp; (try with_reducible rfl)
  simp only [Act.put, List.setIfInBounds_toArray, List.set_cons_zero, List.set_cons_succ]
  refine wpAnyT_take (i := 2) (oi := { dst := some 6, op := Op.nilCheck (Operand.tmp 5), type := 0, pos := "ref.go:97", after := #[{ on := 1, ground := Ground.data }], guard := none }) (v := ?v2) rfl (by kernel_rfl) (by kernel_rfl) (by kernel_rfl) (by kernel_rfl) (fun _ _ _ h => h) (Or.inl ⟨by rfl, ?h2⟩) hH0 ?r2
  case h2 => intro w' hSw; (try dsimp only at hSw); go_simp; (try with_reducible rfl)
  simp only [Act.put, List.setIfInBounds_toArray, List.set_cons_zero, List.set_cons_succ]
  refine wpAnyT_take (i := 3) (oi := { dst := some 7, op := Op.fieldAddr 64 (Operand.tmp 6) 0, type := 0, pos := "ref.go:97", after := #[{ on := 2, ground := Ground.data }], guard := none }) (v := ?v3) rfl (by kernel_rfl) (by kernel_rfl) (by kernel_rfl) (by kernel_rfl) (fun _ _ _ h => h) (Or.inl ⟨by rfl, ?h3⟩) hH0 ?r3
  case h3 => intro w' hSw; (try dsimp only at hSw); go_simp; (try with_reducible rfl)
  simp only [Act.put, List.setIfInBounds_toArray, List.set_cons_zero, List.set_cons_succ]
  refine wpAnyT_take (i := 4) (oi := { dst := some 8, op := Op.load 30 (Operand.tmp 7), type := 30, pos := "ref.go:97", after := #[{ on := 3, ground := Ground.data }], guard := none }) (v := ?v4) rfl (by kernel_rfl) (by kernel_rfl) (by kernel_rfl) (by kernel_rfl) (fun _ _ _ h => h) (Or.inl ⟨by rfl, ?h4⟩) hH0 ?r4
  case h4 => intro w' hSw; (try dsimp only at hSw); go_simp; (try with_reducible rfl)
  simp only [Act.put, List.setIfInBounds_toArray, List.set_cons_zero, List.set_cons_succ]
  refine wpAnyT_take (i := 5) (oi := { dst := some 9, op := Op.move (Operand.tmp 1), type := 3, pos := "ref.go:97", after := #[], guard := none }) (v := ?v5) rfl (by kernel_rfl) (by kernel_rfl) (by kernel_rfl) (by kernel_rfl) (fun _ _ _ h => h) (Or.inl ⟨by rfl, ?h5⟩) hH0 ?r5
  case h5 => intro w' hSw; (try dsimp only at hSw); go_simp; (try with_reducible rfl)
  simp only [Act.put, List.setIfInBounds_toArray, List.set_cons_zero, List.set_cons_succ]
  refine wpAnyT_one (i := 6) (o := { dst := some 10, op := Op.call { callee := Callee.value (Operand.func 52), args := #[Operand.const (Value.slice none 0 0), Operand.tmp 9], argTypes := #[30, 3] }, type := 30, pos := "ref.go:97", after := #[{ on := 5, ground := Ground.data }], guard := none }) (by kernel_rfl) rfl (fun K hK => ?_)
  go_simp
  refine (HC.out _).mono ?_
  rintro e w1 ⟨u, rfl, ho1, hb1⟩
  have hH1 : w1.cell? ⟨g, 0, none⟩ = some v := (HK.out.below hb1 HK.out.lt).cell 0
  have HSl := Lib.hid ho1.sl
  have HO1 := Lib.hid (HO.out.below hb1)
  have HB1 := Lib.hid hb1
  have HK1 := Lib.hid (HK.out.below hb1 HK.out.lt)
  clear ho1 hb1
  go_wp2_with fail
  refine hK.out _ _ (fun _ => hH1) ?_
  clear hK K
  refine wpAnyT_one (i := 7) (o := { dst := some 11, op := Op.call { callee := Callee.builtin Builtin.append, args := #[Operand.tmp 8, Operand.tmp 10], argTypes := #[30, 30] }, type := 30, pos := "ref.go:97", after := #[{ on := 4, ground := Ground.data }, { on := 6, ground := Ground.data }, { on := 6, ground := Ground.chain }], guard := none }) (by kernel_rfl) rfl (fun K hK => ?_)
  rw [if_pos (by rfl)]
  refine wp_bytes (.tmp 8) (.tmp 10) rfl w0.heap.size _ _ bs (vn (zz n)) rfl HO1.out rfl HSl.out (by omega) (by have := HB1.out.size; omega) ?_
  intro v2 w2 ho2 hg2
  obtain ⟨A2, c2, rfl⟩ := own_slice ho2
  obtain ⟨S2, K2⟩ := page_step (k := 10) HS.out HK.out HO.out HB1.out ho2 hg2 (by omega)
  have hkk := HK1.out.fr (Fr.of_grown (S := fun i => v.ownBlock = some i) hg2 fun _ _ e => e) (own_ne_blk HO1.out HK1.out (by decide))
  have hH2 : w2.cell? ⟨g, 0, none⟩ = some v := hkk.cell 0
  have hfr2 : w2.frozen? ⟨g, 0, none⟩ = false := hkk.frozen 0
  have HS2 := Lib.hid S2
  have HK2 := Lib.hid (HPK.out.trans K2)
  clear S2 K2 ho2 hg2 hkk
  refine hK.out _ _ (fun _ => hH2) ?_
  clear hK K
  simp only [Act.put, List.setIfInBounds_toArray, List.set_cons_zero, List.set_cons_succ]
  refine wpAnyT_one (i := 8) (o := { dst := some 12, op := Op.nilCheck (Operand.tmp 4), type := 0, pos := "ref.go:97", after := #[{ on := 0, ground := Ground.data }, { on := 0, ground := Ground.phase }, { on := 1, ground := Ground.phase }, { on := 2, ground := Ground.phase }, { on := 3, ground := Ground.phase }, { on := 4, ground := Ground.phase }, { on := 5, ground := Ground.phase }, { on := 6, ground := Ground.phase }, { on := 7, ground := Ground.phase }], guard := none }) (by kernel_rfl) rfl (fun K hK => ?_)
  go_simp
  go_wp2_with fail
  refine hK.out _ _ (fun _ => hH2) ?_
  clear hK K
  refine wpAnyT_one (i := 9) (o := { dst := some 13, op := Op.fieldAddr 64 (Operand.tmp 12) 0, type := 0, pos := "ref.go:97", after := #[{ on := 8, ground := Ground.data }, { on := 0, ground := Ground.phase }, { on := 1, ground := Ground.phase }, { on := 2, ground := Ground.phase }, { on := 3, ground := Ground.phase }, { on := 4, ground := Ground.phase }, { on := 5, ground := Ground.phase }, { on := 6, ground := Ground.phase }, { on := 7, ground := Ground.phase }], guard := none }) (by kernel_rfl) rfl (fun K hK => ?_)
  go_simp
  go_wp2_with fail
  refine hK.out _ _ (fun _ => hH2) ?_
  clear hK K
  refine wpAnyT_one (i := 10) (o := { dst := none, op := Op.store 30 (Operand.tmp 13) (Operand.tmp 11), type := 0, pos := "ref.go:97", after := #[{ on := 9, ground := Ground.data }, { on := 7, ground := Ground.data }, { on := 7, ground := Ground.chain }, { on := 0, ground := Ground.phase }, { on := 1, ground := Ground.phase }, { on := 2, ground := Ground.phase }, { on := 3, ground := Ground.phase }, { on := 4, ground := Ground.phase }, { on := 5, ground := Ground.phase }, { on := 6, ground := Ground.phase }, { on := 7, ground := Ground.phase }], guard := none }) (by kernel_rfl) rfl (fun K hK => ?_)
  go_simp
  go_wp2_with fail
  refine hK.out _ _ (fun h => absurd rfl h) ?_
  clear hK K
  refine wpAnyT_done (by kernel_rfl) ?_ _
  go_wp2_with fail
  go_end0
  exact ⟨rfl, by simpa only [List.length_append] using HS2.out, by simpa only [List.length_append] using HK2.out⟩

theorem listB_snoc {α : Type} (f : α → List Nat) {l : List α} {i : Nat} {x : α} (h : l[i]? = some x) : (l.take (i + 1)).flatMap f = (l.take i).flatMap f ++ f x := by
  rw [List.take_add_one, h]
  simp

set_option maxHeartbeats 1000000 in
set_option maxRecDepth 100000 in
theorem rprow_c (w0 : World) (g m : Nat) (bs : List Nat) (v : Value) (l : List Int) (w : World) (hs : PageSt w0 g m bs w) (hm : m ≤ 1000000000) (hv : Shows w0 v 1 l.length (intsV l)) (hl : l.length ≤ 1000) (hn : ∀ n ∈ l, kNat n) :
    Calls Tryd.prog 28 #[.pointer (some ⟨g, 0, none⟩), v] w fun e w' => e = .returned (.tuple #[]) ∧ PageSt w0 g (m + 10 + 10 * l.length) (bs ++ listB natB l) w' ∧ PKeep w w' := by
  have HV := Lib.hid hv
  obtain ⟨A, c, rfl, hnc⟩ := hv.slice
  have HN := Lib.hid hn
  have HC := Lib.hid (rpnat_c w0 g m bs (l.length : Int) w hs (by omega) ⟨by omega, by omega⟩)
  have e1 : natB (l.length : Int) = vn l.length := by unfold natB; rw [Int.toNat_natCast]
  rw [e1] at HC
  clear hv hs hn hnc e1
  unfold listB
  go_enter Tryd.func28, Tryd.ntmps28
  go_wp2_with fail
  refine HC.out.mono ?_
  rintro e w1 ⟨rfl, hs1, hk1⟩
  have HS1 := Lib.hid hs1
  have HK1 := Lib.hid hk1
  clear hs1 hk1 HC
  go_wp2_with fail
  go_loopg [4] l.length (fun gg s4 wr => ∃ k : Nat, k + gg = l.length ∧ s4 = .int .i64 (k : Int) ∧ Hid (PageSt w0 g (m + 10 + 10 * k) (bs ++ vn l.length ++ (l.take k).flatMap natB) wr) ∧ Hid (PKeep w wr))
  case atStart => exact ⟨0, by omega, rfl, by show PageSt _ _ _ _ _; simpa using HS1.out, HK1⟩
  case round =>
    clear HS1 HK1
    obtain ⟨k, hk, rfl, HS, HK⟩ := hrel
    cases gk with
    | zero =>
      have ek : k = l.length := by omega
      subst ek
      have hd : decide ((l.length : Int) < (l.length : Int)) = false := by simp
      clear hk hm hl
      go_wp2_with fail
      go_end0
      refine ⟨rfl, ?_, HK.out⟩
      have := HS.out
      rw [List.take_length, List.append_assoc] at this
      exact this
    | succ gk =>
      have hkn : k < l.length := by omega
      obtain ⟨b, o, c', e0, _, hlt, hcell⟩ := HV.out.int hkn
      injection e0 with e1 _ e2
      subst e1 e2
      have hcell2 : wr.cell? ⟨b, o + k, none⟩ = some (.int .i64 l[k]) := (HS.out.below.cell (p := ⟨b, o + k, none⟩) hlt).trans hcell
      have HC := Lib.hid (rpnat_c w0 g (m + 10 + 10 * k) _ l[k] wr HS.out (by omega) (HN.out _ (List.getElem_mem hkn)))
      have HG : Hid ((l.take (k + 1)).flatMap natB = (l.take k).flatMap natB ++ natB l[k]) := listB_snoc natB (List.getElem?_eq_getElem hkn)
      generalize l[k] = x at *
      clear hlt hcell
      go_wp2_with fail
      refine HC.out.mono ?_
      rintro e w1 ⟨rfl, hs1, hk1⟩
      have HS1 : Hid (PageSt w0 g (m + 10 + 10 * (k + 1)) (bs ++ vn l.length ++ (l.take (k + 1)).flatMap natB) w1) := by
        show PageSt _ _ _ _ _
        rw [HG.out, ← List.append_assoc]
        exact hs1.mono (by omega)
      have HK1 := Lib.hid (HK.out.trans hk1)
      clear hs1 hk1 HC HG HS HK hcell2
      go_wp2_with fail
      go_roundg gk
      case measure => omega
      case rel => exact ⟨k + 1, by omega, by push_cast; rfl, HS1, HK1⟩

end Go.Proofs.YtebdjahcahgafaaDoor

/- Bytes of one's own whose spare room is known to be bytes, too; appending to them; deliver once more. -/
import Derived.Test.YtmlbhlfjaagcaaaDoorLRecv
import Derived.Test.YtmlbhlfjaagcaaaDoorTextF
namespace Go.Proofs.YtmlbhlfjaagcaaaDoor
open Go.RowKit

/-- Bytes of one's own, the spare room too. -/
structure OwnF (w : World) (base : Nat) (v : Value) (bs : List Nat) : Prop where
  own : OwnB w base v bs
  full : ∀ k, v.ownBlock = some k → ∃ fs : List Nat, Blk w k 5 (U8s fs).toArray ∧ ∀ x ∈ fs, x < 256
section
variable {w w' : World} {base : Nat} {v : Value} {bs : List Nat}
theorem OwnF.nil (w : World) (base : Nat) : OwnF w base (.slice none 0 0) [] := ⟨OwnB.nil _ _, fun k e => by simp [Value.ownBlock] at e⟩
theorem OwnF.fr {S : Nat → Prop} (h : OwnF w base v bs) (hf : Fr S w w') (hn : ∀ k, v.ownBlock = some k → ¬ S k) : OwnF w' base v bs :=
  ⟨ownsRow_fr h.own hf hn, fun k e => by
    obtain ⟨fs, h1, h2⟩ := h.full k e
    exact ⟨fs, h1.fr hf (hn k e), h2⟩⟩
theorem OwnF.below (h : OwnF w base v bs) (hb : Below w.heap.size w w') : OwnF w' base v bs := h.fr (S := fun _ => False) (Fr.of_below hb) (fun _ _ h => h)
theorem OwnF.lower {B : Nat} (h : OwnF w base v bs) (hb : B ≤ base) : OwnF w B v bs := ⟨h.own.lower hb, h.full⟩
theorem U8s_inj {a b : List Nat} (h : U8s a = U8s b) : a = b := by
  induction a generalizing b with
  | nil => cases b with
    | nil => rfl
    | cons y b => simp [U8s] at h
  | cons x a ih => cases b with
    | nil => simp [U8s] at h
    | cons y b =>
      simp only [U8s, List.map_cons, List.cons.injEq] at h
      obtain ⟨h1, h2⟩ := h
      have : x = y := by injection h1 with _ h1; omega
      rw [this, ih h2]
/-- The whole row. -/
theorem OwnF.all (h : OwnF w base v bs) (hby : ∀ x ∈ bs, x < 256) : ∃ A fs, FullB w base v bs A fs := by
  rcases h.own.2 with ⟨rfl, h0⟩ | ⟨g, cap, cur, rfl, hb, hg, hc, hm, hcs, ht⟩
  · obtain rfl : bs = [] := List.eq_nil_of_length_eq_zero h0
    exact ⟨none, [], FullB.nil _ _⟩
  · obtain ⟨fs, h1, h2⟩ := h.full g rfl
    have e1 : cur = (U8s fs).toArray := by
      have h3 : w.heap[g]? = some (.cells (U8s fs).toArray 5) := h1
      rw [hg] at h3
      injection h3 with h3
      injection h3
    subst e1
    have e2 : fs.length = cap := by simpa [U8s_length] using hcs
    refine ⟨some ⟨g, 0, none⟩, fs, by rw [e2], ?_, by omega, by omega, h2, (fun e => by cases e), fun a e => by injection e with e; exact ⟨g, e.symm, hb, h1⟩⟩
    have h4 : (U8s fs).take bs.length = U8s bs := by simpa using ht
    apply U8s_inj
    rw [← h4]
    simp [U8s, List.map_take]
end

theorem run_bytesF (w : World) (base : Nat) (ty : TypeId) (v u : Value) (xs ys : List Nat) (hown : OwnF w base v xs) (hu : SlB w u ys) (hxb : ∀ x ∈ xs, x < 256) (hyb : ∀ x ∈ ys, x < 256) (hfit : xs.length + ys.length ≤ 140737488355328) (hbase : base ≤ w.heap.size) :
    ∃ v' w', (Builtin.append_ #[36, 36] ty #[v, u]).run Tryd.prog w = .ok v' w' ∧ OwnF w' base v' (xs ++ ys) ∧ w.grownBy w' v.ownBlock := by
  obtain ⟨v', w', hr, h1, h2⟩ := run_bytes w base ty v u xs ys hown.own hu hfit hbase
  refine ⟨v', w', hr, ⟨h1, ?_⟩, h2⟩
  obtain ⟨i, hi, hz, hsz, hby⟩ := info_u8
  obtain ⟨A, c, rfl, hc, hA, hrd⟩ := hu
  cases A with
  | none =>
    have hr2 := run_append_owned_none (P := Tryd.prog) w base 36 ty 5 i 1 Tryd.underlying36 hi v xs.length (U8s xs) hown.own
    obtain rfl := hA rfl
    obtain rfl : ys = [] := List.eq_nil_of_length_eq_zero (by omega)
    have e := hr.symm.trans hr2
    injection e with e1 e2
    subst e1 e2
    exact hown.full
  | some ad =>
    have hcells : ∀ j u, (U8s ys)[j]? = some u → w.cell? (ad.add j) = some u := by
      intro j u hj
      have h0 : 0 < ys.length := by
        have := (List.getElem?_eq_some_iff.1 hj).1
        rw [U8s_length] at this; omega
      obtain ⟨ad', e', _, hcell⟩ := hrd.2 h0
      obtain rfl := Option.some.inj e'
      exact hcell j u hj
    have hrep : ∀ k, ∀ x ∈ List.replicate k 0, x < 256 := fun k x hx => by rw [(List.mem_replicate.1 hx).2]; omega
    have happ : ∀ {a b : List Nat}, (∀ x ∈ a, x < 256) → (∀ x ∈ b, x < 256) → ∀ x ∈ a ++ b, x < 256 := fun ha hb x hx => (List.mem_append.1 hx).elim (ha x) (hb x)
    rcases hown.own.2 with ⟨rfl, h0⟩ | ⟨g, cap, cur, rfl, hb, hg, hnc, hm, hcs, ht⟩
    · obtain rfl : xs = [] := List.eq_nil_of_length_eq_zero h0
      by_cases hy : ys.length = 0
      · obtain rfl : ys = [] := List.eq_nil_of_length_eq_zero hy
        obtain ⟨v2, w2, hr2, _, _, h4, _⟩ := run_append_own_at (P := Tryd.prog) w base 36 ty 5 i (.int .u8 0) 1 1 Tryd.underlying36 hi hz hsz hby rfl (by decide) (.slice none 0 0) 0 [] (World.ownsRow_nil _ _ _ _) ad 0 c [] rfl (by simp) (by simp) (by unfold maxLen; omega) (by omega) hbase
        have e := hr.symm.trans hr2
        injection e with e1 e2
        subst e1 e2
        rw [h4.2 ⟨rfl, rfl⟩]
        intro k e
        simp [Value.ownBlock] at e
      · have hr2 := run_append_nil (P := Tryd.prog) w 36 ty 5 i (.int .u8 0) Tryd.underlying36 hi hz ad ys.length c (U8s ys) (by rw [hsz, U8s_length]; omega) hcells (by omega) (by omega) (by rw [hby]; omega)
        have e := hr.symm.trans hr2
        injection e with e1 e2
        subst e1 e2
        intro k e
        have : w.heap.size = k := by simpa [Value.ownBlock] using e
        subst this
        refine ⟨ys ++ List.replicate (grownCap w ys.length 0 5 - ys.length) 0, ?_, happ hyb (hrep _)⟩
        have hn := Blk.new w.drew 5 ((U8s ys).toArray ++ Builtin.zeroCells (Value.int .u8 0).cells (grownCap w ys.length 0 5 - ys.length))
        have ea : (U8s ys).toArray ++ Builtin.zeroCells (Value.int .u8 0).cells (grownCap w ys.length 0 5 - ys.length) = (U8s (ys ++ List.replicate (grownCap w ys.length 0 5 - ys.length) 0)).toArray := by
          apply Array.toList_inj.1
          rw [Array.toList_append, zero_row, U8s_append]
        rw [ea] at hn ⊢
        exact hn
    · obtain ⟨fs, hf1, hf2⟩ := hown.full g rfl
      have e1 : cur = (U8s fs).toArray := by
        have h3 : w.heap[g]? = some (.cells (U8s fs).toArray 5) := hf1
        rw [hg] at h3
        injection h3 with h3
        injection h3
      subst e1
      have e2 : fs.length = cap := by simpa [U8s_length] using hcs
      by_cases hroom : xs.length + ys.length ≤ cap
      · have hr2 := run_append_room (P := Tryd.prog) w 36 ty 5 i Tryd.underlying36 hi g xs.length cap (U8s fs).toArray hg ad ys.length c (U8s ys) (by rw [hsz, U8s_length]; omega) hcells (U8s_one ys) hroom (by rw [hsz, U8s_length]; simp [U8s_length]; omega)
        have e := hr.symm.trans hr2
        injection e with e1 e3
        subst e1 e3
        intro k e
        have : g = k := by simpa [Value.ownBlock] using e
        subst this
        refine ⟨fs.take xs.length ++ ys ++ fs.drop (xs.length + ys.length), ?_, happ (happ (fun x hx => hf2 x (List.mem_of_mem_take hx)) hyb) (fun x hx => hf2 x (List.mem_of_mem_drop hx))⟩
        have ea : ((U8s fs).toArray.toList.take (xs.length * i.size) ++ U8s ys ++ (U8s fs).toArray.toList.drop (xs.length * i.size + (U8s ys).length)).toArray = (U8s (fs.take xs.length ++ ys ++ fs.drop (xs.length + ys.length))).toArray := by
          rw [hsz, Nat.mul_one, U8s_length, U8s_append, U8s_append]
          simp [U8s, List.map_take, List.map_drop]
        rw [ea]
        exact hf1.setRow_ _
      · have holds : ∀ j u, (U8s xs)[j]? = some u → w.cell? ((⟨g, 0, none⟩ : Addr).add j) = some u := World.ownsRow.cells hown.own (g := g) rfl
        have hr2 := run_append_grow (P := Tryd.prog) w 36 ty 5 i (.int .u8 0) Tryd.underlying36 hi hz ⟨g, 0, none⟩ xs.length cap (U8s xs) (by rw [hsz, U8s_length]; omega) holds ad ys.length c (U8s ys) (by rw [hsz, U8s_length]; omega) hcells (by omega) (by omega) (growslice_fits (by omega) (by rw [hby]; omega))
        have e := hr.symm.trans hr2
        injection e with e1 e3
        subst e1 e3
        intro k e
        have : w.heap.size = k := by simpa [Value.ownBlock] using e
        subst this
        refine ⟨xs ++ ys ++ List.replicate (grownCap w (xs.length + ys.length) cap 5 - (xs.length + ys.length)) 0, ?_, happ (happ hxb hyb) (hrep _)⟩
        have hn := Blk.new w.drew 5 ((U8s xs).toArray ++ (U8s ys).toArray ++ Builtin.zeroCells (Value.int .u8 0).cells (grownCap w (xs.length + ys.length) cap 5 - (xs.length + ys.length)))
        have ea : (U8s xs).toArray ++ (U8s ys).toArray ++ Builtin.zeroCells (Value.int .u8 0).cells (grownCap w (xs.length + ys.length) cap 5 - (xs.length + ys.length)) = (U8s (xs ++ ys ++ List.replicate (grownCap w (xs.length + ys.length) cap 5 - (xs.length + ys.length)) 0)).toArray := by
          apply Array.toList_inj.1
          rw [Array.toList_append, Array.toList_append, zero_row, U8s_append, U8s_append]
        rw [ea] at hn ⊢
        exact hn

theorem wpList_bytesF {w : World} {ops : Array Oper} {rest : List Oper} {o : Oper} {a : Act} {Q : Exit → Act → World → Prop} (hgd : o.guard = none) (sl x : Operand)
    (ho : o.op = .call { callee := .builtin .append, args := #[sl, x], argTypes := #[36, 36] }) (base : Nat) (v u : Value) (xs ys : List Nat) (hsl : a.eval sl = v) (hown : OwnF w base v xs) (hx : a.eval x = u) (hu : SlB w u ys)
    (hxb : ∀ x ∈ xs, x < 256) (hyb : ∀ x ∈ ys, x < 256) (hfit : xs.length + ys.length ≤ 140737488355328) (hbase : base ≤ w.heap.size)
    (h : ∀ v' w', OwnF w' base v' (xs ++ ys) → w.grownBy w' v.ownBlock → wpList Tryd.prog ops Q rest (a.put o.dst v') w') : wpList Tryd.prog ops Q (o :: rest) a w := by
  refine wpList_plain hgd fun K hK => ?_
  obtain ⟨v', w', hr, h2, h3⟩ := run_bytesF w base o.type v u xs ys hown hu hxb hyb hfit hbase
  unfold Oper.wp execOp
  simp only [ho, resolve, invoke, builtin, Sem.run_bind, Sem.run_pure, Result.andThen_ok, List.map_toArray, List.map_cons, List.map_nil, hsl, hx, hr]
  exact hK _ _ (h v' w' h2 h3)

theorem msg_lt (ps : List (Nat × List Nat)) (h : ∀ p ∈ ps, ∀ x ∈ p.2, x < 256) : ∀ k, ∀ x ∈ msgTo ps k, x < 256
  | 0 => by simp [msgTo]
  | k + 1 => fun x hx => by
    rw [msgTo] at hx
    exact (List.mem_append.1 hx).elim (msg_lt ps h k x) (part_all (fun l => ∀ x ∈ l, x < 256) (by simp) ps k h x)

structure DelStF (w : World) (k : Nat) (s : LS) (v : Value) (wr : World) : Prop where
  own : OwnF wr w.heap.size v (msgTo s.ps k)
  below : Below w.heap.size w wr

/-- What is held around the last store. -/
structure DXF (w : World) (g ga gp : Nat) (U : Nat → Prop) (s : LS) (v : Value) (msg : List Nat) (w1 : World) : Prop where
  at_ : LinkAt w1 g ga gp U s
  own : OwnF w1 w.heap.size v msg
  fr : Fr (fun i => i = g ∨ i = gp) w w1
abbrev DSF (w : World) (g ga gp : Nat) (U : Nat → Prop) (s : LS) (v : Value) (msg : List Nat) (w1 : World) : Prop :=
  w1.cell? ⟨g, 3, none⟩ = some (.bool s.so) ∧ w1.cell? ⟨g, 4, none⟩ = some (.int .u16 (s.la : Int)) ∧ w1.cell? ⟨g, 5, none⟩ = some (.int .u32 (s.bi : Int)) ∧ w1.cell? ⟨g, 7, none⟩ = some (.int .u16 (s.nu : Int)) ∧
  w1.frozen? ⟨g, 3, none⟩ = false ∧ w1.frozen? ⟨g, 4, none⟩ = false ∧ w1.frozen? ⟨g, 5, none⟩ = false ∧ DXF w g ga gp U s v msg w1
section
variable {w w1 w3 : World} {g ga gp : Nat} {U : Nat → Prop} {s : LS} {v : Value} {msg : List Nat}
theorem DXF.ds (X : DXF w g ga gp U s v msg w1) : DSF w g ga gp U s v msg w1 :=
  ⟨X.at_.blk.cell 3, X.at_.blk.cell 4, X.at_.blk.cell 5, X.at_.blk.cell 7, X.at_.blk.frozen 3, X.at_.blk.frozen 4, X.at_.blk.frozen 5, X⟩
theorem DXF.drew (X : DXF w g ga gp U s v msg w1) : DXF w g ga gp U s v msg w1.drew := ⟨X.at_.draw 1, X.own.fr (S := fun _ => False) (Fr.refl _ _).drew (fun _ _ h => h), X.fr.drew⟩
theorem DXF.go (X : DXF w g ga gp U s v msg w1) (h : Below w1.heap.size w1 w3) : DXF w g ga gp U s v msg w3 :=
  ⟨X.at_.below h, X.own.below h, X.fr.trans (Fr.of_below (S := fun _ => False) h) (fun _ _ h => h.elim)⟩
theorem DXF.store (X : DXF w g ga gp U s v msg w1) (hg : g < w.heap.size) (x y z : Value) :
    OwnF (((w1.setCell ⟨g, 3, none⟩ x).setCell ⟨g, 4, none⟩ y).setCell ⟨g, 5, none⟩ z) w.heap.size v msg ∧
    Fr (fun i => i = g ∨ i = gp) w (((w1.setCell ⟨g, 3, none⟩ x).setCell ⟨g, 4, none⟩ y).setCell ⟨g, 5, none⟩ z) ∧
    Fr (fun i => i = g) w1 (((w1.setCell ⟨g, 3, none⟩ x).setCell ⟨g, 4, none⟩ y).setCell ⟨g, 5, none⟩ z) := by
  have h1 : Fr (fun i => i = g) w1 (((w1.setCell ⟨g, 3, none⟩ x).setCell ⟨g, 4, none⟩ y).setCell ⟨g, 5, none⟩ z) :=
    ((Fr.set (S := fun i => i = g) w1 (p := ⟨g, 3, none⟩) rfl x).trans (Fr.set (S := fun i => i = g) _ (p := ⟨g, 4, none⟩) rfl y) (fun _ _ h => h)).trans (Fr.set (S := fun i => i = g) _ (p := ⟨g, 5, none⟩) rfl z) (fun _ _ h => h)
  refine ⟨X.own.fr h1 (fun k hk e => ?_), X.fr.trans h1 (fun _ _ h => .inl h), h1⟩
  have := (X.own.own.lt k hk).1
  have e : k = g := e
  omega
end

def DelToF (w : World) (g ga gp : Nat) (s s' : LS) (e : Ending) (w' : World) : Prop :=
  ∃ v, e = .returned v ∧ OwnF w' w.heap.size v (msgTo s.ps s.ct) ∧ (∀ U, LinkAt w' g ga gp U s') ∧ Fr (fun i => i = g ∨ i = gp) w w'

set_option maxHeartbeats 4000000 in
set_option maxRecDepth 100000 in
theorem deliverF_c {g ga gp : Nat} {U : Nat → Prop} {s : LS} {w : World} (h : LinkAt w g ga gp U s) (hs : s.ok) (ha : s.so = true → 1 ≤ aheadN s.nu s.la) :
    Calls Tryd.prog 36 #[.pointer (some ⟨g, 0, none⟩)] w (DelToF w g ga gp s s.tell) := by
  have c8 : w.cell? ⟨g, 8, none⟩ = some (.int .i64 (s.ct : Int)) := h.blk.cell 8
  have H := Lib.hid h
  have HS := Lib.hid hs
  have HA := Lib.hid ha
  have S0 : DelStF w 0 s (.slice none 0 0) w := ⟨OwnF.nil _ _, Below.refl _ _⟩
  have hct := hs.ct
  unfold DelToF
  obtain ⟨ct, hc⟩ : ∃ ct, ct = s.ct := ⟨_, rfl⟩
  have HC := Lib.hid hc
  rw [← hc] at c8 hct
  clear h hs ha hc
  go_enter Tryd.func36, Tryd.ntmps36
  go_wp2_with fail
  go_loopg [3, 9] ct (fun gg s3 s9 wr => ∃ k : Nat, k + gg = ct ∧ s9 = .int .i64 (k : Int) ∧ DelStF w k s s3 wr)
  case atStart => exact ⟨0, by omega, rfl, S0⟩
  case round =>
    obtain ⟨k, hk, rfl, S⟩ := hrel
    have HL := Lib.hid (H.out.below S.below)
    have HSt := Lib.hid S
    clear S c8
    cases gk with
    | zero =>
      obtain rfl : k = ct := by omega
      have hd : decide (k < k) = false := by simp
      go_wp2_with fail
      refine (drop_c HL.out HS.out.one HS.out.ix HS.out.ct).mono ?_
      rintro e w2 ⟨rfl, h2, h3⟩
      go_wp2_with fail
      have hfr : Fr (fun i => i = g ∨ i = gp) w w2 := (Fr.of_below (S := fun i => i = g ∨ i = gp) HSt.out.below).trans h3 (fun _ _ h => .inr h)
      have hglt : g < w.heap.size := H.out.blk.lt
      have hgpl : gp < w.heap.size := by obtain ⟨m, hm, _⟩ := H.out.pm; exact hm.lt
      have X0 : DXF w g ga gp U { s with ps := [] } u3 (msgTo s.ps k) w2 := ⟨h2, HSt.out.own.fr h3 (fun q hq e => by
        have := (HSt.out.own.own.lt q hq).1
        have e : q = gp := e
        omega), hfr⟩
      have HX := Lib.hid X0.drew
      have hla := HS.out.la
      clear h2 h3 hfr X0 HL
      have HW := Lib.hid (fun w => withU_c s.so s.la s.bi s.nu w hla HA.out)
      obtain ⟨z, hz⟩ : ∃ z, z = (if s.so then withN s.bi (aheadN s.nu s.la) else 0) := ⟨_, rfl⟩
      rw [← hz] at HW
      have HZ := Lib.hid hz
      clear hz
      refine wp_region_T (S := fun w1 => DSF w g ga gp U { s with ps := [] } u3 (msgTo s.ps k) w1) 12 (by kernel_rfl) HX.out.ds (fun hH0 => ?_)
      refine wpAnyT_take (i := 0) (oi := { dst := some 23, op := Op.move (Operand.tmp 0), type := 25, pos := "link.go:158", after := #[], guard := none }) (v := ?v0) rfl (by kernel_rfl) (by kernel_rfl) (by kernel_rfl) (by kernel_rfl) (fun _ _ _ h => h) (Or.inl ⟨by rfl, ?h0⟩) hH0 ?r0
      case h0 => intro w' hSw; (try dsimp only at hSw); go_simp; (try with_reducible rfl)
      simp only [Act.put, List.setIfInBounds_toArray, List.set_cons_zero, List.set_cons_succ]
      refine wpAnyT_take (i := 1) (oi := { dst := some 24, op := Op.move (Operand.tmp 0), type := 25, pos := "link.go:158", after := #[], guard := none }) (v := ?v1) rfl (by kernel_rfl) (by kernel_rfl) (by kernel_rfl) (by kernel_rfl) (fun _ _ _ h => h) (Or.inl ⟨by rfl, ?h1⟩) hH0 ?r1
      case h1 => intro w' hSw; (try dsimp only at hSw); go_simp; (try with_reducible rfl)
      simp only [Act.put, List.setIfInBounds_toArray, List.set_cons_zero, List.set_cons_succ]
      refine wpAnyT_take (i := 2) (oi := { dst := some 25, op := Op.nilCheck (Operand.tmp 24), type := 0, pos := "link.go:158", after := #[{ on := 1, ground := Ground.data }], guard := none }) (v := ?v2) rfl (by kernel_rfl) (by kernel_rfl) (by kernel_rfl) (by kernel_rfl) (fun _ _ _ h => h) (Or.inl ⟨by rfl, ?h2⟩) hH0 ?r2
      case h2 => intro w' hSw; (try dsimp only at hSw); go_simp; (try with_reducible rfl)
      simp only [Act.put, List.setIfInBounds_toArray, List.set_cons_zero, List.set_cons_succ]
      refine wpAnyT_take (i := 3) (oi := { dst := some 26, op := Op.fieldAddr 64 (Operand.tmp 25) 3, type := 0, pos := "link.go:158", after := #[{ on := 2, ground := Ground.data }], guard := none }) (v := ?v3) rfl (by kernel_rfl) (by kernel_rfl) (by kernel_rfl) (by kernel_rfl) (fun _ _ _ h => h) (Or.inl ⟨by rfl, ?h3⟩) hH0 ?r3
      case h3 => intro w' hSw; (try dsimp only at hSw); go_simp; (try with_reducible rfl)
      simp only [Act.put, List.setIfInBounds_toArray, List.set_cons_zero, List.set_cons_succ]
      refine wpAnyT_take (i := 4) (oi := { dst := some 27, op := Op.load 62 (Operand.tmp 26), type := 62, pos := "link.go:158", after := #[{ on := 3, ground := Ground.data }], guard := none }) (v := ?v4) rfl (by kernel_rfl) (by kernel_rfl) (by kernel_rfl) (by kernel_rfl) (fun _ _ _ h => h) (Or.inl ⟨by rfl, ?h4⟩) hH0 ?r4
      case h4 => intro w' hSw; (try dsimp only at hSw); go_simp; (try with_reducible rfl)
      simp only [Act.put, List.setIfInBounds_toArray, List.set_cons_zero, List.set_cons_succ]
      refine wpAnyT_take (i := 5) (oi := { dst := some 28, op := Op.move (Operand.tmp 0), type := 25, pos := "link.go:158", after := #[], guard := none }) (v := ?v5) rfl (by kernel_rfl) (by kernel_rfl) (by kernel_rfl) (by kernel_rfl) (fun _ _ _ h => h) (Or.inl ⟨by rfl, ?h5⟩) hH0 ?r5
      case h5 => intro w' hSw; (try dsimp only at hSw); go_simp; (try with_reducible rfl)
      simp only [Act.put, List.setIfInBounds_toArray, List.set_cons_zero, List.set_cons_succ]
      refine wpAnyT_take (i := 6) (oi := { dst := some 29, op := Op.nilCheck (Operand.tmp 28), type := 0, pos := "link.go:158", after := #[{ on := 5, ground := Ground.data }], guard := none }) (v := ?v6) rfl (by kernel_rfl) (by kernel_rfl) (by kernel_rfl) (by kernel_rfl) (fun _ _ _ h => h) (Or.inl ⟨by rfl, ?h6⟩) hH0 ?r6
      case h6 => intro w' hSw; (try dsimp only at hSw); go_simp; (try with_reducible rfl)
      simp only [Act.put, List.setIfInBounds_toArray, List.set_cons_zero, List.set_cons_succ]
      refine wpAnyT_take (i := 7) (oi := { dst := some 30, op := Op.fieldAddr 64 (Operand.tmp 29) 5, type := 0, pos := "link.go:158", after := #[{ on := 6, ground := Ground.data }], guard := none }) (v := ?v7) rfl (by kernel_rfl) (by kernel_rfl) (by kernel_rfl) (by kernel_rfl) (fun _ _ _ h => h) (Or.inl ⟨by rfl, ?h7⟩) hH0 ?r7
      case h7 => intro w' hSw; (try dsimp only at hSw); go_simp; (try with_reducible rfl)
      simp only [Act.put, List.setIfInBounds_toArray, List.set_cons_zero, List.set_cons_succ]
      refine wpAnyT_take (i := 8) (oi := { dst := some 31, op := Op.load 57 (Operand.tmp 30), type := 57, pos := "link.go:158", after := #[{ on := 7, ground := Ground.data }], guard := none }) (v := ?v8) rfl (by kernel_rfl) (by kernel_rfl) (by kernel_rfl) (by kernel_rfl) (fun _ _ _ h => h) (Or.inl ⟨by rfl, ?h8⟩) hH0 ?r8
      case h8 => intro w' hSw; (try dsimp only at hSw); go_simp; (try with_reducible rfl)
      simp only [Act.put, List.setIfInBounds_toArray, List.set_cons_zero, List.set_cons_succ]
      refine wpAnyT_one (i := 9) (o := { dst := some 32, op := Op.call { callee := Callee.value (Operand.func 47), args := #[Operand.tmp 27, Operand.tmp 31], argTypes := #[62, 57] }, type := 62, pos := "link.go:158", after := #[{ on := 4, ground := Ground.data }, { on := 8, ground := Ground.data }], guard := none }) (by kernel_rfl) rfl (fun K hK => ?_)
      go_simp
      refine (HW.out _).mono ?_
      rintro e w3 ⟨rfl, hb3⟩
      have X3 := HX.out.go hb3
      have hH1 := X3.ds
      have HX3 := Lib.hid X3
      clear hb3 X3 hH0
      go_wp2_with fail
      refine hK.out _ _ (fun _ => hH1) ?_
      clear hK K
      refine wpAnyT_one (i := 10) (o := { dst := some 33, op := Op.nilCheck (Operand.tmp 23), type := 0, pos := "link.go:158", after := #[{ on := 0, ground := Ground.data }, { on := 0, ground := Ground.phase }, { on := 1, ground := Ground.phase }, { on := 2, ground := Ground.phase }, { on := 3, ground := Ground.phase }, { on := 4, ground := Ground.phase }, { on := 5, ground := Ground.phase }, { on := 6, ground := Ground.phase }, { on := 7, ground := Ground.phase }, { on := 8, ground := Ground.phase }, { on := 9, ground := Ground.phase }], guard := none }) (by kernel_rfl) rfl (fun K hK => ?_)
      go_simp
      go_wp2_with fail
      refine hK.out _ _ (fun _ => hH1) ?_
      clear hK K
      refine wpAnyT_one (i := 11) (o := { dst := some 34, op := Op.fieldAddr 64 (Operand.tmp 33) 3, type := 0, pos := "link.go:158", after := #[{ on := 10, ground := Ground.data }, { on := 0, ground := Ground.phase }, { on := 1, ground := Ground.phase }, { on := 2, ground := Ground.phase }, { on := 3, ground := Ground.phase }, { on := 4, ground := Ground.phase }, { on := 5, ground := Ground.phase }, { on := 6, ground := Ground.phase }, { on := 7, ground := Ground.phase }, { on := 8, ground := Ground.phase }, { on := 9, ground := Ground.phase }], guard := none }) (by kernel_rfl) rfl (fun K hK => ?_)
      go_simp
      go_wp2_with fail
      refine hK.out _ _ (fun _ => hH1) ?_
      clear hK K
      refine wpAnyT_one (i := 12) (o := { dst := none, op := Op.store 62 (Operand.tmp 34) (Operand.tmp 32), type := 0, pos := "link.go:158", after := #[{ on := 11, ground := Ground.data }, { on := 9, ground := Ground.data }, { on := 9, ground := Ground.chain }, { on := 0, ground := Ground.phase }, { on := 1, ground := Ground.phase }, { on := 2, ground := Ground.phase }, { on := 3, ground := Ground.phase }, { on := 4, ground := Ground.phase }, { on := 5, ground := Ground.phase }, { on := 6, ground := Ground.phase }, { on := 7, ground := Ground.phase }, { on := 8, ground := Ground.phase }, { on := 9, ground := Ground.phase }], guard := none }) (by kernel_rfl) rfl (fun K hK => ?_)
      go_simp
      go_wp2_with fail
      refine hK.out _ _ (fun h => absurd rfl h) ?_
      clear hK K
      refine wpAnyT_done (by kernel_rfl) ?_ _
      obtain ⟨o1, o2, o3⟩ := HX3.out.store hglt (.bool true) (.int .u16 (s.nu : Int)) (.int .u32 (z : Int))
      have L3 := HX3.out.at_
      have b1 := ((L3.blk.set_ 3 (.bool true)).set_ 4 (.int .u16 (s.nu : Int))).set_ 5 (.int .u32 (z : Int))
      have L4 : ∀ U', LinkAt (((w3.setCell ⟨g, 3, none⟩ (.bool true)).setCell ⟨g, 4, none⟩ (.int .u16 (s.nu : Int))).setCell ⟨g, 5, none⟩ (.int .u32 (z : Int))) g ga gp U' s.tell := fun U' => by
        obtain ⟨m, hm, hp⟩ := L3.pm
        have hm0 : m = [] := List.eq_nil_of_length_eq_zero hp.len
        subst hm0
        refine ⟨?_, L3.am.fr o3 (fun e => L3.ne1 e), ⟨[], hm.fr o3 (fun e => L3.ne2 e), PartsAre.none⟩, L3.ne⟩
        have e : linkC s.tell ga gp = #[.int .u16 (s.next : Int), .int .i64 (s.sent : Int), .map (some ga), .bool true, .int .u16 (s.nu : Int), .int .u32 (z : Int), .map (some gp), .int .u16 (s.nu : Int), .int .i64 (s.ct : Int)] := by rw [HZ.out]; rfl
        rw [e]
        exact b1
      have HE : Hid (OwnF (((w3.setCell ⟨g, 3, none⟩ (.bool true)).setCell ⟨g, 4, none⟩ (.int .u16 (s.nu : Int))).setCell ⟨g, 5, none⟩ (.int .u32 (z : Int))) w.heap.size u3 (msgTo s.ps s.ct) ∧ (∀ U', LinkAt (((w3.setCell ⟨g, 3, none⟩ (.bool true)).setCell ⟨g, 4, none⟩ (.int .u16 (s.nu : Int))).setCell ⟨g, 5, none⟩ (.int .u32 (z : Int))) g ga gp U' s.tell) ∧ Fr (fun i => i = g ∨ i = gp) w (((w3.setCell ⟨g, 3, none⟩ (.bool true)).setCell ⟨g, 4, none⟩ (.int .u16 (s.nu : Int))).setCell ⟨g, 5, none⟩ (.int .u32 (z : Int)))) := ⟨by rw [← HC.out]; exact o1, L4, o2⟩
      clear o1 o2 o3 L3 L4 b1 hH1
      generalize ((w3.setCell ⟨g, 3, none⟩ (.bool true)).setCell ⟨g, 4, none⟩ (.int .u16 (s.nu : Int))).setCell ⟨g, 5, none⟩ (.int .u32 (z : Int)) = w4 at HE ⊢
      go_wp2_with fail
      go_ret
      exact ⟨_, rfl, HE.out⟩
    | succ gk =>
      have hd : decide (k < ct) = true := by simp; omega
      have c6 : wr.cell? ⟨g, 6, none⟩ = some (.map (some gp)) := HL.out.blk.cell 6
      obtain ⟨m, hm, hp⟩ := HL.out.pm
      have hlk := hm.look1 und59 und3 (zero36 wr) (k : Int)
      have hsl := hp.look HS.out.one k
      have hml := msg_len s.ps (fun p hp => (HS.out.by_ p hp).1) k
      have hpl : (partAt s.ps k).length ≤ 200 := part_all (fun l => l.length ≤ 200) (by simp) s.ps k (fun p hp => (HS.out.by_ p hp).1)
      have HM1 : Hid (∀ x ∈ msgTo s.ps k, x < 256) := msg_lt s.ps (fun p hp => (HS.out.by_ p hp).2) k
      have HM2 : Hid (∀ x ∈ partAt s.ps k, x < 256) := part_all (fun l => ∀ x ∈ l, x < 256) (by simp) s.ps k (fun p hp => (HS.out.by_ p hp).2)
      have HSl := Lib.hid hsl
      clear hsl hm hp
      generalize (mget m (k : Int)).getD (.slice none 0 0) = v2 at *
      go_wp2_with (at_builtin; refine wpList_bytesF rfl (.tmp 12) (.tmp 18) rfl w.heap.size _ v2 _ _ rfl HSt.out.own rfl HSl.out HM1.out HM2.out ?a1 ?a2 ?_)
      case a1 => omega
      case a2 => exact HSt.out.below.size
      intro v9 w9 hown hgr
      have S9 : Hid (DelStF w (k + 1) s v9 w9) := ⟨hown, grown_below HSt.out.below HSt.out.below.size HSt.out.own.own hgr⟩
      clear hown hgr HSt
      go_wp2_with fail
      go_roundg gk
      case measure => omega
      case rel => exact ⟨k + 1, by omega, by go_num, S9.out⟩

end Go.Proofs.YtmlbhlfjaagcaaaDoor

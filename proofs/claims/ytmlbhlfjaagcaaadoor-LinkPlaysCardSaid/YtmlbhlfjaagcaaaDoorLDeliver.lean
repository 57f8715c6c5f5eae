/- The contract of deliver. -/
import Derived.Test.YtmlbhlfjaagcaaaDoorLRec
import Derived.Test.YtmlbhlfjaagcaaaDoorApp
import Derived.Test.YtmlbhlfjaagcaaaDoorHeldT
namespace Go.Proofs.YtmlbhlfjaagcaaaDoor
open Go.RowKit

/-- The bytes of the part of that index; none: no bytes. -/
def partAt (ps : List (Nat × List Nat)) (i : Nat) : List Nat := match ps with
  | [] => []
  | p :: r => if p.1 = i then p.2 else partAt r i
def msgTo (ps : List (Nat × List Nat)) : Nat → List Nat
  | 0 => []
  | k + 1 => msgTo ps k ++ partAt ps k
theorem part_of_mem : ∀ (ps : List (Nat × List Nat)) (k : Nat) (bs : List Nat), (ps.map (·.1)).Nodup → (k, bs) ∈ ps → partAt ps k = bs
  | [], _, _, _, h => by simp at h
  | p :: r, k, bs, hn, h => by
    simp only [List.map_cons, List.nodup_cons] at hn
    unfold partAt
    rcases List.mem_cons.1 h with rfl | h
    · simp
    · have : p.1 ≠ k := fun e => hn.1 (by rw [e]; exact List.mem_map.2 ⟨_, h, rfl⟩)
      rw [if_neg this]
      exact part_of_mem r k bs hn.2 h
theorem part_none : ∀ (ps : List (Nat × List Nat)) (k : Nat), k ∉ ps.map (·.1) → partAt ps k = []
  | [], _, _ => rfl
  | p :: r, k, h => by
    simp only [List.map_cons, List.mem_cons, not_or] at h
    unfold partAt
    rw [if_neg (fun e => h.1 e.symm), part_none r k h.2]
theorem part_all (P : List Nat → Prop) (h0 : P []) : ∀ (ps : List (Nat × List Nat)) (k : Nat), (∀ p ∈ ps, P p.2) → P (partAt ps k)
  | [], _, _ => h0
  | p :: r, k, h => by
    unfold partAt
    split
    · exact h p (by simp)
    · exact part_all P h0 r k (fun q hq => h q (by simp [hq]))
theorem msg_len (ps : List (Nat × List Nat)) (h : ∀ p ∈ ps, p.2.length ≤ 200) : ∀ k, (msgTo ps k).length ≤ 200 * k
  | 0 => by simp [msgTo]
  | k + 1 => by
    have := msg_len ps h k
    have h2 : (partAt ps k).length ≤ 200 := part_all (fun l => l.length ≤ 200) (by simp) ps k h
    rw [msgTo, List.length_append]; omega

theorem PartsAre.look {w : World} {U : Nat → Prop} {m : List (Int × Value)} {ps : List (Nat × List Nat)} (h : PartsAre w U m ps) (hn : (ps.map (·.1)).Nodup) (k : Nat) : SlB w ((mget m (k : Int)).getD (.slice Option.none 0 0)) (partAt ps k) := by
  obtain ⟨h1, h2⟩ := h.get k
  cases hg : mget m (k : Int) with
  | none =>
    rw [hg] at h1
    have : k ∉ ps.map (·.1) := by intro hm; rw [List.contains_iff_mem.2 hm] at h1; simp at h1
    rw [part_none ps k this]
    exact SlB.nil w
  | some v =>
    obtain ⟨bs, h3, h4⟩ := h2 v hg
    rw [part_of_mem ps k bs hn h3]
    exact h4.1

/-- The state once the message that waits was told. -/
def LS.tell (s : LS) : LS := { s with ps := [], so := true, la := s.nu, bi := if s.so then withN s.bi (aheadN s.nu s.la) else 0 }

structure DelSt (w : World) (k : Nat) (s : LS) (v : Value) (wr : World) : Prop where
  own : OwnB wr w.heap.size v (msgTo s.ps k)
  below : Below w.heap.size w wr

theorem zero36 (w : World) : (zeroValue 36).run Tryd.prog w = .ok (.slice none 0 0) w := by kernel_rfl

theorem withU_c (so : Bool) (la bi n : Nat) (w : World) (hl : la < 65536) (hk : so = true → 1 ≤ aheadN n la) :
    Calls Tryd.prog 47 #[acksV so la bi, .int .u16 (n : Int)] w fun e w' => e = .returned (acksV true n (if so then withN bi (aheadN n la) else 0)) ∧ Below w.heap.size w w' := by
  cases so with
  | true => exact with_c la bi n w hl (hk rfl)
  | false => exact with0_c la bi n w

/-- What is held around the last store. -/
structure DX (w : World) (g ga gp : Nat) (U : Nat → Prop) (s : LS) (v : Value) (msg : List Nat) (w1 : World) : Prop where
  at_ : LinkAt w1 g ga gp U s
  own : OwnB w1 w.heap.size v msg
  fr : Fr (fun i => i = g ∨ i = gp) w w1
abbrev DS (w : World) (g ga gp : Nat) (U : Nat → Prop) (s : LS) (v : Value) (msg : List Nat) (w1 : World) : Prop :=
  w1.cell? ⟨g, 3, none⟩ = some (.bool s.so) ∧ w1.cell? ⟨g, 4, none⟩ = some (.int .u16 (s.la : Int)) ∧ w1.cell? ⟨g, 5, none⟩ = some (.int .u32 (s.bi : Int)) ∧ w1.cell? ⟨g, 7, none⟩ = some (.int .u16 (s.nu : Int)) ∧
  w1.frozen? ⟨g, 3, none⟩ = false ∧ w1.frozen? ⟨g, 4, none⟩ = false ∧ w1.frozen? ⟨g, 5, none⟩ = false ∧ DX w g ga gp U s v msg w1
section
variable {w w1 w3 : World} {g ga gp : Nat} {U : Nat → Prop} {s : LS} {v : Value} {msg : List Nat}
theorem DX.ds (X : DX w g ga gp U s v msg w1) : DS w g ga gp U s v msg w1 :=
  ⟨X.at_.blk.cell 3, X.at_.blk.cell 4, X.at_.blk.cell 5, X.at_.blk.cell 7, X.at_.blk.frozen 3, X.at_.blk.frozen 4, X.at_.blk.frozen 5, X⟩
theorem DX.drew (X : DX w g ga gp U s v msg w1) : DX w g ga gp U s v msg w1.drew := ⟨X.at_.draw 1, X.own, X.fr.drew⟩
theorem DX.go (X : DX w g ga gp U s v msg w1) (h : Below w1.heap.size w1 w3) : DX w g ga gp U s v msg w3 :=
  ⟨X.at_.below h, X.own.below h, X.fr.trans (Fr.of_below (S := fun _ => False) h) (fun _ _ h => h.elim)⟩
theorem DX.store (X : DX w g ga gp U s v msg w1) (hg : g < w.heap.size) (x y z : Value) :
    OwnB (((w1.setCell ⟨g, 3, none⟩ x).setCell ⟨g, 4, none⟩ y).setCell ⟨g, 5, none⟩ z) w.heap.size v msg ∧
    Fr (fun i => i = g ∨ i = gp) w (((w1.setCell ⟨g, 3, none⟩ x).setCell ⟨g, 4, none⟩ y).setCell ⟨g, 5, none⟩ z) ∧
    Fr (fun i => i = g) w1 (((w1.setCell ⟨g, 3, none⟩ x).setCell ⟨g, 4, none⟩ y).setCell ⟨g, 5, none⟩ z) := by
  have h1 : Fr (fun i => i = g) w1 (((w1.setCell ⟨g, 3, none⟩ x).setCell ⟨g, 4, none⟩ y).setCell ⟨g, 5, none⟩ z) :=
    ((Fr.set (S := fun i => i = g) w1 (p := ⟨g, 3, none⟩) rfl x).trans (Fr.set (S := fun i => i = g) _ (p := ⟨g, 4, none⟩) rfl y) (fun _ _ h => h)).trans (Fr.set (S := fun i => i = g) _ (p := ⟨g, 5, none⟩) rfl z) (fun _ _ h => h)
  refine ⟨ownsRow_fr X.own h1 (fun k hk e => ?_), X.fr.trans h1 (fun _ _ h => .inl h), h1⟩
  have := (X.own.lt k hk).1
  have e : k = g := e
  omega
end

def DelTo (w : World) (g ga gp : Nat) (s s' : LS) (e : Ending) (w' : World) : Prop :=
  ∃ v, e = .returned v ∧ OwnB w' w.heap.size v (msgTo s.ps s.ct) ∧ (∀ U, LinkAt w' g ga gp U s') ∧ Fr (fun i => i = g ∨ i = gp) w w'

set_option maxHeartbeats 4000000 in
set_option maxRecDepth 100000 in
theorem deliver_c {g ga gp : Nat} {U : Nat → Prop} {s : LS} {w : World} (h : LinkAt w g ga gp U s) (hs : s.ok) (ha : s.so = true → 1 ≤ aheadN s.nu s.la) :
    Calls Tryd.prog 36 #[.pointer (some ⟨g, 0, none⟩)] w (DelTo w g ga gp s s.tell) := by
  have c8 : w.cell? ⟨g, 8, none⟩ = some (.int .i64 (s.ct : Int)) := h.blk.cell 8
  have H := Lib.hid h
  have HS := Lib.hid hs
  have HA := Lib.hid ha
  have S0 : DelSt w 0 s (.slice none 0 0) w := ⟨OwnB.nil _ _, Below.refl _ _⟩
  have hct := hs.ct
  unfold DelTo
  obtain ⟨ct, hc⟩ : ∃ ct, ct = s.ct := ⟨_, rfl⟩
  have HC := Lib.hid hc
  rw [← hc] at c8 hct
  clear h hs ha hc
  go_enter Tryd.func36, Tryd.ntmps36
  go_wp2_with fail
  go_loopg [3, 9] ct (fun gg s3 s9 wr => ∃ k : Nat, k + gg = ct ∧ s9 = .int .i64 (k : Int) ∧ DelSt w k s s3 wr)
  case atStart => exact ⟨0, by omega, rfl, S0⟩
  case round =>
    obtain ⟨k, hk, rfl, S⟩ := hrel
    have HL := Lib.hid (H.out.below S.below)
    have HSt := Lib.hid S
    clear S c8
    cases gk with
    | zero =>
      obtain rfl : k = ct := by omega
      have hd : decide (k < k) = false := by simp
      go_wp2_with fail
      refine (drop_c HL.out HS.out.one HS.out.ix HS.out.ct).mono ?_
      rintro e w2 ⟨rfl, h2, h3⟩
      go_wp2_with fail
      have hfr : Fr (fun i => i = g ∨ i = gp) w w2 := (Fr.of_below (S := fun i => i = g ∨ i = gp) HSt.out.below).trans h3 (fun _ _ h => .inr h)
      have hglt : g < w.heap.size := H.out.blk.lt
      have hgpl : gp < w.heap.size := by obtain ⟨m, hm, _⟩ := H.out.pm; exact hm.lt
      have X0 : DX w g ga gp U { s with ps := [] } u3 (msgTo s.ps k) w2 := ⟨h2, ownsRow_fr HSt.out.own h3 (fun q hq e => by
        have := (HSt.out.own.lt q hq).1
        have e : q = gp := e
        omega), hfr⟩
      have HX := Lib.hid X0.drew
      have hla := HS.out.la
      clear h2 h3 hfr X0 HL
      have HW := Lib.hid (fun w => withU_c s.so s.la s.bi s.nu w hla HA.out)
      obtain ⟨z, hz⟩ : ∃ z, z = (if s.so then withN s.bi (aheadN s.nu s.la) else 0) := ⟨_, rfl⟩
      rw [← hz] at HW
      have HZ := Lib.hid hz
      clear hz
      refine wp_region_T (S := fun w1 => DS w g ga gp U { s with ps := [] } u3 (msgTo s.ps k) w1) 12 (by kernel_rfl) HX.out.ds (fun hH0 => ?_)
      refine wpAnyT_take (i := 0) (oi := { dst := some 23, op := Op.move (Operand.tmp 0), type := 25, pos := "link.go:158", after := #[], guard := none }) (v := ?v0) rfl (by kernel_rfl) (by kernel_rfl) (by kernel_rfl) (by kernel_rfl) (fun _ _ _ h => h) (Or.inl ⟨by rfl, ?h0⟩) hH0 ?r0
      case h0 => intro w' hSw; (try dsimp only at hSw); go_simp; (try with_reducible rfl)
      simp only [Act.put, List.setIfInBounds_toArray, List.set_cons_zero, List.set_cons_succ]
      refine wpAnyT_take (i := 1) (oi := { dst := some 24, op := Op.move (Operand.tmp 0), type := 25, pos := "link.go:158", after := #[], guard := none }) (v := ?v1) rfl (by kernel_rfl) (by kernel_rfl) (by kernel_rfl) (by kernel_rfl) (fun _ _ _ h => h) (Or.inl ⟨by rfl, ?h1⟩) hH0 ?r1
      case h1 => intro w' hSw; (try dsimp only at hSw); go_simp; (try with_reducible rfl)
      simp only [Act.put, List.setIfInBounds_toArray, List.set_cons_zero, List.set_cons_succ]
      refine wpAnyT_take (i := 2) (oi := { dst := some 25, op := Op.nilCheck (Operand.tmp 24), type := 0, pos := "link.go:158", after := #[{ on := 1, ground := Ground.data }], guard := none }) (v := ?v2) rfl (by kernel_rfl) (by kernel_rfl) (by kernel_rfl) (by kernel_rfl) (fun _ _ _ h => h) (Or.inl ⟨by rfl, ?h2⟩) hH0 ?r2
      case h2 => intro w' hSw; (try dsimp only at hSw); go_simp; (try with_reducible rfl)
      simp only [Act.put, List.setIfInBounds_toArray, List.set_cons_zero, List.set_cons_succ]
      refine wpAnyT_take (i := 3) (oi := { dst := some 26, op := Op.fieldAddr 64 (Operand.tmp 25) 3, type := 0, pos := "link.go:158", after := #[{ on := 2, ground := Ground.data }], guard := none }) (v := ?v3) rfl (by kernel_rfl) (by kernel_rfl) (by kernel_rfl) (by kernel_rfl) (fun _ _ _ h => h) (Or.inl ⟨by rfl, ?h3⟩) hH0 ?r3
      case h3 => intro w' hSw; (try dsimp only at hSw); go_simp; (try with_reducible rfl)
      simp only [Act.put, List.setIfInBounds_toArray, List.set_cons_zero, List.set_cons_succ]
      refine wpAnyT_take (i := 4) (oi := { dst := some 27, op := Op.load 62 (Operand.tmp 26), type := 62, pos := "link.go:158", after := #[{ on := 3, ground := Ground.data }], guard := none }) (v := ?v4) rfl (by kernel_rfl) (by kernel_rfl) (by kernel_rfl) (by kernel_rfl) (fun _ _ _ h => h) (Or.inl ⟨by rfl, ?h4⟩) hH0 ?r4
      case h4 => intro w' hSw; (try dsimp only at hSw); go_simp; (try with_reducible rfl)
      simp only [Act.put, List.setIfInBounds_toArray, List.set_cons_zero, List.set_cons_succ]
      refine wpAnyT_take (i := 5) (oi := { dst := some 28, op := Op.move (Operand.tmp 0), type := 25, pos := "link.go:158", after := #[], guard := none }) (v := ?v5) rfl (by kernel_rfl) (by kernel_rfl) (by kernel_rfl) (by kernel_rfl) (fun _ _ _ h => h) (Or.inl ⟨by rfl, ?h5⟩) hH0 ?r5
      case h5 => intro w' hSw; (try dsimp only at hSw); go_simp; (try with_reducible rfl)
      simp only [Act.put, List.setIfInBounds_toArray, List.set_cons_zero, List.set_cons_succ]
      refine wpAnyT_take (i := 6) (oi := { dst := some 29, op := Op.nilCheck (Operand.tmp 28), type := 0, pos := "link.go:158", after := #[{ on := 5, ground := Ground.data }], guard := none }) (v := ?v6) rfl (by kernel_rfl) (by kernel_rfl) (by kernel_rfl) (by kernel_rfl) (fun _ _ _ h => h) (Or.inl ⟨by rfl, ?h6⟩) hH0 ?r6
      case h6 => intro w' hSw; (try dsimp only at hSw); go_simp; (try with_reducible rfl)
      simp only [Act.put, List.setIfInBounds_toArray, List.set_cons_zero, List.set_cons_succ]
      refine wpAnyT_take (i := 7) (oi := { dst := some 30, op := Op.fieldAddr 64 (Operand.tmp 29) 5, type := 0, pos := "link.go:158", after := #[{ on := 6, ground := Ground.data }], guard := none }) (v := ?v7) rfl (by kernel_rfl) (by kernel_rfl) (by kernel_rfl) (by kernel_rfl) (fun _ _ _ h => h) (Or.inl ⟨by rfl, ?h7⟩) hH0 ?r7
      case h7 => intro w' hSw; (try dsimp only at hSw); go_simp; (try with_reducible rfl)
      simp only [Act.put, List.setIfInBounds_toArray, List.set_cons_zero, List.set_cons_succ]
      refine wpAnyT_take (i := 8) (oi := { dst := some 31, op := Op.load 57 (Operand.tmp 30), type := 57, pos := "link.go:158", after := #[{ on := 7, ground := Ground.data }], guard := none }) (v := ?v8) rfl (by kernel_rfl) (by kernel_rfl) (by kernel_rfl) (by kernel_rfl) (fun _ _ _ h => h) (Or.inl ⟨by rfl, ?h8⟩) hH0 ?r8
      case h8 => intro w' hSw; (try dsimp only at hSw); go_simp; (try with_reducible rfl)
      simp only [Act.put, List.setIfInBounds_toArray, List.set_cons_zero, List.set_cons_succ]
      refine wpAnyT_one (i := 9) (o := { dst := some 32, op := Op.call { callee := Callee.value (Operand.func 47), args := #[Operand.tmp 27, Operand.tmp 31], argTypes := #[62, 57] }, type := 62, pos := "link.go:158", after := #[{ on := 4, ground := Ground.data }, { on := 8, ground := Ground.data }], guard := none }) (by kernel_rfl) rfl (fun K hK => ?_)
      go_simp
      refine (HW.out _).mono ?_
      rintro e w3 ⟨rfl, hb3⟩
      have X3 := HX.out.go hb3
      have hH1 := X3.ds
      have HX3 := Lib.hid X3
      clear hb3 X3 hH0
      go_wp2_with fail
      refine hK.out _ _ (fun _ => hH1) ?_
      clear hK K
      refine wpAnyT_one (i := 10) (o := { dst := some 33, op := Op.nilCheck (Operand.tmp 23), type := 0, pos := "link.go:158", after := #[{ on := 0, ground := Ground.data }, { on := 0, ground := Ground.phase }, { on := 1, ground := Ground.phase }, { on := 2, ground := Ground.phase }, { on := 3, ground := Ground.phase }, { on := 4, ground := Ground.phase }, { on := 5, ground := Ground.phase }, { on := 6, ground := Ground.phase }, { on := 7, ground := Ground.phase }, { on := 8, ground := Ground.phase }, { on := 9, ground := Ground.phase }], guard := none }) (by kernel_rfl) rfl (fun K hK => ?_)
      go_simp
      go_wp2_with fail
      refine hK.out _ _ (fun _ => hH1) ?_
      clear hK K
      refine wpAnyT_one (i := 11) (o := { dst := some 34, op := Op.fieldAddr 64 (Operand.tmp 33) 3, type := 0, pos := "link.go:158", after := #[{ on := 10, ground := Ground.data }, { on := 0, ground := Ground.phase }, { on := 1, ground := Ground.phase }, { on := 2, ground := Ground.phase }, { on := 3, ground := Ground.phase }, { on := 4, ground := Ground.phase }, { on := 5, ground := Ground.phase }, { on := 6, ground := Ground.phase }, { on := 7, ground := Ground.phase }, { on := 8, ground := Ground.phase }, { on := 9, ground := Ground.phase }], guard := none }) (by kernel_rfl) rfl (fun K hK => ?_)
      go_simp
      go_wp2_with fail
      refine hK.out _ _ (fun _ => hH1) ?_
      clear hK K
      refine wpAnyT_one (i := 12) (o := { dst := none, op := Op.store 62 (Operand.tmp 34) (Operand.tmp 32), type := 0, pos := "link.go:158", after := #[{ on := 11, ground := Ground.data }, { on := 9, ground := Ground.data }, { on := 9, ground := Ground.chain }, { on := 0, ground := Ground.phase }, { on := 1, ground := Ground.phase }, { on := 2, ground := Ground.phase }, { on := 3, ground := Ground.phase }, { on := 4, ground := Ground.phase }, { on := 5, ground := Ground.phase }, { on := 6, ground := Ground.phase }, { on := 7, ground := Ground.phase }, { on := 8, ground := Ground.phase }, { on := 9, ground := Ground.phase }], guard := none }) (by kernel_rfl) rfl (fun K hK => ?_)
      go_simp
      go_wp2_with fail
      refine hK.out _ _ (fun h => absurd rfl h) ?_
      clear hK K
      refine wpAnyT_done (by kernel_rfl) ?_ _
      obtain ⟨o1, o2, o3⟩ := HX3.out.store hglt (.bool true) (.int .u16 (s.nu : Int)) (.int .u32 (z : Int))
      have L3 := HX3.out.at_
      have b1 := ((L3.blk.set_ 3 (.bool true)).set_ 4 (.int .u16 (s.nu : Int))).set_ 5 (.int .u32 (z : Int))
      have L4 : ∀ U', LinkAt (((w3.setCell ⟨g, 3, none⟩ (.bool true)).setCell ⟨g, 4, none⟩ (.int .u16 (s.nu : Int))).setCell ⟨g, 5, none⟩ (.int .u32 (z : Int))) g ga gp U' s.tell := fun U' => by
        obtain ⟨m, hm, hp⟩ := L3.pm
        have hm0 : m = [] := List.eq_nil_of_length_eq_zero hp.len
        subst hm0
        refine ⟨?_, L3.am.fr o3 (fun e => L3.ne1 e), ⟨[], hm.fr o3 (fun e => L3.ne2 e), PartsAre.none⟩, L3.ne⟩
        have e : linkC s.tell ga gp = #[.int .u16 (s.next : Int), .int .i64 (s.sent : Int), .map (some ga), .bool true, .int .u16 (s.nu : Int), .int .u32 (z : Int), .map (some gp), .int .u16 (s.nu : Int), .int .i64 (s.ct : Int)] := by rw [HZ.out]; rfl
        rw [e]
        exact b1
      have HE : Hid (OwnB (((w3.setCell ⟨g, 3, none⟩ (.bool true)).setCell ⟨g, 4, none⟩ (.int .u16 (s.nu : Int))).setCell ⟨g, 5, none⟩ (.int .u32 (z : Int))) w.heap.size u3 (msgTo s.ps s.ct) ∧ (∀ U', LinkAt (((w3.setCell ⟨g, 3, none⟩ (.bool true)).setCell ⟨g, 4, none⟩ (.int .u16 (s.nu : Int))).setCell ⟨g, 5, none⟩ (.int .u32 (z : Int))) g ga gp U' s.tell) ∧ Fr (fun i => i = g ∨ i = gp) w (((w3.setCell ⟨g, 3, none⟩ (.bool true)).setCell ⟨g, 4, none⟩ (.int .u16 (s.nu : Int))).setCell ⟨g, 5, none⟩ (.int .u32 (z : Int)))) := ⟨by rw [← HC.out]; exact o1, L4, o2⟩
      clear o1 o2 o3 L3 L4 b1 hH1
      generalize ((w3.setCell ⟨g, 3, none⟩ (.bool true)).setCell ⟨g, 4, none⟩ (.int .u16 (s.nu : Int))).setCell ⟨g, 5, none⟩ (.int .u32 (z : Int)) = w4 at HE ⊢
      go_wp2_with fail
      go_ret
      exact ⟨_, rfl, HE.out⟩
    | succ gk =>
      have hd : decide (k < ct) = true := by simp; omega
      have c6 : wr.cell? ⟨g, 6, none⟩ = some (.map (some gp)) := HL.out.blk.cell 6
      obtain ⟨m, hm, hp⟩ := HL.out.pm
      have hlk := hm.look1 und59 und3 (zero36 wr) (k : Int)
      have hsl := hp.look HS.out.one k
      have hml := msg_len s.ps (fun p hp => (HS.out.by_ p hp).1) k
      have hpl : (partAt s.ps k).length ≤ 200 := part_all (fun l => l.length ≤ 200) (by simp) s.ps k (fun p hp => (HS.out.by_ p hp).1)
      have HSl := Lib.hid hsl
      clear hsl hm hp
      generalize (mget m (k : Int)).getD (.slice none 0 0) = v2 at *
      go_wp2_with (at_builtin; refine wpList_bytes rfl (.tmp 12) (.tmp 18) rfl w.heap.size _ v2 _ _ rfl HSt.out.own rfl HSl.out ?a1 ?a2 ?_)
      case a1 => omega
      case a2 => exact HSt.out.below.size
      intro v9 w9 hown hgr
      have S9 : Hid (DelSt w (k + 1) s v9 w9) := ⟨hown, grown_below HSt.out.below HSt.out.below.size HSt.out.own hgr⟩
      clear hown hgr HSt
      go_wp2_with fail
      go_roundg gk
      case measure => omega
      case rel => exact ⟨k + 1, by omega, by go_num, S9.out⟩

end Go.Proofs.YtmlbhlfjaagcaaaDoor

/- The program's writer: num, signed, text. The program's writer: instructions, variables, rows of them, functions, the image. The program's writer: functions, rows of them, the image. -/
import Derived.Test.YtebdjahcahgafaaDoorPValid
import Derived.Test.YtebdjahcahgafaaDoorIPage
import Derived.Test.YtebdjahcahgafaaDoorIEnc
namespace Go.Proofs.YtebdjahcahgafaaDoor
open Go.RowKit

/-- A writer in block g holds the bytes bs; of what was at w0 nothing is written. -/
structure WrSt (w0 : World) (g m : Nat) (bs : List Nat) (w : World) : Prop where
  ex : ∃ v, Blk w g 59 #[v] ∧ OwnB w w0.heap.size v bs
  new : w0.heap.size ≤ g
  below : Below w0.heap.size w0 w
  len : bs.length ≤ m
/-- Blocks that are neither bytes nor writers stay. -/
def WKeep (w w' : World) : Prop := ∀ (k : Nat) (cs : Array Value) (t : TypeId), t ≠ 5 → t ≠ 59 → Blk w k t cs → Blk w' k t cs
theorem WKeep.refl (w : World) : WKeep w w := fun _ _ _ _ _ h => h
theorem WKeep.trans {a b c : World} (h : WKeep a b) (k : WKeep b c) : WKeep a c := fun i cs t h1 h2 h3 => k i cs t h1 h2 (h i cs t h1 h2 h3)
theorem WrSt.draw {w0 : World} {g m : Nat} {bs : List Nat} {w : World} (h : WrSt w0 g m bs w) (n : Nat) : WrSt w0 g m bs (w.drewN n) := by
  obtain ⟨v, a, b⟩ := h.ex
  exact ⟨⟨v, a, b⟩, h.new, below_draw h.below n, h.len⟩
theorem WrSt.mono {w0 : World} {g m m' : Nat} {bs : List Nat} {w : World} (h : WrSt w0 g m bs w) (hm : m ≤ m') : WrSt w0 g m' bs w := ⟨h.ex, h.new, h.below, Nat.le_trans h.len hm⟩


/-- More bytes behind those of a writer. -/
theorem wr_step {w0 w w1 w2 : World} {g m k : Nat} {v v' : Value} {bs cs : List Nat} (hs : WrSt w0 g m bs w) (hk : Blk w g 59 #[v]) (ho : OwnB w w0.heap.size v bs) (hb : Below w.heap.size w w1)
    (ho2 : OwnB w2 w0.heap.size v' (bs ++ cs)) (hg : w1.grownBy w2 v.ownBlock) (hl : cs.length ≤ k) :
    WrSt w0 g (m + k) (bs ++ cs) (w2.setCell ⟨g, 0, none⟩ v') ∧ WKeep w (w2.setCell ⟨g, 0, none⟩ v') := by
  have ho1 : OwnB w1 w0.heap.size v bs := ho.below hb
  have hk1 : Blk w1 g 59 #[v] := hk.below hb hk.lt
  have f2 : Fr (fun i => v.ownBlock = some i) w1 w2 := Fr.of_grown hg fun _ _ e => e
  have hk2 : Blk w2 g 59 #[v] := hk1.fr f2 (own_ne_blk ho1 hk1 (by decide))
  have f3 : Fr (fun i => i = g) w2 (w2.setCell ⟨g, 0, none⟩ v') := Fr.set (S := fun i => i = g) w2 (p := ⟨g, 0, none⟩) rfl _
  refine ⟨⟨⟨v', ?_, ?_⟩, hs.new, ?_, ?_⟩, ?_⟩
  · have := hk2.set_ 0 v'
    simpa using this
  · exact ownsRow_fr ho2 f3 (fun i e e2 => own_ne_blk ho2 hk2 (by decide) (by rw [e, e2]))
  · have b1 := below_trans hs.below hb
    have b2 := grown_below b1 b1.size ho1 hg
    exact b2.trans (f3.below b2.size (fun i hi e => by have := hs.new; have e : i = g := e; omega))
  · rw [List.length_append]; have := hs.len; omega
  · intro i ds t h1 h2 h3
    have k1 : Blk w1 i t ds := h3.below hb h3.lt
    have k2 : Blk w2 i t ds := k1.fr f2 (own_ne_blk ho1 k1 (fun e => h1 e.symm))
    exact k2.fr f3 (fun e => (Blk.ne_ k2 hk2 h2) e)



set_option maxHeartbeats 1000000 in
set_option maxRecDepth 100000 in
theorem qwnum_c (w0 : World) (g m : Nat) (bs : List Nat) (n : Int) (w : World) (hs : WrSt w0 g m bs w) (hm : m ≤ 2000000000) (hn : kNat n) :
    Calls Tryd.prog 72 #[.pointer (some ⟨g, 0, none⟩), .int .i64 n] w fun e w' => e = .returned (.tuple #[]) ∧ WrSt w0 g (m + 10) (bs ++ natB n) w' ∧ WKeep w w' := by
  obtain ⟨v, hk, ho⟩ := hs.ex
  obtain ⟨n0, n1⟩ := hn
  obtain ⟨n, rfl⟩ : ∃ k : Nat, n = (k : Int) := ⟨n.toNat, by omega⟩
  have hl := vn_len9 (z := n) (by omega)
  have e1 : natB (n : Int) = vn n := by unfold natB; rw [Int.toNat_natCast]
  rw [e1]
  clear e1
  have HC := Lib.hid (num_c (.slice none 0 0) [] n w (SlB.nil w) (by simp) (by omega))
  have hlen := hs.len
  rw [List.nil_append] at HC
  have HS := Lib.hid hs
  have HK := Lib.hid hk
  have HO := Lib.hid ho
  have hbase : w0.heap.size ≤ w.heap.size := hs.below.size
  clear hs hk ho
  go_enter Tryd.func72, Tryd.ntmps72
  go_wp2_with fail
  refine HC.out.mono ?_
  rintro e w1 ⟨gu, nu, rfl, hnu, hgu, hku, hb1⟩
  have ho1 : OwnB w1 0 (.slice (some ⟨gu, 0, none⟩) nu nu) (vn n) := OwnB.blk hku (Nat.zero_le _) hnu (by unfold maxLen; omega)
  clear hku hgu hnu
  have hk1 : w1.cell? ⟨g, 0, none⟩ = some v := (HK.out.below hb1 HK.out.lt).cell 0
  have hfr : w1.frozen? ⟨g, 0, none⟩ = false := (HK.out.below hb1 HK.out.lt).frozen 0
  have HSl := Lib.hid ho1.sl
  have HO1 := Lib.hid (HO.out.below hb1)
  have HB1 := Lib.hid hb1
  clear ho1 hb1
  go_wp2_with (at_builtin; refine wpList_bytes rfl (.tmp 15) (.tmp 16) rfl w0.heap.size _ _ bs (vn n) rfl HO1.out rfl HSl.out (by omega) (by have := HB1.out.size; omega) ?_)
  intro v2 w2 ho2 hg2
  obtain ⟨A2, c2, rfl⟩ := own_slice ho2
  obtain ⟨S2, K2⟩ := wr_step (k := 10) HS.out HK.out HO.out HB1.out ho2 hg2 (by omega)
  have hfr2 : w2.frozen? ⟨g, 0, none⟩ = false := ((HK.out.below HB1.out HK.out.lt).fr (Fr.of_grown (S := fun i => v.ownBlock = some i) hg2 fun _ _ e => e) (own_ne_blk HO1.out (HK.out.below HB1.out HK.out.lt) (by decide))).frozen 0
  have hc2 : w2.cell? ⟨g, 0, none⟩ = some v := ((HK.out.below HB1.out HK.out.lt).fr (Fr.of_grown (S := fun i => v.ownBlock = some i) hg2 fun _ _ e => e) (own_ne_blk HO1.out (HK.out.below HB1.out HK.out.lt) (by decide))).cell 0
  have HS2 := Lib.hid S2
  have HK2 := Lib.hid K2
  clear S2 K2 ho2 hg2 hk1 hfr hlen hl hm hbase
  go_wp2_with fail
  go_end0
  exact ⟨rfl, by simpa only [List.length_append] using HS2.out, by simpa only [List.length_append] using HK2.out⟩

set_option maxHeartbeats 1000000 in
set_option maxRecDepth 100000 in
theorem qwsig_c (w0 : World) (g m : Nat) (bs : List Nat) (n : Int) (w : World) (hs : WrSt w0 g m bs w) (hm : m ≤ 2000000000) (hn : kInt n) :
    Calls Tryd.prog 73 #[.pointer (some ⟨g, 0, none⟩), .int .i64 n] w fun e w' => e = .returned (.tuple #[]) ∧ WrSt w0 g (m + 10) (bs ++ intB n) w' ∧ WKeep w w' := by
  obtain ⟨v, hk, ho⟩ := hs.ex
  have HC := Lib.hid (fun w => int_c (.slice none 0 0) [] n w (SlB.nil w) (by simp) hn.1 hn.2)
  simp only [List.nil_append] at HC
  have hlen := hs.len
  have hv10 := vn_len10 (zz_lt hn.1 hn.2)
  have HS := Lib.hid (hs.draw 1)
  have HK : Hid (Blk w.drew g 59 #[v]) := hk
  have HO : Hid (OwnB w.drew w0.heap.size v bs) := ho
  have hbase : w0.heap.size ≤ w.drew.heap.size := hs.below.size
  have HPK : Hid (WKeep w w.drew) := fun _ _ _ _ _ h => h
  have hH0 : w.drew.cell? ⟨g, 0, none⟩ = some v := HK.out.cell 0
  clear hs hk ho hn
  unfold intB
  go_enter Tryd.func73, Tryd.ntmps73
  go_upto_region 0 with (fail)
  refine wp_region_T (S := fun w1 => w1.cell? ⟨g, 0, none⟩ = some v) 10 (by kernel_rfl) hH0 (fun _ => ?_)
  refine wpAnyT_take (i := 0) (oi := { dst := some 4, op := Op.move (Operand.tmp 0), type := 57, pos := "writer.go:21", after := #[], guard := none }) (v := ?v0) rfl (by kernel_rfl) (by kernel_rfl) (by kernel_rfl) (by kernel_rfl) (fun _ _ _ h => h) (Or.inl ⟨by rfl, ?h0⟩) hH0 ?r0
  case h0 => intro w' hSw; (try dsimp only at hSw); go_simp; (try with_reducible rfl)
  simp only [Act.put, List.setIfInBounds_toArray, List.set_cons_zero, List.set_cons_succ]
  refine wpAnyT_take (i := 1) (oi := { dst := some 5, op := Op.move (Operand.tmp 0), type := 57, pos := "writer.go:21", after := #[], guard := none }) (v := ?v1) rfl (by kernel_rfl) (by kernel_rfl) (by kernel_rfl) (by kernel_rfl) (fun _ _ _ h => h) (Or.inl ⟨by rfl, ?h1⟩) hH0 ?r1
  case h1 => intro w' hSw; (try dsimp only at hSw); go_simp; (try with_reducible rfl)
  simp only [Act.put, List.setIfInBounds_toArray, List.set_cons_zero, List.set_cons_succ]
  refine wpAnyT_take (i := 2) (oi := { dst := some 6, op := Op.nilCheck (Operand.tmp 5), type := 0, pos := "writer.go:21", after := #[{ on := 1, ground := Ground.data }], guard := none }) (v := ?v2) rfl (by kernel_rfl) (by kernel_rfl) (by kernel_rfl) (by kernel_rfl) (fun _ _ _ h => h) (Or.inl ⟨by rfl, ?h2⟩) hH0 ?r2
  case h2 => intro w' hSw; (try dsimp only at hSw); go_simp; (try with_reducible rfl)
  simp only [Act.put, List.setIfInBounds_toArray, List.set_cons_zero, List.set_cons_succ]
  refine wpAnyT_take (i := 3) (oi := { dst := some 7, op := Op.fieldAddr 59 (Operand.tmp 6) 0, type := 0, pos := "writer.go:21", after := #[{ on := 2, ground := Ground.data }], guard := none }) (v := ?v3) rfl (by kernel_rfl) (by kernel_rfl) (by kernel_rfl) (by kernel_rfl) (fun _ _ _ h => h) (Or.inl ⟨by rfl, ?h3⟩) hH0 ?r3
  case h3 => intro w' hSw; (try dsimp only at hSw); go_simp; (try with_reducible rfl)
  simp only [Act.put, List.setIfInBounds_toArray, List.set_cons_zero, List.set_cons_succ]
  refine wpAnyT_take (i := 4) (oi := { dst := some 8, op := Op.load 30 (Operand.tmp 7), type := 30, pos := "writer.go:21", after := #[{ on := 3, ground := Ground.data }], guard := none }) (v := ?v4) rfl (by kernel_rfl) (by kernel_rfl) (by kernel_rfl) (by kernel_rfl) (fun _ _ _ h => h) (Or.inl ⟨by rfl, ?h4⟩) hH0 ?r4
  case h4 => intro w' hSw; (try dsimp only at hSw); go_simp; (try with_reducible rfl)
  simp only [Act.put, List.setIfInBounds_toArray, List.set_cons_zero, List.set_cons_succ]
  refine wpAnyT_take (i := 5) (oi := { dst := some 9, op := Op.move (Operand.tmp 1), type := 3, pos := "writer.go:21", after := #[], guard := none }) (v := ?v5) rfl (by kernel_rfl) (by kernel_rfl) (by kernel_rfl) (by kernel_rfl) (fun _ _ _ h => h) (Or.inl ⟨by rfl, ?h5⟩) hH0 ?r5
  case h5 => intro w' hSw; (try dsimp only at hSw); go_simp; (try with_reducible rfl)
  simp only [Act.put, List.setIfInBounds_toArray, List.set_cons_zero, List.set_cons_succ]
  refine wpAnyT_one (i := 6) (o := { dst := some 10, op := Op.call { callee := Callee.value (Operand.func 94), args := #[Operand.const (Value.slice none 0 0), Operand.tmp 9], argTypes := #[30, 3] }, type := 30, pos := "writer.go:21", after := #[{ on := 5, ground := Ground.data }], guard := none }) (by kernel_rfl) rfl (fun K hK => ?_)
  go_simp
  refine (HC.out _).mono ?_
  rintro e w1 ⟨gu, nu, rfl, hnu, hgu, hku, hb1⟩
  have ho1 : OwnB w1 0 (.slice (some ⟨gu, 0, none⟩) nu nu) (vn (zz n)) := OwnB.blk hku (Nat.zero_le _) hnu (by unfold maxLen; omega)
  clear hku hgu hnu
  have hH1 : w1.cell? ⟨g, 0, none⟩ = some v := (HK.out.below hb1 HK.out.lt).cell 0
  have HSl := Lib.hid ho1.sl
  have HO1 := Lib.hid (HO.out.below hb1)
  have HB1 := Lib.hid hb1
  have HK1 := Lib.hid (HK.out.below hb1 HK.out.lt)
  clear ho1 hb1
  go_wp2_with fail
  refine hK.out _ _ (fun _ => hH1) ?_
  clear hK K
  refine wpAnyT_one (i := 7) (o := { dst := some 11, op := Op.call { callee := Callee.builtin Builtin.append, args := #[Operand.tmp 8, Operand.tmp 10], argTypes := #[30, 30] }, type := 30, pos := "writer.go:21", after := #[{ on := 4, ground := Ground.data }, { on := 6, ground := Ground.data }, { on := 6, ground := Ground.chain }], guard := none }) (by kernel_rfl) rfl (fun K hK => ?_)
  rw [if_pos (by rfl)]
  refine wp_bytes (.tmp 8) (.tmp 10) rfl w0.heap.size _ _ bs (vn (zz n)) rfl HO1.out rfl HSl.out (by omega) (by have := HB1.out.size; omega) ?_
  intro v2 w2 ho2 hg2
  obtain ⟨A2, c2, rfl⟩ := own_slice ho2
  obtain ⟨S2, K2⟩ := wr_step (k := 10) HS.out HK.out HO.out HB1.out ho2 hg2 (by omega)
  have hkk := HK1.out.fr (Fr.of_grown (S := fun i => v.ownBlock = some i) hg2 fun _ _ e => e) (own_ne_blk HO1.out HK1.out (by decide))
  have hH2 : w2.cell? ⟨g, 0, none⟩ = some v := hkk.cell 0
  have hfr2 : w2.frozen? ⟨g, 0, none⟩ = false := hkk.frozen 0
  have HS2 := Lib.hid S2
  have HK2 := Lib.hid (HPK.out.trans K2)
  clear S2 K2 ho2 hg2 hkk
  refine hK.out _ _ (fun _ => hH2) ?_
  clear hK K
  simp only [Act.put, List.setIfInBounds_toArray, List.set_cons_zero, List.set_cons_succ]
  refine wpAnyT_one (i := 8) (o := { dst := some 12, op := Op.nilCheck (Operand.tmp 4), type := 0, pos := "writer.go:21", after := #[{ on := 0, ground := Ground.data }, { on := 0, ground := Ground.phase }, { on := 1, ground := Ground.phase }, { on := 2, ground := Ground.phase }, { on := 3, ground := Ground.phase }, { on := 4, ground := Ground.phase }, { on := 5, ground := Ground.phase }, { on := 6, ground := Ground.phase }, { on := 7, ground := Ground.phase }], guard := none }) (by kernel_rfl) rfl (fun K hK => ?_)
  go_simp
  go_wp2_with fail
  refine hK.out _ _ (fun _ => hH2) ?_
  clear hK K
  refine wpAnyT_one (i := 9) (o := { dst := some 13, op := Op.fieldAddr 59 (Operand.tmp 12) 0, type := 0, pos := "writer.go:21", after := #[{ on := 8, ground := Ground.data }, { on := 0, ground := Ground.phase }, { on := 1, ground := Ground.phase }, { on := 2, ground := Ground.phase }, { on := 3, ground := Ground.phase }, { on := 4, ground := Ground.phase }, { on := 5, ground := Ground.phase }, { on := 6, ground := Ground.phase }, { on := 7, ground := Ground.phase }], guard := none }) (by kernel_rfl) rfl (fun K hK => ?_)
  go_simp
  go_wp2_with fail
  refine hK.out _ _ (fun _ => hH2) ?_
  clear hK K
  refine wpAnyT_one (i := 10) (o := { dst := none, op := Op.store 30 (Operand.tmp 13) (Operand.tmp 11), type := 0, pos := "writer.go:21", after := #[{ on := 9, ground := Ground.data }, { on := 7, ground := Ground.data }, { on := 7, ground := Ground.chain }, { on := 0, ground := Ground.phase }, { on := 1, ground := Ground.phase }, { on := 2, ground := Ground.phase }, { on := 3, ground := Ground.phase }, { on := 4, ground := Ground.phase }, { on := 5, ground := Ground.phase }, { on := 6, ground := Ground.phase }, { on := 7, ground := Ground.phase }], guard := none }) (by kernel_rfl) rfl (fun K hK => ?_)
  go_simp
  go_wp2_with fail
  refine hK.out _ _ (fun h => absurd rfl h) ?_
  clear hK K
  refine wpAnyT_done (by kernel_rfl) ?_ _
  go_wp2_with fail
  go_end0
  exact ⟨rfl, by simpa only [List.length_append] using HS2.out, by simpa only [List.length_append] using HK2.out⟩



set_option maxHeartbeats 1000000 in
set_option maxRecDepth 100000 in
theorem qwtext_c (w0 : World) (g m : Nat) (bs : List Nat) (s : ByteArray) (w : World) (hs : WrSt w0 g m bs w) (hm : m ≤ 2000000000) (hn : s.size ≤ 24) :
    Calls Tryd.prog 74 #[.pointer (some ⟨g, 0, none⟩), .string s] w fun e w' => e = .returned (.tuple #[]) ∧ WrSt w0 g (m + 34) (bs ++ textB' s) w' ∧ WKeep w w' := by
  obtain ⟨v, hk, ho⟩ := hs.ex
  have hl : (vn s.size ++ bytesOf s).length ≤ 34 := by
    have := vn_len9 (z := s.size) (by omega)
    rw [List.length_append, bytesOf_length]; omega
  unfold textB'
  have HCC := text_c (.slice none 0 0) [] s w (SlB.nil w) (by simp) (by omega)
  rw [List.nil_append] at HCC
  generalize vn s.size ++ bytesOf s = ys at *
  have HC := Lib.hid (HCC)
  have hlen := hs.len
  clear HCC
  have HS := Lib.hid hs
  have HK := Lib.hid hk
  have HO := Lib.hid ho
  have hbase : w0.heap.size ≤ w.heap.size := hs.below.size
  clear hs hk ho
  go_enter Tryd.func74, Tryd.ntmps74
  go_wp2_with fail
  refine HC.out.mono ?_
  rintro e w1 ⟨vu, rfl, ho1, hb1⟩
  obtain ⟨Au, cu, rfl⟩ := own_slice ho1
  have hk1 : w1.cell? ⟨g, 0, none⟩ = some v := (HK.out.below hb1 HK.out.lt).cell 0
  have hfr : w1.frozen? ⟨g, 0, none⟩ = false := (HK.out.below hb1 HK.out.lt).frozen 0
  have HSl := Lib.hid ho1.sl
  have HO1 := Lib.hid (HO.out.below hb1)
  have HB1 := Lib.hid hb1
  clear ho1 hb1
  go_wp2_with (at_builtin; refine wpList_bytes rfl (.tmp 15) (.tmp 16) rfl w0.heap.size _ _ bs (ys) rfl HO1.out rfl HSl.out (by omega) (by have := HB1.out.size; omega) ?_)
  intro v2 w2 ho2 hg2
  obtain ⟨A2, c2, rfl⟩ := own_slice ho2
  obtain ⟨S2, K2⟩ := wr_step (k := 34) HS.out HK.out HO.out HB1.out ho2 hg2 (by omega)
  have hfr2 : w2.frozen? ⟨g, 0, none⟩ = false := ((HK.out.below HB1.out HK.out.lt).fr (Fr.of_grown (S := fun i => v.ownBlock = some i) hg2 fun _ _ e => e) (own_ne_blk HO1.out (HK.out.below HB1.out HK.out.lt) (by decide))).frozen 0
  have hc2 : w2.cell? ⟨g, 0, none⟩ = some v := ((HK.out.below HB1.out HK.out.lt).fr (Fr.of_grown (S := fun i => v.ownBlock = some i) hg2 fun _ _ e => e) (own_ne_blk HO1.out (HK.out.below HB1.out HK.out.lt) (by decide))).cell 0
  have HS2 := Lib.hid S2
  have HK2 := Lib.hid K2
  clear S2 K2 ho2 hg2 hk1 hfr hlen hl hm hbase
  go_wp2_with fail
  go_end0
  exact ⟨rfl, by simpa only [List.length_append] using HS2.out, by simpa only [List.length_append] using HK2.out⟩

theorem WrSt.alloc {w0 : World} {g m : Nat} {bs : List Nat} {w : World} (h : WrSt w0 g m bs w) (o : Obj) : WrSt w0 g m bs (w.alloc o) := by
  obtain ⟨v, a, b⟩ := h.ex
  exact ⟨⟨v, a.alloc o, b.below ((Below.refl _ _).alloc (Nat.le_refl _) o)⟩, h.new, h.below.alloc h.below.size o, h.len⟩
theorem WKeep.alloc (w : World) (o : Obj) : WKeep w (w.alloc o) := fun _ _ _ _ _ h => h.alloc o


set_option maxHeartbeats 1000000 in
set_option maxRecDepth 100000 in
theorem qwglob_c (w0 : World) (g m : Nat) (bs : List Nat) (x : GlobR) (w : World) (hs : WrSt w0 g m bs w) (hm : m ≤ 1900000000) (h1 : kNat x.ty) (h2 : kNat x.size) (h3 : kInt x.val) :
    Calls Tryd.prog 46 #[.pointer (some ⟨g, 0, none⟩), globV x] w fun e w' => e = .returned (.tuple #[]) ∧ WrSt w0 g (m + 30) (bs ++ globB x) w' ∧ WKeep w w' := by
  obtain ⟨x1, x2, x3⟩ := x
  simp only at h1 h2 h3
  have H1 := Lib.hid h1
  have H2 := Lib.hid h2
  have H3 := Lib.hid h3
  have HS0 := Lib.hid (hs.alloc (.cells #[.int .i64 x1, .int .i64 x2, .int .i64 x3] 48))
  have HK0 := Lib.hid (WKeep.alloc w (.cells #[.int .i64 x1, .int .i64 x2, .int .i64 x3] 48))
  have HB0 := Lib.hid (Blk.new w 48 #[.int .i64 x1, .int .i64 x2, .int .i64 x3])
  clear hs h1 h2 h3
  unfold globB
  simp only
  go_enter Tryd.func46, Tryd.ntmps46
  go_upto_region 1 with (fail)
  generalize w.alloc (.cells #[.int .i64 x1, .int .i64 x2, .int .i64 x3] 48) = wa at *
  have b0 := HB0.out.cell 0
  have b1 := HB0.out.cell 1
  have b2 := HB0.out.cell 2
  go_wp2_with fail
  refine (qwnum_c w0 g m bs x1 wa HS0.out (by omega) H1.out).mono ?_
  rintro e w1 ⟨rfl, s1, k1⟩
  have HS1 := Lib.hid s1
  have HB1 := Lib.hid (k1 _ _ _ (by decide) (by decide) HB0.out)
  have HK1 := Lib.hid (HK0.out.trans k1)
  clear s1 k1 HS0 HK0 HB0 b0 b1 b2
  have b0 := HB1.out.cell 0
  have b1 := HB1.out.cell 1
  have b2 := HB1.out.cell 2
  go_wp2_with fail
  refine (qwnum_c w0 g _ _ x2 w1 HS1.out (by omega) H2.out).mono ?_
  rintro e w2 ⟨rfl, s1, k1⟩
  have HS2 := Lib.hid s1
  have HB2 := Lib.hid (k1 _ _ _ (by decide) (by decide) HB1.out)
  have HK2 := Lib.hid (HK1.out.trans k1)
  clear s1 k1 HS1 HK1 HB1 b0 b1 b2
  have b0 := HB2.out.cell 0
  have b1 := HB2.out.cell 1
  have b2 := HB2.out.cell 2
  go_wp2_with fail
  refine (qwsig_c w0 g _ _ x3 w2 HS2.out (by omega) H3.out).mono ?_
  rintro e w3 ⟨rfl, s1, k1⟩
  have HS3 := Lib.hid s1
  have HK3 := Lib.hid (HK2.out.trans k1)
  clear s1 k1 HS2 HK2 HB2 b0 b1 b2
  go_wp2_with fail
  go_end0
  refine ⟨rfl, ?_, HK3.out⟩
  have := HS3.out.mono (show m + 10 + 10 + 10 ≤ m + 30 by omega)
  simpa only [List.append_assoc] using this


set_option maxHeartbeats 1000000 in
set_option maxRecDepth 100000 in
theorem qwins_c (w0 : World) (g m : Nat) (bs : List Nat) (x : InsR) (w : World) (hs : WrSt w0 g m bs w) (hm : m ≤ 1900000000) (h1 : kNat x.op) (h2 : kInt x.a) (h3 : kNat x.b) :
    Calls Tryd.prog 77 #[.pointer (some ⟨g, 0, none⟩), insV x] w fun e w' => e = .returned (.tuple #[]) ∧ WrSt w0 g (m + 30) (bs ++ insB x) w' ∧ WKeep w w' := by
  obtain ⟨x1, x2, x3⟩ := x
  simp only at h1 h2 h3
  have H1 := Lib.hid h1
  have H2 := Lib.hid h2
  have H3 := Lib.hid h3
  have HS0 := Lib.hid (hs.alloc (.cells #[.int .i64 x1, .int .i64 x2, .int .i64 x3] 50))
  have HK0 := Lib.hid (WKeep.alloc w (.cells #[.int .i64 x1, .int .i64 x2, .int .i64 x3] 50))
  have HB0 := Lib.hid (Blk.new w 50 #[.int .i64 x1, .int .i64 x2, .int .i64 x3])
  clear hs h1 h2 h3
  unfold insB
  simp only
  go_enter Tryd.func77, Tryd.ntmps77
  go_upto_region 1 with (fail)
  generalize w.alloc (.cells #[.int .i64 x1, .int .i64 x2, .int .i64 x3] 50) = wa at *
  have b0 := HB0.out.cell 0
  have b1 := HB0.out.cell 1
  have b2 := HB0.out.cell 2
  go_wp2_with fail
  refine (qwnum_c w0 g m bs x1 wa HS0.out (by omega) H1.out).mono ?_
  rintro e w1 ⟨rfl, s1, k1⟩
  have HS1 := Lib.hid s1
  have HB1 := Lib.hid (k1 _ _ _ (by decide) (by decide) HB0.out)
  have HK1 := Lib.hid (HK0.out.trans k1)
  clear s1 k1 HS0 HK0 HB0 b0 b1 b2
  have b0 := HB1.out.cell 0
  have b1 := HB1.out.cell 1
  have b2 := HB1.out.cell 2
  go_wp2_with fail
  refine (qwsig_c w0 g _ _ x2 w1 HS1.out (by omega) H2.out).mono ?_
  rintro e w2 ⟨rfl, s1, k1⟩
  have HS2 := Lib.hid s1
  have HB2 := Lib.hid (k1 _ _ _ (by decide) (by decide) HB1.out)
  have HK2 := Lib.hid (HK1.out.trans k1)
  clear s1 k1 HS1 HK1 HB1 b0 b1 b2
  have b0 := HB2.out.cell 0
  have b1 := HB2.out.cell 1
  have b2 := HB2.out.cell 2
  go_wp2_with fail
  refine (qwnum_c w0 g _ _ x3 w2 HS2.out (by omega) H3.out).mono ?_
  rintro e w3 ⟨rfl, s1, k1⟩
  have HS3 := Lib.hid s1
  have HK3 := Lib.hid (HK2.out.trans k1)
  clear s1 k1 HS2 HK2 HB2 b0 b1 b2
  go_wp2_with fail
  go_end0
  refine ⟨rfl, ?_, HK3.out⟩
  have := HS3.out.mono (show m + 10 + 10 + 10 ≤ m + 30 by omega)
  simpa only [List.append_assoc] using this


set_option maxHeartbeats 2000000 in
set_option maxRecDepth 100000 in
theorem qwrow_c (w0 : World) (g m : Nat) (bs : List Nat) (v : Value) (l : List Int) (w : World) (hs : WrSt w0 g m bs w) (hm : m + 10 * l.length ≤ 1000000000) (hv : Shows w0 v 1 l.length (intsV l)) (hl : l.length ≤ 1000) (hn : ∀ n ∈ l, kNat n) :
    Calls Tryd.prog 75 #[.pointer (some ⟨g, 0, none⟩), v, .func (.func 72) #[.pointer (some ⟨g, 0, none⟩)] #[]] w fun e w' => e = .returned (.tuple #[]) ∧ WrSt w0 g (m + 10 + 10 * l.length) (bs ++ listB natB l) w' ∧ WKeep w w' := by
  have HV := Lib.hid hv
  obtain ⟨A, c, rfl, hnc⟩ := hv.slice
  have HN := Lib.hid hn
  have HC := Lib.hid (qwnum_c w0 g m bs (l.length : Int) w hs (by omega) ⟨by omega, by omega⟩)
  have e1 : natB (l.length : Int) = vn l.length := by unfold natB; rw [Int.toNat_natCast]
  rw [e1] at HC
  clear hv hs hn hnc e1
  unfold listB
  go_enter Tryd.func75, Tryd.ntmps75
  go_wp2_with fail
  refine HC.out.mono ?_
  rintro e w1 ⟨rfl, hs1, hk1⟩
  have HS1 := Lib.hid hs1
  have HK1 := Lib.hid hk1
  clear hs1 hk1 HC
  go_wp2_with fail
  go_loopg [7, 14, 15, 16, 17, 18, 19, 20, 21] l.length (fun gg _ s14 _ _ _ _ _ _ _ wr => ∃ k : Nat, k + gg = l.length ∧ s14 = .int .i64 (k : Int) ∧ Hid (WrSt w0 g (m + 10 + 10 * k) (bs ++ vn l.length ++ (l.take k).flatMap natB) wr) ∧ Hid (WKeep w wr))
  case atStart => exact ⟨0, by omega, rfl, by show WrSt _ _ _ _ _; simpa using HS1.out, HK1⟩
  case round =>
    clear HS1 HK1
    obtain ⟨k, hk, rfl, HS, HK⟩ := hrel
    cases gk with
    | zero =>
      have ek : k = l.length := by omega
      subst ek
      have hd : ¬ l.length < l.length := by omega
      clear hk hm hl
      go_wp2_with fail
      go_end0
      refine ⟨rfl, ?_, HK.out⟩
      have := HS.out
      rw [List.take_length, List.append_assoc] at this
      exact this
    | succ gk =>
      have hkn : k < l.length := by omega
      obtain ⟨b, o, c', e0, _, hlt, hcell⟩ := HV.out.int hkn
      injection e0 with e1 _ e2
      subst e1 e2
      have hcell2 : wr.cell? ⟨b, o + k, none⟩ = some (.int .i64 l[k]) := (HS.out.below.cell (p := ⟨b, o + k, none⟩) hlt).trans hcell
      have HC := Lib.hid (qwnum_c w0 g (m + 10 + 10 * k) _ l[k] wr HS.out (by omega) (HN.out _ (List.getElem_mem hkn)))
      have HG : Hid ((l.take (k + 1)).flatMap natB = (l.take k).flatMap natB ++ natB l[k]) := listB_snoc natB (List.getElem?_eq_getElem hkn)
      generalize l[k] = x at *
      clear hlt hcell
      go_wp2_with fail
      refine HC.out.mono ?_
      rintro e w1 ⟨rfl, hs1, hk1⟩
      have HS1 : Hid (WrSt w0 g (m + 10 + 10 * (k + 1)) (bs ++ vn l.length ++ (l.take (k + 1)).flatMap natB) w1) := by
        show WrSt _ _ _ _ _
        rw [HG.out, ← List.append_assoc]
        exact hs1.mono (by omega)
      have HK1 := Lib.hid (HK.out.trans hk1)
      clear hs1 hk1 HC HG HS HK hcell2
      go_wp2_with fail
      go_roundg gk
      case measure => omega
      case rel => exact ⟨k + 1, by omega, by push_cast; rfl, HS1, HK1⟩


set_option maxHeartbeats 2000000 in
set_option maxRecDepth 100000 in
theorem qwcode_c (w0 : World) (g m : Nat) (bs : List Nat) (v : Value) (l : List InsR) (w : World) (hs : WrSt w0 g m bs w) (hm : m + 30 * l.length ≤ 1000000000) (hv : Shows w0 v 3 l.length (codeV l)) (hl : l.length ≤ 32768) (hn : ∀ n ∈ l, kNat n.op ∧ kInt n.a ∧ kNat n.b) :
    Calls Tryd.prog 76 #[.pointer (some ⟨g, 0, none⟩), v, .func (.func 77) #[.pointer (some ⟨g, 0, none⟩)] #[]] w fun e w' => e = .returned (.tuple #[]) ∧ WrSt w0 g (m + 10 + 30 * l.length) (bs ++ listB insB l) w' ∧ WKeep w w' := by
  have HV := Lib.hid hv
  obtain ⟨A, c, rfl, hnc⟩ := hv.slice
  have HN := Lib.hid hn
  have HC := Lib.hid (qwnum_c w0 g m bs (l.length : Int) w hs (by omega) ⟨by omega, by omega⟩)
  have e1 : natB (l.length : Int) = vn l.length := by unfold natB; rw [Int.toNat_natCast]
  rw [e1] at HC
  clear hv hs hn hnc e1
  unfold listB
  go_enter Tryd.func76, Tryd.ntmps76
  go_wp2_with fail
  refine HC.out.mono ?_
  rintro e w1 ⟨rfl, hs1, hk1⟩
  have HS1 := Lib.hid hs1
  have HK1 := Lib.hid hk1
  clear hs1 hk1 HC
  go_wp2_with fail
  go_loopg [7, 14, 15, 16, 17, 18, 19, 20, 21] l.length (fun gg _ s14 _ _ _ _ _ _ _ wr => ∃ k : Nat, k + gg = l.length ∧ s14 = .int .i64 (k : Int) ∧ Hid (WrSt w0 g (m + 10 + 30 * k) (bs ++ vn l.length ++ (l.take k).flatMap insB) wr) ∧ Hid (WKeep w wr))
  case atStart => exact ⟨0, by omega, rfl, by show WrSt _ _ _ _ _; simpa using HS1.out, HK1⟩
  case round =>
    clear HS1 HK1
    obtain ⟨k, hk, rfl, HS, HK⟩ := hrel
    cases gk with
    | zero =>
      have ek : k = l.length := by omega
      subst ek
      have hd : ¬ l.length < l.length := by omega
      clear hk hm hl
      go_wp2_with fail
      go_end0
      refine ⟨rfl, ?_, HK.out⟩
      have := HS.out
      rw [List.take_length, List.append_assoc] at this
      exact this
    | succ gk =>
      have hkn : k < l.length := by omega
      obtain ⟨b, o, c', e0, _, hlt, q1, q2, q3⟩ := HV.out.ins hkn
      injection e0 with e1 _ e2
      subst e1 e2
      have q1 := (HS.out.below.cell (p := ⟨b, o + k * 3, none⟩) hlt).trans q1
      have q2 := (HS.out.below.cell (p := ⟨b, o + k * 3 + 1, none⟩) hlt).trans q2
      have q3 := (HS.out.below.cell (p := ⟨b, o + k * 3 + 2, none⟩) hlt).trans q3
      have HX := Lib.hid (HN.out _ (List.getElem_mem hkn))
      have HG : Hid ((l.take (k + 1)).flatMap insB = (l.take k).flatMap insB ++ insB l[k]) := listB_snoc insB (List.getElem?_eq_getElem hkn)
      generalize l[k] = x at *
      have HC := Lib.hid (qwins_c w0 g (m + 10 + 30 * k) _ x (wr.alloc (.cells #[.int .i64 x.op, .int .i64 x.a, .int .i64 x.b] 50)) (HS.out.alloc _) (by omega) HX.out.1 HX.out.2.1 HX.out.2.2)
      have HKA := Lib.hid (WKeep.alloc wr (.cells #[.int .i64 x.op, .int .i64 x.a, .int .i64 x.b] 50))
      obtain ⟨x1, x2, x3⟩ := x
      simp only at q1 q2 q3 HC HKA
      clear hlt HX
      go_wp2_with fail
      refine HC.out.mono ?_
      rintro e w1 ⟨rfl, hs1, hk1⟩
      have hk1 := HKA.out.trans hk1
      have HS1 : Hid (WrSt w0 g (m + 10 + 30 * (k + 1)) (bs ++ vn l.length ++ (l.take (k + 1)).flatMap insB) w1) := by
        show WrSt _ _ _ _ _
        rw [HG.out, ← List.append_assoc]
        exact hs1.mono (by omega)
      have HK1 := Lib.hid (HK.out.trans hk1)
      clear hs1 hk1 HC HG HS HK q1 q2 q3 HKA
      go_wp2_with fail
      go_roundg gk
      case measure => omega
      case rel => exact ⟨k + 1, by omega, by push_cast; rfl, HS1, HK1⟩


set_option maxHeartbeats 2000000 in
set_option maxRecDepth 100000 in
theorem qwglobs_c (w0 : World) (g m : Nat) (bs : List Nat) (v : Value) (l : List GlobR) (w : World) (hs : WrSt w0 g m bs w) (hm : m + 30 * l.length ≤ 1000000000) (hv : Shows w0 v 3 l.length (globsV l)) (hl : l.length ≤ 64) (hn : ∀ n ∈ l, kNat n.ty ∧ kNat n.size ∧ kInt n.val) :
    Calls Tryd.prog 45 #[.pointer (some ⟨g, 0, none⟩), v, .func (.func 46) #[.pointer (some ⟨g, 0, none⟩)] #[]] w fun e w' => e = .returned (.tuple #[]) ∧ WrSt w0 g (m + 10 + 30 * l.length) (bs ++ listB globB l) w' ∧ WKeep w w' := by
  have HV := Lib.hid hv
  obtain ⟨A, c, rfl, hnc⟩ := hv.slice
  have HN := Lib.hid hn
  have HC := Lib.hid (qwnum_c w0 g m bs (l.length : Int) w hs (by omega) ⟨by omega, by omega⟩)
  have e1 : natB (l.length : Int) = vn l.length := by unfold natB; rw [Int.toNat_natCast]
  rw [e1] at HC
  clear hv hs hn hnc e1
  unfold listB
  go_enter Tryd.func45, Tryd.ntmps45
  go_wp2_with fail
  refine HC.out.mono ?_
  rintro e w1 ⟨rfl, hs1, hk1⟩
  have HS1 := Lib.hid hs1
  have HK1 := Lib.hid hk1
  clear hs1 hk1 HC
  go_wp2_with fail
  go_loopg [7, 14, 15, 16, 17, 18, 19, 20, 21] l.length (fun gg _ s14 _ _ _ _ _ _ _ wr => ∃ k : Nat, k + gg = l.length ∧ s14 = .int .i64 (k : Int) ∧ Hid (WrSt w0 g (m + 10 + 30 * k) (bs ++ vn l.length ++ (l.take k).flatMap globB) wr) ∧ Hid (WKeep w wr))
  case atStart => exact ⟨0, by omega, rfl, by show WrSt _ _ _ _ _; simpa using HS1.out, HK1⟩
  case round =>
    clear HS1 HK1
    obtain ⟨k, hk, rfl, HS, HK⟩ := hrel
    cases gk with
    | zero =>
      have ek : k = l.length := by omega
      subst ek
      have hd : ¬ l.length < l.length := by omega
      clear hk hm hl
      go_wp2_with fail
      go_end0
      refine ⟨rfl, ?_, HK.out⟩
      have := HS.out
      rw [List.take_length, List.append_assoc] at this
      exact this
    | succ gk =>
      have hkn : k < l.length := by omega
      obtain ⟨b, o, c', e0, _, hlt, q1, q2, q3⟩ := HV.out.glob hkn
      injection e0 with e1 _ e2
      subst e1 e2
      have q1 := (HS.out.below.cell (p := ⟨b, o + k * 3, none⟩) hlt).trans q1
      have q2 := (HS.out.below.cell (p := ⟨b, o + k * 3 + 1, none⟩) hlt).trans q2
      have q3 := (HS.out.below.cell (p := ⟨b, o + k * 3 + 2, none⟩) hlt).trans q3
      have HX := Lib.hid (HN.out _ (List.getElem_mem hkn))
      have HG : Hid ((l.take (k + 1)).flatMap globB = (l.take k).flatMap globB ++ globB l[k]) := listB_snoc globB (List.getElem?_eq_getElem hkn)
      generalize l[k] = x at *
      have HC := Lib.hid (qwglob_c w0 g (m + 10 + 30 * k) _ x (wr.alloc (.cells #[.int .i64 x.ty, .int .i64 x.size, .int .i64 x.val] 48)) (HS.out.alloc _) (by omega) HX.out.1 HX.out.2.1 HX.out.2.2)
      have HKA := Lib.hid (WKeep.alloc wr (.cells #[.int .i64 x.ty, .int .i64 x.size, .int .i64 x.val] 48))
      obtain ⟨x1, x2, x3⟩ := x
      simp only at q1 q2 q3 HC HKA
      clear hlt HX
      go_wp2_with fail
      refine HC.out.mono ?_
      rintro e w1 ⟨rfl, hs1, hk1⟩
      have hk1 := HKA.out.trans hk1
      have HS1 : Hid (WrSt w0 g (m + 10 + 30 * (k + 1)) (bs ++ vn l.length ++ (l.take (k + 1)).flatMap globB) w1) := by
        show WrSt _ _ _ _ _
        rw [HG.out, ← List.append_assoc]
        exact hs1.mono (by omega)
      have HK1 := Lib.hid (HK.out.trans hk1)
      clear hs1 hk1 HC HG HS HK q1 q2 q3 HKA
      go_wp2_with fail
      go_roundg gk
      case measure => omega
      case rel => exact ⟨k + 1, by omega, by push_cast; rfl, HS1, HK1⟩

set_option maxHeartbeats 4000000 in
set_option maxRecDepth 100000 in
theorem qwfn_c (w0 : World) (g m : Nat) (bs : List Nat) (f : FnR) (t : Trip) (w : World) (hs : WrSt w0 g m bs w) (hm : m ≤ 900000000) (hf : FnShows w0 t f) (hK : fnK f = true) (hw : f.wide) :
    Calls Tryd.prog 48 #[.pointer (some ⟨g, 0, none⟩), fnV f t] w fun e w' => e = .returned (.tuple #[]) ∧ WrSt w0 g (m + 1000000) (bs ++ fnB f) w' ∧ WKeep w w' := by
  have hmf : ∀ (fn : Fn) (first cap : Array Value) (w : World), (Instr.makeFunc fn first cap).run Tryd.prog w = .ok (.func fn first cap) w := fun _ _ _ _ => rfl
  have HF := Lib.hid hf
  obtain ⟨A1, c1, A2, c2, A3, c3, rfl⟩ := trip_slices hf
  have hg := fnK_iff.1 hK
  have HGd := Lib.hid hg
  have HW := Lib.hid hw
  have hle := hg.le
  have HS0 := Lib.hid (hs.alloc (.cells (fnBox f (.slice A1 f.params.length c1, .slice A2 f.locals.length c2, .slice A3 f.code.length c3)) 54))
  have HK0 := Lib.hid (WKeep.alloc w (.cells (fnBox f (.slice A1 f.params.length c1, .slice A2 f.locals.length c2, .slice A3 f.code.length c3)) 54))
  have HB0 := Lib.hid (Blk.new w 54 (fnBox f (.slice A1 f.params.length c1, .slice A2 f.locals.length c2, .slice A3 f.code.length c3)))
  have HRes : Hid (kNat f.result) := by
    rcases hg.result with h | h
    · exact typeK_nat h
    · rw [h]; exact ⟨by omega, by omega⟩
  have hnp := hg.np
  have hnl := hg.nl
  have hnc := hg.nc
  clear hs hf hK hw hg
  go_enter Tryd.func48, Tryd.ntmps48
  go_upto_region 1 with (fail)
  generalize w.alloc (.cells (fnBox f (.slice A1 f.params.length c1, .slice A2 f.locals.length c2, .slice A3 f.code.length c3)) 54) = wa at *
  have b0 := HB0.out.cell 0
  go_wp2_with fail
  refine (qwtext_c w0 g m bs f.name wa HS0.out (by omega) HGd.out.size.2).mono ?_
  rintro e w1 ⟨rfl, s1, k1⟩
  have HS1 := Lib.hid s1
  have HB1 := Lib.hid (k1 _ _ _ (by decide) (by decide) HB0.out)
  have HK1 := Lib.hid (HK0.out.trans k1)
  clear s1 k1 HS0 HK0 HB0 b0
  have b1 := HB1.out.cell 1
  go_wp2_with fail
  refine (qwrow_c w0 g _ _ _ f.params w1 HS1.out (by omega) HF.out.params (by omega) (fun n hn => typeK_nat (HGd.out.params n hn))).mono ?_
  rintro e w2 ⟨rfl, s1, k1⟩
  have HS2 := Lib.hid s1
  have HB2 := Lib.hid (k1 _ _ _ (by decide) (by decide) HB1.out)
  have HK2 := Lib.hid (HK1.out.trans k1)
  clear s1 k1 HS1 HK1 HB1 b1
  have b2 := HB2.out.cell 2
  go_wp2_with fail
  refine (qwnum_c w0 g _ _ f.result w2 HS2.out (by omega) HRes.out).mono ?_
  rintro e w3 ⟨rfl, s1, k1⟩
  have HS3 := Lib.hid s1
  have HB3 := Lib.hid (k1 _ _ _ (by decide) (by decide) HB2.out)
  have HK3 := Lib.hid (HK2.out.trans k1)
  clear s1 k1 HS2 HK2 HB2 b2
  have b1 := HB3.out.cell 1
  have b3 := HB3.out.cell 3
  obtain ⟨B, d, hsl, hsh⟩ := Shows.from_k HF.out.locals f.params.length hle
  have hdl : (f.locals.drop f.params.length).length ≤ 32 := by rw [List.length_drop]; omega
  have HSH := Lib.hid hsh
  have HDN : Hid (∀ n ∈ f.locals.drop f.params.length, kNat n) := fun n hn => typeK_nat (HGd.out.locals n (List.mem_of_mem_drop hn))
  have HEq : Hid (fnB f = textB' f.name ++ (listB natB f.params ++ (natB f.result ++ (listB natB (f.locals.drop f.params.length) ++ listB insB f.code)))) := rfl
  clear hsh
  generalize f.locals.drop f.params.length = dl at *
  go_wp2_with fail
  refine (qwrow_c w0 g _ _ _ dl w3 HS3.out (by omega) HSH.out (by omega) HDN.out).mono ?_
  rintro e w4 ⟨rfl, s1, k1⟩
  have HS4 := Lib.hid s1
  have HB4 := Lib.hid (k1 _ _ _ (by decide) (by decide) HB3.out)
  have HK4 := Lib.hid (HK3.out.trans k1)
  clear s1 k1 HS3 HK3 HB3 b1 b3 hsl
  have b4 := HB4.out.cell 4
  go_wp2_with fail
  refine (qwcode_c w0 g _ _ _ f.code w4 HS4.out (by omega) HF.out.code hnc (fun n hn => ?_)).mono ?_
  · have h1 := HGd.out.code n hn
    have h2 := HW.out.code n hn
    simp only [insK, Bool.and_eq_true, Bool.not_eq_true', decide_eq_false_iff_not] at h1
    obtain ⟨a1, a2, a3, a4⟩ := h1
    exact ⟨⟨by omega, by omega⟩, h2.2.1, ⟨by omega, by omega⟩⟩
  rintro e w5 ⟨rfl, s1, k1⟩
  have HS5 := Lib.hid (s1.mono (show _ ≤ m + 1000000 by omega))
  have HK5 := Lib.hid (HK4.out.trans k1)
  clear s1 k1 HS4 HK4 HB4 b4
  go_wp2_with fail
  go_end0
  refine ⟨rfl, ?_, HK5.out⟩
  rw [HEq.out]
  simpa only [List.append_assoc] using HS5.out

set_option maxHeartbeats 4000000 in
set_option maxRecDepth 100000 in
theorem qwfns_c (w0 : World) (g m : Nat) (bs : List Nat) (gv v : Value) (x : ImgR) (w : World) (hs : WrSt w0 g m bs w) (hm : m ≤ 100000) (hx : ImgShows w0 gv v x) (hl : x.fns.length ≤ 64) (hK : ∀ f ∈ x.fns, fnK f = true) (hw : ∀ f ∈ x.fns, f.wide) :
    Calls Tryd.prog 47 #[.pointer (some ⟨g, 0, none⟩), v, .func (.func 48) #[.pointer (some ⟨g, 0, none⟩)] #[]] w fun e w' => e = .returned (.tuple #[]) ∧ WrSt w0 g (m + 10 + 1000000 * x.fns.length) (bs ++ listB fnB x.fns) w' ∧ WKeep w w' := by
  have HX := Lib.hid hx
  obtain ⟨_, ts, _, hf0, _⟩ := hx
  obtain ⟨A, c, rfl, hnc⟩ := hf0.slice
  clear hf0
  have HKK := Lib.hid hK
  have HWW := Lib.hid hw
  have HC := Lib.hid (qwnum_c w0 g m bs (x.fns.length : Int) w hs (by omega) ⟨by omega, by omega⟩)
  have e1 : natB (x.fns.length : Int) = vn x.fns.length := by unfold natB; rw [Int.toNat_natCast]
  rw [e1] at HC
  clear hs hK hw hnc e1
  unfold listB
  go_enter Tryd.func47, Tryd.ntmps47
  go_wp2_with fail
  refine HC.out.mono ?_
  rintro e w1 ⟨rfl, hs1, hk1⟩
  have HS1 := Lib.hid hs1
  have HK1 := Lib.hid hk1
  clear hs1 hk1 HC
  go_wp2_with fail
  go_loopg [7, 14, 15, 16, 17, 18, 19, 20, 21] x.fns.length (fun gg _ s14 _ _ _ _ _ _ _ wr => ∃ k : Nat, k + gg = x.fns.length ∧ s14 = .int .i64 (k : Int) ∧ Hid (WrSt w0 g (m + 10 + 1000000 * k) (bs ++ vn x.fns.length ++ (x.fns.take k).flatMap fnB) wr) ∧ Hid (WKeep w wr))
  case atStart => exact ⟨0, by omega, rfl, by show WrSt _ _ _ _ _; simpa using HS1.out, HK1⟩
  case round =>
    clear HS1 HK1
    obtain ⟨k, hk, rfl, HS, HK⟩ := hrel
    cases gk with
    | zero =>
      have ek : k = x.fns.length := by omega
      subst ek
      have hd : ¬ x.fns.length < x.fns.length := by omega
      clear hk hm hl
      go_wp2_with fail
      go_end0
      refine ⟨rfl, ?_, HK.out⟩
      have := HS.out
      rw [List.take_length, List.append_assoc] at this
      exact this
    | succ gk =>
      have hkn : k < x.fns.length := by omega
      obtain ⟨b, o, c', t, e0, _, hlt, hsh, q0, q1, q2, q3, q4⟩ := HX.out.fn hkn
      injection e0 with e1 _ e2
      subst e1 e2
      have hKf := HKK.out _ (List.getElem_mem hkn)
      have hWf := HWW.out _ (List.getElem_mem hkn)
      have HG : Hid ((x.fns.take (k + 1)).flatMap fnB = (x.fns.take k).flatMap fnB ++ fnB x.fns[k]) := listB_snoc fnB (List.getElem?_eq_getElem hkn)
      generalize x.fns[k] = f at *
      obtain ⟨A1, d1, A2, d2, A3, d3, rfl⟩ := trip_slices hsh
      simp only at q0 q1 q2 q3 q4
      have q0 := (HS.out.below.cell (p := ⟨b, o + k * 5, none⟩) hlt).trans q0
      have q1 := (HS.out.below.cell (p := ⟨b, o + k * 5 + 1, none⟩) hlt).trans q1
      have q2 := (HS.out.below.cell (p := ⟨b, o + k * 5 + 2, none⟩) hlt).trans q2
      have q3 := (HS.out.below.cell (p := ⟨b, o + k * 5 + 3, none⟩) hlt).trans q3
      have q4 := (HS.out.below.cell (p := ⟨b, o + k * 5 + 4, none⟩) hlt).trans q4
      have HC := Lib.hid (qwfn_c w0 g (m + 10 + 1000000 * k) _ f _ (wr.alloc (.cells (fnBox f (.slice A1 f.params.length d1, .slice A2 f.locals.length d2, .slice A3 f.code.length d3)) 54)) (HS.out.alloc _) (by omega) hsh hKf hWf)
      have HKA := Lib.hid (WKeep.alloc wr (.cells (fnBox f (.slice A1 f.params.length d1, .slice A2 f.locals.length d2, .slice A3 f.code.length d3)) 54))
      clear hlt hKf hWf hsh
      go_wp2_with fail
      refine HC.out.mono ?_
      rintro e w1 ⟨rfl, hs1, hk1⟩
      have HS1 : Hid (WrSt w0 g (m + 10 + 1000000 * (k + 1)) (bs ++ vn x.fns.length ++ (x.fns.take (k + 1)).flatMap fnB) w1) := by
        show WrSt _ _ _ _ _
        rw [HG.out, ← List.append_assoc]
        exact hs1.mono (by omega)
      have HK1 := Lib.hid (HK.out.trans (HKA.out.trans hk1))
      clear hs1 hk1 HC HG HS HK q0 q1 q2 q3 q4 HKA
      go_wp2_with fail
      go_roundg gk
      case measure => omega
      case rel => exact ⟨k + 1, by omega, by push_cast; rfl, HS1, HK1⟩

end Go.Proofs.YtebdjahcahgafaaDoor

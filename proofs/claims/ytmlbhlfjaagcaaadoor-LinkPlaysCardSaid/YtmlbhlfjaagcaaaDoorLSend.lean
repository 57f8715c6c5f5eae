/- The contract of Send. -/
import Derived.Test.YtmlbhlfjaagcaaaDoorLAck
import Derived.Test.YtmlbhlfjaagcaaaDoorLWrite
import Derived.Deep.RegionHeld
import Derived.StillTailTactics
namespace Go.Proofs.YtmlbhlfjaagcaaaDoor
open Go.RowKit

/-- The part of index i of a message. -/
def cutN (b : List Nat) (i : Nat) : List Nat := (b.drop (200 * i)).take 200
/-- The datagram of index i. -/
def dgram (s : LS) (b : List Nat) (i : Nat) : List Nat := frame (headL s.so s.la s.bi s.next i (manyN b.length) ++ cutN b i)
def dgrams (s : LS) (b : List Nat) (k : Nat) : List (List Nat) := (List.range k).map (dgram s b)
theorem dgrams_succ (s : LS) (b : List Nat) (k : Nat) : dgrams s b (k + 1) = dgrams s b k ++ [dgram s b k] := by simp [dgrams, List.range_succ]
theorem dgrams_len (s : LS) (b : List Nat) (k : Nat) : (dgrams s b k).length = k := by simp [dgrams]
/-- The state once a message was sent. -/
def LS.sendS (s : LS) : LS := { s with next := (s.next + 1) % 65536, sent := min (s.sent + 1) 64, ak := s.ak.erase (aheadN s.next 64) }

/-- Slices of bytes of one's own, each in a block of its own. -/
structure Rows (w : World) (base : Nat) (gs : List Nat) (ds : List (List Nat)) : Prop where
  len : gs.length = ds.length
  each : ∀ (j : Nat) (g : Nat) (d : List Nat), gs[j]? = some g → ds[j]? = some d → base ≤ g ∧ Blk w g 5 (U8s d).toArray
  inc : gs.Pairwise (· < ·)
def rowV (gs : List Nat) (ds : List (List Nat)) : List Value := List.zipWith (fun g d => Value.slice (some ⟨g, 0, none⟩) d.length d.length) gs ds

section
variable {w w' : World} {base : Nat} {gs : List Nat} {ds : List (List Nat)}
theorem Rows.nil : Rows w base [] [] := ⟨rfl, fun j g d h => by simp at h, List.Pairwise.nil⟩
theorem Rows.fr {S : Nat → Prop} (h : Rows w base gs ds) (hf : Fr S w w') (hs : ∀ k cs, Blk w k 5 cs → base ≤ k → ¬ S k) : Rows w' base gs ds :=
  ⟨h.len, fun j g d h1 h2 => by obtain ⟨a, b⟩ := h.each j g d h1 h2; exact ⟨a, b.fr hf (hs _ _ b a)⟩, h.inc⟩
theorem Rows.lt (h : Rows w base gs ds) : ∀ g ∈ gs, g < w.heap.size := fun g hg => by
  obtain ⟨j, hj⟩ := List.getElem?_of_mem hg
  have hl : j < ds.length := by have := (List.getElem?_eq_some_iff.1 hj).1; have := h.len; omega
  exact (h.each j g _ hj (List.getElem?_eq_getElem hl)).2.lt
theorem Rows.add (h : Rows w base gs ds) {g : Nat} {d : List Nat} (hg : Blk w g 5 (U8s d).toArray) (hb : base ≤ g) (hi : ∀ x ∈ gs, x < g) : Rows w base (gs ++ [g]) (ds ++ [d]) := by
  refine ⟨by simp [h.len], fun j g' d' h1 h2 => ?_, List.pairwise_append.2 ⟨h.inc, by simp, fun a ha b hb => (List.mem_singleton.1 hb) ▸ hi a ha⟩⟩
  by_cases hj : j < gs.length
  · rw [List.getElem?_append_left hj] at h1
    rw [List.getElem?_append_left (by rw [← h.len]; exact hj)] at h2
    exact h.each j g' d' h1 h2
  · rw [List.getElem?_append_right (by omega)] at h1
    rw [List.getElem?_append_right (by rw [← h.len]; omega)] at h2
    have h0 : j - gs.length = 0 := by have := (List.getElem?_eq_some_iff.1 h1).1; simp at this; omega
    rw [h0] at h1
    rw [← h.len, h0] at h2
    obtain rfl : g = g' := by simpa using h1
    obtain rfl : d = d' := by simpa using h2
    exact ⟨hb, hg⟩
theorem rowV_len (h : gs.length = ds.length) : (rowV gs ds).length = ds.length := by simp [rowV, h]
theorem rowV_add (h : gs.length = ds.length) (g : Nat) (d : List Nat) : rowV (gs ++ [g]) (ds ++ [d]) = rowV gs ds ++ [.slice (some ⟨g, 0, none⟩) d.length d.length] := by
  unfold rowV
  rw [List.zipWith_append h]
  rfl
end

theorem info36 : (Tryd.prog.info? 36).map (fun i => (i.zero, i.size, i.bytes)) = some (some (.slice none 0 0), 1, 24) := by kernel_rfl

/-- 'b[lo:hi]'. -/
theorem SlB.mid {w : World} {A : Option Addr} {n c : Nat} {bs : List Nat} (h : SlB w (.slice A n c) bs) (lo hi : Nat) (x y : Int) (hx : x = (lo : Int)) (hy : y = (hi : Int)) (h1 : lo ≤ hi) (h2 : hi ≤ n) :
    ∃ B d, (∀ w', (Instr.sliceAt 36 (.slice A n c) (some (.int .i64 x)) (some (.int .i64 y)) none).run Tryd.prog w' = .ok (.slice B (hi - lo) d) w') ∧ SlB w (.slice B (hi - lo) d) ((bs.drop lo).take (hi - lo)) := by
  obtain ⟨A', c', e, ha, hb, hc⟩ := h
  injection e with e1 e2 e3
  subst e1 e2 e3
  refine ⟨_, _, fun w' => ?_, SlB.take (k := hi - lo) (SlB.drop (k := lo) (⟨A, c, rfl, ha, hb, hc⟩ : SlB w (.slice A bs.length c) bs) (by omega) (bs.length - lo) rfl) (by omega)⟩
  subst hx hy
  rw [run_sliceAt_slice w' 36 _ _ _ _ (by rw [elem22]; exact Tryd.underlying36), run_slice_lh w' 36 A bs.length c (by rw [elem22]; exact Tryd.underlying36) .i64 .i64 (lo : Int) (hi : Int) (by omega) (by omega) (by omega), elem22, size_u8]
  simp [Result.andThen, sliced]

def SendTo (w : World) (g ga gp : Nat) (U : Nat → Prop) (s : LS) (b : List Nat) (e : Ending) (w' : World) : Prop :=
  (2000 < b.length ∧ e = .returned (.tuple #[.slice none 0 0, .int .i64 0, .int .i64 2]) ∧ w' = w) ∨
  (b.length ≤ 2000 ∧ ∃ v gs, e = .returned (.tuple #[v, .int .i64 (s.next : Int), .int .i64 0]) ∧ w'.ownsRow w.heap.size 36 1 v (manyN b.length) (rowV gs (dgrams s b (manyN b.length))) ∧ Rows w' w.heap.size gs (dgrams s b (manyN b.length)) ∧ LinkAt w' g ga gp U s.sendS ∧ Fr (fun i => i = g ∨ i = ga) w w')

/-- In the midst of Send: k datagrams are made. -/
structure SdSt (w : World) (s : LS) (b : List Nat) (hp k : Nat) (v : Value) (wr : World) : Prop where
  pk : ∃ (ix : Nat) (x : Value), Blk wr hp 78 #[.bool s.so, .int .u16 (s.la : Int), .int .u32 (s.bi : Int), .int .u16 (s.next : Int), .int .i64 (ix : Int), .int .i64 (manyN b.length : Int), x]
  row : ∃ gs, wr.ownsRow w.heap.size 36 1 v k (rowV gs (dgrams s b k)) ∧ Rows wr w.heap.size gs (dgrams s b k)
  below : Below w.heap.size w wr

theorem SdSt.set {w wr : World} {s : LS} {b : List Nat} {hp k : Nat} {v : Value} (S : SdSt w s b hp k v wr) (i : Nat) (x : Value) (hh : w.heap.size ≤ hp) :
    Blk ((wr.setCell ⟨hp, 4, none⟩ (.int .i64 (i : Int))).setCell ⟨hp, 6, none⟩ x).drew hp 78 #[.bool s.so, .int .u16 (s.la : Int), .int .u32 (s.bi : Int), .int .u16 (s.next : Int), .int .i64 (i : Int), .int .i64 (manyN b.length : Int), x] ∧
    (∃ gs, ((wr.setCell ⟨hp, 4, none⟩ (.int .i64 (i : Int))).setCell ⟨hp, 6, none⟩ x).drew.ownsRow w.heap.size 36 1 v k (rowV gs (dgrams s b k)) ∧ Rows ((wr.setCell ⟨hp, 4, none⟩ (.int .i64 (i : Int))).setCell ⟨hp, 6, none⟩ x).drew w.heap.size gs (dgrams s b k)) ∧
    Below w.heap.size w ((wr.setCell ⟨hp, 4, none⟩ (.int .i64 (i : Int))).setCell ⟨hp, 6, none⟩ x).drew := by
  have hf : Fr (fun q => q = hp) wr ((wr.setCell ⟨hp, 4, none⟩ (.int .i64 (i : Int))).setCell ⟨hp, 6, none⟩ x).drew :=
    ((Fr.set (S := fun q => q = hp) wr (p := ⟨hp, 4, none⟩) rfl _).trans (Fr.set (S := fun q => q = hp) _ (p := ⟨hp, 6, none⟩) rfl _) (fun _ _ h => h)).drew
  obtain ⟨ix, v0, hk⟩ := S.pk
  obtain ⟨gs, h1, h2⟩ := S.row
  refine ⟨(hk.set_ 4 (.int .i64 (i : Int))).set_ 6 x, ⟨gs, ownsRow_fr h1 hf (fun q hq e => own_ne_blk h1 hk (by decide) (by have e : q = hp := e; rw [← e]; exact hq)), h2.fr hf (fun q cs hq _ e => hq.ne_ hk (by decide) e)⟩, S.below.trans (hf.below S.below.size (fun q hq e => by have e : q = hp := e; omega))⟩

theorem del_ak (n : Nat) (l : List Nat) : mdel (akM l) (n : Int) = akM (l.erase n) := by
  unfold mdel
  rw [mfind_ak]
  by_cases h : n ∈ l
  · rw [if_pos h]
    simp only [Nat.zero_add]
    unfold akM
    rw [← l_map_erase, List.erase_eq_eraseIdx_of_idxOf rfl]
  · rw [if_neg h, List.erase_of_not_mem h]

theorem sendS_keep {w w1 w2 : World} {g : Nat} {a b c d : Value} (h : w1.cell? ⟨g, 0, none⟩ = some a ∧ w1.cell? ⟨g, 3, none⟩ = some b ∧ w1.cell? ⟨g, 4, none⟩ = some c ∧ w1.cell? ⟨g, 5, none⟩ = some d ∧ Below w.heap.size w w1) (hg : g < w.heap.size) (hb : Below w1.heap.size w1 w2) :
    w2.cell? ⟨g, 0, none⟩ = some a ∧ w2.cell? ⟨g, 3, none⟩ = some b ∧ w2.cell? ⟨g, 4, none⟩ = some c ∧ w2.cell? ⟨g, 5, none⟩ = some d ∧ Below w.heap.size w w2 := by
  have hl : g < w1.heap.size := by have := h.2.2.2.2.size; omega
  exact ⟨(hb.cell (p := ⟨g, 0, none⟩) hl).trans h.1, (hb.cell (p := ⟨g, 3, none⟩) hl).trans h.2.1, (hb.cell (p := ⟨g, 4, none⟩) hl).trans h.2.2.1, (hb.cell (p := ⟨g, 5, none⟩) hl).trans h.2.2.2.1, below_trans h.2.2.2.2 hb⟩

set_option maxHeartbeats 8000000 in
set_option maxRecDepth 100000 in
theorem send_c {g ga gp : Nat} {U : Nat → Prop} {s : LS} {w : World} (v : Value) (b : List Nat) (h : LinkAt w g ga gp U s) (hs : s.ok) (hv : SlB w v b) (ht : Tab w) (hby : ∀ x ∈ b, x < 256) :
    Calls Tryd.prog 21 #[.pointer (some ⟨g, 0, none⟩), v] w (SendTo w g ga gp U s b) := by
  obtain ⟨A, c, rfl, hr⟩ := hv
  have HV := Lib.hid (show SlB w (.slice A b.length c) b from ⟨A, c, rfl, hr⟩)
  have HL := Lib.hid h
  have HS := Lib.hid hs
  have HT := Lib.hid ht
  have HBy := Lib.hid hby
  clear h hs hr ht hby
  rcases Nat.lt_or_ge 2000 b.length with hlong | hshort
  · have hd : decide ((2000 : Int) < (b.length : Int)) = true := by simp; omega
    have HN := Lib.hid hlong
    clear hlong
    go_enter Tryd.func21, Tryd.ntmps21
    go_wp2_with fail
    go_ret3
    exact .inl ⟨HN.out, rfl, rfl⟩
  · have hd : decide ((2000 : Int) < (b.length : Int)) = false := by simp; omega
    have HN := Lib.hid hshort
    have hgl : g < w.heap.size := HL.out.blk.lt
    have HC := Lib.hid (fun w => count_c b.length w hshort)
    have c0 : w.cell? ⟨g, 0, none⟩ = some (.int .u16 (s.next : Int)) := HL.out.blk.cell 0
    have c3 : w.cell? ⟨g, 3, none⟩ = some (.bool s.so) := HL.out.blk.cell 3
    have c4 : w.cell? ⟨g, 4, none⟩ = some (.int .u16 (s.la : Int)) := HL.out.blk.cell 4
    have c5 : w.cell? ⟨g, 5, none⟩ = some (.int .u32 (s.bi : Int)) := HL.out.blk.cell 5
    go_enter Tryd.func21, Tryd.ntmps21
    go_upto_region 3 with (fail)
    go_cut [7] (fun s7 wx => ∃ hp, s7 = .pointer (some ⟨hp, 0, none⟩) ∧ w.heap.size ≤ hp ∧ Blk wx hp 78 #[.bool s.so, .int .u16 (s.la : Int), .int .u32 (s.bi : Int), .int .u16 (s.next : Int), .int .i64 0, .int .i64 (manyN b.length : Int), .slice none 0 0] ∧ Below w.heap.size w wx)
    case first =>
      generalize hmn : manyN b.length = mn at *
      have HMn := Lib.hid hmn
      clear hmn
      refine wp_region_held_drew (S := fun w1 => w1.cell? ⟨g, 0, none⟩ = some (.int .u16 (s.next : Int)) ∧ w1.cell? ⟨g, 3, none⟩ = some (.bool s.so) ∧ w1.cell? ⟨g, 4, none⟩ = some (.int .u16 (s.la : Int)) ∧ w1.cell? ⟨g, 5, none⟩ = some (.int .u32 (s.bi : Int)) ∧ Below w.heap.size w w1) (by kernel_rfl) ⟨c0, c3, c4, c5, (Below.refl _ _).drew⟩ (fun hH0 => ?_)
      refine wpAnyH_take (i := 0) (oi := { dst := some 14, op := Op.move (Operand.tmp 0), type := 25, pos := "link.go:59", after := #[], guard := none }) (v := ?v0) rfl (by kernel_rfl) (by kernel_rfl) (by kernel_rfl) (fun _ _ _ h => h) (Or.inl ⟨by rfl, ?h0⟩) hH0 ?r0
      case h0 => intro w' hSw; (try dsimp only at hSw); go_simp; (try with_reducible rfl)
      simp only [Act.put, List.setIfInBounds_toArray, List.set_cons_zero, List.set_cons_succ]
      refine wpAnyH_take (i := 1) (oi := { dst := some 15, op := Op.nilCheck (Operand.tmp 14), type := 0, pos := "link.go:59", after := #[{ on := 0, ground := Ground.data }], guard := none }) (v := ?v1) rfl (by kernel_rfl) (by kernel_rfl) (by kernel_rfl) (fun _ _ _ h => h) (Or.inl ⟨by rfl, ?h1⟩) hH0 ?r1
      case h1 => intro w' hSw; (try dsimp only at hSw); go_simp; (try with_reducible rfl)
      simp only [Act.put, List.setIfInBounds_toArray, List.set_cons_zero, List.set_cons_succ]
      refine wpAnyH_take (i := 2) (oi := { dst := some 16, op := Op.fieldAddr 64 (Operand.tmp 15) 3, type := 0, pos := "link.go:59", after := #[{ on := 1, ground := Ground.data }], guard := none }) (v := ?v2) rfl (by kernel_rfl) (by kernel_rfl) (by kernel_rfl) (fun _ _ _ h => h) (Or.inl ⟨by rfl, ?h2⟩) hH0 ?r2
      case h2 => intro w' hSw; (try dsimp only at hSw); go_simp; (try with_reducible rfl)
      simp only [Act.put, List.setIfInBounds_toArray, List.set_cons_zero, List.set_cons_succ]
      refine wpAnyH_take (i := 3) (oi := { dst := some 17, op := Op.load 62 (Operand.tmp 16), type := 62, pos := "link.go:59", after := #[{ on := 2, ground := Ground.data }], guard := none }) (v := ?v3) rfl (by kernel_rfl) (by kernel_rfl) (by kernel_rfl) (fun _ _ _ h => h) (Or.inl ⟨by rfl, ?h3⟩) hH0 ?r3
      case h3 => intro w' hSw; (try dsimp only at hSw); go_simp; (try with_reducible rfl)
      simp only [Act.put, List.setIfInBounds_toArray, List.set_cons_zero, List.set_cons_succ]
      refine wpAnyH_take (i := 4) (oi := { dst := some 18, op := Op.move (Operand.tmp 0), type := 25, pos := "link.go:59", after := #[], guard := none }) (v := ?v4) rfl (by kernel_rfl) (by kernel_rfl) (by kernel_rfl) (fun _ _ _ h => h) (Or.inl ⟨by rfl, ?h4⟩) hH0 ?r4
      case h4 => intro w' hSw; (try dsimp only at hSw); go_simp; (try with_reducible rfl)
      simp only [Act.put, List.setIfInBounds_toArray, List.set_cons_zero, List.set_cons_succ]
      refine wpAnyH_take (i := 5) (oi := { dst := some 19, op := Op.nilCheck (Operand.tmp 18), type := 0, pos := "link.go:59", after := #[{ on := 4, ground := Ground.data }], guard := none }) (v := ?v5) rfl (by kernel_rfl) (by kernel_rfl) (by kernel_rfl) (fun _ _ _ h => h) (Or.inl ⟨by rfl, ?h5⟩) hH0 ?r5
      case h5 => intro w' hSw; (try dsimp only at hSw); go_simp; (try with_reducible rfl)
      simp only [Act.put, List.setIfInBounds_toArray, List.set_cons_zero, List.set_cons_succ]
      refine wpAnyH_take (i := 6) (oi := { dst := some 20, op := Op.fieldAddr 64 (Operand.tmp 19) 0, type := 0, pos := "link.go:59", after := #[{ on := 5, ground := Ground.data }], guard := none }) (v := ?v6) rfl (by kernel_rfl) (by kernel_rfl) (by kernel_rfl) (fun _ _ _ h => h) (Or.inl ⟨by rfl, ?h6⟩) hH0 ?r6
      case h6 => intro w' hSw; (try dsimp only at hSw); go_simp; (try with_reducible rfl)
      simp only [Act.put, List.setIfInBounds_toArray, List.set_cons_zero, List.set_cons_succ]
      refine wpAnyH_take (i := 7) (oi := { dst := some 21, op := Op.load 57 (Operand.tmp 20), type := 57, pos := "link.go:59", after := #[{ on := 6, ground := Ground.data }], guard := none }) (v := ?v7) rfl (by kernel_rfl) (by kernel_rfl) (by kernel_rfl) (fun _ _ _ h => h) (Or.inl ⟨by rfl, ?h7⟩) hH0 ?r7
      case h7 => intro w' hSw; (try dsimp only at hSw); go_simp; (try with_reducible rfl)
      simp only [Act.put, List.setIfInBounds_toArray, List.set_cons_zero, List.set_cons_succ]
      refine wpAnyH_take (i := 8) (oi := { dst := some 22, op := Op.move (Operand.tmp 1), type := 36, pos := "link.go:59", after := #[], guard := none }) (v := ?v8) rfl (by kernel_rfl) (by kernel_rfl) (by kernel_rfl) (fun _ _ _ h => h) (Or.inl ⟨by rfl, ?h8⟩) hH0 ?r8
      case h8 => intro w' hSw; (try dsimp only at hSw); go_simp; (try with_reducible rfl)
      simp only [Act.put, List.setIfInBounds_toArray, List.set_cons_zero, List.set_cons_succ]
      refine wpAnyH_take (i := 9) (oi := { dst := some 23, op := Op.call { callee := Callee.builtin Builtin.len, args := #[Operand.tmp 22], argTypes := #[36] }, type := 3, pos := "link.go:59", after := #[{ on := 8, ground := Ground.data }], guard := none }) (v := ?v9) rfl (by kernel_rfl) (by kernel_rfl) (by kernel_rfl) (fun _ _ _ h => h) (Or.inl ⟨by rfl, ?h9⟩) hH0 ?r9
      case h9 => intro w' hSw; (try dsimp only at hSw); go_simp; (try with_reducible rfl)
      simp only [Act.put, List.setIfInBounds_toArray, List.set_cons_zero, List.set_cons_succ]
      clear c0 c3 c4 c5
      refine wpAnyH_ready (rs := [10, 12]) (by kernel_rfl) (by simp) ?_
      refine AllReadyH.cons (o := { dst := some 24, op := Op.call { callee := Callee.value (Operand.func 31), args := #[Operand.tmp 23], argTypes := #[3] }, type := 3, pos := "link.go:59", after := #[{ on := 9, ground := Ground.data }], guard := none }) rfl (fun K hK => ?_) (AllReadyH.cons (o := { dst := some 7, op := Op.alloc 78, type := 0, pos := "link.go:59", after := #[], guard := none }) rfl (fun K hK => ?_) AllReadyH.nil)
      · go_simp
        refine (HC.out _).mono ?_
        rintro e w3 ⟨rfl, rfl⟩
        go_wp2_with fail
        refine hK.out _ _ hH0 (fun hH1 => ?_)
        clear hK K
        refine wpAnyH_take (i := 11) (oi := { dst := some 25, op := Op.build 78 #[(0, Operand.tmp 17), (1, Operand.tmp 21), (3, Operand.tmp 24)], type := 78, pos := "link.go:59", after := #[{ on := 3, ground := Ground.data }, { on := 7, ground := Ground.data }, { on := 10, ground := Ground.data }], guard := none }) (v := ?v11) rfl (by kernel_rfl) (by kernel_rfl) (by kernel_rfl) (fun _ _ _ h => h) (Or.inl ⟨by rfl, ?h11⟩) hH1 ?r11
        case h11 => intro w' hSw; (try dsimp only at hSw); go_simp; (try with_reducible rfl)
        simp only [Act.put, List.setIfInBounds_toArray, List.set_cons_zero, List.set_cons_succ]
        refine wpAnyH_ready (rs := [12]) (by kernel_rfl) (by simp) ?_
        refine AllReadyH.cons (o := { dst := some 7, op := Op.alloc 78, type := 0, pos := "link.go:59", after := #[], guard := none }) rfl (fun K hK => ?_) AllReadyH.nil
        go_simp
        go_wp2_with fail
        refine hK.out _ _ (sendS_keep hH1 hgl (lbel1 _ _)) (fun hH2 => ?_)
        clear hK K
        refine wpAnyH_ready (rs := [13]) (by kernel_rfl) (by simp) ?_
        refine AllReadyH.cons (o := { dst := none, op := Op.store 78 (Operand.tmp 7) (Operand.tmp 25), type := 0, pos := "link.go:59", after := #[{ on := 12, ground := Ground.data }, { on := 11, ground := Ground.data }, { on := 10, ground := Ground.chain }, { on := 0, ground := Ground.phase }, { on := 1, ground := Ground.phase }, { on := 2, ground := Ground.phase }, { on := 3, ground := Ground.phase }, { on := 4, ground := Ground.phase }, { on := 5, ground := Ground.phase }, { on := 6, ground := Ground.phase }, { on := 7, ground := Ground.phase }, { on := 8, ground := Ground.phase }, { on := 9, ground := Ground.phase }, { on := 10, ground := Ground.phase }, { on := 11, ground := Ground.phase }, { on := 12, ground := Ground.phase }], guard := none }) rfl (fun K hK => ?_) AllReadyH.nil
        go_simp
        go_wp2_with fail
        refine hK.out _ _ (sendS_keep hH1 hgl (lbel1 _ _)) (fun hH3 => ?_)
        clear hK K
        refine wpAnyH_done (by kernel_rfl) ?_ _
        go_wp2_with fail
        go_meet
        exact ⟨w.heap.size, rfl, Nat.le_refl _, Blk.new w.drew _ _, hH3.2.2.2.2⟩
      · go_simp
        go_wp2_with fail
        refine hK.out _ _ (sendS_keep hH0 hgl (lbel1 _ _)) (fun hH1 => ?_)
        clear hK K
        refine wpAnyH_ready (rs := [10]) (by kernel_rfl) (by simp) ?_
        refine AllReadyH.cons (o := { dst := some 24, op := Op.call { callee := Callee.value (Operand.func 31), args := #[Operand.tmp 23], argTypes := #[3] }, type := 3, pos := "link.go:59", after := #[{ on := 9, ground := Ground.data }], guard := none }) rfl (fun K hK => ?_) AllReadyH.nil
        go_simp
        refine (HC.out _).mono ?_
        rintro e w3 ⟨rfl, rfl⟩
        go_wp2_with fail
        refine hK.out _ _ hH1 (fun hH2 => ?_)
        clear hK K
        refine wpAnyH_take (i := 11) (oi := { dst := some 25, op := Op.build 78 #[(0, Operand.tmp 17), (1, Operand.tmp 21), (3, Operand.tmp 24)], type := 78, pos := "link.go:59", after := #[{ on := 3, ground := Ground.data }, { on := 7, ground := Ground.data }, { on := 10, ground := Ground.data }], guard := none }) (v := ?v11b) rfl (by kernel_rfl) (by kernel_rfl) (by kernel_rfl) (fun _ _ _ h => h) (Or.inl ⟨by rfl, ?h11b⟩) hH2 ?r11b
        case h11b => intro w' hSw; (try dsimp only at hSw); go_simp; (try with_reducible rfl)
        simp only [Act.put, List.setIfInBounds_toArray, List.set_cons_zero, List.set_cons_succ]
        refine wpAnyH_ready (rs := [13]) (by kernel_rfl) (by simp) ?_
        refine AllReadyH.cons (o := { dst := none, op := Op.store 78 (Operand.tmp 7) (Operand.tmp 25), type := 0, pos := "link.go:59", after := #[{ on := 12, ground := Ground.data }, { on := 11, ground := Ground.data }, { on := 10, ground := Ground.chain }, { on := 0, ground := Ground.phase }, { on := 1, ground := Ground.phase }, { on := 2, ground := Ground.phase }, { on := 3, ground := Ground.phase }, { on := 4, ground := Ground.phase }, { on := 5, ground := Ground.phase }, { on := 6, ground := Ground.phase }, { on := 7, ground := Ground.phase }, { on := 8, ground := Ground.phase }, { on := 9, ground := Ground.phase }, { on := 10, ground := Ground.phase }, { on := 11, ground := Ground.phase }, { on := 12, ground := Ground.phase }], guard := none }) rfl (fun K hK => ?_) AllReadyH.nil
        go_simp
        go_wp2_with fail
        refine hK.out _ _ (sendS_keep hH0 hgl (lbel1 _ _)) (fun hH3 => ?_)
        clear hK K
        refine wpAnyH_done (by kernel_rfl) ?_ _
        go_wp2_with fail
        go_meet
        exact ⟨w.heap.size, rfl, Nat.le_refl _, Blk.new w.drew _ _, hH3.2.2.2.2⟩
    case rest =>
      obtain ⟨hp, rfl, hhp, hk, hb⟩ := hcut
      clear c0 c3 c4 c5 HC hd
      have S0 : SdSt w s b hp 0 (.slice none 0 0) wc := ⟨⟨_, _, hk⟩, ⟨[], by simpa [dgrams, rowV] using World.ownsRow_nil wc w.heap.size 36 1, by simpa [dgrams] using Rows.nil⟩, hb⟩
      have p5 : wc.cell? ⟨hp, 5, none⟩ = some (.int .i64 (manyN b.length : Int)) := hk.cell 5
      have hmn := many_le hshort
      clear hk hb
      obtain ⟨mn, hm⟩ : ∃ mn, mn = manyN b.length := ⟨_, rfl⟩
      rw [← hm] at p5 hmn
      have HM := Lib.hid hm
      clear hm
      go_wp2_with fail
      go_loopg [8, 28] mn (fun gg s8 s28 wr => ∃ k : Nat, k + gg = mn ∧ s28 = .int .i64 (k : Int) ∧ SdSt w s b hp k s8 wr)
      case atStart => exact ⟨0, by omega, rfl, S0⟩
      case round =>
        obtain ⟨k, hk, rfl, S⟩ := hrel
        have HSt := Lib.hid S
        clear S p5 S0
        cases gk with
        | zero =>
          obtain rfl : k = mn := by omega
          have hd : decide (k < k) = false := by simp
          go_upto_region 12 with (fail)
          refine wp_region_still_tail 7 (by kernel_rfl) (by kernel_rfl) ?_
          simp only [List.take_succ_cons, List.take_zero, List.drop_succ_cons, List.drop_zero]
          change wpStill _ _ wr.drew (fun a' => wpList _ _ _ _ a' wr.drew) _ _
          obtain ⟨⟨ix, v0, hpk⟩, ⟨gs, hown, hrows⟩, hbel⟩ := HSt.out
          have hpk : Blk wr.drew hp 78 _ := hpk
          have hown : wr.drew.ownsRow w.heap.size 36 1 _ k (rowV gs (dgrams s b k)) := hown
          have hrows : Rows wr.drew w.heap.size gs (dgrams s b k) := hrows.fr (S := fun _ => False) (Fr.refl _ _).drew (fun _ _ _ _ h => h)
          have hbel : Below w.heap.size w wr.drew := hbel.drew
          generalize wr.drew = w2 at hpk hown hrows hbel ⊢
          have hl2 := HL.out.below hbel
          have c2 : w2.cell? ⟨g, 2, none⟩ = some (.map (some ga)) := hl2.blk.cell 2
          have p3 : w2.cell? ⟨hp, 3, none⟩ = some (.int .u16 (s.next : Int)) := hpk.cell 3
          have e64 : IntKind.u16.wrap ((s.next : Int) - 64) = ((aheadN s.next 64 : Nat) : Int) := u16_sub s.next 64 (by omega)
          obtain ⟨w3, hrun, hm3, hf3⟩ := hl2.am.del und58 und57 ((aheadN s.next 64 : Nat) : Int)
          rw [del_ak] at hm3
          have hl3 := hl2.set_ak hm3 hf3
          have hpk3 := hpk.fr hf3 (fun e => hl2.am.ne_blk hpk e.symm)
          have hown3 := ownsRow_fr hown hf3 (fun q hq e => by have := (hown.lt q hq).1; have := hl2.am.lt; have e : q = ga := e; have := HL.out.am.lt; omega)
          have hrows3 := hrows.fr hf3 (fun q cs hq _ e => hl2.am.ne_blk hq e.symm)
          have hfr3 : Fr (fun i => i = g ∨ i = ga) w w3 := (Fr.of_below (S := fun i => i = g ∨ i = ga) hbel).trans hf3 (fun _ _ h => .inr h)
          have HE := Lib.hid (show LinkAt w3 g ga gp U { s with ak := s.ak.erase (aheadN s.next 64) } ∧ Blk w3 hp 78 #[.bool s.so, .int .u16 (s.la : Int), .int .u32 (s.bi : Int), .int .u16 (s.next : Int), .int .i64 (ix : Int), .int .i64 (manyN b.length : Int), v0] ∧ w3.ownsRow w.heap.size 36 1 u8 k (rowV gs (dgrams s b k)) ∧ Rows w3 w.heap.size gs (dgrams s b k) ∧ Fr (fun i => i = g ∨ i = ga) w w3 from ⟨hl3, hpk3, hown3, hrows3, hfr3⟩)
          clear hl3 hpk3 hown3 hrows3 hfr3 hpk hown hrows hbel hl2 hm3 hf3 HSt
          obtain ⟨n64, hn64⟩ : ∃ n64, n64 = aheadN s.next 64 := ⟨_, rfl⟩
          rw [← hn64] at hrun e64 HE
          have HN64 := Lib.hid hn64
          clear hn64
          repeat still_step
          refine wpStill_nil ?_
          go_upto_region 13 with (fail)
          clear hrun e64 c2 p3
          have c1 : w3.cell? ⟨g, 1, none⟩ = some (.int .i64 (s.sent : Int)) := HE.out.1.blk.cell 1
          have f1 : w3.frozen? ⟨g, 1, none⟩ = false := HE.out.1.blk.frozen 1
          have c0 : w3.cell? ⟨g, 0, none⟩ = some (.int .u16 (s.next : Int)) := HE.out.1.blk.cell 0
          have f0 : w3.frozen? ⟨g, 0, none⟩ = false := HE.out.1.blk.frozen 0
          have p3 : w3.cell? ⟨hp, 3, none⟩ = some (.int .u16 (s.next : Int)) := HE.out.2.1.cell 3
          have hne : hp ≠ g := HE.out.2.1.ne_ HE.out.1.blk (by decide)
          have hne2 : g ≠ hp := fun e => hne e.symm
          have hsent := HS.out.sent
          have hnext := HS.out.next
          obtain ⟨st2, hst2⟩ : ∃ st2, st2 = min (s.sent + 1) 64 := ⟨_, rfl⟩
          have e1 : (if (64 : Int) < (s.sent : Int) + 1 then (64 : Int) else (s.sent : Int) + 1) = (st2 : Int) := by rw [hst2]; split <;> omega
          have e2 : min ((s.sent : Int) + 1) 64 = (st2 : Int) := by rw [hst2]; omega
          obtain ⟨nx2, hnx2⟩ : ∃ nx2, nx2 = (s.next + 1) % 65536 := ⟨_, rfl⟩
          have e3 : IntKind.u16.wrap ((s.next : Int) + 1) = (nx2 : Int) := by rw [u16_wrap, hnx2]; omega
          have e4 : IntKind.i64.wrap (s.next : Int) = (s.next : Int) := IntWalk.i64_in _ (by omega)
          have HH := Lib.hid (And.intro hst2 hnx2)
          clear hst2 hnx2
          go_upto_region 15 with (fail)
          have hf4 : Fr (fun i => i = g) w3 ((w3.setCell ⟨g, 1, none⟩ (.int .i64 (st2 : Int))).setCell ⟨g, 0, none⟩ (.int .u16 (nx2 : Int))) :=
            (Fr.set (S := fun i => i = g) w3 (p := ⟨g, 1, none⟩) rfl _).trans (Fr.set (S := fun i => i = g) _ (p := ⟨g, 0, none⟩) rfl _) (fun _ _ h => h)
          have hb4 := (HE.out.1.blk.set_ 1 (.int .i64 (st2 : Int))).set_ 0 (.int .u16 (nx2 : Int))
          have hp4 := HE.out.2.1.fr hf4 hne
          have hL4 : LinkAt ((w3.setCell ⟨g, 1, none⟩ (.int .i64 (st2 : Int))).setCell ⟨g, 0, none⟩ (.int .u16 (nx2 : Int))) g ga gp U s.sendS := by
            obtain ⟨m, hm, hpm⟩ := HE.out.1.pm
            have ham := HE.out.1.am.fr hf4 HE.out.1.ne1
            rw [HN64.out] at ham
            refine ⟨?_, ham, ⟨m, hm.fr hf4 HE.out.1.ne2, hpm.fr hf4 (fun q cs _ hq e => hq.ne_ HE.out.1.blk (by decide) e)⟩, HE.out.1.ne⟩
            have e : linkC s.sendS ga gp = #[.int .u16 (nx2 : Int), .int .i64 (st2 : Int), .map (some ga), .bool s.so, .int .u16 (s.la : Int), .int .u32 (s.bi : Int), .map (some gp), .int .u16 (s.nu : Int), .int .i64 (s.ct : Int)] := by rw [HH.out.1, HH.out.2]; rfl
            rw [e]
            exact hb4
          have hO4 := ownsRow_fr HE.out.2.2.1 hf4 (fun q hq e => by have := (HE.out.2.2.1.lt q hq).1; have e : q = g := e; omega)
          have hR4 := HE.out.2.2.2.1.fr hf4 (fun q cs hq _ e => hq.ne_ HE.out.1.blk (by decide) e)
          have hF4 := HE.out.2.2.2.2.trans hf4 (fun _ _ h => .inl h)
          clear c1 f1 c0 f0 p3 hb4 hf4
          generalize ((w3.setCell ⟨g, 1, none⟩ (.int .i64 (st2 : Int))).setCell ⟨g, 0, none⟩ (.int .u16 (nx2 : Int))) = w4 at hp4 hL4 hO4 hR4 hF4 ⊢
          have p3 : w4.cell? ⟨hp, 3, none⟩ = some (.int .u16 (s.next : Int)) := hp4.cell 3
          have HF := Lib.hid (And.intro hL4 (And.intro hO4 (And.intro hR4 hF4)))
          clear hp4 hL4 hO4 hR4 hF4 HE e1 e2 e3
          go_quiet (fail)
          go_wp2_with fail
          go_ret3
          refine .inr ⟨HN.out, u8, gs, rfl, ?_, ?_, HF.out.1.draw nq, HF.out.2.2.2.trans (Fr.drewN (S := fun _ => False) w4 nq) (fun _ _ h => h.elim)⟩
          · rw [← HM.out]; exact HF.out.2.1
          · rw [← HM.out]; exact HF.out.2.2.1.fr (S := fun _ => False) (Fr.drewN w4 nq) (fun _ _ _ _ h => h)
        | succ gk =>
          have hd : decide (k < mn) = true := by simp; omega
          have hk10 : (k : Int) < 10 := by omega
          obtain ⟨hi, hhi⟩ : ∃ hi, hi = min (k * 200 + 200) b.length := ⟨_, rfl⟩
          have hlo : k * 200 ≤ hi := by
            have : k < manyN b.length := by rw [← HM.out]; omega
            unfold manyN at this
            omega
          have hhl : hi ≤ b.length := by omega
          obtain ⟨B, dd, hcut, hsl⟩ := HV.out.mid (k * 200) hi ((k : Int) * 200) (hi : Int) (by push_cast; rfl) rfl hlo hhl
          have hbytes : (b.drop (k * 200)).take (hi - k * 200) = cutN b k := by
            unfold cutN
            rw [Nat.mul_comm k 200]
            have e : hi - 200 * k = min 200 (b.drop (200 * k)).length := by rw [List.length_drop]; omega
            rw [e]
            rcases Nat.le_total 200 (b.drop (200 * k)).length with h | h
            · rw [Nat.min_eq_left h]
            · rw [Nat.min_eq_right h, List.take_of_length_le (Nat.le_refl _), List.take_of_length_le h]
          rw [hbytes] at hsl
          have e1 : (if (b.length : Int) < (k : Int) * 200 + 200 then (b.length : Int) else (k : Int) * 200 + 200) = (hi : Int) := by
            rw [hhi]; split <;> omega
          have e2 : min ((k : Int) * 200 + 200) (b.length : Int) = (hi : Int) := by rw [hhi]; omega
          have HSl := Lib.hid hsl
          have hnn : hi - k * 200 ≤ 200 := by omega
          clear hsl hbytes hhi hlo
          obtain ⟨⟨ix, v0, hpk⟩, ⟨gs, hown, hrows⟩, hbel⟩ := HSt.out
          have p4 : wr.cell? ⟨hp, 4, none⟩ = some (.int .i64 (ix : Int)) := hpk.cell 4
          have p6 : wr.cell? ⟨hp, 6, none⟩ = some v0 := hpk.cell 6
          have f4 : wr.frozen? ⟨hp, 4, none⟩ = false := hpk.frozen 4
          have f6 : wr.frozen? ⟨hp, 6, none⟩ = false := hpk.frozen 6
          clear hpk hown hrows hbel
          go_upto_region 9 with (fail)
          go_region
          obtain ⟨hpk, hrow, hb9⟩ := HSt.out.set k (.slice B (hi - k * 200) dd) hhp
          generalize ((wr.setCell ⟨hp, 4, none⟩ (.int .i64 (k : Int))).setCell ⟨hp, 6, none⟩ (.slice B (hi - k * 200) dd)).drew = w9 at hpk hrow hb9 ⊢
          have HSl9 : Hid (SlB w9 (.slice B (hi - k * 200) dd) (cutN b k)) := HSl.out.below hb9
          clear HSt p4 p6 f4 f6 hcut e1 e2 HSl
          have p0 : w9.cell? ⟨hp, 0, none⟩ = some (.bool s.so) := hpk.cell 0
          have p1 : w9.cell? ⟨hp, 1, none⟩ = some (.int .u16 (s.la : Int)) := hpk.cell 1
          have p2 : w9.cell? ⟨hp, 2, none⟩ = some (.int .u32 (s.bi : Int)) := hpk.cell 2
          have p3 : w9.cell? ⟨hp, 3, none⟩ = some (.int .u16 (s.next : Int)) := hpk.cell 3
          have p4 : w9.cell? ⟨hp, 4, none⟩ = some (.int .i64 (k : Int)) := hpk.cell 4
          have p5 : w9.cell? ⟨hp, 5, none⟩ = some (.int .i64 (manyN b.length : Int)) := hpk.cell 5
          have p6 : w9.cell? ⟨hp, 6, none⟩ = some (.slice B (hi - k * 200) dd) := hpk.cell 6
          have HPk := Lib.hid hpk
          have HRow := Lib.hid hrow
          have HB9 := Lib.hid hb9
          have hcl : (cutN b k).length ≤ 200 := by unfold cutN; rw [List.length_take]; omega
          have hcb : ∀ x ∈ cutN b k, x < 256 := fun x hx => HBy.out x (List.mem_of_mem_drop (List.mem_of_mem_take hx))
          have HWr := Lib.hid (write_c s.so s.la s.bi s.next k (manyN b.length) (.slice B (hi - k * 200) dd) (cutN b k) w9 HSl9.out (HT.out.below hb9) hcl hcb HS.out.la HS.out.bi HS.out.next (by omega) (by rw [← HM.out]; omega))
          clear hpk hrow hb9 hcl hcb HSl9
          go_wp2_with fail
          refine HWr.out.mono ?_
          rintro e w10 ⟨gk2, n10, rfl, hn10, hg10, hk10, hb10⟩
          have hkk : Blk w10 hp 78 #[.bool s.so, .int .u16 (s.la : Int), .int .u32 (s.bi : Int), .int .u16 (s.next : Int), .int .i64 (k : Int), .int .i64 (manyN b.length : Int), .slice B (hi - k * 200) dd] := HPk.out.below hb10 HPk.out.lt
          obtain ⟨gs, hown, hrows⟩ := HRow.out
          have hown10 := ownsRow_fr (S := fun _ => False) hown (Fr.of_below hb10) (fun _ _ h => h)
          have hrows10 := hrows.fr (S := fun _ => False) (Fr.of_below hb10) (fun _ _ _ _ h => h)
          have hlt10 : ∀ x ∈ gs, x < gk2 := fun x hx => by have := hrows.lt x hx; omega
          have hb11 := below_trans HB9.out hb10
          have hrl := rowV_len hrows.len
          rw [dgrams_len] at hrl
          have HO := Lib.hid hown10
          have HRs := Lib.hid hrows10
          have HLt := Lib.hid hlt10
          have HB := Lib.hid hb11
          have HKK := Lib.hid hkk
          have HG := Lib.hid (show n10 = (dgram s b k).length ∧ w.heap.size ≤ gk2 ∧ Blk w10 gk2 5 (U8s (dgram s b k)).toArray from ⟨hn10, Nat.le_trans HB9.out.size hg10, hk10⟩)
          obtain ⟨i0, hi0, hz0, hz1, hz2⟩ := info_parts info36
          clear hown hrows hown10 hrows10 hlt10 hb11 hkk hn10 hg10 hk10 hb10 hrl HPk HRow HB9 HWr p0 p1 p2 p3 p4 p5 p6
          go_wp2_with (at_builtin; refine wpList_append_own_at _ rfl (.tmp 44) (.tmp 47) 29 rfl w.heap.size 36 i0 (.slice none 0 0) 1 24 Tryd.underlying29 hi0 hz0 hz1 hz2 rfl (by decide) _ _ _ rfl (HO.out.alloc _) ⟨w10.heap.size, 0, none⟩ 1 1 [.slice (some ⟨gk2, 0, none⟩) n10 n10] rfl rfl (cell_one_new _ _ _) ?c2 ?c3 ?c4 ?c5 ?_)
          case c2 => intro u hu; simp at hu; subst hu; rfl
          case c3 => unfold maxLen; omega
          case c4 => omega
          case c5 => have := HB.out.size; simp; omega
          intro v9 w11 hown11 hgr11 _ _
          have hfr11 : Fr (fun q => u8.ownBlock = some q) w10 w11 := (Fr.alloc (S := fun q => u8.ownBlock = some q) w10 _).trans (Fr.of_grown hgr11 fun _ _ he => he) (fun _ _ h => h)
          have S11 : Hid (SdSt w s b hp (k + 1) v9 w11) := by
            refine ⟨⟨k, _, HKK.out.fr hfr11 (own_ne_blk HO.out HKK.out (by decide))⟩, ⟨gs ++ [gk2], ?_, ?_⟩, ?_⟩
            · rw [dgrams_succ, rowV_add HRs.out.len, ← HG.out.1]; exact hown11
            · rw [dgrams_succ]
              have h1 : Rows w11 w.heap.size gs (dgrams s b k) := HRs.out.fr hfr11 (fun q cs hq _ => own_ne_blk HO.out hq (by decide))
              exact h1.add (HG.out.2.2.fr hfr11 (own_ne_blk HO.out HG.out.2.2 (by decide))) HG.out.2.1 HLt.out
            · exact below_kept HB.out HB.out.size hgr11 (fun q hq => (HO.out.lt q hq).1)
          clear hown11 hgr11 hfr11 HO HRs HLt HB HKK HG
          go_wp2_with fail
          go_roundg gk
          case measure => omega
          case rel => exact ⟨k + 1, by omega, by go_num, S11.out⟩

end Go.Proofs.YtmlbhlfjaagcaaaDoor

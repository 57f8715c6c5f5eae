/- The program's reader of images: opened, image. What is wrong is thrown. The program's Decode. -/
import Derived.Test.YtebdjahcahgafaaDoorPRead
import Derived.Test.YtebdjahcahgafaaDoorUni
import Derived.Test.YtebdjahcahgafaaDoorPValid
import Derived.Deep.RegionHeld
import Derived.Lib.SlBytesConst
import Derived.Tactics2
import Derived.Defers
import Derived.Recover
namespace Go.Proofs.YtebdjahcahgafaaDoor
open Go.RowKit

/-- What opened answers. -/
def OpenedP (bs : List Nat) (w : World) (e : Ending) (w' : World) : Prop :=
  Below w.heap.size w w' ∧ ((openIs bs = false ∧ e = thrown) ∨ ∃ g u, openIs bs = true ∧ e = .returned (.pointer (some ⟨g, 0, none⟩)) ∧ PR g u (openB bs) (openB bs) w' ∧ w.heap.size ≤ g)

set_option maxHeartbeats 1000000 in
set_option maxRecDepth 100000 in
theorem qopened_c (v : Value) (bs : List Nat) (w : World) (hv : SlB w v bs) (ht : Tab w) (hl : bs.length ≤ 140737488355318) (hby : ∀ x ∈ bs, x < 256) : Calls Tryd.prog 33 #[v] w (OpenedP bs w) := by
  have HC := Lib.hid (open_u hv ht hl hby)
  clear hv ht hl hby
  unfold OpenedP
  generalize openIs bs = ok at *
  generalize openB bs = ob at *
  go_enter Tryd.func33, Tryd.ntmps33
  go_wp2_with fail
  refine HC.out.mono ?_
  rintro e w1 ⟨u, rfl, Au, Fu, hf, hb⟩
  have HF := Lib.hid hf
  have HB := Lib.hid hb
  clear hf hb HC
  cases ok with
  | false =>
    go_wp2_with fail
    refine (need_no _).mono ?_
    rintro e2 w2 ⟨rfl, rfl⟩
    exact ⟨rfl, HB.out, .inl ⟨rfl, rfl⟩⟩
  | true =>
    go_wp2_with fail
    refine (need_yes _).mono ?_
    rintro e2 w2 ⟨rfl, rfl⟩
    have HR : Hid (PR w2.heap.size u ob ob (w2.alloc (.cells #[u, .int .i64 0] 94))) := by
      refine ⟨⟨0, Blk.new w2 94 _, Nat.zero_le _, rfl⟩, HF.out.sl.below ((Below.refl _ _).alloc (Nat.le_refl _) _), fun A n c e => ?_⟩
      have h1 := HF.out.val
      rw [e] at h1
      injection h1 with h1 _ _
      obtain ⟨gg, rfl, _, hk⟩ := HF.out.row A h1.symm
      exact hk.lt
    obtain ⟨eu⟩ : u = _ := HF.out.val
    have HB2 := Lib.hid (HB.out.alloc HB.out.size (.cells #[.slice Au ob.length Fu.length, .int .i64 0] 94))
    have HG : Hid (w.heap.size ≤ w2.heap.size) := HB.out.size
    clear HF HB
    go_wp2_with fail
    go_ret
    exact ⟨HB2.out, _, rfl, ⟨_, HR.out⟩, HG.out⟩

/-- A row of bytes that has been marked as a text's. -/
theorem mark_sl (w : World) (cs : List Nat) (m : Nat × Nat) (n : Nat) (hn : n = cs.length) : SlB (w.alloc (.cells (U8s cs).toArray 5 m)) (.slice (some ⟨w.heap.size, 0, none⟩) n n) cs := by
  subst hn
  refine ⟨_, _, rfl, Nat.le_refl _, (fun e => nomatch e), by rw [U8s_length], fun hp => ⟨_, rfl, by simp, fun j u hu => ?_⟩⟩
  rw [qaddr_add, World.cell?_alloc_mark, Nat.zero_add]
  simpa using hu
theorem conv_magic (w : World) : (convert 30 30 (.slice (some ⟨w.heap.size, 0, none⟩) 4 4)).run Tryd.prog (w.alloc (.cells #[.int .u8 84, .int .u8 73, .int .u8 76, .int .u8 84] 5)) = .ok (.slice (some ⟨w.heap.size, 0, none⟩) 4 4) (w.alloc (.cells #[.int .u8 84, .int .u8 73, .int .u8 76, .int .u8 84] 5 (4, 5))) :=
  Lib.run_convert_bytes_const w 30 5 #[.int .u8 84, .int .u8 73, .int .u8 76, .int .u8 84] 4 4 Tryd.underlying30 Tryd.underlying5

/-- What image answers. -/
def ReadI (g : Nat) (bs : List Nat) (w : World) (e : Ending) (w' : World) : Prop :=
  Fr (fun i => i = g) w w' ∧ ((readI bs = none ∧ e = thrown) ∨ ∃ (x : ImgR) (gv fv : Value), readI bs = some x ∧ e = .returned (imgV gv fv) ∧ ImgOwn w' w.heap.size gv fv x)

theorem read_magic {bs : List Nat} (h : bs.take 4 ≠ [84, 73, 76, 84]) : readI bs = none := by unfold readI; rw [if_neg h]
theorem read_none {bs : List Nat} (h : pImg (bs.drop 4) = none) : readI bs = none := by
  unfold readI
  split
  · rw [h]; rfl
  · rfl
theorem read_done {bs r : List Nat} {x : ImgR} (hm : bs.take 4 = [84, 73, 76, 84]) (h : pImg (bs.drop 4) = some (x, r)) : readI bs = if r = [] ∧ imgK x = true then some x else none := by
  unfold readI
  rw [if_pos hm, h]; rfl

set_option maxHeartbeats 8000000 in
set_option maxRecDepth 100000 in
theorem qimage_c (g : Nat) (v : Value) (bs l : List Nat) (w : World) (h : PR g v bs l w) (hn : bs.length ≤ 140737488355318) (hby : ∀ x ∈ bs, x < 256) :
    Calls Tryd.prog 34 #[.pointer (some ⟨g, 0, none⟩)] w (ReadI g bs w) := by
  have hmf : ∀ (fn : Fn) (first cap : Array Value) (w : World), (Instr.makeFunc fn first cap).run Tryd.prog w = .ok (.func fn first cap) w := fun _ _ _ _ => rfl
  have HBy := Lib.hid hby
  have HN : Hid (bs.length ≤ 281474976710656) := by show _ ≤ _; omega
  have HGW := Lib.hid h.lt
  have HR0 := Lib.hid (h.below ((Below.refl _ _).alloc (Nat.le_refl _) (.cells #[.slice none 0 0, .slice none 0 0] 25)))
  have HB0 := Lib.hid (Blk.new w 25 #[.slice none 0 0, .slice none 0 0])
  have HF0 : Hid (Fr (fun i => i = g) w (w.alloc (.cells #[.slice none 0 0, .slice none 0 0] 25))) := Fr.alloc _ _
  clear h hn hby
  go_enter Tryd.func34, Tryd.ntmps34
  go_upto_region 1 with (fail)
  generalize w.alloc (.cells #[.slice none 0 0, .slice none 0 0] 25) = w0 at *
  obtain ⟨gr, hgr⟩ : ∃ b, b = w.heap.size := ⟨_, rfl⟩
  rw [← hgr] at HB0
  rw [show (some { block := w.heap.size, off := 0, spot := none } : Option Addr) = some ⟨gr, 0, none⟩ by rw [hgr]]
  have HGR := Lib.hid hgr
  have HGN : Hid (gr ≠ g) := by show _ ≠ _; have := HGW.out; omega
  clear hgr
  obtain ⟨k, hk, hkl, _⟩ := HR0.out.ex
  have k0 := hk.cell 0
  have hk0 : w0.cell? ⟨g, 0, none⟩ = some v := k0
  have hbm : Below w0.heap.size w0 (w0.alloc (.cells #[.int .u8 84, .int .u8 73, .int .u8 76, .int .u8 84] 5 (4, 5))) := (Below.refl _ _).alloc (Nat.le_refl _) _
  have HR1 := Lib.hid (HR0.out.below hbm)
  have HF1 : Hid (Fr (fun i => i = g) w (w0.alloc (.cells #[.int .u8 84, .int .u8 73, .int .u8 76, .int .u8 84] 5 (4, 5)))) := HF0.out.trans (Fr.of_below (S := fun i => i = g) hbm) (fun _ _ e => e)
  have HB1 := Lib.hid (HB0.out.alloc (.cells #[.int .u8 84, .int .u8 73, .int .u8 76, .int .u8 84] 5 (4, 5)))
  have HM1 : Hid (SlB (w0.alloc (.cells #[.int .u8 84, .int .u8 73, .int .u8 76, .int .u8 84] 5 (4, 5))) (.slice (some ⟨w0.heap.size, 0, none⟩) 4 4) [84, 73, 76, 84]) :=
    mark_sl w0 [84, 73, 76, 84] (4, 5) 4 rfl
  have HPX := Lib.hid (qprefix_c v _ bs [84, 73, 76, 84] _ HR1.out.sl HM1.out HBy.out (by decide))
  have hl4 : ([84, 73, 76, 84] : List Nat).length = 4 := rfl
  have hcv := conv_magic w0
  rw [hl4] at HPX
  clear hk hkl k0 HR0 HF0 HB0 HM1 hbm
  go_wp2_with fail
  clear hcv
  generalize w0.alloc (.cells #[.int .u8 84, .int .u8 73, .int .u8 76, .int .u8 84] 5 (4, 5)) = w1 at *
  refine HPX.out.mono ?_
  rintro e1 w1' ⟨rfl, rfl⟩
  clear HPX hk0
  by_cases hmag : bs.take 4 = [84, 73, 76, 84]
  case neg =>
    rw [decide_eq_false hmag]
    have HNO := Lib.hid (read_magic hmag)
    clear hmag
    go_wp2_with fail
    refine (need_no _).mono ?_
    rintro e2 w2 ⟨rfl, rfl⟩
    exact ⟨rfl, HF1.out, .inl ⟨HNO.out, rfl⟩⟩
  rw [decide_eq_true hmag]
  have HMag := Lib.hid hmag
  have hlen4 : 4 ≤ bs.length := by
    have := congrArg List.length hmag
    rw [List.length_take] at this
    simp at this; omega
  clear hmag
  go_wp2_with fail
  refine (need_yes _).mono ?_
  rintro e2 w2 ⟨rfl, rfl⟩
  obtain ⟨k, hk, hkl, _⟩ := HR1.out.ex
  obtain ⟨R2, F2⟩ := HR1.out.step (k := k) hk hlen4
  have z1 := hk.frozen 1
  have c1 := hk.cell 1
  have HR2 : Hid (PR g v bs (bs.drop 4) (w2.setCell ⟨g, 1, none⟩ (.int .i64 4))) := R2
  have F2 : Fr (fun i => i = g) w2 (w2.setCell ⟨g, 1, none⟩ (.int .i64 4)) := F2
  have HF2 := Lib.hid (HF1.out.trans F2 (fun _ _ e => e))
  have HB2 := Lib.hid (HB1.out.fr F2 HGN.out)
  clear hk hkl R2 F2 HR1 HF1 HB1 hlen4
  go_upto_region 3 with (fail)
  generalize w2.setCell ⟨g, 1, none⟩ (.int .i64 4) = w3 at *
  clear z1 c1
  go_wp2_with fail
  refine (qlist_glob g v bs (bs.drop 4) w3 64 HR2.out (by omega) HN.out HBy.out).mono ?_
  rintro e4 w4 ⟨hf4, ⟨hp4, rfl⟩ | ⟨gv, gl, l4, hp4, rfl, ho4, hr4⟩⟩
  · exact ⟨rfl, HF2.out.trans hf4 (fun _ _ e => e), .inl ⟨read_none (by unfold pImg; rw [hp4]; rfl), rfl⟩⟩
  have HP4 := Lib.hid hp4
  have HR4 := Lib.hid hr4
  have HF4 := Lib.hid (HF2.out.trans hf4 (fun _ _ e => e))
  have HB4 := Lib.hid (HB2.out.fr hf4 HGN.out)
  have HO4 := Lib.hid (own_lower ho4 HF2.out.size)
  obtain ⟨Ag, cg, rfl⟩ := own_sl ho4
  have HGL := Lib.hid (list_len hp4)
  clear hp4 hr4 hf4 ho4 HR2 HF2 HB2
  go_wp2_with fail
  refine (qlist_fn g v bs l4 w4 HR4.out HN.out HBy.out).mono ?_
  rintro e5 w5 ⟨hf5, ⟨hp5, rfl⟩ | ⟨fv, fl, l5, hp5, rfl, hfs5, hsm5, hr5⟩⟩
  · exact ⟨rfl, HF4.out.trans hf5 (fun _ _ e => e), .inl ⟨read_none (by unfold pImg; rw [HP4.out]; simp only [Option.bind_some]; rw [hp5]; rfl), rfl⟩⟩
  have HPI : Hid (pImg (bs.drop 4) = some (⟨gl, fl⟩, l5)) := by
    show _ = _
    unfold pImg; rw [HP4.out]; simp only [Option.bind_some]; rw [hp5]; rfl
  have HFS := HF4.out.size
  have HF5 := Lib.hid (HF4.out.trans hf5 (fun _ _ e => e))
  have HB5 := Lib.hid (HB4.out.fr hf5 HGN.out)
  have HI5 : Hid (ImgOwn w5 w.heap.size (.slice Ag gl.length cg) fv ⟨gl, fl⟩) := ⟨own_fr HO4.out hf5 (fun b hb _ e => by have := HGW.out; have e : b = g := e; omega), by
    obtain ⟨ts, a1, a2, a3⟩ := hfs5.ex
    exact ⟨ts, a1, own_lower a2 HFS, fun i f t q1 q2 => (a3 i f t q1 q2).lower HFS⟩⟩
  have HSI : Hid (ImgR.small ⟨gl, fl⟩) := ⟨by show gl.length ≤ _; have := HGL.out; omega, by show fl.length ≤ _; have := list_len hp5; omega, hsm5⟩
  obtain ⟨_, _, hro, _⟩ := hfs5.ex
  obtain ⟨Af, cf, rfl⟩ := own_sl hro
  have HR5 := Lib.hid hr5
  have HX : Hid (Blk (w5.alloc (.cells #[.slice Ag gl.length cg, .slice Af fl.length cf] 25)) w5.heap.size 25 #[.slice Ag gl.length cg, .slice Af fl.length cf]) := Blk.new w5 25 _
  have hbx : Below w5.heap.size w5 (w5.alloc (.cells #[.slice Ag gl.length cg, .slice Af fl.length cf] 25)) := (Below.refl _ _).alloc (Nat.le_refl _) _
  have HR6 := Lib.hid (HR5.out.below hbx)
  have HF6 : Hid (Fr (fun i => i = g) w (w5.alloc (.cells #[.slice Ag gl.length cg, .slice Af fl.length cf] 25))) := HF5.out.trans (Fr.of_below (S := fun i => i = g) hbx) (fun _ _ e => e)
  have HB6 := Lib.hid (HB5.out.below hbx HB5.out.lt)
  have HI6 := Lib.hid (HI5.out.fr (Fr.of_below (S := fun _ => False) hbx) (fun _ _ _ h => h))
  have HXN : Hid (w5.heap.size ≠ gr) := by show _ ≠ _; have := HB5.out.lt; omega
  clear hp5 hr5 hf5 hfs5 hsm5 hro HR4 HF4 HB4 HO4 HP4 HGL HFS HF5 HB5 HI5 HR5 hbx
  go_upto_region 4 with (fail)
  generalize w5.alloc (.cells #[.slice Ag gl.length cg, .slice Af fl.length cf] 25) = w6 at *
  generalize w5.heap.size = gx at *
  obtain ⟨k, hk, hkl, hkd⟩ := HR6.out.ex
  have hS : (w6.drew.cell? ⟨g, 0, none⟩ = some v ∧ w6.drew.cell? ⟨g, 1, none⟩ = some (.int .i64 (k : Int))) ∧ (w6.drew.cell? ⟨gx, 0, none⟩ = some (.slice Ag gl.length cg) ∧ w6.drew.cell? ⟨gx, 1, none⟩ = some (.slice Af fl.length cf)) := ⟨⟨hk.cell 0, hk.cell 1⟩, HX.out.cell 0, HX.out.cell 1⟩
  obtain ⟨Av, cv, ev⟩ : ∃ A c, v = .slice A bs.length c := by
    obtain ⟨A, c, e, _⟩ := HR6.out.sl
    exact ⟨A, c, e⟩
  have HKL := Lib.hid hkl
  have HKD := Lib.hid hkd
  clear hk hkl hkd
  by_cases hend : k = bs.length

  · subst ev
    have hkb : ((k : Int) == (bs.length : Int)) = true := by simp; omega
    have HL5 : Hid (l5 = []) := by show _ = _; rw [HKD.out, hend]; simp
    have HRD := Lib.hid (read_done HMag.out HPI.out)
    rw [HL5.out] at HRD
    obtain ⟨ok, hok⟩ : ∃ ok, ok = imgK ⟨gl, fl⟩ := ⟨_, rfl⟩
    have HOK := Lib.hid hok
    have HVC := Lib.hid (qvalid_c _ _ ⟨gl, fl⟩ w6.drew (HI6.out.shows.below ((Below.refl _ _).drew)) HSI.out)
    rw [← hok] at HVC
    clear hend hok
    refine wp_region_held_drew (S := fun w1 => (w1.cell? ⟨g, 0, none⟩ = some (.slice Av bs.length cv) ∧ w1.cell? ⟨g, 1, none⟩ = some (.int .i64 (k : Int))) ∧ (w1.cell? ⟨gx, 0, none⟩ = some (.slice Ag gl.length cg) ∧ w1.cell? ⟨gx, 1, none⟩ = some (.slice Af fl.length cf))) (by kernel_rfl) hS (fun hS0 => ?_)
    refine wpAnyH_take (i := 0) (oi := { dst := some 24, op := Op.move (Operand.tmp 0), type := 72, pos := "reader.go:37", after := #[], guard := none }) (v := ?v0) rfl (by kernel_rfl) (by kernel_rfl) (by kernel_rfl) (fun _ _ _ h => h) (Or.inl ⟨by rfl, ?h0⟩) hS0 ?r0
    case h0 => intro w' hSw; (try dsimp only at hSw); obtain ⟨⟨s0, s1⟩, s2, s3⟩ := hSw; go_simp; (try with_reducible rfl)
    simp only [Act.put, List.setIfInBounds_toArray, List.set_cons_zero, List.set_cons_succ]
    refine wpAnyH_take (i := 1) (oi := { dst := some 25, op := Op.nilCheck (Operand.tmp 24), type := 0, pos := "reader.go:37", after := #[{ on := 0, ground := Ground.data }], guard := none }) (v := ?v1) rfl (by kernel_rfl) (by kernel_rfl) (by kernel_rfl) (fun _ _ _ h => h) (Or.inl ⟨by rfl, ?h1⟩) hS0 ?r1
    case h1 => intro w' hSw; (try dsimp only at hSw); obtain ⟨⟨s0, s1⟩, s2, s3⟩ := hSw; go_simp; (try with_reducible rfl)
    simp only [Act.put, List.setIfInBounds_toArray, List.set_cons_zero, List.set_cons_succ]
    refine wpAnyH_take (i := 2) (oi := { dst := some 26, op := Op.fieldAddr 94 (Operand.tmp 25) 1, type := 0, pos := "reader.go:37", after := #[{ on := 1, ground := Ground.data }], guard := none }) (v := ?v2) rfl (by kernel_rfl) (by kernel_rfl) (by kernel_rfl) (fun _ _ _ h => h) (Or.inl ⟨by rfl, ?h2⟩) hS0 ?r2
    case h2 => intro w' hSw; (try dsimp only at hSw); obtain ⟨⟨s0, s1⟩, s2, s3⟩ := hSw; go_simp; (try with_reducible rfl)
    simp only [Act.put, List.setIfInBounds_toArray, List.set_cons_zero, List.set_cons_succ]
    refine wpAnyH_take (i := 3) (oi := { dst := some 27, op := Op.load 3 (Operand.tmp 26), type := 3, pos := "reader.go:37", after := #[{ on := 2, ground := Ground.data }], guard := none }) (v := ?v3) rfl (by kernel_rfl) (by kernel_rfl) (by kernel_rfl) (fun _ _ _ h => h) (Or.inl ⟨by rfl, ?h3⟩) hS0 ?r3
    case h3 => intro w' hSw; (try dsimp only at hSw); obtain ⟨⟨s0, s1⟩, s2, s3⟩ := hSw; go_simp; (try with_reducible rfl)
    simp only [Act.put, List.setIfInBounds_toArray, List.set_cons_zero, List.set_cons_succ]
    refine wpAnyH_take (i := 4) (oi := { dst := some 28, op := Op.move (Operand.tmp 0), type := 72, pos := "reader.go:37", after := #[], guard := none }) (v := ?v4) rfl (by kernel_rfl) (by kernel_rfl) (by kernel_rfl) (fun _ _ _ h => h) (Or.inl ⟨by rfl, ?h4⟩) hS0 ?r4
    case h4 => intro w' hSw; (try dsimp only at hSw); obtain ⟨⟨s0, s1⟩, s2, s3⟩ := hSw; go_simp; (try with_reducible rfl)
    simp only [Act.put, List.setIfInBounds_toArray, List.set_cons_zero, List.set_cons_succ]
    refine wpAnyH_take (i := 5) (oi := { dst := some 29, op := Op.nilCheck (Operand.tmp 28), type := 0, pos := "reader.go:37", after := #[{ on := 4, ground := Ground.data }], guard := none }) (v := ?v5) rfl (by kernel_rfl) (by kernel_rfl) (by kernel_rfl) (fun _ _ _ h => h) (Or.inl ⟨by rfl, ?h5⟩) hS0 ?r5
    case h5 => intro w' hSw; (try dsimp only at hSw); obtain ⟨⟨s0, s1⟩, s2, s3⟩ := hSw; go_simp; (try with_reducible rfl)
    simp only [Act.put, List.setIfInBounds_toArray, List.set_cons_zero, List.set_cons_succ]
    refine wpAnyH_take (i := 6) (oi := { dst := some 30, op := Op.fieldAddr 94 (Operand.tmp 29) 0, type := 0, pos := "reader.go:37", after := #[{ on := 5, ground := Ground.data }], guard := none }) (v := ?v6) rfl (by kernel_rfl) (by kernel_rfl) (by kernel_rfl) (fun _ _ _ h => h) (Or.inl ⟨by rfl, ?h6⟩) hS0 ?r6
    case h6 => intro w' hSw; (try dsimp only at hSw); obtain ⟨⟨s0, s1⟩, s2, s3⟩ := hSw; go_simp; (try with_reducible rfl)
    simp only [Act.put, List.setIfInBounds_toArray, List.set_cons_zero, List.set_cons_succ]
    refine wpAnyH_take (i := 7) (oi := { dst := some 31, op := Op.load 30 (Operand.tmp 30), type := 30, pos := "reader.go:37", after := #[{ on := 6, ground := Ground.data }], guard := none }) (v := ?v7) rfl (by kernel_rfl) (by kernel_rfl) (by kernel_rfl) (fun _ _ _ h => h) (Or.inl ⟨by rfl, ?h7⟩) hS0 ?r7
    case h7 => intro w' hSw; (try dsimp only at hSw); obtain ⟨⟨s0, s1⟩, s2, s3⟩ := hSw; go_simp; (try with_reducible rfl)
    simp only [Act.put, List.setIfInBounds_toArray, List.set_cons_zero, List.set_cons_succ]
    refine wpAnyH_take (i := 8) (oi := { dst := some 32, op := Op.call { callee := Callee.builtin Builtin.len, args := #[Operand.tmp 31], argTypes := #[30] }, type := 3, pos := "reader.go:37", after := #[{ on := 7, ground := Ground.data }], guard := none }) (v := ?v8) rfl (by kernel_rfl) (by kernel_rfl) (by kernel_rfl) (fun _ _ _ h => h) (Or.inl ⟨by rfl, ?h8⟩) hS0 ?r8
    case h8 => intro w' hSw; (try dsimp only at hSw); obtain ⟨⟨s0, s1⟩, s2, s3⟩ := hSw; go_simp; (try with_reducible rfl)
    simp only [Act.put, List.setIfInBounds_toArray, List.set_cons_zero, List.set_cons_succ]
    refine wpAnyH_take (i := 9) (oi := { dst := some 33, op := Op.binOp BinOp.eql 3 (Operand.tmp 27) (Operand.tmp 32) 3, type := 4, pos := "reader.go:37", after := #[{ on := 3, ground := Ground.data }, { on := 8, ground := Ground.data }], guard := none }) (v := ?v9) rfl (by kernel_rfl) (by kernel_rfl) (by kernel_rfl) (fun _ _ _ h => h) (Or.inl ⟨by rfl, ?h9⟩) hS0 ?r9
    case h9 => intro w' hSw; (try dsimp only at hSw); obtain ⟨⟨s0, s1⟩, s2, s3⟩ := hSw; go_simp; (try with_reducible rfl)
    simp only [Act.put, List.setIfInBounds_toArray, List.set_cons_zero, List.set_cons_succ]
    refine wpAnyH_take (i := 10) (oi := { dst := some 34, op := Op.move (Operand.tmp 33), type := 4, pos := "reader.go:37", after := #[{ on := 9, ground := Ground.data }], guard := none }) (v := ?v10) rfl (by kernel_rfl) (by kernel_rfl) (by kernel_rfl) (fun _ _ _ h => h) (Or.inl ⟨by rfl, ?h10⟩) hS0 ?r10
    case h10 => intro w' hSw; (try dsimp only at hSw); obtain ⟨⟨s0, s1⟩, s2, s3⟩ := hSw; go_simp; (try with_reducible rfl)
    simp only [Act.put, List.setIfInBounds_toArray, List.set_cons_zero, List.set_cons_succ]
    clear hkb

    refine wpAnyH_ready (rs := [11]) (by kernel_rfl) (by simp) ?_
    refine AllReadyH.cons (o := { dst := some 35, op := Op.load 25 (Operand.tmp 3), type := 25, pos := "reader.go:37", after := #[{ on := 10, ground := Ground.guard }], guard := some (10, true) }) rfl (fun K hK => ?_) AllReadyH.nil
    go_simp
    obtain ⟨_, s2, s3⟩ := hS
    go_wp2_with fail
    refine hK.out _ _ hS0 (fun _ => ?_)
    clear hK K

    refine wpAnyH_ready (rs := [12]) (by kernel_rfl) (by simp) ?_
    refine AllReadyH.cons (o := { dst := some 36, op := Op.call { callee := Callee.value (Operand.func 22), args := #[Operand.tmp 35], argTypes := #[25] }, type := 4, pos := "reader.go:37", after := #[{ on := 11, ground := Ground.data }, { on := 10, ground := Ground.chain }, { on := 10, ground := Ground.guard }], guard := some (10, true) }) rfl (fun K hK => ?_) AllReadyH.nil
    go_simp
    refine HVC.out.mono ?_
    rintro e7 w7 ⟨rfl, hb7⟩
    have HB7 := Lib.hid (below_trans (w := w6) ((Below.refl _ _).drew) hb7)
    have hS7 : (w7.cell? ⟨g, 0, none⟩ = some (.slice Av bs.length cv) ∧ w7.cell? ⟨g, 1, none⟩ = some (.int .i64 (k : Int))) ∧ (w7.cell? ⟨gx, 0, none⟩ = some (.slice Ag gl.length cg) ∧ w7.cell? ⟨gx, 1, none⟩ = some (.slice Af fl.length cf)) := by
      obtain ⟨⟨s0, s1⟩, s2, s3⟩ := hS0
      have hgl : g < w6.heap.size := HR6.out.lt
      have hxl : gx < w6.heap.size := HX.out.lt
      exact ⟨⟨(HB7.out.cell (p := ⟨g, 0, none⟩) hgl).trans s0, (HB7.out.cell (p := ⟨g, 1, none⟩) hgl).trans s1⟩, (HB7.out.cell (p := ⟨gx, 0, none⟩) hxl).trans s2, (HB7.out.cell (p := ⟨gx, 1, none⟩) hxl).trans s3⟩
    clear hb7 HVC
    go_wp2_with fail
    refine hK.out _ _ hS7 (fun _ => ?_)
    clear hK K

    refine wpAnyH_ready (rs := [13]) (by kernel_rfl) (by simp) ?_
    refine AllReadyH.cons (o := { dst := some 37, op := Op.pick (Operand.tmp 34) (Operand.tmp 36) (Operand.const (Value.bool false)), type := 4, pos := "reader.go:37", after := #[{ on := 10, ground := Ground.data }, { on := 12, ground := Ground.data }], guard := none }) rfl (fun K hK => ?_) AllReadyH.nil
    go_simp
    go_wp2_with fail
    refine hK.out _ _ hS7 (fun _ => ?_)
    clear hK K

    cases ok with
    | false =>

      refine wpAnyH_ready (rs := [14]) (by kernel_rfl) (by simp) ?_
      refine AllReadyH.cons (o := { dst := some 38, op := Op.call { callee := Callee.value (Operand.func 56), args := #[Operand.tmp 37], argTypes := #[4] }, type := 0, pos := "reader.go:37", after := #[{ on := 13, ground := Ground.data }, { on := 12, ground := Ground.chain }], guard := none }) rfl (fun K hK => ?_) AllReadyH.nil
      go_simp
      refine (need_no _).mono ?_
      rintro e8 w8 ⟨rfl, rfl⟩
      exact ⟨rfl, HF6.out.trans (Fr.of_below HB7.out) (fun _ _ e => e), .inl ⟨by rw [HRD.out, if_neg (fun q => by have := HOK.out; rw [q.2] at this; cases this)], rfl⟩⟩

    | true =>

      refine wpAnyH_ready (rs := [14]) (by kernel_rfl) (by simp) ?_
      refine AllReadyH.cons (o := { dst := some 38, op := Op.call { callee := Callee.value (Operand.func 56), args := #[Operand.tmp 37], argTypes := #[4] }, type := 0, pos := "reader.go:37", after := #[{ on := 13, ground := Ground.data }, { on := 12, ground := Ground.chain }], guard := none }) rfl (fun K hK => ?_) AllReadyH.nil
      go_simp
      refine (need_yes _).mono ?_
      rintro e8 w8 ⟨rfl, rfl⟩
      go_wp2_with fail
      refine hK.out _ _ hS7 (fun _ => ?_)
      clear hK K

      refine wpAnyH_done (by kernel_rfl) ?_ _
      have HXX : Hid (readI bs = some ⟨gl, fl⟩) := by show _ = _; rw [HRD.out, if_pos ⟨trivial, HOK.out.symm⟩]
      have HB8 := Lib.hid (HB6.out.below HB7.out HB6.out.lt)
      have HX8 := Lib.hid (HX.out.below HB7.out HX.out.lt)
      have HF8 := Lib.hid (HF6.out.trans (Fr.of_below (S := fun i => i = g) HB7.out) (fun _ _ e => e))
      have HI8 := Lib.hid (HI6.out.fr (Fr.of_below (S := fun _ => False) HB7.out) (fun _ _ _ h => h))
      clear HB7 hS7 HB6 HX HF6 HI6
      have st : ∀ (wz : World) (j : Nat) (u : Value), Fr (fun i => i = gr) wz (wz.setCell ⟨gr, j, none⟩ u) := fun wz j u => Fr.set (S := fun i => i = gr) wz (p := ⟨gr, j, none⟩) rfl _
      have hfb := (st w8 0 (.slice Ag gl.length cg)).trans (st _ 1 (.slice Af fl.length cf)) (fun _ _ e => e)
      have HF9 : Hid (Fr (fun i => i = g) w _) := HF8.out.trans hfb (fun i hi e => absurd (show i = gr from e) (by have := HGR.out; omega))
      have HB9 := Lib.hid ((HB8.out.set_ 0 (.slice Ag gl.length cg)).set_ 1 (.slice Af fl.length cf))
      have keep : ∀ {e kk n : Nat} {u : Value} {xs : List Value}, e ≠ 25 → w8.ownsRow w.heap.size e kk u n xs → World.ownsRow _ w.heap.size e kk u n xs := fun he ho => ownsRow_fr ho hfb (fun q hq e2 => own_ne_blk ho HB8.out he (by rw [hq, show q = gr from e2]))
      have HI9 : Hid (ImgOwn ((w8.setCell ⟨gr, 0, none⟩ (.slice Ag gl.length cg)).setCell ⟨gr, 1, none⟩ (.slice Af fl.length cf)) w.heap.size (.slice Ag gl.length cg) (.slice Af fl.length cf) ⟨gl, fl⟩) := by
        obtain ⟨i1, ts, i2, i3, i4⟩ := HI8.out
        exact ⟨keep (by decide) i1, ts, i2, keep (by decide) i3, fun i f t q1 q2 => ⟨keep (by decide) (i4 i f t q1 q2).params, keep (by decide) (i4 i f t q1 q2).locals, keep (by decide) (i4 i f t q1 q2).code⟩⟩
      have z0 := HB8.out.frozen 0
      have z1 := HB8.out.frozen 1
      have c0 := HB8.out.cell 0
      have c1 := HB8.out.cell 1
      have x0 := HX8.out.cell 0
      have x1 := HX8.out.cell 1
      clear hfb st keep
      go_wp2_with fail
      generalize (w8.setCell ⟨gr, 0, none⟩ (.slice Ag gl.length cg)).setCell ⟨gr, 1, none⟩ (.slice Af fl.length cf) = w9 at *
      have y0 := HB9.out.cell 0
      have y1 := HB9.out.cell 1
      refine bodyPost_ret (v := imgV (.slice Ag gl.length cg) (.slice Af fl.length cf)) (by simp [results, Tryd.results34, go_sem, y0, y1]) rfl ⟨HF9.out, .inr ⟨⟨gl, fl⟩, _, _, HXX.out, rfl, HI9.out⟩⟩

  · subst ev
    have hkb : ((k : Int) == (bs.length : Int)) = false := by simp; omega
    have HL5 : Hid (l5 ≠ []) := by
      intro q
      have := HKD.out
      rw [q] at this
      have := congrArg List.length this
      rw [List.length_drop] at this
      have := HKL.out
      simp at *
      omega
    have HRN : Hid (readI bs = none) := by show _ = _; rw [read_done HMag.out HPI.out, if_neg (fun q => HL5.out q.1)]
    clear hend
    refine wp_region_held_drew (S := fun w1 => (w1.cell? ⟨g, 0, none⟩ = some (.slice Av bs.length cv) ∧ w1.cell? ⟨g, 1, none⟩ = some (.int .i64 (k : Int))) ∧ (w1.cell? ⟨gx, 0, none⟩ = some (.slice Ag gl.length cg) ∧ w1.cell? ⟨gx, 1, none⟩ = some (.slice Af fl.length cf))) (by kernel_rfl) hS (fun hS0 => ?_)
    refine wpAnyH_take (i := 0) (oi := { dst := some 24, op := Op.move (Operand.tmp 0), type := 72, pos := "reader.go:37", after := #[], guard := none }) (v := ?nv0) rfl (by kernel_rfl) (by kernel_rfl) (by kernel_rfl) (fun _ _ _ h => h) (Or.inl ⟨by rfl, ?nh0⟩) hS0 ?nr0
    case nh0 => intro w' hSw; (try dsimp only at hSw); obtain ⟨⟨s0, s1⟩, s2, s3⟩ := hSw; go_simp; (try with_reducible rfl)
    simp only [Act.put, List.setIfInBounds_toArray, List.set_cons_zero, List.set_cons_succ]
    refine wpAnyH_take (i := 1) (oi := { dst := some 25, op := Op.nilCheck (Operand.tmp 24), type := 0, pos := "reader.go:37", after := #[{ on := 0, ground := Ground.data }], guard := none }) (v := ?nv1) rfl (by kernel_rfl) (by kernel_rfl) (by kernel_rfl) (fun _ _ _ h => h) (Or.inl ⟨by rfl, ?nh1⟩) hS0 ?nr1
    case nh1 => intro w' hSw; (try dsimp only at hSw); obtain ⟨⟨s0, s1⟩, s2, s3⟩ := hSw; go_simp; (try with_reducible rfl)
    simp only [Act.put, List.setIfInBounds_toArray, List.set_cons_zero, List.set_cons_succ]
    refine wpAnyH_take (i := 2) (oi := { dst := some 26, op := Op.fieldAddr 94 (Operand.tmp 25) 1, type := 0, pos := "reader.go:37", after := #[{ on := 1, ground := Ground.data }], guard := none }) (v := ?nv2) rfl (by kernel_rfl) (by kernel_rfl) (by kernel_rfl) (fun _ _ _ h => h) (Or.inl ⟨by rfl, ?nh2⟩) hS0 ?nr2
    case nh2 => intro w' hSw; (try dsimp only at hSw); obtain ⟨⟨s0, s1⟩, s2, s3⟩ := hSw; go_simp; (try with_reducible rfl)
    simp only [Act.put, List.setIfInBounds_toArray, List.set_cons_zero, List.set_cons_succ]
    refine wpAnyH_take (i := 3) (oi := { dst := some 27, op := Op.load 3 (Operand.tmp 26), type := 3, pos := "reader.go:37", after := #[{ on := 2, ground := Ground.data }], guard := none }) (v := ?nv3) rfl (by kernel_rfl) (by kernel_rfl) (by kernel_rfl) (fun _ _ _ h => h) (Or.inl ⟨by rfl, ?nh3⟩) hS0 ?nr3
    case nh3 => intro w' hSw; (try dsimp only at hSw); obtain ⟨⟨s0, s1⟩, s2, s3⟩ := hSw; go_simp; (try with_reducible rfl)
    simp only [Act.put, List.setIfInBounds_toArray, List.set_cons_zero, List.set_cons_succ]
    refine wpAnyH_take (i := 4) (oi := { dst := some 28, op := Op.move (Operand.tmp 0), type := 72, pos := "reader.go:37", after := #[], guard := none }) (v := ?nv4) rfl (by kernel_rfl) (by kernel_rfl) (by kernel_rfl) (fun _ _ _ h => h) (Or.inl ⟨by rfl, ?nh4⟩) hS0 ?nr4
    case nh4 => intro w' hSw; (try dsimp only at hSw); obtain ⟨⟨s0, s1⟩, s2, s3⟩ := hSw; go_simp; (try with_reducible rfl)
    simp only [Act.put, List.setIfInBounds_toArray, List.set_cons_zero, List.set_cons_succ]
    refine wpAnyH_take (i := 5) (oi := { dst := some 29, op := Op.nilCheck (Operand.tmp 28), type := 0, pos := "reader.go:37", after := #[{ on := 4, ground := Ground.data }], guard := none }) (v := ?nv5) rfl (by kernel_rfl) (by kernel_rfl) (by kernel_rfl) (fun _ _ _ h => h) (Or.inl ⟨by rfl, ?nh5⟩) hS0 ?nr5
    case nh5 => intro w' hSw; (try dsimp only at hSw); obtain ⟨⟨s0, s1⟩, s2, s3⟩ := hSw; go_simp; (try with_reducible rfl)
    simp only [Act.put, List.setIfInBounds_toArray, List.set_cons_zero, List.set_cons_succ]
    refine wpAnyH_take (i := 6) (oi := { dst := some 30, op := Op.fieldAddr 94 (Operand.tmp 29) 0, type := 0, pos := "reader.go:37", after := #[{ on := 5, ground := Ground.data }], guard := none }) (v := ?nv6) rfl (by kernel_rfl) (by kernel_rfl) (by kernel_rfl) (fun _ _ _ h => h) (Or.inl ⟨by rfl, ?nh6⟩) hS0 ?nr6
    case nh6 => intro w' hSw; (try dsimp only at hSw); obtain ⟨⟨s0, s1⟩, s2, s3⟩ := hSw; go_simp; (try with_reducible rfl)
    simp only [Act.put, List.setIfInBounds_toArray, List.set_cons_zero, List.set_cons_succ]
    refine wpAnyH_take (i := 7) (oi := { dst := some 31, op := Op.load 30 (Operand.tmp 30), type := 30, pos := "reader.go:37", after := #[{ on := 6, ground := Ground.data }], guard := none }) (v := ?nv7) rfl (by kernel_rfl) (by kernel_rfl) (by kernel_rfl) (fun _ _ _ h => h) (Or.inl ⟨by rfl, ?nh7⟩) hS0 ?nr7
    case nh7 => intro w' hSw; (try dsimp only at hSw); obtain ⟨⟨s0, s1⟩, s2, s3⟩ := hSw; go_simp; (try with_reducible rfl)
    simp only [Act.put, List.setIfInBounds_toArray, List.set_cons_zero, List.set_cons_succ]
    refine wpAnyH_take (i := 8) (oi := { dst := some 32, op := Op.call { callee := Callee.builtin Builtin.len, args := #[Operand.tmp 31], argTypes := #[30] }, type := 3, pos := "reader.go:37", after := #[{ on := 7, ground := Ground.data }], guard := none }) (v := ?nv8) rfl (by kernel_rfl) (by kernel_rfl) (by kernel_rfl) (fun _ _ _ h => h) (Or.inl ⟨by rfl, ?nh8⟩) hS0 ?nr8
    case nh8 => intro w' hSw; (try dsimp only at hSw); obtain ⟨⟨s0, s1⟩, s2, s3⟩ := hSw; go_simp; (try with_reducible rfl)
    simp only [Act.put, List.setIfInBounds_toArray, List.set_cons_zero, List.set_cons_succ]
    refine wpAnyH_take (i := 9) (oi := { dst := some 33, op := Op.binOp BinOp.eql 3 (Operand.tmp 27) (Operand.tmp 32) 3, type := 4, pos := "reader.go:37", after := #[{ on := 3, ground := Ground.data }, { on := 8, ground := Ground.data }], guard := none }) (v := ?nv9) rfl (by kernel_rfl) (by kernel_rfl) (by kernel_rfl) (fun _ _ _ h => h) (Or.inl ⟨by rfl, ?nh9⟩) hS0 ?nr9
    case nh9 => intro w' hSw; (try dsimp only at hSw); obtain ⟨⟨s0, s1⟩, s2, s3⟩ := hSw; go_simp; (try with_reducible rfl)
    simp only [Act.put, List.setIfInBounds_toArray, List.set_cons_zero, List.set_cons_succ]
    refine wpAnyH_take (i := 10) (oi := { dst := some 34, op := Op.move (Operand.tmp 33), type := 4, pos := "reader.go:37", after := #[{ on := 9, ground := Ground.data }], guard := none }) (v := ?nv10) rfl (by kernel_rfl) (by kernel_rfl) (by kernel_rfl) (fun _ _ _ h => h) (Or.inl ⟨by rfl, ?nh10⟩) hS0 ?nr10
    case nh10 => intro w' hSw; (try dsimp only at hSw); obtain ⟨⟨s0, s1⟩, s2, s3⟩ := hSw; go_simp; (try with_reducible rfl)
    simp only [Act.put, List.setIfInBounds_toArray, List.set_cons_zero, List.set_cons_succ]
    clear hkb

    refine wpAnyH_ready (rs := [11]) (by kernel_rfl) (by simp) ?_
    refine AllReadyH.cons (o := { dst := some 35, op := Op.load 25 (Operand.tmp 3), type := 25, pos := "reader.go:37", after := #[{ on := 10, ground := Ground.guard }], guard := some (10, true) }) rfl (fun K hK => ?_) AllReadyH.nil
    go_simp
    refine hK.out _ _ hS0 (fun _ => ?_)
    clear hK K

    refine wpAnyH_ready (rs := [12]) (by kernel_rfl) (by simp) ?_
    refine AllReadyH.cons (o := { dst := some 36, op := Op.call { callee := Callee.value (Operand.func 22), args := #[Operand.tmp 35], argTypes := #[25] }, type := 4, pos := "reader.go:37", after := #[{ on := 11, ground := Ground.data }, { on := 10, ground := Ground.chain }, { on := 10, ground := Ground.guard }], guard := some (10, true) }) rfl (fun K hK => ?_) AllReadyH.nil
    go_simp
    refine hK.out _ _ hS0 (fun _ => ?_)
    clear hK K

    refine wpAnyH_ready (rs := [13]) (by kernel_rfl) (by simp) ?_
    refine AllReadyH.cons (o := { dst := some 37, op := Op.pick (Operand.tmp 34) (Operand.tmp 36) (Operand.const (Value.bool false)), type := 4, pos := "reader.go:37", after := #[{ on := 10, ground := Ground.data }, { on := 12, ground := Ground.data }], guard := none }) rfl (fun K hK => ?_) AllReadyH.nil
    go_simp
    go_wp2_with fail
    refine hK.out _ _ hS0 (fun _ => ?_)
    clear hK K

    refine wpAnyH_ready (rs := [14]) (by kernel_rfl) (by simp) ?_
    refine AllReadyH.cons (o := { dst := some 38, op := Op.call { callee := Callee.value (Operand.func 56), args := #[Operand.tmp 37], argTypes := #[4] }, type := 0, pos := "reader.go:37", after := #[{ on := 13, ground := Ground.data }, { on := 12, ground := Ground.chain }], guard := none }) rfl (fun K hK => ?_) AllReadyH.nil
    go_simp
    refine (need_no _).mono ?_
    rintro e8 w8 ⟨rfl, rfl⟩
    exact ⟨rfl, HF6.out.trans (Fr.drewN (S := fun i => i = g) w6 1) (fun _ _ e => e), .inl ⟨HRN.out, rfl⟩⟩

set_option maxRecDepth 100000 in
theorem catch_idle (b1 b2 : Nat) (w : World) :
    CallsD Tryd.prog 32 #[.pointer (some ⟨b1, 0, none⟩), .pointer (some ⟨b2, 0, none⟩)] .returning w fun e u' w' => e = .returned (.tuple #[]) ∧ u' = .returning ∧ w' = w := by
  refine callsD_of_wpS Tryd.func32 rfl fun c₀ cs hu => ?_
  apply wpS_seq
  apply wpS_region
  simp [wpOpsS, go_sem, recoverD, hu, Tryd.ntmps32, Exit.thenS]
  refine wpS_of_wp ?_
  go_wp2_with fail
  cases c₀
  simp_all [bodyPostS, results, Tryd.results32]

theorem assert_not (w : World) : (Instr.typeAssert notImg 20 71 true).run Tryd.prog w = .ok (.tuple #[.agg #[], .bool true]) w := by
  simp [Instr.typeAssert, go_sem]

set_option maxRecDepth 100000 in
theorem catch_thrown (b1 b2 : Nat) (x1 x2 x3 : Value) (w : World) (h1 : Blk w b1 25 #[x1, x2]) (h2 : Blk w b2 28 #[x3]) :
    CallsD Tryd.prog 32 #[.pointer (some ⟨b1, 0, none⟩), .pointer (some ⟨b2, 0, none⟩)] (.panicking [{ v := notImg, recovered := false }]) w fun e u' w' => e = .returned (.tuple #[]) ∧ u' = .panicking [{ v := notImg, recovered := true }] ∧
      w' = (((w.alloc (.cells #[] 71)).setCell ⟨b1, 0, none⟩ (.slice none 0 0)).setCell ⟨b1, 1, none⟩ (.slice none 0 0)).setCell ⟨b2, 0, none⟩ (.int .i64 150) := by
  have hta := assert_not
  have h1 := h1.alloc (.cells #[] 71)
  have h2 := h2.alloc (.cells #[] 71)
  have H1 := Lib.hid h1
  have H2 := Lib.hid h2
  have hne : b1 ≠ b2 := Blk.ne_ h1 h2 (by decide)
  have HNE := Lib.hid hne
  clear h1 h2 hne
  refine callsD_of_wpS Tryd.func32 rfl fun c₀ cs hu => ?_
  apply wpS_seq
  apply wpS_region
  simp [wpOpsS, go_sem, recoverD, hu, Tryd.ntmps32, Exit.thenS]
  refine wpS_of_wp ?_
  go_upto_region 7 with (fail)
  generalize hwa : w.alloc (.cells #[] 71) = wa at *
  have c0 := H1.out.cell 0
  have c1 := H1.out.cell 1
  have c2 := H2.out.cell 0
  have z0 := H1.out.frozen 0
  have z1 := H1.out.frozen 1
  have z2 := H2.out.frozen 0
  have hne := HNE.out
  go_wp2_with fail
  cases c₀
  simp_all [bodyPostS, results, Tryd.results32]


set_option maxHeartbeats 8000000 in
set_option maxRecDepth 100000 in
theorem qD (v : Value) (bs : List Nat) (w : World) (ht : Tab w) (hv : SlB w v bs) (hn : bs.length ≤ 140737488355318) (hby : ∀ x ∈ bs, x < 256) : Calls Tryd.prog 17 #[v] w (DecR w bs) := by
  have hmf : ∀ (fn : Fn) (first cap : Array Value) (w : World), (Instr.makeFunc fn first cap).run Tryd.prog w = .ok (.func fn first cap) w := fun _ _ _ _ => rfl
  have HT := Lib.hid ht
  have HV := Lib.hid hv
  have HBy := Lib.hid hby
  obtain ⟨A, c, rfl, _⟩ := hv
  clear ht hby
  have hb1 : Below w.heap.size w (w.alloc (.cells #[.slice none 0 0, .slice none 0 0] 25)) := (Below.refl _ _).alloc (Nat.le_refl _) _
  have hb2 : Below w.heap.size w ((w.alloc (.cells #[.slice none 0 0, .slice none 0 0] 25)).alloc (.cells #[.int .i64 0] 28)) := hb1.alloc hb1.size _
  have HB := Lib.hid hb2
  have HX := Lib.hid ((Blk.new w 25 #[.slice none 0 0, .slice none 0 0]).alloc (.cells #[.int .i64 0] 28))
  have HE := Lib.hid (Blk.new (w.alloc (.cells #[.slice none 0 0, .slice none 0 0] 25)) 28 #[.int .i64 0])
  clear hb1 hb2
  go_enter_defers Tryd.func17, Tryd.ntmps17
  go_upto_region 1 with (fail)
  have hse : (w.alloc (.cells #[.slice none 0 0, .slice none 0 0] 25)).heap.size = w.heap.size + 1 := by simp
  rw [hse] at HE
  generalize (w.alloc (.cells #[.slice none 0 0, .slice none 0 0] 25)).alloc (.cells #[.int .i64 0] 28) = w0 at *
  obtain ⟨bx, hbx⟩ : ∃ b, b = w.heap.size := ⟨_, rfl⟩
  obtain ⟨be, hbe⟩ : ∃ b, b = w.heap.size + 1 := ⟨_, rfl⟩
  rw [← hbx] at HX
  rw [← hbe] at HE
  rw [show (some { block := w.heap.size, off := 0, spot := none } : Option Addr) = some ⟨bx, 0, none⟩ by rw [hbx], show (some { block := w.heap.size + 1, off := 0, spot := none } : Option Addr) = some ⟨be, 0, none⟩ by rw [hbe]]
  have HBX : Hid (w.heap.size ≤ bx) := by show _ ≤ _; omega
  have HBE : Hid (w.heap.size ≤ be) := by show _ ≤ _; omega
  have HNE : Hid (bx ≠ be) := by show _ ≠ _; omega
  clear hse hbx hbe
  by_cases hbig : (1048576 : Int) < (bs.length : Int)
  · have c0 := HX.out.cell 0
    have c1 := HX.out.cell 1
    have c2 := HE.out.cell 0
    have z0 := HX.out.frozen 0
    have z1 := HX.out.frozen 1
    have z2 := HE.out.frozen 0
    have hne := HNE.out
    have hb3 : 1048576 < bs.length := by omega
    have HBig := Lib.hid hb3
    clear hb3
    go_wp2_with fail
    clear c0 c1 c2 z0 z1 z2
    have f1 : Fr (fun i => i = bx ∨ i = be) w0 (((w0.setCell ⟨bx, 0, none⟩ (.slice none 0 0)).setCell ⟨bx, 1, none⟩ (.slice none 0 0)).setCell ⟨be, 0, none⟩ (.int .i64 2)) :=
      ((Fr.set (S := fun i => i = bx ∨ i = be) w0 (p := ⟨bx, 0, none⟩) (.inl rfl) _).trans (Fr.set (S := fun i => i = bx ∨ i = be) _ (p := ⟨bx, 1, none⟩) (.inl rfl) _) (fun _ _ e => e)).trans (Fr.set (S := fun i => i = bx ∨ i = be) _ (p := ⟨be, 0, none⟩) (.inr rfl) _) (fun _ _ e => e)
    have KX := ((HX.out.set_ 0 (.slice none 0 0)).set_ 1 (.slice none 0 0)).far (p := ⟨be, 0, none⟩) hne (.int .i64 2)
    have KE := ((HE.out.far (p := ⟨bx, 0, none⟩) (fun e => hne e.symm) (.slice none 0 0)).far (p := ⟨bx, 1, none⟩) (fun e => hne e.symm) (.slice none 0 0)).set_ 0 (.int .i64 2)
    have HBw : Hid (Below w.heap.size w _) := HB.out.trans (f1.below HB.out.size (fun i hi e => by have := HBX.out; have := HBE.out; omega))
    generalize ((w0.setCell ⟨bx, 0, none⟩ (.slice none 0 0)).setCell ⟨bx, 1, none⟩ (.slice none 0 0)).setCell ⟨be, 0, none⟩ (.int .i64 2) = w1 at *
    have y0 := KX.cell 0
    have y1 := KX.cell 1
    have y2 := KE.cell 0
    refine ⟨.tuple #[imgV (.slice none 0 0) (.slice none 0 0), .int .i64 2], by simp [results, Tryd.results17, go_sem, y0, y1, y2], HBw.out, ?_⟩
    rw [if_pos HBig.out]
  · have hbig' : decide ((1048576 : Int) < (bs.length : Int)) = false := decide_eq_false hbig
    have HSm : Hid (¬ 1048576 < bs.length) := by show ¬ _; omega
    clear hbig
    go_wp2_with fail
    refine (qopened_c _ bs w0 (HV.out.below HB.out) (HT.out.below HB.out) hn HBy.out).mono ?_
    rintro e1 w1 ⟨hb1, ⟨hno, rfl⟩ | ⟨g, u, hok, rfl, hpr, hge⟩⟩
    · have HDN : Hid (decI bs = none) := by
        show _ = _
        unfold decI openIs at *
        rw [if_neg (by simpa using hno)]
      have HB1 := Lib.hid (HB.out.trans (hb1.mono HB.out.size))
      have HX1 := Lib.hid (HX.out.below hb1 HX.out.lt)
      have HE1 := Lib.hid (HE.out.below hb1 HE.out.lt)
      clear hb1 hno
      refine leaves_cons (f := 32) (args := #[.pointer (some ⟨bx, 0, none⟩), .pointer (some ⟨be, 0, none⟩)]) (by simp) (by simp [go_sem]) ?_
      refine (catch_thrown bx be _ _ _ w1 HX1.out HE1.out).mono ?_
      rintro e3 u3 w4 ⟨rfl, rfl, rfl⟩
      have hne := HNE.out
      have b0 : Below w.heap.size w (w1.alloc (.cells #[] 71)) := HB1.out.alloc HB1.out.size _
      have f1 : Fr (fun i => i = bx ∨ i = be) (w1.alloc (.cells #[] 71)) ((((w1.alloc (.cells #[] 71)).setCell ⟨bx, 0, none⟩ (.slice none 0 0)).setCell ⟨bx, 1, none⟩ (.slice none 0 0)).setCell ⟨be, 0, none⟩ (.int .i64 150)) :=
        ((Fr.set (S := fun i => i = bx ∨ i = be) _ (p := ⟨bx, 0, none⟩) (.inl rfl) _).trans (Fr.set (S := fun i => i = bx ∨ i = be) _ (p := ⟨bx, 1, none⟩) (.inl rfl) _) (fun _ _ e => e)).trans (Fr.set (S := fun i => i = bx ∨ i = be) _ (p := ⟨be, 0, none⟩) (.inr rfl) _) (fun _ _ e => e)
      have KX := (((HX1.out.alloc (.cells #[] 71)).set_ 0 (.slice none 0 0)).set_ 1 (.slice none 0 0)).far (p := ⟨be, 0, none⟩) hne (.int .i64 150)
      have KE := (((HE1.out.alloc (.cells #[] 71)).far (p := ⟨bx, 0, none⟩) (fun e => hne e.symm) (.slice none 0 0)).far (p := ⟨bx, 1, none⟩) (fun e => hne e.symm) (.slice none 0 0)).set_ 0 (.int .i64 150)
      have HBw : Hid (Below w.heap.size w _) := b0.trans (f1.below b0.size (fun i hi e => by have := HBX.out; have := HBE.out; omega))
      generalize (((w1.alloc (.cells #[] 71)).setCell ⟨bx, 0, none⟩ (.slice none 0 0)).setCell ⟨bx, 1, none⟩ (.slice none 0 0)).setCell ⟨be, 0, none⟩ (.int .i64 150) = w5 at *
      have y0 := KX.cell 0
      have y1 := KX.cell 1
      have y2 := KE.cell 0
      refine ⟨.tuple #[imgV (.slice none 0 0) (.slice none 0 0), .int .i64 150], by simp [results, Tryd.results17, go_sem, y0, y1, y2], HBw.out, ?_⟩
      rw [if_neg HSm.out, HDN.out]
    · have hoI : bs = frame (bs.take (bs.length - 4)) ∧ 4 ≤ bs.length := by unfold openIs at hok; simpa using hok
      have HDI : Hid (decI bs = readI (openB bs)) := by
        show _ = _
        unfold decI openB
        rw [if_pos hoI, if_pos hoI]
      have HLo : Hid ((openB bs).length ≤ 140737488355318) := by
        show _ ≤ _
        unfold openB
        rw [if_pos hoI, List.length_take]; omega
      have HByo : Hid (∀ x ∈ openB bs, x < 256) := by
        show ∀ x ∈ _, _
        unfold openB
        rw [if_pos hoI]
        exact fun x hx => HBy.out x (List.mem_of_mem_take hx)
      have HB1 := Lib.hid (HB.out.trans (hb1.mono HB.out.size))
      have HX1 := Lib.hid (HX.out.below hb1 HX.out.lt)
      have HE1 := Lib.hid (HE.out.below hb1 HE.out.lt)
      have HG : Hid (w.heap.size ≤ g) := Nat.le_trans HB.out.size hge
      have HGX : Hid (bx ≠ g) := by show _ ≠ _; have := HX.out.lt; omega
      have HGE : Hid (be ≠ g) := by show _ ≠ _; have := HE.out.lt; omega
      have HPR := Lib.hid hpr
      clear hb1 hok hpr hge hoI
      go_wp2_with fail
      refine (qimage_c g u (openB bs) _ w1 HPR.out HLo.out HByo.out).mono ?_
      rintro e2 w2 ⟨hf2, ⟨hp2, rfl⟩ | ⟨x, gv, fv, hp2, rfl, hio⟩⟩
      · have HDN : Hid (decI bs = none) := HDI.out.trans hp2
        have HB1 := Lib.hid (HB1.out.trans (hf2.below HB1.out.size (fun i hi e => by have e : i = g := e; have := HG.out; omega)))
        have HX1 := Lib.hid (HX1.out.fr hf2 HGX.out)
        have HE1 := Lib.hid (HE1.out.fr hf2 HGE.out)
        clear hf2 hp2
        refine leaves_cons (f := 32) (args := #[.pointer (some ⟨bx, 0, none⟩), .pointer (some ⟨be, 0, none⟩)]) (by simp) (by simp [go_sem]) ?_
        refine (catch_thrown bx be _ _ _ w2 HX1.out HE1.out).mono ?_
        rintro e3 u3 w4 ⟨rfl, rfl, rfl⟩
        have hne := HNE.out
        have b0 : Below w.heap.size w (w2.alloc (.cells #[] 71)) := HB1.out.alloc HB1.out.size _
        have f1 : Fr (fun i => i = bx ∨ i = be) (w2.alloc (.cells #[] 71)) ((((w2.alloc (.cells #[] 71)).setCell ⟨bx, 0, none⟩ (.slice none 0 0)).setCell ⟨bx, 1, none⟩ (.slice none 0 0)).setCell ⟨be, 0, none⟩ (.int .i64 150)) :=
          ((Fr.set (S := fun i => i = bx ∨ i = be) _ (p := ⟨bx, 0, none⟩) (.inl rfl) _).trans (Fr.set (S := fun i => i = bx ∨ i = be) _ (p := ⟨bx, 1, none⟩) (.inl rfl) _) (fun _ _ e => e)).trans (Fr.set (S := fun i => i = bx ∨ i = be) _ (p := ⟨be, 0, none⟩) (.inr rfl) _) (fun _ _ e => e)
        have KX := (((HX1.out.alloc (.cells #[] 71)).set_ 0 (.slice none 0 0)).set_ 1 (.slice none 0 0)).far (p := ⟨be, 0, none⟩) hne (.int .i64 150)
        have KE := (((HE1.out.alloc (.cells #[] 71)).far (p := ⟨bx, 0, none⟩) (fun e => hne e.symm) (.slice none 0 0)).far (p := ⟨bx, 1, none⟩) (fun e => hne e.symm) (.slice none 0 0)).set_ 0 (.int .i64 150)
        have HBw : Hid (Below w.heap.size w _) := b0.trans (f1.below b0.size (fun i hi e => by have := HBX.out; have := HBE.out; omega))
        generalize (((w2.alloc (.cells #[] 71)).setCell ⟨bx, 0, none⟩ (.slice none 0 0)).setCell ⟨bx, 1, none⟩ (.slice none 0 0)).setCell ⟨be, 0, none⟩ (.int .i64 150) = w5 at *
        have y0 := KX.cell 0
        have y1 := KX.cell 1
        have y2 := KE.cell 0
        refine ⟨.tuple #[imgV (.slice none 0 0) (.slice none 0 0), .int .i64 150], by simp [results, Tryd.results17, go_sem, y0, y1, y2], HBw.out, ?_⟩
        rw [if_neg HSm.out, HDN.out]
      · have HDS : Hid (decI bs = some x) := HDI.out.trans hp2
        have HIO := Lib.hid (hio.lower HB1.out.size)
        have HB2 := Lib.hid (HB1.out.trans (hf2.below HB1.out.size (fun i hi e => by have e : i = g := e; have := HG.out; omega)))
        have HX2 := Lib.hid (HX1.out.fr hf2 HGX.out)
        have HE2 := Lib.hid (HE1.out.fr hf2 HGE.out)
        obtain ⟨_, _, _, hro, _⟩ := hio
        obtain ⟨Af, cf, rfl⟩ := own_sl hro
        obtain ⟨Ag, cg, rfl⟩ := own_sl HIO.out.globs
        clear hf2 hp2 hro HPR HB1 HX1 HE1
        have c0 := HX2.out.cell 0
        have c1 := HX2.out.cell 1
        have c2 := HE2.out.cell 0
        have z0 := HX2.out.frozen 0
        have z1 := HX2.out.frozen 1
        have z2 := HE2.out.frozen 0
        have hne := HNE.out
        go_wp2_with fail
        clear c0 c1 c2 z0 z1 z2
        have f1 : Fr (fun i => i = bx ∨ i = be) w2 (((w2.setCell ⟨bx, 0, none⟩ (.slice Ag x.globs.length cg)).setCell ⟨bx, 1, none⟩ (.slice Af x.fns.length cf)).setCell ⟨be, 0, none⟩ (.int .i64 0)) :=
          ((Fr.set (S := fun i => i = bx ∨ i = be) w2 (p := ⟨bx, 0, none⟩) (.inl rfl) _).trans (Fr.set (S := fun i => i = bx ∨ i = be) _ (p := ⟨bx, 1, none⟩) (.inl rfl) _) (fun _ _ e => e)).trans (Fr.set (S := fun i => i = bx ∨ i = be) _ (p := ⟨be, 0, none⟩) (.inr rfl) _) (fun _ _ e => e)
        have KX := ((HX2.out.set_ 0 (.slice Ag x.globs.length cg)).set_ 1 (.slice Af x.fns.length cf)).far (p := ⟨be, 0, none⟩) hne (.int .i64 0)
        have KE := ((HE2.out.far (p := ⟨bx, 0, none⟩) (fun e => hne e.symm) (.slice Ag x.globs.length cg)).far (p := ⟨bx, 1, none⟩) (fun e => hne e.symm) (.slice Af x.fns.length cf)).set_ 0 (.int .i64 0)
        have HBw : Hid (Below w.heap.size w _) := HB2.out.trans (f1.below HB2.out.size (fun i hi e => by have := HBX.out; have := HBE.out; omega))
        have keep : ∀ {e kk n : Nat} {u : Value} {xs : List Value}, e ≠ 25 → e ≠ 28 → w2.ownsRow w.heap.size e kk u n xs → World.ownsRow _ w.heap.size e kk u n xs := fun he he2 ho => ownsRow_fr ho f1 (fun q hq e2 => e2.elim (fun e2 => own_ne_blk ho HX2.out he (by rw [hq, e2])) (fun e2 => own_ne_blk ho HE2.out he2 (by rw [hq, e2])))
        have HIz : Hid (ImgOwn (((w2.setCell ⟨bx, 0, none⟩ (.slice Ag x.globs.length cg)).setCell ⟨bx, 1, none⟩ (.slice Af x.fns.length cf)).setCell ⟨be, 0, none⟩ (.int .i64 0)) w.heap.size (.slice Ag x.globs.length cg) (.slice Af x.fns.length cf) x) := by
          obtain ⟨i1, ts, i2, i3, i4⟩ := HIO.out
          exact ⟨keep (by decide) (by decide) i1, ts, i2, keep (by decide) (by decide) i3, fun i f t q1 q2 => ⟨keep (by decide) (by decide) (i4 i f t q1 q2).params, keep (by decide) (by decide) (i4 i f t q1 q2).locals, keep (by decide) (by decide) (i4 i f t q1 q2).code⟩⟩
        clear keep f1
        generalize ((w2.setCell ⟨bx, 0, none⟩ (.slice Ag x.globs.length cg)).setCell ⟨bx, 1, none⟩ (.slice Af x.fns.length cf)).setCell ⟨be, 0, none⟩ (.int .i64 0) = w3 at *
        have y0 := KX.cell 0
        have y1 := KX.cell 1
        have y2 := KE.cell 0
        refine leaves_cons (f := 32) (args := #[.pointer (some ⟨bx, 0, none⟩), .pointer (some ⟨be, 0, none⟩)]) (by simp) (by simp [go_sem]) ?_
        refine (catch_idle bx be _).mono ?_
        rintro e3 u3 w4 ⟨rfl, rfl, rfl⟩
        refine ⟨.tuple #[imgV (.slice Ag x.globs.length cg) (.slice Af x.fns.length cf), .int .i64 0], by simp [results, Tryd.results17, go_sem, y0, y1, y2], HBw.out, ?_⟩
        rw [if_neg HSm.out, HDS.out]
        exact ⟨_, _, rfl, HIz.out⟩

end Go.Proofs.YtebdjahcahgafaaDoor

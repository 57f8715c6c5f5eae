/- The contract of Go. (By tools/gengo.py.) -/
import Derived.Test.YtnffflcfncffpaaBPushC
namespace Go.Proofs.Ytnffflcfncffpaa
open Go.RowKit

theorem wayF_in (ax : Nat) (a : Bx) (d : Int) (L : List Bx) : -(d.natAbs : Int) ≤ wayF ax a d L ∧ wayF ax a d L ≤ (d.natAbs : Int) := by
  have := stF_in ax a d L L.length
  unfold wayF
  split <;> omega
/-- Where a stands behind its way along x. -/
def goA (a : Bx) (bx : Int) (L : List Bx) : Bx := ⟨a.x + wayF 0 a bx L, a.y, a.r⟩
/-- How far it goes along y from there. -/
def goY (a : Bx) (bx b2 : Int) (L : List Bx) : Int := wayF 1 (goA a bx L) b2 L
/-- Go's error. -/
def errG (a : Bx) (bx b2 : Int) (L : List Bx) : Int := if allB L && a.right then (if inB bx && inB b2 then errB (rightB (a.x + wayF 0 a bx L) (a.y + goY a bx b2 L) a.r) else 1) else 60
/-- A number that counts only where there is no error. -/
def onG (e n : Int) : Int := if e = 0 then n else 0
/-- Go's answers. -/
def goV (a : Bx) (bx b2 : Int) (L : List Bx) : Value := .tuple #[vecV (onG (errG a bx b2 L) (wayF 0 a bx L)) (onG (errG a bx b2 L) (goY a bx b2 L)), vecV (onG (errG a bx b2 L) (whoF 0 a bx L)) (onG (errG a bx b2 L) (whoF 1 (goA a bx L) b2 L)), .int .i64 (errG a bx b2 L)]

/-- What Go's memory holds. -/
structure GS (w wr : World) (gm gw : Nat) (x y r mx my w0 w1 : Int) : Prop where
  a : Blk wr w.heap.size 25 (boxR x y r)
  b : Blk wr (w.heap.size + 2) 23 #[.int .i64 0, .int .i64 0]
  c : Blk wr (w.heap.size + 3) 39 #[.int .i64 0, .int .i64 0]
  m : Blk wr gm 23 #[.int .i64 mx, .int .i64 my]
  n : Blk wr gw 39 #[.int .i64 w0, .int .i64 w1]
  bel : Below w.heap.size w wr
  l1 : w.heap.size + 3 < gm
  l2 : gm < gw
section
variable {w wr w2 : World} {gm gw gs : Nat} {x y r mx my w0 w1 p q : Int}
theorem GS.below (h : GS w wr gm gw x y r mx my w0 w1) (hb : Below wr.heap.size wr w2) : GS w w2 gm gw x y r mx my w0 w1 :=
  ⟨h.a.below hb h.a.lt, h.b.below hb h.b.lt, h.c.below hb h.c.lt, h.m.below hb h.m.lt, h.n.below hb h.n.lt, vbt h.bel hb, h.l1, h.l2⟩
theorem GS.set0 (h : GS w wr gm gw x y r mx my w0 w1) (v : Int) : GS w (wr.setCell ⟨gw, 0, none⟩ (.int .i64 v)) gm gw x y r mx my v w1 := by
  have := h.l1; have := h.l2
  exact ⟨h.a.far (by simp; omega) _, h.b.far (by simp; omega) _, h.c.far (by simp; omega) _, h.m.far (by simp; omega) _, h.n.set_ 0 _, h.bel.setCell (by simp; omega) _, h.l1, h.l2⟩
theorem GS.set1 (h : GS w wr gm gw x y r mx my w0 w1) (v : Int) : GS w (wr.setCell ⟨gw, 1, none⟩ (.int .i64 v)) gm gw x y r mx my w0 v := by
  have := h.l1; have := h.l2
  exact ⟨h.a.far (by simp; omega) _, h.b.far (by simp; omega) _, h.c.far (by simp; omega) _, h.m.far (by simp; omega) _, h.n.set_ 1 _, h.bel.setCell (by simp; omega) _, h.l1, h.l2⟩
theorem GS.setm (h : GS w wr gm gw x y r mx my w0 w1) (p q : Int) : GS w ((wr.setCell ⟨gm, 0, none⟩ (.int .i64 p)).setCell ⟨gm, 1, none⟩ (.int .i64 q)) gm gw x y r p q w0 w1 := by
  have := h.l1; have := h.l2
  exact ⟨(h.a.far (by simp; omega) _).far (by simp; omega) _, (h.b.far (by simp; omega) _).far (by simp; omega) _, (h.c.far (by simp; omega) _).far (by simp; omega) _, (h.m.set_ 0 _).set_ 1 _, (h.n.far (by simp; omega) _).far (by simp; omega) _, (h.bel.setCell (by simp; omega) _).setCell (by simp; omega) _, h.l1, h.l2⟩
theorem GS.seta (h : GS w wr gm gw x y r mx my w0 w1) (p q : Int) : GS w ((wr.setCell ⟨w.heap.size, 0, none⟩ (.int .i64 p)).setCell ⟨w.heap.size, 1, none⟩ (.int .i64 q)) gm gw p q r mx my w0 w1 := by
  have := h.l1; have := h.l2
  exact ⟨(h.a.set_ 0 _).set_ 1 _, (h.b.far (by simp) _).far (by simp) _, (h.c.far (by simp) _).far (by simp) _, (h.m.far (by simp; omega) _).far (by simp; omega) _, (h.n.far (by simp; omega) _).far (by simp; omega) _, (h.bel.setCell (Nat.le_refl _) _).setCell (Nat.le_refl _) _, h.l1, h.l2⟩
end

theorem bel4 (w : World) (o1 o2 o3 o4 : Obj) : Below w.heap.size w ((((w.alloc o1).alloc o2).alloc o3).alloc o4) := (bel3 w o1 o2 o3).alloc (by simp; omega) _

/-- The blocks that Go makes first. -/
structure G0 (w wr : World) (x y r bx b2 : Int) : Prop where
  a : Blk wr w.heap.size 25 (boxR x y r)
  d : Blk wr (w.heap.size + 1) 23 #[.int .i64 bx, .int .i64 b2]
  b : Blk wr (w.heap.size + 2) 23 #[.int .i64 0, .int .i64 0]
  c : Blk wr (w.heap.size + 3) 39 #[.int .i64 0, .int .i64 0]
  bel : Below w.heap.size w wr
theorem G0.below {w wr w2 : World} {x y r bx b2 : Int} (h : G0 w wr x y r bx b2) (hb : Below wr.heap.size wr w2) : G0 w w2 x y r bx b2 :=
  ⟨h.a.below hb h.a.lt, h.d.below hb h.d.lt, h.b.below hb h.b.lt, h.c.below hb h.c.lt, vbt h.bel hb⟩
theorem G0.make (w : World) (x y r bx b2 : Int) : G0 w ((((w.alloc (.cells (boxR x y r) 25)).alloc (.cells #[.int .i64 bx, .int .i64 b2] 23)).alloc (.cells #[.int .i64 0, .int .i64 0] 23)).alloc (.cells #[.int .i64 0, .int .i64 0] 39)) x y r bx b2 := by
  have h1 := (((Blk.new w 25 (boxR x y r)).alloc (.cells #[.int .i64 bx, .int .i64 b2] 23)).alloc (.cells #[.int .i64 0, .int .i64 0] 23)).alloc (.cells #[.int .i64 0, .int .i64 0] 39)
  have h2 := ((Blk.new (w.alloc (.cells (boxR x y r) 25)) 23 #[.int .i64 bx, .int .i64 b2]).alloc (.cells #[.int .i64 0, .int .i64 0] 23)).alloc (.cells #[.int .i64 0, .int .i64 0] 39)
  have h3 := (Blk.new ((w.alloc (.cells (boxR x y r) 25)).alloc (.cells #[.int .i64 bx, .int .i64 b2] 23)) 23 #[.int .i64 0, .int .i64 0]).alloc (.cells #[.int .i64 0, .int .i64 0] 39)
  have h4 := Blk.new (((w.alloc (.cells (boxR x y r) 25)).alloc (.cells #[.int .i64 bx, .int .i64 b2] 23)).alloc (.cells #[.int .i64 0, .int .i64 0] 23)) 39 #[.int .i64 0, .int .i64 0]
  rw [show (w.alloc (.cells (boxR x y r) 25)).heap.size = w.heap.size + 1 by simp] at h2
  rw [show ((w.alloc (.cells (boxR x y r) 25)).alloc (.cells #[.int .i64 bx, .int .i64 b2] 23)).heap.size = w.heap.size + 2 by simp] at h3
  rw [show (((w.alloc (.cells (boxR x y r) 25)).alloc (.cells #[.int .i64 bx, .int .i64 b2] 23)).alloc (.cells #[.int .i64 0, .int .i64 0] 23)).heap.size = w.heap.size + 3 by simp] at h4
  exact ⟨h1, h2, h3, h4, bel4 w _ _ _ _⟩

theorem GS.start {w w2 w3 : World} {x y r bx b2 : Int} (h : G0 w w2 x y r bx b2) (hb : Below ((w2.alloc (.cells #[.int .i64 0, .int .i64 0] 23)).alloc (.cells #[.int .i64 0, .int .i64 0] 39)).heap.size ((w2.alloc (.cells #[.int .i64 0, .int .i64 0] 23)).alloc (.cells #[.int .i64 0, .int .i64 0] 39)) w3) :
    GS w w3 w2.heap.size (w2.heap.size + 1) x y r 0 0 0 0 := by
  obtain ⟨k1, k2, hb⟩ := two_blk hb
  have h2 := h.below hb
  exact ⟨h2.a, h2.b, h2.c, k1, k2, h2.bel, h.c.lt, by omega⟩

/-- Two pairs are stored where the results lie. -/
theorem four_set {w wr : World} {g h : Nat} {a b c d : Value} (hg : Blk wr g 23 #[a, b]) (hh : Blk wr h 39 #[c, d]) (hb : Below w.heap.size w wr) (lg : w.heap.size ≤ g) (lh : w.heap.size ≤ h) (p q s t : Value) :
    ∃ w2, w2 = (((wr.setCell ⟨g, 0, none⟩ p).setCell ⟨g, 1, none⟩ q).setCell ⟨h, 0, none⟩ s).setCell ⟨h, 1, none⟩ t ∧ w2.cell? ⟨g, 0, none⟩ = some p ∧ w2.cell? ⟨g, 1, none⟩ = some q ∧ w2.cell? ⟨h, 0, none⟩ = some s ∧ w2.cell? ⟨h, 1, none⟩ = some t ∧ Below w.heap.size w w2 := by
  have hne : g ≠ h := hg.ne_ hh (by decide)
  have k1 := (((hg.set_ 0 p).set_ 1 q).far (p := ⟨h, 0, none⟩) hne s).far (p := ⟨h, 1, none⟩) hne t
  have k2 := (((hh.far (p := ⟨g, 0, none⟩) (Ne.symm hne) p).far (p := ⟨g, 1, none⟩) (Ne.symm hne) q).set_ 0 s).set_ 1 t
  exact ⟨_, rfl, k1.cell 0, k1.cell 1, k2.cell 0, k2.cell 1, (((hb.setCell lg _).setCell lg _).setCell lh _).setCell lh _⟩

theorem go_bad (a : Bx) (bx b2 : Int) (A : Option Addr) (n c : Nat) (L : List Bx) (w : World) (hx : I64 a.x) (hy : I64 a.y) (hn : n ≤ 281474976710656) (hL : RBox w w.heap.size A n L) (hok : (allB L && a.right) = false) :
    Calls Try.prog 22 #[boxV a.x a.y a.r, vecV bx b2, .slice A n c] w fun e w' => e = .returned (goV a bx b2 L) ∧ Below w.heap.size w w' := by
  have HR := Lib.hid (fun w hL => allRight_c a.x a.y a.r A n c L w hx hy hn hL)
  have HL := Lib.hid hL
  have e1 : errG a bx b2 L = 60 := by unfold errG; rw [hok]; rfl
  unfold goV onG
  rw [e1]
  unfold Bx.right at hok
  rw [hok] at HR
  clear hx hy hn hL hok e1
  go_enter Try.func22, Try.ntmps22
  go_wp2_with fail
  refine (HR.out _ (HL.out.since (bel4 _ _ _ _ _))).mono ?_
  rintro e w1 ⟨rfl, hb⟩
  have hG := (G0.make w a.x a.y a.r bx b2).below hb
  have c0 := hG.b.cell 0
  have c1 := hG.b.cell 1
  have c2 := hG.c.cell 0
  have c3 := hG.c.cell 1
  have z0 := hG.b.frozen 0
  have z1 := hG.b.frozen 1
  have z2 := hG.c.frozen 0
  have z3 := hG.c.frozen 1
  have HG := Lib.hid hG
  clear hb hG
  unfold errB
  rw [if_neg (by simp)]
  go_wp2_with fail
  obtain ⟨w2, hw, c0, c1, c2, c3, hb⟩ := four_set (w := w) (p := .int .i64 0) (q := .int .i64 0) (s := .int .i64 0) (t := .int .i64 0) HG.out.b HG.out.c HG.out.bel (by omega) (by omega)
  rw [← hw]
  exact bodyPost_ret (v := .tuple #[vecV 0 0, vecV 0 0, .int .i64 60]) (by simp [results, Try.results22, go_sem, c0, c1, c2, c3]) rfl ⟨rfl, hb⟩

theorem go_far (a : Bx) (bx b2 : Int) (A : Option Addr) (n c : Nat) (L : List Bx) (w : World) (hx : I64 a.x) (hy : I64 a.y) (hbx : I64 bx) (hb2 : I64 b2) (hn : n ≤ 281474976710656) (hL : RBox w w.heap.size A n L) (hok : (allB L && a.right) = true) (hin : (inB bx && inB b2) = false) :
    Calls Try.prog 22 #[boxV a.x a.y a.r, vecV bx b2, .slice A n c] w fun e w' => e = .returned (goV a bx b2 L) ∧ Below w.heap.size w w' := by
  have HR := Lib.hid (fun w hL => allRight_c a.x a.y a.r A n c L w hx hy hn hL)
  have HW := Lib.hid (fun w => within_c bx b2 w hbx hb2)
  have HL := Lib.hid hL
  have e1 : errG a bx b2 L = 1 := by unfold errG; rw [hok, hin]; rfl
  unfold goV onG
  rw [e1]
  unfold Bx.right at hok
  rw [hok] at HR
  rw [hin] at HW
  clear hx hy hn hL hok e1 hin hbx hb2
  go_enter Try.func22, Try.ntmps22
  go_wp2_with fail
  refine (HR.out _ (HL.out.since (bel4 _ _ _ _ _))).mono ?_
  rintro e w1 ⟨rfl, hb⟩
  have hG := (G0.make w a.x a.y a.r bx b2).below hb
  have c0 := hG.d.cell 0
  have c1 := hG.d.cell 1
  have HG := Lib.hid hG
  clear hb hG
  unfold errB
  rw [if_pos rfl]
  go_wp2_with fail
  refine (HW.out _).mono ?_
  rintro e w2 ⟨rfl, hb⟩
  have hG := HG.out.below hb
  clear c0 c1
  have c0 := hG.b.cell 0
  have c1 := hG.b.cell 1
  have c2 := hG.c.cell 0
  have c3 := hG.c.cell 1
  have z0 := hG.b.frozen 0
  have z1 := hG.b.frozen 1
  have z2 := hG.c.frozen 0
  have z3 := hG.c.frozen 1
  have HG := Lib.hid hG
  clear hb hG
  go_wp2_with fail
  obtain ⟨w3, hw, c0, c1, c2, c3, hb⟩ := four_set (w := w) (p := .int .i64 0) (q := .int .i64 0) (s := .int .i64 0) (t := .int .i64 0) HG.out.b HG.out.c HG.out.bel (by omega) (by omega)
  rw [← hw]
  exact bodyPost_ret (v := .tuple #[vecV 0 0, vecV 0 0, .int .i64 1]) (by simp [results, Try.results22, go_sem, c0, c1, c2, c3]) rfl ⟨rfl, hb⟩

set_option maxRecDepth 100000 in
set_option maxHeartbeats 1000000 in
theorem go_ok (a : Bx) (bx b2 : Int) (A : Option Addr) (n c : Nat) (L : List Bx) (w : World) (hn : n ≤ 281474976710656) (hL : RBox w w.heap.size A n L) (hok : (allB L && a.right) = true) (hin : (inB bx && inB b2) = true) :
    Calls Try.prog 22 #[boxV a.x a.y a.r, vecV bx b2, .slice A n c] w fun e w' => e = .returned (goV a bx b2 L) ∧ Below w.heap.size w w' := by
  have hok2 := Bool.and_eq_true_iff.1 hok
  have hin2 := Bool.and_eq_true_iff.1 hin
  have s1 := rightB_spec.1 hok2.2
  have s2 := inB_spec.1 hin2.1
  have s3 := inB_spec.1 hin2.2
  have q1 := wayF_in 0 a bx L
  have q2 := wayF_in 1 (goA a bx L) b2 L
  have hwide : (goA a bx L).wide := by unfold goA Bx.wide; dsimp only; omega
  have HR := Lib.hid (fun w hL => allRight_c a.x a.y a.r A n c L w (by unfold I64; omega) (by unfold I64; omega) hn hL)
  have HW := Lib.hid (fun w => within_c bx b2 w (by unfold I64; omega) (by unfold I64; omega))
  have HA := Lib.hid (fun w => axes_c bx b2 w)
  have HP0 := Lib.hid (fun w hL => push0_c a bx A n c L w (right_wide hok2.2) s2 hn hL hok2.1)
  have HP1 := Lib.hid (fun w hL => push1_c (goA a bx L) b2 A n c L w hwide s3 hn hL hok2.1)
  have HL := Lib.hid hL
  have HLEN := hL.1
  have e1 : errG a bx b2 L = errB (rightB (a.x + wayF 0 a bx L) (a.y + goY a bx b2 L) a.r) := by unfold errG; rw [hok, hin]; rfl
  have w1 : ∀ k b d, (if d < 0 then -(stF k b d L n).1 else (stF k b d L n).1) = wayF k b d L := by intro k b d; unfold wayF; rw [HLEN]
  have w2 : ∀ k b d, (stF k b d L n).2 = whoF k b d L := by intro k b d; unfold whoF; rw [HLEN]
  rw [w1, w2] at HP0 HP1
  unfold goV
  rw [e1]
  unfold Bx.right at hok
  rw [hok] at HR
  rw [hin] at HW
  unfold goY
  rw [show (goA a bx L).x = a.x + wayF 0 a bx L from rfl, show (goA a bx L).y = a.y from rfl, show (goA a bx L).r = a.r from rfl] at HP1
  generalize goA a bx L = a1 at *
  generalize wayF 0 a bx L = p0 at *
  generalize wayF 1 a1 b2 L = p1 at *
  generalize whoF 0 a bx L = o0 at *
  generalize whoF 1 a1 b2 L = o1 at *
  obtain ⟨x, y, r⟩ := a
  dsimp only at *
  have HRI := Lib.hid (fun w => right_c (x + p0) (y + p1) r w (by unfold I64; omega) (by unfold I64; omega))
  have V1 := Lib.hid (fun w => vadd_c 0 0 p0 0 w (by unfold I64; omega) (by unfold I64; omega) (by unfold I64; omega) (by unfold I64; omega))
  have V2 := Lib.hid (fun w => vadd_c x y p0 0 w (by unfold I64; omega) (by unfold I64; omega) (by unfold I64; omega) (by unfold I64; omega))
  have V3 := Lib.hid (fun w => vadd_c p0 0 0 p1 w (by unfold I64; omega) (by unfold I64; omega) (by unfold I64; omega) (by unfold I64; omega))
  have V4 := Lib.hid (fun w => vadd_c (x + p0) y 0 p1 w (by unfold I64; omega) (by unfold I64; omega) (by unfold I64; omega) (by unfold I64; omega))
  rw [show addF 0 p0 = p0 by unfold addF; rw [sat_id (by omega) (by omega)]; omega, show addF 0 0 = 0 by decide] at V1
  rw [show addF x p0 = x + p0 by unfold addF; rw [sat_id (by omega) (by omega)], show addF y 0 = y by unfold addF; rw [sat_id (by omega) (by omega)]; omega] at V2
  rw [show addF p0 0 = p0 by unfold addF; rw [sat_id (by omega) (by omega)]; omega, show addF 0 p1 = p1 by unfold addF; rw [sat_id (by omega) (by omega)]; omega] at V3
  rw [show addF (x + p0) 0 = x + p0 by unfold addF; rw [sat_id (by omega) (by omega)]; omega, show addF y p1 = y + p1 by unfold addF; rw [sat_id (by omega) (by omega)]] at V4
  generalize x + p0 = xx at *
  generalize y + p1 = yy at *
  unfold errR at HRI
  clear hn hL hok e1 hin hok2 hin2 s1 s2 s3 q1 q2 hwide HLEN w1 w2
  go_enter Try.func22, Try.ntmps22
  go_wp2_with fail
  refine (HR.out _ (HL.out.since (bel4 _ _ _ _ _))).mono ?_
  rintro e w1 ⟨rfl, hb⟩
  have hG := (G0.make w x y r bx b2).below hb
  have c0 := hG.d.cell 0
  have c1 := hG.d.cell 1
  have HG := Lib.hid hG
  clear hb hG HR
  unfold errB
  rw [if_pos rfl]
  go_wp2_with fail
  refine (HW.out _).mono ?_
  rintro e w2 ⟨rfl, hb⟩
  have hG := HG.out.below hb
  have HG := Lib.hid hG
  clear hb hG c0 c1 HW
  go_upto_region 8 with (fail)
  have hG2 := (HG.out.below (bel2 w2 (.cells #[.int .i64 0, .int .i64 0] 23) (.cells #[.int .i64 0, .int .i64 0] 39)))
  have c0 := hG2.d.cell 0
  have c1 := hG2.d.cell 1
  clear hG2
  go_wp2_with fail
  refine (HA.out _).mono ?_
  rintro e w3 ⟨rfl, hb⟩
  have HS := Lib.hid (GS.start HG.out hb)
  clear hb c0 c1 HG HA
  generalize w2.heap.size = gm at *
  obtain ⟨gw, hgw⟩ : ∃ gw, gw = gm + 1 := ⟨_, rfl⟩
  rw [← hgw] at HS ⊢
  clear hgw
  go_wp2_with fail
  refine wp_loop_rounds 3 ?_
  rw [rounds_succ]
  have ix := idx0 bx b2
  have c0 := HS.out.a.cell 0
  have c1 := HS.out.a.cell 1
  have c2 := HS.out.a.cell 2
  go_wp2_with fail
  refine (HP0.out _ (HL.out.since HS.out.bel)).mono ?_
  rintro e w4 ⟨rfl, hb⟩
  have HS := Lib.hid (HS.out.below hb)
  clear hb c0 c1 c2 HP0 ix
  go_wp2_with fail
  refine (along0_c p0 _).mono ?_
  rintro e w5 ⟨rfl, hb⟩
  have HS := Lib.hid (HS.out.below hb)
  clear hb
  go_upto_region 13 with (fail)
  have HTL := Lib.hid (show gw < w5.heap.size from HS.out.n.lt)
  have HT := Lib.hid (Blk.new w5 23 #[.int .i64 p0, .int .i64 0])
  have HS := Lib.hid (HS.out.below (bel1 w5 (.cells #[.int .i64 p0, .int .i64 0] 23)))
  generalize w5.alloc (.cells #[.int .i64 p0, .int .i64 0] 23) = w6 at *
  generalize w5.heap.size = gs at *
  have c0 := HS.out.n.cell 0
  have z0 := HS.out.n.frozen 0
  go_upto_region 14 with (fail)
  have HT := Lib.hid (HT.out.far (p := ⟨gw, 0, none⟩) (by have := HTL.out; simp; omega) (.int .i64 o0))
  have HS := Lib.hid (HS.out.set0 o0)
  clear c0 z0
  generalize w6.setCell ⟨gw, 0, none⟩ (.int .i64 o0) = w7 at *
  have c0 := HS.out.m.cell 0
  have c1 := HS.out.m.cell 1
  have c2 := HT.out.cell 0
  have c3 := HT.out.cell 1
  go_wp2_with fail
  refine (V1.out _).mono ?_
  rintro e w8 ⟨rfl, hb⟩
  have HT := Lib.hid (HT.out.below hb HT.out.lt)
  have HS := Lib.hid (HS.out.below hb)
  clear hb c0 c1 c2 c3
  have c0 := HS.out.m.cell 0
  have c1 := HS.out.m.cell 1
  have z0 := HS.out.m.frozen 0
  have z1 := HS.out.m.frozen 1
  go_upto_region 15 with (fail)
  have HT := Lib.hid ((HT.out.far (p := ⟨gm, 0, none⟩) (by have := HTL.out; have := HS.out.l2; simp; omega) (.int .i64 p0)).far (p := ⟨gm, 1, none⟩) (by have := HTL.out; have := HS.out.l2; simp; omega) (.int .i64 0))
  have HS := Lib.hid (HS.out.setm p0 0)
  clear c0 c1 z0 z1
  generalize (w8.setCell ⟨gm, 0, none⟩ (.int .i64 p0)).setCell ⟨gm, 1, none⟩ (.int .i64 0) = wA at *
  have c0 := HS.out.a.cell 0
  have c1 := HS.out.a.cell 1
  have c2 := HT.out.cell 0
  have c3 := HT.out.cell 1
  go_wp2_with fail
  refine (V2.out _).mono ?_
  rintro e wB ⟨rfl, hb⟩
  have HS := Lib.hid (HS.out.below hb)
  clear hb c0 c1 c2 c3 HT HTL
  have c0 := HS.out.a.cell 0
  have c1 := HS.out.a.cell 1
  have z0 := HS.out.a.frozen 0
  have z1 := HS.out.a.frozen 1
  go_upto_region 16 with (fail)
  have HS := Lib.hid (HS.out.seta xx y)
  clear c0 c1 z0 z1
  generalize (wB.setCell ⟨w.heap.size, 0, none⟩ (.int .i64 xx)).setCell ⟨w.heap.size, 1, none⟩ (.int .i64 y) = w9 at *
  go_wp2_with fail
  rw [rounds_succ]
  have ix := idx1 bx b2
  have c0 := HS.out.a.cell 0
  have c1 := HS.out.a.cell 1
  have c2 := HS.out.a.cell 2
  go_wp2_with fail
  refine (HP1.out _ (HL.out.since HS.out.bel)).mono ?_
  rintro e w10 ⟨rfl, hb⟩
  have HS := Lib.hid (HS.out.below hb)
  clear hb c0 c1 c2 HP1 ix
  go_wp2_with fail
  refine (along1_c p1 _).mono ?_
  rintro e w5 ⟨rfl, hb⟩
  have HS := Lib.hid (HS.out.below hb)
  clear hb
  go_upto_region 13 with (fail)
  have HTL := Lib.hid (show gw < w5.heap.size from HS.out.n.lt)
  have HT := Lib.hid (Blk.new w5 23 #[.int .i64 0, .int .i64 p1])
  have HS := Lib.hid (HS.out.below (bel1 w5 (.cells #[.int .i64 0, .int .i64 p1] 23)))
  generalize w5.alloc (.cells #[.int .i64 0, .int .i64 p1] 23) = w6 at *
  generalize w5.heap.size = gs at *
  have c0 := HS.out.n.cell 1
  have z0 := HS.out.n.frozen 1
  go_upto_region 14 with (fail)
  have HT := Lib.hid (HT.out.far (p := ⟨gw, 1, none⟩) (by have := HTL.out; simp; omega) (.int .i64 o1))
  have HS := Lib.hid (HS.out.set1 o1)
  clear c0 z0
  generalize w6.setCell ⟨gw, 1, none⟩ (.int .i64 o1) = w7 at *
  have c0 := HS.out.m.cell 0
  have c1 := HS.out.m.cell 1
  have c2 := HT.out.cell 0
  have c3 := HT.out.cell 1
  go_wp2_with fail
  refine (V3.out _).mono ?_
  rintro e w8 ⟨rfl, hb⟩
  have HT := Lib.hid (HT.out.below hb HT.out.lt)
  have HS := Lib.hid (HS.out.below hb)
  clear hb c0 c1 c2 c3
  have c0 := HS.out.m.cell 0
  have c1 := HS.out.m.cell 1
  have z0 := HS.out.m.frozen 0
  have z1 := HS.out.m.frozen 1
  go_upto_region 15 with (fail)
  have HT := Lib.hid ((HT.out.far (p := ⟨gm, 0, none⟩) (by have := HTL.out; have := HS.out.l2; simp; omega) (.int .i64 p0)).far (p := ⟨gm, 1, none⟩) (by have := HTL.out; have := HS.out.l2; simp; omega) (.int .i64 p1))
  have HS := Lib.hid (HS.out.setm p0 p1)
  clear c0 c1 z0 z1
  generalize (w8.setCell ⟨gm, 0, none⟩ (.int .i64 p0)).setCell ⟨gm, 1, none⟩ (.int .i64 p1) = wA at *
  have c0 := HS.out.a.cell 0
  have c1 := HS.out.a.cell 1
  have c2 := HT.out.cell 0
  have c3 := HT.out.cell 1
  go_wp2_with fail
  refine (V4.out _).mono ?_
  rintro e wB ⟨rfl, hb⟩
  have HS := Lib.hid (HS.out.below hb)
  clear hb c0 c1 c2 c3 HT HTL
  have c0 := HS.out.a.cell 0
  have c1 := HS.out.a.cell 1
  have z0 := HS.out.a.frozen 0
  have z1 := HS.out.a.frozen 1
  go_upto_region 16 with (fail)
  have HS := Lib.hid (HS.out.seta xx yy)
  clear c0 c1 z0 z1
  generalize (wB.setCell ⟨w.heap.size, 0, none⟩ (.int .i64 xx)).setCell ⟨w.heap.size, 1, none⟩ (.int .i64 yy) = w9 at *
  go_wp2_with fail
  rw [rounds_succ]
  have c0 := HS.out.a.cell 0
  have c1 := HS.out.a.cell 1
  have c2 := HS.out.a.cell 2
  go_wp2_with fail
  refine (HRI.out _).mono ?_
  rintro e wC ⟨rfl, hb⟩
  have hS := HS.out.below hb
  clear hb c0 c1 c2 HRI HS
  have c0 := hS.b.cell 0
  have c1 := hS.b.cell 1
  have c2 := hS.c.cell 0
  have c3 := hS.c.cell 1
  have c4 := hS.m.cell 0
  have c5 := hS.m.cell 1
  have c6 := hS.n.cell 0
  have c7 := hS.n.cell 1
  have z0 := hS.b.frozen 0
  have z1 := hS.b.frozen 1
  have z2 := hS.c.frozen 0
  have z3 := hS.c.frozen 1
  have HS := Lib.hid hS
  clear hS
  by_cases hr : rightB xx yy r = true
  · rw [hr, if_pos rfl]
    have HRR := Lib.hid hr
    clear hr
    have n1 : gw ≠ w.heap.size + 1 + 1 := by have := HS.out.l1; have := HS.out.l2; omega
    have n2 : gw ≠ w.heap.size + 1 + 1 + 1 := by have := HS.out.l1; have := HS.out.l2; omega
    have n3 : gm ≠ w.heap.size + 1 + 1 := by have := HS.out.l1; omega
    have n4 : gm ≠ w.heap.size + 1 + 1 + 1 := by have := HS.out.l1; omega
    have m1 := n1.symm
    have m2 := n2.symm
    have m3 := n3.symm
    have m4 := n4.symm
    go_upto_region 20 with (fail)
    go_region
    clear c0 c1 c2 c3 c4 c5 c6 c7 z0 z1 z2 z3 n1 n2 n3 n4 m1 m2 m3 m4
    go_wp2_with fail
    obtain ⟨w3, hw, c0, c1, c2, c3, hb⟩ := four_set (w := w) (p := .int .i64 p0) (q := .int .i64 p1) (s := .int .i64 o0) (t := .int .i64 o1) HS.out.b HS.out.c HS.out.bel (by omega) (by omega)
    rw [← hw]
    have k0 : w3.drew.cell? ⟨w.heap.size + 1 + 1, 0, none⟩ = some (.int .i64 p0) := c0
    have k1 : w3.drew.cell? ⟨w.heap.size + 1 + 1, 1, none⟩ = some (.int .i64 p1) := c1
    have k2 : w3.drew.cell? ⟨w.heap.size + 1 + 1 + 1, 0, none⟩ = some (.int .i64 o0) := c2
    have k3 : w3.drew.cell? ⟨w.heap.size + 1 + 1 + 1, 1, none⟩ = some (.int .i64 o1) := c3
    exact bodyPost_ret (v := .tuple #[vecV p0 p1, vecV o0 o1, .int .i64 0]) (by simp [results, Try.results22, go_sem, k0, k1, k2, k3]) rfl ⟨by rw [HRR.out]; rfl, hb.drew⟩
  · rw [if_neg hr]
    have HRR := Lib.hid ((Bool.not_eq_true _).mp hr)
    clear hr c4 c5 c6 c7
    go_wp2_with fail
    obtain ⟨w3, hw, c0, c1, c2, c3, hb⟩ := four_set (w := w) (p := .int .i64 0) (q := .int .i64 0) (s := .int .i64 0) (t := .int .i64 0) HS.out.b HS.out.c HS.out.bel (by omega) (by omega)
    rw [← hw]
    exact bodyPost_ret (v := .tuple #[vecV 0 0, vecV 0 0, .int .i64 60]) (by simp [results, Try.results22, go_sem, c0, c1, c2, c3]) rfl ⟨by rw [HRR.out]; rfl, hb⟩

theorem Go_c (a : Bx) (bx b2 : Int) (A : Option Addr) (n c : Nat) (L : List Bx) (w : World) (hx : I64 a.x) (hy : I64 a.y) (hbx : I64 bx) (hb2 : I64 b2) (hn : n ≤ 281474976710656) (hL : RBox w w.heap.size A n L) :
    Calls Try.prog 22 #[boxV a.x a.y a.r, vecV bx b2, .slice A n c] w fun e w' => e = .returned (goV a bx b2 L) ∧ Below w.heap.size w w' := by
  cases hok : (allB L && a.right) with
  | false => exact go_bad a bx b2 A n c L w hx hy hn hL hok
  | true =>
    cases hin : (inB bx && inB b2) with
    | false => exact go_far a bx b2 A n c L w hx hy hbx hb2 hn hL hok hin
    | true => exact go_ok a bx b2 A n c L w hn hL hok hin
end Go.Proofs.Ytnffflcfncffpaa

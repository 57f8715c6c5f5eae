/- The contracts of Add, Sub, Mean, Dot, Scale, Clamp, Near. -/
import Derived.Test.YtnffflcfncffpaaVEach
namespace Go.Proofs.Ytnffflcfncffpaa
open Go.RowKit

theorem cell_mid (w : World) (o1 o3 : Obj) (v : Value) (t : TypeId) : (((w.alloc o1).alloc (.cells #[v] t)).alloc o3).cell? ⟨w.heap.size + 1, 0, none⟩ = some v := by
  have h := ((Blk.new (w.alloc o1) t #[v]).alloc o3).cell 0
  have e : (w.alloc o1).heap.size = w.heap.size + 1 := by simp
  rw [e] at h
  exact h
theorem cell_end (w : World) (o1 o2 : Obj) (v : Value) (t : TypeId) : (((w.alloc o1).alloc o2).alloc (.cells #[v] t)).cell? ⟨w.heap.size + 1 + 1, 0, none⟩ = some v := by
  have h := (Blk.new ((w.alloc o1).alloc o2) t #[v]).cell 0
  have e : ((w.alloc o1).alloc o2).heap.size = w.heap.size + 1 + 1 := by simp
  rw [e] at h
  exact h

def midF (a b : Int) : Int := (a + b) / 2

theorem vadd_c (x y u v : Int) (w : World) (hx : I64 x) (hy : I64 y) (hu : I64 u) (hv : I64 v) :
    Calls Try.prog 38 #[vecV x y, vecV u v] w fun e w' => e = .returned (vecV (addF x u) (addF y v)) ∧ Below w.heap.size w w' := by
  have HC := Lib.hid (fun w => both_c 48 addF x y u v w (into_of Try.func48 (by kernel_rfl) rfl) (fun w => add_c x u w hx.1 hx.2 hu.1 hu.2) (fun w => add_c y v w hy.1 hy.2 hv.1 hv.2))
  clear hx hy hu hv
  generalize addF x u = p at *
  generalize addF y v = q at *
  go_enter Try.func38, Try.ntmps38
  go_wp2_with fail
  refine (HC.out _).mono ?_
  rintro e w1 ⟨rfl, hb⟩
  have hk : Blk w1 (w.heap.size + 1 + 1) 23 #[.int .i64 0, .int .i64 0] := by simpa using last_blk hb
  have c0 := hk.cell 0
  have c1 := hk.cell 1
  have z0 := hk.frozen 0
  have z1 := hk.frozen 1
  have HB := Lib.hid (pair_set (p := .int .i64 p) (q := .int .i64 q) hk (vbt (bel3 _ _ _ _) hb) (by omega))
  clear hk hb
  go_wp2_with fail
  exact bodyPost_ret (results_cell_row rfl _ _ (w.heap.size + 1 + 1) 23 _ (0, 0) _ rfl HB.out.1 Try.underlying23 rfl info23) rfl ⟨rfl, HB.out.2⟩

theorem I64.sat (x : Int) : I64 (sat x) := sat_range x
theorem I64.mulF (a b : Int) : I64 (mulF a b) := sat_range _
theorem I64.addF (a b : Int) : I64 (addF a b) := sat_range _
theorem I64.subF (a b : Int) : I64 (subF a b) := sat_range _

def dotF (x y u v : Int) : Int := addF (mulF x u) (mulF y v)
theorem vnear_neg (x y u v r : Int) (w : World) (h : r < 0) :
    Calls Try.prog 30 #[vecV x y, vecV u v, .int .i64 r] w fun e w' => e = .returned (.bool false) ∧ Below w.heap.size w w' := by
  have HB := Lib.hid (bel3 w)
  go_enter Try.func30, Try.ntmps30
  go_wp2_with fail
  go_ret
  exact ⟨rfl, HB.out _ _ _⟩

def nearF (x u r : Int) : Bool := decide (((x - u).natAbs : Int) ≤ r)
theorem vnear_c (x y u v r : Int) (w : World) (hx : I64 x) (hy : I64 y) (hu : I64 u) (hv : I64 v) (hr : I64 r) (h : 0 ≤ r) :
    Calls Try.prog 30 #[vecV x y, vecV u v, .int .i64 r] w fun e w' => e = .returned (.bool (nearF x u r && nearF y v r)) ∧ Below w.heap.size w w' := by
  have HC := Lib.hid (fun (w : World) (g : Nat) (hg : w.cell? ⟨g, 0, none⟩ = some (.int .i64 r)) (hl : g < w.heap.size) => bothb_c 44 (fun a b => nearF a b r) (.pointer (some ⟨g, 0, none⟩)) x y u v w (into_of Try.func44 (by kernel_rfl) rfl) (fun w' hb => near1_c x u r g w' hx hu hr h ((hb.cell hl).trans hg)) (fun w' hb => near1_c y v r g w' hy hv hr h ((hb.cell hl).trans hg)))
  have hd : decide (r < 0) = false := decide_eq_false (by omega)
  clear hx hy hu hv hr h
  generalize nearF x u r = p at *
  generalize nearF y v r = q at *
  go_enter Try.func30, Try.ntmps30
  go_wp2_with fail
  refine (HC.out _ (w.heap.size + 1 + 1) ?_ ?_).mono ?_
  · exact cell_end _ _ _ _ _
  · simp
  rintro e w1 ⟨rfl, hb⟩
  have HB := Lib.hid (vbt (bel3 _ _ _ _) hb)
  clear hb
  cases p
  all_goals
    go_wp2_with fail
    go_ret
    exact ⟨by simp, HB.out⟩

end Go.Proofs.Ytnffflcfncffpaa

/- The contracts of vec's generic functions, each and both, over any function value. -/
import Derived.Test.YtnffflcfncffpaaVLeaf
namespace Go.Proofs.Ytnffflcfncffpaa
open Go.RowKit

/-- A function that has a body of its own is entered. -/
def Into (k : Nat) : Prop := ∀ (args : Array Value) (w : World), (callFunc k args).run Try.prog w = .ok (.enter k args) w
theorem into_of {k : Nat} {fn : Func} {c : Code} (hf : Try.prog.funcs[k]? = some fn) (hname : (fn.name == "runtime.NumGoroutine") = false) (hb : fn.body = some c) : Into k := by
  intro args w
  have h1 : fn.name ≠ "runtime.NumGoroutine" := by simpa using hname
  simp [callFunc, hf, h1, hb, mark]

theorem both_c (k : Nat) (F : Int → Int → Int) (x y u v : Int) (w : World) (hi : Into k)
    (h1 : ∀ w, Calls Try.prog k #[.int .i64 x, .int .i64 u] w fun e w' => e = .returned (.int .i64 (F x u)) ∧ w = w')
    (h2 : ∀ w, Calls Try.prog k #[.int .i64 y, .int .i64 v] w fun e w' => e = .returned (.int .i64 (F y v)) ∧ w = w') :
    Calls Try.prog 47 #[vecV x y, vecV u v, .func (.func k) #[] #[]] w fun e w' => e = .returned (.tuple #[.int .i64 (F x u), .int .i64 (F y v)]) ∧ Below w.heap.size w w' := by
  have H1 := Lib.hid h1
  have H2 := Lib.hid h2
  clear h1 h2
  unfold Into at hi
  go_enter Try.func47, Try.ntmps47
  go_wp2_with fail
  go_quiet (first | exact Calls.quiet_of_same (turn (H1.out _)) | exact Calls.quiet_of_same (turn (H2.out _)))
  go_wp2_with fail
  go_ret2
  exact ⟨rfl, below_draw (((Below.refl _ _).alloc (Nat.le_refl _) _).alloc (by simp) _) _⟩

theorem bothb_c (k : Nat) (F : Int → Int → Bool) (cap : Value) (x y u v : Int) (w : World) (hi : Into k)
    (h1 : ∀ w', Below w.heap.size w w' → Calls Try.prog k #[.int .i64 x, .int .i64 u, cap] w' fun e w'' => e = .returned (.bool (F x u)) ∧ ∃ k, w'' = w'.drewN k)
    (h2 : ∀ w', Below w.heap.size w w' → Calls Try.prog k #[.int .i64 y, .int .i64 v, cap] w' fun e w'' => e = .returned (.bool (F y v)) ∧ ∃ k, w'' = w'.drewN k) :
    Calls Try.prog 43 #[vecV x y, vecV u v, .func (.func k) #[] #[cap]] w fun e w' => e = .returned (.tuple #[.bool (F x u), .bool (F y v)]) ∧ Below w.heap.size w w' := by
  have H1 := Lib.hid h1
  have H2 := Lib.hid h2
  have HB := Lib.hid (fun (o1 o2 : Obj) (n : Nat) => below_draw (((Below.refl w.heap.size w).alloc (Nat.le_refl _) o1).alloc (by simp) o2) n)
  clear h1 h2
  unfold Into at hi
  go_enter Try.func43, Try.ntmps43
  go_wp2_with fail
  go_quiet (first | exact Calls.quiet_of (H1.out _ (HB.out _ _ _)) | exact Calls.quiet_of (H2.out _ (HB.out _ _ _)))
  go_wp2_with fail
  go_ret2
  exact ⟨rfl, HB.out _ _ _⟩

theorem vbt {w w1 w2 : World} (h : Below w.heap.size w w1) (k : Below w1.heap.size w1 w2) : Below w.heap.size w w2 := h.trans (k.mono h.size)
theorem bel2 (w : World) (o1 o2 : Obj) : Below w.heap.size w ((w.alloc o1).alloc o2) := ((Below.refl _ _).alloc (Nat.le_refl _) _).alloc (by simp) _
theorem bel3 (w : World) (o1 o2 o3 : Obj) : Below w.heap.size w (((w.alloc o1).alloc o2).alloc o3) := (((Below.refl _ _).alloc (Nat.le_refl _) _).alloc (by simp) _).alloc (by simp; omega) _

theorem last_blk {w w1 : World} {t : TypeId} {cs : Array Value} (hb : Below (w.alloc (.cells cs t)).heap.size (w.alloc (.cells cs t)) w1) : Blk w1 w.heap.size t cs :=
  (Blk.new w t cs).below hb (by simp)
theorem info23 : (Try.prog.info? 23).map (·.size) = some 2 := by kernel_rfl
/-- A pair is stored where a result lies. -/
theorem pair_set {w w1 : World} {g : Nat} {t : TypeId} {a b p q : Value} (h : Blk w1 g t #[a, b]) (hb : Below w.heap.size w w1) (hg : w.heap.size ≤ g) :
    Blk ((w1.setCell ⟨g, 0, none⟩ p).setCell ⟨g, 1, none⟩ q) g t #[p, q] ∧ Below w.heap.size w ((w1.setCell ⟨g, 0, none⟩ p).setCell ⟨g, 1, none⟩ q) :=
  ⟨(h.set_ 0 p).set_ 1 q, (hb.setCell hg _).setCell hg _⟩

end Go.Proofs.Ytnffflcfncffpaa

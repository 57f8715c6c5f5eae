/- Rows of numbers of one's own: appending a piece of one to another. -/
import Derived.Test.YtmlbhlfjaagcaaaDoorLAck
import Derived.Test.YtmlbhlfjaagcaaaDoorLTwo
namespace Go.Proofs.YtmlbhlfjaagcaaaDoor
open Go.RowKit

abbrev OwnI (w : World) (base : Nat) (v : Value) (l : List Nat) : Prop := w.ownsRow base 3 1 v l.length (I64s l)
/-- A slice of numbers that reads as ys. -/
def SlI (w : World) (u : Value) (ys : List Nat) : Prop := ∃ A c, u = .slice A ys.length c ∧ (A = none → c = 0 ∧ ys = []) ∧ ∀ ad, A = some ad → ∀ (j y : Nat), ys[j]? = some y → w.cell? (ad.add j) = some (.int .i64 (y : Int))

theorem I64s_one (bs : List Nat) : ∀ u ∈ I64s bs, u.oneCell' = true := by
  intro u hu
  obtain ⟨b, _, rfl⟩ := List.mem_map.1 hu
  rfl

theorem run_ints (w : World) (base : Nat) (ty : TypeId) (v u : Value) (xs ys : List Nat) (hown : OwnI w base v xs) (hu : SlI w u ys) (hfit : xs.length + ys.length ≤ 1000000) (hbase : base ≤ w.heap.size) :
    ∃ v' w', (Builtin.append_ #[43, 43] ty #[v, u]).run Tryd.prog w = .ok v' w' ∧ OwnI w' base v' (xs ++ ys) ∧ w.grownBy w' v.ownBlock := by
  obtain ⟨i, hi, hz, hsz, hby⟩ := info_parts infoI64
  obtain ⟨A, c, rfl, hA, hr⟩ := hu
  cases A with
  | none =>
    obtain ⟨rfl, rfl⟩ := hA rfl
    have hr := run_append_owned_none (P := Tryd.prog) w base 43 ty 3 i 1 Tryd.underlying43 hi v xs.length (I64s xs) hown
    exact ⟨v, w, hr, by rw [List.append_nil]; exact hown, World.grownBy.refl _ _⟩
  | some ad =>
    have hcells : ∀ j u, (I64s ys)[j]? = some u → w.cell? (ad.add j) = some u := by
      intro j u hj
      have hl : j < ys.length := by have := (List.getElem?_eq_some_iff.1 hj).1; rw [I64s_length] at this; exact this
      have := hr ad rfl j ys[j] (List.getElem?_eq_getElem hl)
      rw [this]
      simp [I64s, hl] at hj
      exact congrArg some hj
    obtain ⟨v', w', hr, h2, h3, _, _⟩ := run_append_own_at (P := Tryd.prog) w base 43 ty 3 i (.int .i64 0) 1 8 Tryd.underlying43 hi hz hsz hby rfl (by decide) v xs.length (I64s xs) hown ad ys.length c (I64s ys) (by rw [I64s_length]; omega) hcells (I64s_one ys) (by unfold maxLen; omega) (by omega) hbase
    refine ⟨v', w', hr, ?_, h3⟩
    unfold OwnI
    rw [I64s_append, List.length_append]
    exact h2

theorem wpList_ints {w : World} {ops : Array Oper} {rest : List Oper} {o : Oper} {a : Act} {Q : Exit → Act → World → Prop} (hgd : o.guard = none) (sl x : Operand)
    (ho : o.op = .call { callee := .builtin .append, args := #[sl, x], argTypes := #[43, 43] }) (base : Nat) (v u : Value) (xs ys : List Nat) (hsl : a.eval sl = v) (hown : OwnI w base v xs) (hx : a.eval x = u) (hu : SlI w u ys)
    (hfit : xs.length + ys.length ≤ 1000000) (hbase : base ≤ w.heap.size)
    (h : ∀ v' w', OwnI w' base v' (xs ++ ys) → w.grownBy w' v.ownBlock → wpList Tryd.prog ops Q rest (a.put o.dst v') w') : wpList Tryd.prog ops Q (o :: rest) a w := by
  refine wpList_plain hgd fun K hK => ?_
  obtain ⟨v', w', hr, h2, h3⟩ := run_ints w base o.type v u xs ys hown hu hfit hbase
  unfold Oper.wp execOp
  simp only [ho, resolve, invoke, builtin, Sem.run_bind, Sem.run_pure, Result.andThen_ok, List.map_toArray, List.map_cons, List.map_nil, hsl, hx, hr]
  exact hK _ _ (h v' w' h2 h3)

theorem elem43 : Tryd.prog.elem 43 = 3 := by kernel_rfl
theorem size_i64 (w : World) : (sizeOf 3).run Tryd.prog w = .ok 1 w := by kernel_rfl

/-- 'l[:k]' and 'l[k:]' of a row of one's own. -/
theorem OwnI.head {w : World} {base r c n : Nat} {l : List Nat} (h : OwnI w base (.slice (some ⟨r, 0, none⟩) n c) l) (k : Nat) (hk : k ≤ l.length) :
    (∀ w', (Instr.sliceAt 43 (.slice (some ⟨r, 0, none⟩) n c) none (some (.int .i64 (k : Int))) none).run Tryd.prog w' = .ok (.slice (some ⟨r, 0, none⟩) k c) w') ∧ SlI w (.slice (some ⟨r, 0, none⟩) k c) (l.take k) := by
  have hcap : l.length ≤ c := by
    rcases h.2 with ⟨e, _⟩ | ⟨g', cap, cur, e, _, _, h3, _⟩
    · cases e
    · injection e with _ _ e; omega
  constructor
  · intro w'
    rw [run_sliceAt_slice w' 43 _ _ _ _ (by rw [elem43]; exact Tryd.underlying43), run_slice_h w' 43 _ n c (by rw [elem43]; exact Tryd.underlying43) .i64 (k : Int) (by omega) (by omega), elem43, size_i64]
    simp [Result.andThen, sliced, Addr.add]
  · have hl : (l.take k).length = k := by rw [List.length_take]; omega
    refine ⟨some ⟨r, 0, none⟩, c, by rw [hl], (fun e => nomatch e), fun ad e j y hj => ?_⟩
    injection e with e
    subst e
    have hjk : j < k := by have := (List.getElem?_eq_some_iff.1 hj).1; omega
    exact h.cells (g := r) rfl j _ (by rw [List.getElem?_take_of_lt hjk] at hj; simp [I64s, hj])

theorem OwnI.tail {w : World} {base r c n : Nat} {l : List Nat} (h : OwnI w base (.slice (some ⟨r, 0, none⟩) n c) l) (hn : n = l.length) (k : Nat) (x : Int) (hx : x = (k : Int)) (hk : k ≤ l.length) :
    ∃ u, (∀ w', (Instr.sliceAt 43 (.slice (some ⟨r, 0, none⟩) n c) (some (.int .i64 x)) none none).run Tryd.prog w' = .ok u w') ∧ SlI w u (l.drop k) := by
  have hcap : l.length ≤ c := by
    rcases h.2 with ⟨e, _⟩ | ⟨g', cap, cur, e, _, _, h3, _⟩
    · cases e
    · injection e with _ _ e; omega
  subst hx
  refine ⟨.slice (if c = k then some ⟨r, 0, none⟩ else (some (⟨r, 0, none⟩ : Addr)).map (·.add k)) (n - k) (c - k), fun w' => ?_, ?_⟩
  · rw [run_sliceAt_slice w' 43 _ _ _ _ (by rw [elem43]; exact Tryd.underlying43), run_slice_l w' 43 _ n c (by rw [elem43]; exact Tryd.underlying43) .i64 (k : Int) (by omega) (by omega), elem43, size_i64]
    simp [Result.andThen, sliced]
  · have hl : (l.drop k).length = n - k := by rw [List.length_drop]; omega
    refine ⟨_, _, by rw [hl], ?_, ?_⟩
    · intro e
      split at e <;> cases e
    · intro ad e j y hj
      have hjl : k + j < l.length := by have := (List.getElem?_eq_some_iff.1 hj).1; omega
      rw [if_neg (by omega)] at e
      have e : (⟨r, 0, none⟩ : Addr).add k = ad := by simpa using e
      subst e
      rw [addr0]
      have e2 : (⟨r, k, none⟩ : Addr).add j = ⟨r, k + j, none⟩ := by unfold Addr.add; split <;> simp_all
      rw [e2, ← addr0]
      exact h.cells (g := r) rfl (k + j) _ (by rw [List.getElem?_drop] at hj; simp [I64s, hj])

end Go.Proofs.YtmlbhlfjaagcaaaDoor

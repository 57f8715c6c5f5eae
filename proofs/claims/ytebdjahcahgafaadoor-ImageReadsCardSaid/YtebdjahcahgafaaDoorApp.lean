/- Appending bytes to bytes of one's own. -/
import Derived.Test.YtebdjahcahgafaaDoorTexts
namespace Go.Proofs.YtebdjahcahgafaaDoor
open Go.RowKit

/-- Appending bytes, whether there is room or not, whatever they are. -/
theorem run_bytes (w : World) (base : Nat) (ty : TypeId) (v u : Value) (xs ys : List Nat) (hown : OwnB w base v xs) (hu : SlB w u ys) (hfit : xs.length + ys.length ≤ 140737488355328) (hbase : base ≤ w.heap.size) :
    ∃ v' w', (Builtin.append_ #[30, 30] ty #[v, u]).run Tryd.prog w = .ok v' w' ∧ OwnB w' base v' (xs ++ ys) ∧ w.grownBy w' v.ownBlock := by
  obtain ⟨i, hi, hz, hsz, hby⟩ := info_u8
  obtain ⟨A, c, rfl, hc, hA, hr⟩ := hu
  cases A with
  | none =>
    obtain rfl := hA rfl
    obtain rfl : ys = [] := List.eq_nil_of_length_eq_zero (by omega)
    have hr := run_append_owned_none (P := Tryd.prog) w base 30 ty 5 i 1 Tryd.underlying30 hi v xs.length (U8s xs) hown
    exact ⟨v, w, hr, by rw [List.append_nil]; exact hown, World.grownBy.refl _ _⟩
  | some ad =>
    have hcells : ∀ j u, (U8s ys)[j]? = some u → w.cell? (ad.add j) = some u := by
      intro j u hj
      have h0 : 0 < ys.length := by
        have := (List.getElem?_eq_some_iff.1 hj).1
        rw [U8s_length] at this; omega
      obtain ⟨ad', e', _, hcell⟩ := hr.2 h0
      obtain rfl := Option.some.inj e'
      exact hcell j u hj
    obtain ⟨v', w', hr, h2, h3, _, _⟩ := run_append_own_at (P := Tryd.prog) w base 30 ty 5 i (.int .u8 0) 1 1 Tryd.underlying30 hi hz hsz hby rfl (by decide) v xs.length (U8s xs) hown ad ys.length c (U8s ys) (by rw [U8s_length]; omega) hcells (U8s_one ys) (by unfold maxLen; omega) (by omega) hbase
    refine ⟨v', w', hr, ?_, h3⟩
    unfold OwnB
    rw [U8s_append, List.length_append]
    exact h2

theorem wpList_bytes {w : World} {ops : Array Oper} {rest : List Oper} {o : Oper} {a : Act} {Q : Exit → Act → World → Prop} (hgd : o.guard = none) (sl x : Operand)
    (ho : o.op = .call { callee := .builtin .append, args := #[sl, x], argTypes := #[30, 30] }) (base : Nat) (v u : Value) (xs ys : List Nat) (hsl : a.eval sl = v) (hown : OwnB w base v xs) (hx : a.eval x = u) (hu : SlB w u ys)
    (hfit : xs.length + ys.length ≤ 140737488355328) (hbase : base ≤ w.heap.size)
    (h : ∀ v' w', OwnB w' base v' (xs ++ ys) → w.grownBy w' v.ownBlock → wpList Tryd.prog ops Q rest (a.put o.dst v') w') : wpList Tryd.prog ops Q (o :: rest) a w := by
  refine wpList_plain hgd fun K hK => ?_
  obtain ⟨v', w', hr, h2, h3⟩ := run_bytes w base o.type v u xs ys hown hu hfit hbase
  unfold Oper.wp execOp
  simp only [ho, resolve, invoke, builtin, Sem.run_bind, Sem.run_pure, Result.andThen_ok, List.map_toArray, List.map_cons, List.map_nil, hsl, hx, hr]
  exact hK _ _ (h v' w' h2 h3)

/-- The world behind an append to bytes that are new since base is as it was below base. -/
theorem grown_below {w w1 w2 : World} {base : Nat} {v : Value} {xs : List Nat} (hb : Below base w w1) (hs : base ≤ w1.heap.size) (hown : OwnB w1 base v xs) (hg : w1.grownBy w2 v.ownBlock) : Below base w w2 :=
  hb.grown hg hs (fun k hk => by
    rcases hown.2 with ⟨rfl, _⟩ | ⟨g, cap, cur, rfl, hbg, _⟩
    · simp [Value.ownBlock] at hk
    · simp [Value.ownBlock] at hk; omega)

end Go.Proofs.YtebdjahcahgafaaDoor

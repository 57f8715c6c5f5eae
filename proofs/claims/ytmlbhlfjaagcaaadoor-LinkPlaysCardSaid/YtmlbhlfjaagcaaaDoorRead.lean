/- The contract of read: the number that bytes say. -/
import Derived.Test.YtmlbhlfjaagcaaaDoorFrm
import Derived.ScopeJumps
import Derived.BigRegion
import Derived.StillTailTactics
namespace Go.Proofs.YtmlbhlfjaagcaaaDoor
/-- As Q; by a goto to label l: J l. -/
def jumps (J : Nat → Act → World → Prop) (Q : Exit → Act → World → Prop) : Exit → Act → World → Prop
  | .goto l, a, w => J l a w
  | e, a, w => Q e a w

/-- A scope that is left by gotos forward, each to code that jumps no more. -/
theorem wp_scope_fwd {P : Program} {a : Act} {w : World} {Q : Exit → Act → World → Prop} {c : Code} (J : Nat → Act → World → Prop) (first : c.wp P (jumps J Q) a w)
    (pass : ∀ l a w, J l a w → ∃ rest, findLabel c l = some rest ∧ rest.wp P (Exit.noGoto Q) a w) : (Code.scope c).wp P Q a w := by
  intro b k cs
  obtain ⟨e, a₁, w₁, hq, harr⟩ := first b (.inScope c :: k) cs
  cases e with
  | normal => exact ⟨.normal, a₁, w₁, hq, .head step_scope (Steps.trans harr (.one step_inScope))⟩
  | exit id => exact ⟨.exit id, a₁, w₁, hq, fun k' hk => .head step_scope (harr k' (by simp [exitTo, hk]))⟩
  | goto l' =>
    obtain ⟨rest, hf, hw⟩ := pass l' a₁ w₁ hq
    have hg : gotoIn l' (.inScope c :: k) = some (.code rest :: .inScope c :: k) := by simp [gotoIn, hf]
    obtain ⟨e₂, a₂, w₂, hq₂, harr₂⟩ := hw b (.inScope c :: k) cs
    cases e₂ with
    | normal => exact ⟨.normal, a₂, w₂, hq₂, .of_steps (.head step_scope (harr _ hg)) (Steps.trans harr₂ (.one step_inScope))⟩
    | exit id => exact ⟨.exit id, a₂, w₂, hq₂, .of_steps (.head step_scope (harr _ hg)) (fun k' hk => harr₂ k' (by simp [exitTo, hk]))⟩
    | goto l2 => exact absurd hq₂ (by simp [Exit.noGoto])
    | ret => exact ⟨_, a₂, w₂, hq₂, .of_steps (.head step_scope (harr _ hg)) harr₂⟩
    | panic ch => exact ⟨_, a₂, w₂, hq₂, .of_steps (.head step_scope (harr _ hg)) harr₂⟩
    | outgrown => exact ⟨_, a₂, w₂, hq₂, .of_steps (.head step_scope (harr _ hg)) harr₂⟩
  | ret => exact ⟨_, a₁, w₁, hq, .of_steps (.one step_scope) harr⟩
  | panic ch => exact ⟨_, a₁, w₁, hq, .of_steps (.one step_scope) harr⟩
  | outgrown => exact ⟨_, a₁, w₁, hq, .of_steps (.one step_scope) harr⟩
open Go.RowKit

/-- What read answers. -/
def rdAns (bs : List Nat) (at_ : Int) (most : Nat) : Except Nat (Nat × Nat) :=
  if at_ < 0 ∨ (bs.length : Int) < at_ then .error 1 else
    match rd most 0 0 (bs.drop at_.toNat) with
    | .ok (z, c) => .ok (z, at_.toNat + c)
    | .error e => .error e

def rdVal : Except Nat (Nat × Nat) → Value
  | .ok (z, c) => .tuple #[.int .u64 (z : Int), .int .i64 (c : Int), .int .i64 0]
  | .error e => .tuple #[.int .u64 0, .int .i64 0, .int .i64 (e : Int)]

/-- What read leaves. -/
def ReadRes (w : World) (bs : List Nat) (at_ : Int) (most : Nat) (e : Ending) (w' : World) : Prop :=
  e = .returned (rdVal (rdAns bs at_ most)) ∧ Below w.heap.size w w'

/-- Where a goto leads: the error. -/
def ReadTo (w : World) (bs : List Nat) (at_ : Int) (most : Nat) (l : Nat) (a' : Act) (w' : World) : Prop :=
  ((l = 0 ∧ rdAns bs at_ most = .error 1) ∨ (l = 1 ∧ rdAns bs at_ most = .error 20) ∨ (l = 2 ∧ rdAns bs at_ most = .error 3)) ∧ Below w.heap.size w w' ∧
  ∃ u0 u1 u2 u3 u4 u5 u6 u7 u8 u9 u10 u11 u12 u13 u14 u15 u16 u17 u18 u19 u20 u21 u22 u23 u24 u25 u26 u27 u28 u29 u30 u31 u32 u33 u34 u35 u36 u37 u38 u39 u40 u41 u42 u43 u44 u45 u46 u47 u48 u49 u50 u51 u52 u53 u54 u55 u56 u57 u58 u59 u60 u61 u62 u63 u64 u65 u66 : Value, a' = { tmps := #[u0, u1, u2, u3, u4, u5, u6, u7, u8, u9, u10, u11, u12, u13, u14, u15, u16, u17, u18, u19, u20, u21, u22, u23, u24, u25, u26, u27, u28, u29, u30, u31, u32, u33, u34, u35, u36, u37, u38, u39, u40, u41, u42, u43, u44, u45, u46, u47, u48, u49, u50, u51, u52, u53, u54, u55, u56, u57, u58, u59, u60, u61, u62, u63, u64, u65, u66], defers := [] }

theorem ReadTo.of {w : World} {bs : List Nat} {at_ : Int} {most l : Nat} {w' : World} {u0 u1 u2 u3 u4 u5 u6 u7 u8 u9 u10 u11 u12 u13 u14 u15 u16 u17 u18 u19 u20 u21 u22 u23 u24 u25 u26 u27 u28 u29 u30 u31 u32 u33 u34 u35 u36 u37 u38 u39 u40 u41 u42 u43 u44 u45 u46 u47 u48 u49 u50 u51 u52 u53 u54 u55 u56 u57 u58 u59 u60 u61 u62 u63 u64 u65 u66 : Value}
    (hl : (l = 0 ∧ rdAns bs at_ most = .error 1) ∨ (l = 1 ∧ rdAns bs at_ most = .error 20) ∨ (l = 2 ∧ rdAns bs at_ most = .error 3)) (hb : Below w.heap.size w w') :
    ReadTo w bs at_ most l { tmps := #[u0, u1, u2, u3, u4, u5, u6, u7, u8, u9, u10, u11, u12, u13, u14, u15, u16, u17, u18, u19, u20, u21, u22, u23, u24, u25, u26, u27, u28, u29, u30, u31, u32, u33, u34, u35, u36, u37, u38, u39, u40, u41, u42, u43, u44, u45, u46, u47, u48, u49, u50, u51, u52, u53, u54, u55, u56, u57, u58, u59, u60, u61, u62, u63, u64, u65, u66], defers := [] } w' := ⟨hl, hb, u0, u1, u2, u3, u4, u5, u6, u7, u8, u9, u10, u11, u12, u13, u14, u15, u16, u17, u18, u19, u20, u21, u22, u23, u24, u25, u26, u27, u28, u29, u30, u31, u32, u33, u34, u35, u36, u37, u38, u39, u40, u41, u42, u43, u44, u45, u46, u47, u48, u49, u50, u51, u52, u53, u54, u55, u56, u57, u58, u59, u60, u61, u62, u63, u64, u65, u66, rfl⟩

theorem rdAns_ok {bs : List Nat} {k most : Nat} (hk : k ≤ bs.length) {z c : Nat} (h : rd most 0 0 (bs.drop k) = .ok (z, c)) : rdAns bs (k : Int) most = .ok (z, k + c) := by
  unfold rdAns
  rw [if_neg (by omega), Int.toNat_natCast, h]
theorem rdAns_err {bs : List Nat} {k most : Nat} (hk : k ≤ bs.length) {e : Nat} (h : rd most 0 0 (bs.drop k) = .error e) : rdAns bs (k : Int) most = .error e := by
  unfold rdAns
  rw [if_neg (by omega), Int.toNat_natCast, h]

/-- In the midst of read: i bytes are read, y is what they say. -/
def RdInv (l : List Nat) (most i : Nat) (y : Int) : Prop :=
  i ≤ most ∧ i ≤ l.length ∧ (i ≤ 9 → ∃ acc : Nat, y = (acc : Int) ∧ acc < 128 ^ i ∧ rd most 0 0 l = rd most i acc (l.drop i)) ∧ (i = 10 → rd most 0 0 l = .error 20)
theorem RdInv.zero (l : List Nat) (most : Nat) : RdInv l most 0 0 := ⟨by omega, by omega, fun _ => ⟨0, rfl, by decide, rfl⟩, fun h => by omega⟩

theorem or_val (acc x i : Nat) (ha : acc < 128 ^ i) (hi : i ≤ 9) (hx : x < 256) (h9 : i = 9 → x % 128 ≤ 1) :
    bits BinOp.or IntKind.u64 (acc : Int) (IntKind.u64.wrap (IntKind.u64.wrap (bits BinOp.andNot IntKind.u8 (x : Int) 128) * 2 ^ (7 * i))) = ((acc + x % 128 * 128 ^ i : Nat) : Int) := by
  have e1 : bits BinOp.andNot IntKind.u8 (x : Int) 128 = ((x % 128 : Nat) : Int) := by
    have := u8_andNot_nat x 128 hx (by omega)
    rw [show ((128 : Nat) : Int) = 128 from rfl] at this
    rw [this, show 255 - 128 = 2 ^ 7 - 1 from rfl, Nat.and_two_pow_sub_one_eq_mod]
  have hp : (2 : Nat) ^ (7 * i) = 128 ^ i := by rw [Nat.pow_mul]
  have hb : x % 128 * 128 ^ i < 18446744073709551616 := by
    by_cases h : i = 9
    · subst h
      have := h9 rfl
      have e9 : (128 : Nat) ^ 9 = 9223372036854775808 := by decide
      rw [e9]; omega
    · have h8 : 128 ^ i ≤ 128 ^ 8 := Nat.pow_le_pow_right (by omega) (by omega)
      have e8 : (128 : Nat) ^ 8 = 72057594037927936 := by decide
      have hx7 : x % 128 ≤ 127 := by omega
      have := Nat.mul_le_mul hx7 h8
      omega
  have hc : acc < 18446744073709551616 := by
    have h8 : 128 ^ i ≤ 128 ^ 9 := Nat.pow_le_pow_right (by omega) hi
    have e9 : (128 : Nat) ^ 9 = 9223372036854775808 := by decide
    omega
  rw [e1, IntKind.wrap_u64, IntKind.wrap_u64]
  have e2 : ((x % 128 : Nat) : Int) % 18446744073709551616 * 2 ^ (7 * i) % 18446744073709551616 = ((x % 128 * 128 ^ i : Nat) : Int) := by
    have h1 : ((x % 128 : Nat) : Int) % 18446744073709551616 = ((x % 128 : Nat) : Int) := by omega
    have h2 : ((2 : Int) ^ (7 * i)) = ((128 ^ i : Nat) : Int) := by rw [← hp]; push_cast; rfl
    rw [h1, h2, ← Int.natCast_mul]
    generalize x % 128 * 128 ^ i = q at hb
    omega
  rw [e2, u64_or_nat _ _ hc hb]
  congr 1
  rw [← hp] at ha ⊢
  have := Nat.two_pow_add_eq_or_of_lt ha (x % 128)
  rw [Nat.or_comm, Nat.mul_comm (x % 128), ← this]
  omega

theorem drop_at {l : List Nat} {i : Nat} (h : i < l.length) : l.drop i = l.getD i 0 :: l.drop (i + 1) := by
  rw [List.drop_eq_getElem_cons h, List.getD_eq_getElem?_getD, List.getElem?_eq_getElem h]
  rfl

theorem RdInv.next {l : List Nat} {most i x : Nat} {y : Int} (h : RdInv l most i y) (hm : most ≤ 10) (hi : i < 10) (h1 : i ≠ most) (h2 : i < l.length) (hx : x = l.getD i 0) (h8 : x < 256) (h7 : 128 ≤ x) :
    RdInv l most (i + 1) (bits BinOp.or IntKind.u64 y (IntKind.u64.wrap (IntKind.u64.wrap (bits BinOp.andNot IntKind.u8 (x : Int) 128) * 2 ^ (7 * i)))) := by
  obtain ⟨a1, a2, a3, a4⟩ := h
  obtain ⟨acc, rfl, b1, b2⟩ := a3 (by omega)
  rw [drop_at h2, ← hx, rd_cons, if_neg h1, if_pos h7] at b2
  refine ⟨by omega, by omega, fun h9 => ?_, fun h10 => ?_⟩
  · refine ⟨acc + x % 128 * 128 ^ i, or_val acc x i b1 (by omega) h8 (by omega), ?_, b2⟩
    have hx7 : x % 128 * 128 ^ i ≤ 127 * 128 ^ i := Nat.mul_le_mul_right _ (by omega)
    rw [Nat.pow_succ]; omega
  · rw [b2]
    have : i + 1 = most := by omega
    cases hr : l.drop (i + 1) with
    | nil => rw [rd_nil, if_pos this]
    | cons u r => rw [rd_cons, if_pos this]

theorem RdInv.most {l : List Nat} {i : Nat} {y : Int} (h : RdInv l i i y) (hi : i < 10) : rd i 0 0 l = .error 20 := by
  obtain ⟨a1, a2, a3, a4⟩ := h
  obtain ⟨acc, rfl, b1, b2⟩ := a3 (by omega)
  rw [b2]
  cases hr : l.drop i with
  | nil => rw [rd_nil, if_pos rfl]
  | cons u r => rw [rd_cons, if_pos rfl]

theorem RdInv.short {l : List Nat} {most i : Nat} {y : Int} (h : RdInv l most i y) (hi : i < 10) (h1 : i ≠ most) (h2 : i = l.length) : rd most 0 0 l = .error 3 := by
  obtain ⟨a1, a2, a3, a4⟩ := h
  obtain ⟨acc, rfl, b1, b2⟩ := a3 (by omega)
  rw [b2, List.drop_of_length_le (by omega), rd_nil, if_neg h1]

theorem RdInv.last {l : List Nat} {most i x : Nat} {y : Int} (h : RdInv l most i y) (hi : i < 10) (h1 : i ≠ most) (h2 : i < l.length) (hx : x = l.getD i 0) (h7 : ¬ 128 ≤ x) :
    ((x = 0 ∧ 0 < i) ∨ (i = 9 ∧ 1 < x) → rd most 0 0 l = .error 20) ∧
    (¬ ((x = 0 ∧ 0 < i) ∨ (i = 9 ∧ 1 < x)) → ∃ z : Nat, rd most 0 0 l = .ok (z, i + 1) ∧ bits BinOp.or IntKind.u64 y (IntKind.u64.wrap (IntKind.u64.wrap (bits BinOp.andNot IntKind.u8 (x : Int) 128) * 2 ^ (7 * i))) = (z : Int)) := by
  obtain ⟨a1, a2, a3, a4⟩ := h
  obtain ⟨acc, rfl, b1, b2⟩ := a3 (by omega)
  rw [drop_at h2, ← hx, rd_cons, if_neg h1, if_neg h7] at b2
  refine ⟨fun h => by rw [b2, if_pos h], fun h => ⟨acc + x * 128 ^ i, by rw [b2, if_neg h], ?_⟩⟩
  have e : x % 128 = x := by omega
  rw [or_val acc x i b1 (by omega) (by omega) (by omega), e]

theorem digits_row (l : List Nat) (most : Nat) (hm : most ≤ 10) : (splice (U8s (List.replicate 10 0)) 0 (U8s (l.take most))).toArray.size = 10 ∧
    ∀ i, i < 10 → ∃ x : Nat, (splice (U8s (List.replicate 10 0)) 0 (U8s (l.take most))).toArray[i]? = some (.int .u8 (x : Int)) ∧ (i < min most l.length → x = l.getD i 0) := by
  have e : splice (U8s (List.replicate 10 0)) 0 (U8s (l.take most)) = U8s (l.take most ++ List.replicate (10 - min most l.length) 0) := by
    rw [U8s_append]
    simp only [splice, List.take_zero, List.nil_append, Nat.zero_add]
    rw [U8s_length, List.length_take]
    congr 1
    unfold U8s
    rw [← List.map_drop, List.drop_replicate]
  have hlen : (l.take most ++ List.replicate (10 - min most l.length) 0).length = 10 := by rw [List.length_append, List.length_take, List.length_replicate]; omega
  rw [e]
  refine ⟨by rw [List.size_toArray, U8s_length, hlen], fun i hi => ?_⟩
  refine ⟨_, by rw [List.getElem?_toArray, U8s_get _ i (by omega)], fun hlt => ?_⟩
  rw [List.getD_eq_getElem?_getD, List.getElem?_append_left (by rw [List.length_take]; exact hlt), List.getElem?_take, if_pos (by omega), List.getD_eq_getElem?_getD]

end Go.Proofs.YtmlbhlfjaagcaaaDoor

/- The contract of read: the number that bytes say. -/
import Derived.Test.YtebdjahcahgafaaDoorPutM
import Derived.ScopeJumps
import Derived.BigRegion
import Derived.StillTailTactics
namespace Go.Proofs.YtebdjahcahgafaaDoor
/-- As Q; by a goto to label l: J l. -/
def jumps (J : Nat → Act → World → Prop) (Q : Exit → Act → World → Prop) : Exit → Act → World → Prop
  | .goto l, a, w => J l a w
  | e, a, w => Q e a w

/-- A scope that is left by gotos forward, each to code that jumps no more. -/
theorem wp_scope_fwd {P : Program} {a : Act} {w : World} {Q : Exit → Act → World → Prop} {c : Code} (J : Nat → Act → World → Prop) (first : c.wp P (jumps J Q) a w)
    (pass : ∀ l a w, J l a w → ∃ rest, findLabel c l = some rest ∧ rest.wp P (Exit.noGoto Q) a w) : (Code.scope c).wp P Q a w := by
  intro b k cs
  obtain ⟨e, a₁, w₁, hq, harr⟩ := first b (.inScope c :: k) cs
  cases e with
  | normal => exact ⟨.normal, a₁, w₁, hq, .head step_scope (Steps.trans harr (.one step_inScope))⟩
  | exit id => exact ⟨.exit id, a₁, w₁, hq, fun k' hk => .head step_scope (harr k' (by simp [exitTo, hk]))⟩
  | goto l' =>
    obtain ⟨rest, hf, hw⟩ := pass l' a₁ w₁ hq
    have hg : gotoIn l' (.inScope c :: k) = some (.code rest :: .inScope c :: k) := by simp [gotoIn, hf]
    obtain ⟨e₂, a₂, w₂, hq₂, harr₂⟩ := hw b (.inScope c :: k) cs
    cases e₂ with
    | normal => exact ⟨.normal, a₂, w₂, hq₂, .of_steps (.head step_scope (harr _ hg)) (Steps.trans harr₂ (.one step_inScope))⟩
    | exit id => exact ⟨.exit id, a₂, w₂, hq₂, .of_steps (.head step_scope (harr _ hg)) (fun k' hk => harr₂ k' (by simp [exitTo, hk]))⟩
    | goto l2 => exact absurd hq₂ (by simp [Exit.noGoto])
    | ret => exact ⟨_, a₂, w₂, hq₂, .of_steps (.head step_scope (harr _ hg)) harr₂⟩
    | panic ch => exact ⟨_, a₂, w₂, hq₂, .of_steps (.head step_scope (harr _ hg)) harr₂⟩
    | outgrown => exact ⟨_, a₂, w₂, hq₂, .of_steps (.head step_scope (harr _ hg)) harr₂⟩
  | ret => exact ⟨_, a₁, w₁, hq, .of_steps (.one step_scope) harr⟩
  | panic ch => exact ⟨_, a₁, w₁, hq, .of_steps (.one step_scope) harr⟩
  | outgrown => exact ⟨_, a₁, w₁, hq, .of_steps (.one step_scope) harr⟩
open Go.RowKit

/-- What read answers. -/
def rdAns (bs : List Nat) (at_ : Int) (most : Nat) : Except Nat (Nat × Nat) :=
  if at_ < 0 ∨ (bs.length : Int) < at_ then .error 1 else
    match rd most 0 0 (bs.drop at_.toNat) with
    | .ok (z, c) => .ok (z, at_.toNat + c)
    | .error e => .error e

def rdVal : Except Nat (Nat × Nat) → Value
  | .ok (z, c) => .tuple #[.int .u64 (z : Int), .int .i64 (c : Int), .int .i64 0]
  | .error e => .tuple #[.int .u64 0, .int .i64 0, .int .i64 (e : Int)]

/-- What read leaves. -/
def ReadRes (w : World) (bs : List Nat) (at_ : Int) (most : Nat) (e : Ending) (w' : World) : Prop :=
  e = .returned (rdVal (rdAns bs at_ most)) ∧ Below w.heap.size w w'

/-- Where a goto leads: the error. -/
def ReadTo (w : World) (bs : List Nat) (at_ : Int) (most : Nat) (l : Nat) (a' : Act) (w' : World) : Prop :=
  ((l = 0 ∧ rdAns bs at_ most = .error 1) ∨ (l = 1 ∧ rdAns bs at_ most = .error 20) ∨ (l = 2 ∧ rdAns bs at_ most = .error 3)) ∧ Below w.heap.size w w' ∧
  ∃ u0 u1 u2 u3 u4 u5 u6 u7 u8 u9 u10 u11 u12 u13 u14 u15 u16 u17 u18 u19 u20 u21 u22 u23 u24 u25 u26 u27 u28 u29 u30 u31 u32 u33 u34 u35 u36 u37 u38 u39 u40 u41 u42 u43 u44 u45 u46 u47 u48 u49 u50 u51 u52 u53 u54 u55 u56 u57 u58 u59 u60 u61 u62 u63 u64 u65 u66 : Value, a' = { tmps := #[u0, u1, u2, u3, u4, u5, u6, u7, u8, u9, u10, u11, u12, u13, u14, u15, u16, u17, u18, u19, u20, u21, u22, u23, u24, u25, u26, u27, u28, u29, u30, u31, u32, u33, u34, u35, u36, u37, u38, u39, u40, u41, u42, u43, u44, u45, u46, u47, u48, u49, u50, u51, u52, u53, u54, u55, u56, u57, u58, u59, u60, u61, u62, u63, u64, u65, u66], defers := [] }

theorem ReadTo.of {w : World} {bs : List Nat} {at_ : Int} {most l : Nat} {w' : World} {u0 u1 u2 u3 u4 u5 u6 u7 u8 u9 u10 u11 u12 u13 u14 u15 u16 u17 u18 u19 u20 u21 u22 u23 u24 u25 u26 u27 u28 u29 u30 u31 u32 u33 u34 u35 u36 u37 u38 u39 u40 u41 u42 u43 u44 u45 u46 u47 u48 u49 u50 u51 u52 u53 u54 u55 u56 u57 u58 u59 u60 u61 u62 u63 u64 u65 u66 : Value}
    (hl : (l = 0 ∧ rdAns bs at_ most = .error 1) ∨ (l = 1 ∧ rdAns bs at_ most = .error 20) ∨ (l = 2 ∧ rdAns bs at_ most = .error 3)) (hb : Below w.heap.size w w') :
    ReadTo w bs at_ most l { tmps := #[u0, u1, u2, u3, u4, u5, u6, u7, u8, u9, u10, u11, u12, u13, u14, u15, u16, u17, u18, u19, u20, u21, u22, u23, u24, u25, u26, u27, u28, u29, u30, u31, u32, u33, u34, u35, u36, u37, u38, u39, u40, u41, u42, u43, u44, u45, u46, u47, u48, u49, u50, u51, u52, u53, u54, u55, u56, u57, u58, u59, u60, u61, u62, u63, u64, u65, u66], defers := [] } w' := ⟨hl, hb, u0, u1, u2, u3, u4, u5, u6, u7, u8, u9, u10, u11, u12, u13, u14, u15, u16, u17, u18, u19, u20, u21, u22, u23, u24, u25, u26, u27, u28, u29, u30, u31, u32, u33, u34, u35, u36, u37, u38, u39, u40, u41, u42, u43, u44, u45, u46, u47, u48, u49, u50, u51, u52, u53, u54, u55, u56, u57, u58, u59, u60, u61, u62, u63, u64, u65, u66, rfl⟩

theorem rdAns_ok {bs : List Nat} {k most : Nat} (hk : k ≤ bs.length) {z c : Nat} (h : rd most 0 0 (bs.drop k) = .ok (z, c)) : rdAns bs (k : Int) most = .ok (z, k + c) := by
  unfold rdAns
  rw [if_neg (by omega), Int.toNat_natCast, h]
theorem rdAns_err {bs : List Nat} {k most : Nat} (hk : k ≤ bs.length) {e : Nat} (h : rd most 0 0 (bs.drop k) = .error e) : rdAns bs (k : Int) most = .error e := by
  unfold rdAns
  rw [if_neg (by omega), Int.toNat_natCast, h]

/-- A byte of an array of ten. -/
theorem idx10 (arr : Array Value) (i : Nat) (hi : i < 10) (u : Value) (hx : arr[i]? = some u) (w : World) : (Instr.index 137 (.agg arr) (.int .i64 (i : Int))).run Tryd.prog w = .ok u w := by
  have h0 : (0 : Int) ≤ (i : Int) ∧ (i : Int) < ((10 : Nat) : Int) := by omega
  simp [Instr.index, run_underlying Tryd.underlying137, asIntOf, h0, go_sem, hx]
  omega

/-- In the midst of read: i bytes are read, y is what they say. -/
def RdInv (l : List Nat) (most i : Nat) (y : Int) : Prop :=
  i ≤ most ∧ i ≤ l.length ∧ (i ≤ 9 → ∃ acc : Nat, y = (acc : Int) ∧ acc < 128 ^ i ∧ rd most 0 0 l = rd most i acc (l.drop i)) ∧ (i = 10 → rd most 0 0 l = .error 20)
theorem RdInv.zero (l : List Nat) (most : Nat) : RdInv l most 0 0 := ⟨by omega, by omega, fun _ => ⟨0, rfl, by decide, rfl⟩, fun h => by omega⟩

theorem or_val (acc x i : Nat) (ha : acc < 128 ^ i) (hi : i ≤ 9) (hx : x < 256) (h9 : i = 9 → x % 128 ≤ 1) :
    bits BinOp.or IntKind.u64 (acc : Int) (IntKind.u64.wrap (IntKind.u64.wrap (bits BinOp.andNot IntKind.u8 (x : Int) 128) * 2 ^ (7 * i))) = ((acc + x % 128 * 128 ^ i : Nat) : Int) := by
  have e1 : bits BinOp.andNot IntKind.u8 (x : Int) 128 = ((x % 128 : Nat) : Int) := by
    have := u8_andNot_nat x 128 hx (by omega)
    rw [show ((128 : Nat) : Int) = 128 from rfl] at this
    rw [this, show 255 - 128 = 2 ^ 7 - 1 from rfl, Nat.and_two_pow_sub_one_eq_mod]
  have hp : (2 : Nat) ^ (7 * i) = 128 ^ i := by rw [Nat.pow_mul]
  have hb : x % 128 * 128 ^ i < 18446744073709551616 := by
    by_cases h : i = 9
    · subst h
      have := h9 rfl
      have e9 : (128 : Nat) ^ 9 = 9223372036854775808 := by decide
      rw [e9]; omega
    · have h8 : 128 ^ i ≤ 128 ^ 8 := Nat.pow_le_pow_right (by omega) (by omega)
      have e8 : (128 : Nat) ^ 8 = 72057594037927936 := by decide
      have hx7 : x % 128 ≤ 127 := by omega
      have := Nat.mul_le_mul hx7 h8
      omega
  have hc : acc < 18446744073709551616 := by
    have h8 : 128 ^ i ≤ 128 ^ 9 := Nat.pow_le_pow_right (by omega) hi
    have e9 : (128 : Nat) ^ 9 = 9223372036854775808 := by decide
    omega
  rw [e1, IntKind.wrap_u64, IntKind.wrap_u64]
  have e2 : ((x % 128 : Nat) : Int) % 18446744073709551616 * 2 ^ (7 * i) % 18446744073709551616 = ((x % 128 * 128 ^ i : Nat) : Int) := by
    have h1 : ((x % 128 : Nat) : Int) % 18446744073709551616 = ((x % 128 : Nat) : Int) := by omega
    have h2 : ((2 : Int) ^ (7 * i)) = ((128 ^ i : Nat) : Int) := by rw [← hp]; push_cast; rfl
    rw [h1, h2, ← Int.natCast_mul]
    generalize x % 128 * 128 ^ i = q at hb
    omega
  rw [e2, u64_or_nat _ _ hc hb]
  congr 1
  rw [← hp] at ha ⊢
  have := Nat.two_pow_add_eq_or_of_lt ha (x % 128)
  rw [Nat.or_comm, Nat.mul_comm (x % 128), ← this]
  omega

theorem drop_at {l : List Nat} {i : Nat} (h : i < l.length) : l.drop i = l.getD i 0 :: l.drop (i + 1) := by
  rw [List.drop_eq_getElem_cons h, List.getD_eq_getElem?_getD, List.getElem?_eq_getElem h]
  rfl

theorem RdInv.next {l : List Nat} {most i x : Nat} {y : Int} (h : RdInv l most i y) (hm : most ≤ 10) (hi : i < 10) (h1 : i ≠ most) (h2 : i < l.length) (hx : x = l.getD i 0) (h8 : x < 256) (h7 : 128 ≤ x) :
    RdInv l most (i + 1) (bits BinOp.or IntKind.u64 y (IntKind.u64.wrap (IntKind.u64.wrap (bits BinOp.andNot IntKind.u8 (x : Int) 128) * 2 ^ (7 * i)))) := by
  obtain ⟨a1, a2, a3, a4⟩ := h
  obtain ⟨acc, rfl, b1, b2⟩ := a3 (by omega)
  rw [drop_at h2, ← hx, rd_cons, if_neg h1, if_pos h7] at b2
  refine ⟨by omega, by omega, fun h9 => ?_, fun h10 => ?_⟩
  · refine ⟨acc + x % 128 * 128 ^ i, or_val acc x i b1 (by omega) h8 (by omega), ?_, b2⟩
    have hx7 : x % 128 * 128 ^ i ≤ 127 * 128 ^ i := Nat.mul_le_mul_right _ (by omega)
    rw [Nat.pow_succ]; omega
  · rw [b2]
    have : i + 1 = most := by omega
    cases hr : l.drop (i + 1) with
    | nil => rw [rd_nil, if_pos this]
    | cons u r => rw [rd_cons, if_pos this]

theorem RdInv.most {l : List Nat} {i : Nat} {y : Int} (h : RdInv l i i y) (hi : i < 10) : rd i 0 0 l = .error 20 := by
  obtain ⟨a1, a2, a3, a4⟩ := h
  obtain ⟨acc, rfl, b1, b2⟩ := a3 (by omega)
  rw [b2]
  cases hr : l.drop i with
  | nil => rw [rd_nil, if_pos rfl]
  | cons u r => rw [rd_cons, if_pos rfl]

theorem RdInv.short {l : List Nat} {most i : Nat} {y : Int} (h : RdInv l most i y) (hi : i < 10) (h1 : i ≠ most) (h2 : i = l.length) : rd most 0 0 l = .error 3 := by
  obtain ⟨a1, a2, a3, a4⟩ := h
  obtain ⟨acc, rfl, b1, b2⟩ := a3 (by omega)
  rw [b2, List.drop_of_length_le (by omega), rd_nil, if_neg h1]

theorem RdInv.last {l : List Nat} {most i x : Nat} {y : Int} (h : RdInv l most i y) (hi : i < 10) (h1 : i ≠ most) (h2 : i < l.length) (hx : x = l.getD i 0) (h7 : ¬ 128 ≤ x) :
    ((x = 0 ∧ 0 < i) ∨ (i = 9 ∧ 1 < x) → rd most 0 0 l = .error 20) ∧
    (¬ ((x = 0 ∧ 0 < i) ∨ (i = 9 ∧ 1 < x)) → ∃ z : Nat, rd most 0 0 l = .ok (z, i + 1) ∧ bits BinOp.or IntKind.u64 y (IntKind.u64.wrap (IntKind.u64.wrap (bits BinOp.andNot IntKind.u8 (x : Int) 128) * 2 ^ (7 * i))) = (z : Int)) := by
  obtain ⟨a1, a2, a3, a4⟩ := h
  obtain ⟨acc, rfl, b1, b2⟩ := a3 (by omega)
  rw [drop_at h2, ← hx, rd_cons, if_neg h1, if_neg h7] at b2
  refine ⟨fun h => by rw [b2, if_pos h], fun h => ⟨acc + x * 128 ^ i, by rw [b2, if_neg h], ?_⟩⟩
  have e : x % 128 = x := by omega
  rw [or_val acc x i b1 (by omega) (by omega) (by omega), e]

theorem digits_row (l : List Nat) (most : Nat) (hm : most ≤ 10) : (splice (U8s (List.replicate 10 0)) 0 (U8s (l.take most))).toArray.size = 10 ∧
    ∀ i, i < 10 → ∃ x : Nat, (splice (U8s (List.replicate 10 0)) 0 (U8s (l.take most))).toArray[i]? = some (.int .u8 (x : Int)) ∧ (i < min most l.length → x = l.getD i 0) := by
  have e : splice (U8s (List.replicate 10 0)) 0 (U8s (l.take most)) = U8s (l.take most ++ List.replicate (10 - min most l.length) 0) := by
    rw [U8s_append]
    simp only [splice, List.take_zero, List.nil_append, Nat.zero_add]
    rw [U8s_length, List.length_take]
    congr 1
    unfold U8s
    rw [← List.map_drop, List.drop_replicate]
  have hlen : (l.take most ++ List.replicate (10 - min most l.length) 0).length = 10 := by rw [List.length_append, List.length_take, List.length_replicate]; omega
  rw [e]
  refine ⟨by rw [List.size_toArray, U8s_length, hlen], fun i hi => ?_⟩
  refine ⟨_, by rw [List.getElem?_toArray, U8s_get _ i (by omega)], fun hlt => ?_⟩
  rw [List.getD_eq_getElem?_getD, List.getElem?_append_left (by rw [List.length_take]; exact hlt), List.getElem?_take, if_pos (by omega), List.getD_eq_getElem?_getD]

set_option maxHeartbeats 1000000 in
set_option maxRecDepth 100000 in
theorem read_c (v : Value) (bs : List Nat) (at_ : Int) (most : Nat) (w : World) (hv : SlB w v bs) (hm : most ≤ 10) (hn : bs.length ≤ 281474976710656) (h1 : -9223372036854775808 ≤ at_) (h2 : at_ < 9223372036854775808) (hby : ∀ x ∈ bs, x < 256) :
    Calls Tryd.prog 112 #[v, .int .i64 at_, .int .i64 (most : Int)] w (ReadRes w bs at_ most) := by
  obtain ⟨A, c, rfl, hc, hA, hr⟩ := hv
  have HR := Lib.hid hr
  have HBy := Lib.hid hby
  clear hr hby
  go_enter Tryd.func112, Tryd.ntmps112
  go_wp2_with fail
  refine wp_scope_fwd (ReadTo w bs at_ most) ?_ ?_
  · by_cases hneg : at_ < 0 ∨ (bs.length : Int) < at_
    · have hans : rdAns bs at_ most = .error 1 := by unfold rdAns; rw [if_pos hneg]
      have HA := Lib.hid hans
      clear hans
      rcases hneg with hneg | hneg
      · have hd : decide (at_ < 0) = true := by simpa using hneg
        go_wp2_with fail
        go_step3
        simp only [Exit.then, jumps]
        exact ReadTo.of (.inl ⟨rfl, HA.out⟩) ((Below.refl _ _).alloc (Nat.le_refl _) _)
      · have hd : decide (at_ < 0) = false := by simp; omega
        have hd2 : decide ((bs.length : Int) < at_) = true := by simpa using hneg
        go_wp2_with fail
        go_step3
        simp only [Exit.then, jumps]
        exact ReadTo.of (.inl ⟨rfl, HA.out⟩) ((Below.refl _ _).alloc (Nat.le_refl _) _)
    · obtain ⟨k, rfl⟩ : ∃ k : Nat, at_ = (k : Int) := ⟨at_.toNat, by omega⟩
      have hk : k ≤ bs.length := by omega
      have hd2 : decide (bs.length < k) = false := by simp; omega
      clear hneg h1 h2
      obtain ⟨B, d, hfrom, hsl⟩ := SlB.from_ (w := w) (A := A) (n := bs.length) (c := c) (bs := bs) ⟨A, c, rfl, hc, hA, HR.out⟩ k (bs.length - k) (k : Int) rfl hk rfl
      have HS := Lib.hid hsl
      have hcut := cut10 w.heap.size most (most : Int) rfl hm
      clear hsl
      go_wp2_with fail
      have hk1 : Blk (w.alloc (.cells #[.int .u8 0, .int .u8 0, .int .u8 0, .int .u8 0, .int .u8 0, .int .u8 0, .int .u8 0, .int .u8 0, .int .u8 0, .int .u8 0] 137)) w.heap.size 137 (U8s (List.replicate 10 0)).toArray := Blk.new w 137 _
      have hb1 : Below w.heap.size w (w.alloc (.cells #[.int .u8 0, .int .u8 0, .int .u8 0, .int .u8 0, .int .u8 0, .int .u8 0, .int .u8 0, .int .u8 0, .int .u8 0, .int .u8 0] 137)) := (Below.refl _ _).alloc (Nat.le_refl _) _
      generalize w.alloc (.cells #[.int .u8 0, .int .u8 0, .int .u8 0, .int .u8 0, .int .u8 0, .int .u8 0, .int .u8 0, .int .u8 0, .int .u8 0, .int .u8 0] 137) = w1 at hk1 hb1
      go_still_tail 5, (by kernel_rfl)
      change wpList _ _ _ _ _ w1.drew
      have hk2 : Blk w1.drew w.heap.size 137 (U8s (List.replicate 10 0)).toArray := hk1
      have hb2 : Below w.heap.size w w1.drew := hb1.drew
      generalize w1.drew = w2 at hk2 hb2
      have HK := Lib.hid hk2
      have HB := Lib.hid hb2
      have hl0 : (bs.drop k).length = bs.length - k := by rw [List.length_drop]
      have HBl : Hid (∀ x ∈ bs.drop k, x < 256) := fun x hx => HBy.out x (List.mem_of_mem_drop hx)
      obtain ⟨l, hl⟩ : ∃ l, l = bs.drop k := ⟨_, rfl⟩
      have HL := Lib.hid hl
      rw [← hl] at hl0 HBl HS
      rw [← hl0] at HS
      clear hk1 hb1 hk2 hb2 hl
      refine (wpList_copy_splice rfl (.tmp 23) (.tmp 26) 30 30 rfl 5 Tryd.underlying30 sizeU8 _ _ _ _ _ _ rfl rfl w.heap.size 0 (U8s (List.replicate 10 0)) 137 HK.out (U8s (l.take most)) ?hx ?hpos ?hfit (U8s_one _) w.heap.size w HB.out (Nat.le_refl _) ?_)
      case hx => rw [U8s_length, List.length_take, ← hl0]; exact Nat.min_comm _ _
      case hpos =>
        intro h0
        refine ⟨rfl, ?_⟩
        obtain ⟨B', d', e, _, _, hrd⟩ := HS.out
        injection e with e1 e2 e3
        subst e1 e3
        rw [U8s_length, List.length_take] at h0
        obtain ⟨ad, ea, hb, hcell⟩ := hrd.2 (by omega)
        refine ⟨ad, ea, fun j u hu => ?_⟩
        rw [HB.out.cell (by rw [block_of_add]; exact hb)]
        refine hcell j u ?_
        have hj := (List.getElem?_eq_some_iff.1 hu).1
        rw [U8s_length, List.length_take] at hj
        rw [← hu]
        simp [U8s, show j < most by omega]
      case hfit => rw [U8s_length, U8s_length, List.length_take]; simp; omega
      intro w3 HG hB3
      obtain ⟨hsz, hat⟩ := digits_row l most hm
      have hm2 : (U8s (l.take most)).length = min most l.length := by rw [U8s_length, List.length_take]
      generalize (splice (U8s (List.replicate 10 0)) 0 (U8s (l.take most))).toArray = arr at HG hsz hat
      generalize (U8s (l.take most)).length = m at hm2
      have HAt := Lib.hid hat
      have HB3 := Lib.hid hB3
      have hinfo : (Tryd.prog.info? 137).map (·.size) = some arr.size := by rw [hsz]; kernel_rfl
      have HI := Lib.hid hinfo
      have HM := Lib.hid hm2
      clear hat hB3 hinfo HK HB HS HR hfrom hcut hA hm2
      go_wp2_with (with_reducible refine wpList_load_row rfl 137 (.tmp 9) rfl w.heap.size rfl 137 arr (0, 0) _ HG.out Tryd.underlying137 rfl HI.out ?_)
      go_loopg [11, 12, 13, 29] 10 (fun gg s11 _ _ s29 wr => ∃ (i : Nat) (y : Int), i + gg = 10 ∧ s29 = .int .i64 (i : Int) ∧ s11 = .int .u64 y ∧ wr = w3 ∧ RdInv l most i y)
      case atStart => exact ⟨0, 0, rfl, rfl, rfl, rfl, RdInv.zero l most⟩
      case round =>
        obtain ⟨i, y, hig, rfl, rfl, rfl, hinv⟩ := hrel
        have HV := Lib.hid hinv
        clear hinv
        cases gk with
        | zero =>
          obtain rfl : i = 10 := by omega
          have hd : decide (((10 : Nat) : Int) < 10) = false := by decide
          go_wp2_with fail
          go_step3
          go_wp2_with fail
          simp only [jumps]
          go_ret3
          exact ⟨by rw [rdAns_err hk (by rw [← HL.out]; exact HV.out.2.2.2 rfl)]; rfl, HB3.out⟩
        | succ gk =>
          have hi10 : i < 10 := by omega
          have hd : decide ((i : Int) < 10) = true := by simp; omega
          have hii : (i : Int) < 10 := by omega
          obtain ⟨x, hx, hxl⟩ := HAt.out i hi10
          have HX := Lib.hid hxl
          have hidx := idx10 arr i hi10 _ hx wr
          clear hxl hx
          by_cases e1 : i = most
          · subst e1
            have hb1 : ((i : Int) == (i : Int)) = true := by simp
            go_wp2_with fail
            go_step3
            simp only [Exit.inBlock, Exit.then, jumps]
            exact ReadTo.of (.inr (.inl ⟨rfl, rdAns_err hk (by rw [← HL.out]; exact HV.out.most hi10)⟩)) HB3.out
          · have hb1 : ((i : Int) == (most : Int)) = false := by simp; omega
            by_cases e2 : i = m
            · subst e2
              have hb2 : ((i : Int) == (i : Int)) = true := by simp
              go_wp2_with fail
              go_step3
              simp only [Exit.inBlock, Exit.then, jumps]
              exact ReadTo.of (.inr (.inr ⟨rfl, rdAns_err hk (by rw [← HL.out]; exact HV.out.short hi10 e1 (by have := HM.out; have := HV.out.1; omega))⟩)) HB3.out
            · have hb2 : ((i : Int) == (m : Int)) = false := by simp; omega
              have him : i < min most l.length := by have := HM.out; have := HV.out.1; have := HV.out.2.1; omega
              have hxe := HX.out him
              have hil : i < l.length := by omega
              have hx8 : x < 256 := by rw [hxe, List.getD_eq_getElem?_getD, List.getElem?_eq_getElem hil]; exact HBl.out _ (List.getElem_mem hil)
              have HXE := Lib.hid hxe
              clear hxe him
              by_cases h7 : 128 ≤ x
              · have hd7 : decide (128 ≤ (x : Int)) = true := by simp; omega
                have HN := Lib.hid (HV.out.next hm hi10 e1 hil HXE.out hx8 h7)
                go_wp2_with fail
                go_roundg gk
                case measure => omega
                case rel => exact ⟨i + 1, _, by omega, rfl, rfl, rfl, HN.out⟩
              · have hd7 : decide (128 ≤ (x : Int)) = false := by simp; omega
                obtain ⟨hbad, hgood⟩ := HV.out.last hi10 e1 hil HXE.out h7
                by_cases hz : x = 0 ∧ 0 < i
                · obtain ⟨rfl, hi0⟩ := hz
                  have hdi : decide (0 < (i : Int)) = true := by simp; omega
                  have HBad := Lib.hid (hbad (.inl ⟨rfl, hi0⟩))
                  clear hbad hgood
                  go_wp2_with fail
                  go_step3
                  simp only [Exit.inBlock, Exit.then, jumps]
                  exact ReadTo.of (.inr (.inl ⟨rfl, rdAns_err hk (by rw [← HL.out]; exact HBad.out)⟩)) HB3.out
                · by_cases h9 : i = 9 ∧ 1 < x
                  · have HBad := Lib.hid (hbad (.inr h9))
                    have hx0 : ((x : Int) == 0) = false := by simp; omega
                    have hdx : decide (1 < (x : Int)) = true := by simp; omega
                    have hi9 : ((i : Int) == 9) = true := by simp; omega
                    clear hbad hgood hz h9
                    go_wp2_with fail
                    go_step3
                    simp only [Exit.inBlock, Exit.then, jumps]
                    exact ReadTo.of (.inr (.inl ⟨rfl, rdAns_err hk (by rw [← HL.out]; exact HBad.out)⟩)) HB3.out
                  · obtain ⟨z, hz1, hz2⟩ := hgood (by rintro (h | h); exact hz h; exact h9 h)
                    have HZ := Lib.hid (rdAns_ok hk (by rw [← HL.out]; exact hz1))
                    have HZ2 := Lib.hid hz2
                    clear hbad hgood hz1 hz2
                    by_cases hx0 : x = 0
                    · have hd0 : decide (0 < i) = false := by simp; omega
                      have hx0' : ((x : Int) == 0) = true := by simp; omega
                      have hi9 : ((i : Int) == 9) = false := by simp; omega
                      clear hz h9 hx0
                      go_wp2_with fail
                      simp only [jumps]
                      go_ret3
                      refine ⟨?_, HB3.out⟩
                      rw [HZ.out]
                      simp only [rdVal, ← HZ2.out]
                      rfl
                    · have hx0 : ((x : Int) == 0) = false := by simp; omega
                      by_cases hi9 : i = 9
                      · have hdx : decide (1 < (x : Int)) = false := by simp; omega
                        have hi9' : ((i : Int) == 9) = true := by simp; omega
                        clear hz h9 hi9
                        go_wp2_with fail
                        simp only [jumps]
                        go_ret3
                        refine ⟨?_, HB3.out⟩
                        rw [HZ.out]
                        simp only [rdVal, ← HZ2.out]
                        rfl
                      · have hi9' : ((i : Int) == 9) = false := by simp; omega
                        clear hz h9 hi9
                        go_wp2_with fail
                        simp only [jumps]
                        go_ret3
                        refine ⟨?_, HB3.out⟩
                        rw [HZ.out]
                        simp only [rdVal, ← HZ2.out]
                        rfl
  · intro l a' w' ⟨hl, hb, u0, u1, u2, u3, u4, u5, u6, u7, u8, u9, u10, u11, u12, u13, u14, u15, u16, u17, u18, u19, u20, u21, u22, u23, u24, u25, u26, u27, u28, u29, u30, u31, u32, u33, u34, u35, u36, u37, u38, u39, u40, u41, u42, u43, u44, u45, u46, u47, u48, u49, u50, u51, u52, u53, u54, u55, u56, u57, u58, u59, u60, u61, u62, u63, u64, u65, u66, ha⟩
    subst ha
    rcases hl with ⟨rfl, he⟩ | ⟨rfl, he⟩ | ⟨rfl, he⟩
    · refine ⟨_, rfl, ?_⟩
      go_wp2_with fail
      rw [Exit.noGoto_ret]
      go_ret3
      exact ⟨by rw [he]; rfl, hb⟩
    · refine ⟨_, rfl, ?_⟩
      go_wp2_with fail
      rw [Exit.noGoto_ret]
      go_ret3
      exact ⟨by rw [he]; rfl, hb⟩
    · refine ⟨_, rfl, ?_⟩
      go_wp2_with fail
      rw [Exit.noGoto_ret]
      go_ret3
      exact ⟨by rw [he]; rfl, hb⟩

end Go.Proofs.YtebdjahcahgafaaDoor

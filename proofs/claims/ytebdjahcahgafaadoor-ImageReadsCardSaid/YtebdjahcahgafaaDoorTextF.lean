/- Bytes of one's own known whole, their spare room too; Text once more so. -/
import Derived.Test.YtebdjahcahgafaaDoorTexts
namespace Go.Proofs.YtebdjahcahgafaaDoor
open Go.RowKit

/-- The slice v reads bs; its whole row, the spare room too, holds fs, in memory that is new since block base. -/
structure FullB (w : World) (base : Nat) (v : Value) (bs : List Nat) (A : Option Addr) (fs : List Nat) : Prop where
  val : v = .slice A bs.length fs.length
  take : fs.take bs.length = bs
  le : bs.length ≤ fs.length
  max : fs.length ≤ maxLen
  byte : ∀ x ∈ fs, x < 256
  void : A = none → fs = []
  row : ∀ a, A = some a → ∃ g, a = ⟨g, 0, none⟩ ∧ base ≤ g ∧ Blk w g 5 (U8s fs).toArray

theorem FullB.nil (w : World) (base : Nat) : FullB w base (.slice none 0 0) [] none [] :=
  ⟨rfl, rfl, Nat.le_refl _, by unfold maxLen; simp, (fun x hx => by cases hx), (fun _ => rfl), (fun a h => by cases h)⟩

theorem FullB.exact {w : World} {base g n : Nat} {bs : List Nat} (h : Blk w g 5 (U8s bs).toArray) (hg : base ≤ g) (hn : n = bs.length) (hm : bs.length ≤ maxLen) (hby : ∀ x ∈ bs, x < 256) : FullB w base (.slice (some ⟨g, 0, none⟩) n n) bs (some ⟨g, 0, none⟩) bs := by
  subst hn
  exact ⟨rfl, List.take_length, Nat.le_refl _, hm, hby, (fun e => by cases e), (fun a e => by injection e with e; exact ⟨g, e.symm, hg, h⟩)⟩

theorem FullB.below {w w' : World} {base : Nat} {v : Value} {bs fs : List Nat} {A : Option Addr} (h : FullB w base v bs A fs) (hb : Below w.heap.size w w') : FullB w' base v bs A fs :=
  ⟨h.val, h.take, h.le, h.max, h.byte, h.void, fun a e => by
    obtain ⟨g, e1, e2, e3⟩ := h.row a e
    exact ⟨g, e1, e2, e3.below hb e3.lt⟩⟩

theorem FullB.sl {w : World} {base : Nat} {v : Value} {bs fs : List Nat} {A : Option Addr} (h : FullB w base v bs A fs) : SlB w v bs := by
  refine ⟨A, fs.length, h.val, h.le, fun e => by rw [h.void e]; rfl, by rw [U8s_length], fun hp => ?_⟩
  cases A with
  | none => have h1 := h.le; rw [h.void rfl, List.length_nil] at h1; omega
  | some a =>
    obtain ⟨g, rfl, _, hk⟩ := h.row a rfl
    refine ⟨_, rfl, hk.lt, fun j u hu => ?_⟩
    have e : (⟨g, 0, none⟩ : Addr).add j = ⟨g, j, none⟩ := by unfold Addr.add; split <;> simp_all
    have hj := (List.getElem?_eq_some_iff.1 hu).1
    rw [U8s_length] at hj
    rw [e, hk.cell, List.getElem?_toArray, ← hu]
    conv => rhs; rw [← h.take]
    simp [U8s, hj]

theorem zero_row (k : Nat) : (Builtin.zeroCells (Value.int .u8 0).cells k).toList = U8s (List.replicate k 0) := by
  unfold Builtin.zeroCells
  have e : (Value.int .u8 0).cells = #[.int .u8 0] := rfl
  rw [e]
  apply List.ext_getElem?
  intro i
  have e1 : (#[Value.int IntKind.u8 0] : Array Value).size = 1 := rfl
  rw [Array.getElem?_toList, Array.getElem?_map, e1, Nat.mul_one]
  by_cases h : i < k
  · simp [h, U8s, Nat.mod_one]
  · simp [h, U8s]

set_option maxRecDepth 100000 in
/-- Appending a text to a row that is full. -/
theorem run_textF (w : World) (base g : Nat) (ty : TypeId) (xs : List Nat) (hk : Blk w g 5 (U8s xs).toArray) (hg : base ≤ g) (hb : ∀ x ∈ xs, x < 256) (s : ByteArray) (hfit : xs.length + s.size ≤ 140737488500000) (hbase : base ≤ w.heap.size) :
    ∃ v' w' A fs, (Builtin.append_ #[30, 9] ty #[.slice (some ⟨g, 0, none⟩) xs.length xs.length, .string s]).run Tryd.prog w = .ok v' w' ∧ FullB w' base v' (xs ++ bytesOf s) A fs ∧ w.grownBy w' (some g) := by
  obtain ⟨i, hi, hz, hsz, hby⟩ := info_u8
  by_cases h0 : s.size = 0
  · have hs0 : Lib.strCells s = [] := List.eq_nil_of_length_eq_zero (by rw [Lib.strCells_length]; exact h0)
    have hb0 : bytesOf s = [] := List.eq_nil_of_length_eq_zero (by rw [bytesOf_length]; exact h0)
    have hr := Lib.run_append_room_string (P := Tryd.prog) w 30 9 ty 5 i Tryd.underlying30 Tryd.underlying9 hi hsz g xs.length xs.length _ hk s (by omega) (by simp [U8s]; omega)
    refine ⟨_, _, some ⟨g, 0, none⟩, xs, hr, ?_, ⟨rfl, rfl, rfl, by simp, fun k _ hk => setRow_other w g k _ (fun e => hk (by simp [e]))⟩⟩
    rw [hb0, List.append_nil, h0, Nat.add_zero]
    refine FullB.exact (g := g) ?_ hg rfl (by unfold maxLen; omega) hb
    have := setRow_heap w g _ ((U8s xs).toArray.toList.take xs.length ++ Lib.strCells s ++ (U8s xs).toArray.toList.drop (xs.length + s.size)).toArray 5 (0, 0) hk
    rw [hs0, h0, Nat.add_zero, List.append_nil, List.take_append_drop] at this
    rw [hs0, List.append_nil, List.take_append_drop]
    exact this
  · have holds : ∀ j u, (U8s xs)[j]? = some u → w.cell? ((⟨g, 0, none⟩ : Addr).add j) = some u := by
      intro j u hu
      have e : (⟨g, 0, none⟩ : Addr).add j = ⟨g, j, none⟩ := by unfold Addr.add; split <;> simp_all
      rw [e, hk.cell, List.getElem?_toArray]
      exact hu
    have hr := Lib.run_append_grow_string (P := Tryd.prog) w 30 9 ty 5 i (.int .u8 0) Tryd.underlying30 Tryd.underlying9 hi hz ⟨g, 0, none⟩ xs.length xs.length (U8s xs) (by rw [hsz, U8s_length]; omega) holds s (by omega) (by omega) (by rw [hby]; exact growslice_fits_wide (by omega) (by omega))
    have hge := grownCap_ge w (xs.length + s.size) xs.length 5
    have hcm2 : grownCap w (xs.length + s.size) xs.length 5 ≤ maxLen := grownCap_le_maxLen w (xs.length + s.size) xs.length 5 (by unfold maxLen; omega)
    generalize grownCap w (xs.length + s.size) xs.length 5 = cap at hr hge hcm2
    refine ⟨_, _, some ⟨w.heap.size, 0, none⟩, xs ++ bytesOf s ++ List.replicate (cap - (xs.length + s.size)) 0, hr, ?_, ⟨rfl, rfl, rfl, by simp, fun k hk _ => Below.heap_alloc w.drew _ k hk⟩⟩
    have hlen : (xs ++ bytesOf s ++ List.replicate (cap - (xs.length + s.size)) 0).length = cap := by
      simp only [List.length_append, bytesOf_length, List.length_replicate]; omega
    refine ⟨?_, ?_, ?_, by rw [hlen]; exact hcm2, ?_, (fun e => by cases e), ?_⟩
    · rw [hlen, List.length_append, bytesOf_length]
    · exact List.take_left
    · rw [hlen, List.length_append, bytesOf_length]; exact hge
    · intro x hx
      rcases List.mem_append.1 hx with h | h
      · rcases List.mem_append.1 h with h | h
        · exact hb x h
        · exact bytesOf_lt s x h
      · have := List.eq_of_mem_replicate h; omega
    · intro a e
      injection e with e
      refine ⟨w.heap.size, e.symm, hbase, ?_⟩
      have hnew : (w.drew.alloc (.cells ((U8s xs).toArray ++ (Lib.strCells s).toArray ++ Builtin.zeroCells (Value.int .u8 0).cells (cap - (xs.length + s.size))) 5)).heap[w.heap.size]? = some (.cells ((U8s xs).toArray ++ (Lib.strCells s).toArray ++ Builtin.zeroCells (Value.int .u8 0).cells (cap - (xs.length + s.size))) 5 (0, 0)) := heap_alloc_new w.drew _
      unfold Blk
      rw [hnew]
      congr 2
      apply Array.ext'
      simp only [Array.toList_append, zero_row, U8s_append, bytesOf_cells]

theorem wpList_textF {w : World} {ops : Array Oper} {rest : List Oper} {o : Oper} {a : Act} {Q : Exit → Act → World → Prop} (hgd : o.guard = none) (sl x : Operand)
    (ho : o.op = .call { callee := .builtin .append, args := #[sl, x], argTypes := #[30, 9] }) (base g n : Nat) (xs : List Nat) (hsl : a.eval sl = .slice (some ⟨g, 0, none⟩) n n) (hn : n = xs.length) (hk : Blk w g 5 (U8s xs).toArray) (hg : base ≤ g) (hb : ∀ x ∈ xs, x < 256) (s : ByteArray) (hx : a.eval x = .string s)
    (hfit : xs.length + s.size ≤ 140737488500000) (hbase : base ≤ w.heap.size)
    (h : ∀ v' w' A fs, FullB w' base v' (xs ++ bytesOf s) A fs → w.grownBy w' (some g) → wpList Tryd.prog ops Q rest (a.put o.dst v') w') : wpList Tryd.prog ops Q (o :: rest) a w := by
  refine wpList_plain hgd fun K hK => ?_
  subst hn
  obtain ⟨v', w', A, fs, hr, h2, h3⟩ := run_textF w base g o.type xs hk hg hb s hfit hbase
  unfold Oper.wp execOp
  simp only [ho, resolve, invoke, builtin, Sem.run_bind, Sem.run_pure, Result.andThen_ok, List.map_toArray, List.map_cons, List.map_nil, hsl, hx, hr]
  exact hK _ _ (h v' w' A fs h2 h3)

set_option maxHeartbeats 1000000 in
set_option maxRecDepth 100000 in
theorem textF_c (v : Value) (bs : List Nat) (s : ByteArray) (w : World) (hv : SlB w v bs) (hl : bs.length ≤ 140737488355328) (hby : ∀ x ∈ bs, x < 256) (hs : s.size ≤ 65536) :
    Calls Tryd.prog 95 #[v, .string s] w fun e w' => ∃ v' A fs, e = .returned (.tuple #[v', .int .i64 0]) ∧ FullB w' w.heap.size v' (bs ++ (vn s.size ++ bytesOf s)) A fs ∧ Below w.heap.size w w' := by
  have HV := Lib.hid hv
  have hd : decide (65536 < (s.size : Int)) = false := by simp; omega
  have HBy : Hid (∀ x ∈ bs ++ vn s.size, x < 256) := fun x hx => by
    rcases List.mem_append.1 hx with h | h
    · exact hby x h
    · exact vn_lt _ x h
  clear hv hby
  go_enter Tryd.func95, Tryd.ntmps95
  go_wp2_with fail
  refine (put_c v bs s.size w HV.out hl (by omega)).mono ?_
  rintro e w1 ⟨g, n, rfl, hn, hg, hblk, hb⟩
  have hvl : (vn s.size).length ≤ 10 := vn_len10 (by omega)
  have hlen : (bs ++ vn s.size).length ≤ 140737488355338 := by rw [List.length_append]; omega
  have HN := Lib.hid hn
  have HK := Lib.hid hblk
  have HB := Lib.hid hb
  clear hblk hb hn
  go_wp2_with (at_builtin; refine wpList_textF rfl (.tmp 13) (.tmp 14) rfl w.heap.size g n (bs ++ vn s.size) rfl HN.out HK.out hg HBy.out s rfl (by omega) HB.out.size ?_)
  intro v' w2 A fs ho2 hg2
  have HO2 : Hid (FullB w2 w.heap.size v' (bs ++ (vn s.size ++ bytesOf s)) A fs) := by
    show FullB _ _ _ _ _ _
    simpa only [List.append_assoc] using ho2
  have HB2 : Hid (Below w.heap.size w w2) := HB.out.grown hg2 HB.out.size (fun k hk => by injection hk with hk; omega)
  clear ho2 hg2
  go_wp2_with fail
  go_ret2
  exact ⟨v', A, fs, rfl, HO2.out, HB2.out⟩

end Go.Proofs.YtebdjahcahgafaaDoor

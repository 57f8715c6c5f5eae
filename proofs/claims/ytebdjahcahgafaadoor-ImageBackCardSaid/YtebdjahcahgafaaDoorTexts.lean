/- Contracts of ReadText and Text. -/
import Derived.Test.YtebdjahcahgafaaDoorReads
import Derived.Lib.AppendStr
import Derived.Deep.DeepAppendWide
namespace Go.Proofs.YtebdjahcahgafaaDoor
open Go.RowKit

/-- 'b[p:q]', as an equation. -/
theorem SlB.sub_ {w : World} {A : Option Addr} {n c : Nat} {bs : List Nat} (h : SlB w (.slice A n c) bs) (p m : Nat) (x y : Int) (hx : x = (p : Int)) (hy : y = ((p + m : Nat) : Int)) (hk : p + m ≤ n) :
    ∃ B d, (∀ w', (Instr.sliceAt 30 (.slice A n c) (some (.int .i64 x)) (some (.int .i64 y)) none).run Tryd.prog w' = .ok (.slice B m d) w') ∧ SlB w (.slice B m d) ((bs.drop p).take m) := by
  have hd := h.drop (k := p) (by omega) (n - p) rfl
  have hcap : n ≤ c := by
    obtain ⟨_, _, e, h1, _⟩ := h
    injection e with e1 e2 e3
    omega
  refine ⟨_, _, fun w' => ?_, hd.take (k := m) (by omega)⟩
  subst hx hy
  rw [run_sliceAt_slice w' 30 _ _ _ _ (by rw [elem22]; exact Tryd.underlying30), run_slice_lh w' 30 A n c (by rw [elem22]; exact Tryd.underlying30) .i64 .i64 (p : Int) ((p + m : Nat) : Int) (by omega) (by omega) (by omega), elem22, size_u8]
  simp [Result.andThen, sliced]
  omega

theorem rdAns_end {bs : List Nat} {at_ : Int} {most z p : Nat} (hby : ∀ x ∈ bs, x < 256) (h : rdAns bs at_ most = .ok (z, p)) : p ≤ bs.length := by
  unfold rdAns at h
  split at h
  · cases h
  · rename_i hn
    cases hr : rd most 0 0 (bs.drop at_.toNat) with
    | error e => rw [hr] at h; cases h
    | ok q =>
      obtain ⟨z', c⟩ := q
      rw [hr] at h
      injection h with h
      injection h with h1 h2
      have := (rd_back (fun x hx => hby x (List.mem_of_mem_drop hx)) hr).2.2.1
      rw [List.length_drop] at this
      omega

/-- What ReadText says. -/
def txAns (bs : List Nat) (at_ : Int) : Except Nat (List Nat × Nat) :=
  match rdAns bs at_ 9 with
  | .error e => .error e
  | .ok (n, p) => if 65536 < n then .error 2 else if bs.length < p + n then .error 3 else .ok ((bs.drop p).take n, p + n)
def txVal : Except Nat (List Nat × Nat) → Value
  | .ok (l, c) => .tuple #[.string (strOf l), .int .i64 (c : Int), .int .i64 0]
  | .error e => .tuple #[.string ⟨#[]⟩, .int .i64 0, .int .i64 (e : Int)]

set_option maxHeartbeats 1000000 in
set_option maxRecDepth 100000 in
theorem readtext_c (v : Value) (bs : List Nat) (at_ : Int) (w : World) (hv : SlB w v bs) (hn : bs.length ≤ 281474976710656) (h1 : -9223372036854775808 ≤ at_) (h2 : at_ < 9223372036854775808) (hby : ∀ x ∈ bs, x < 256) :
    Calls Tryd.prog 102 #[v, .int .i64 at_] w fun e w' => e = .returned (txVal (txAns bs at_)) ∧ Below w.heap.size w w' := by
  have HV := Lib.hid hv
  have HBy := Lib.hid hby
  obtain ⟨A, c, rfl, hc, hA, hr0⟩ := hv
  clear hby hr0
  go_enter Tryd.func102, Tryd.ntmps102
  go_wp2_with fail
  refine (readnum_c _ bs at_ w HV.out hn h1 h2 HBy.out).mono ?_
  rintro e w1 ⟨rfl, hb⟩
  have HB := Lib.hid hb
  clear hb
  cases hr : rdAns bs at_ 9 with
  | error e =>
    have HA : Hid (txAns bs at_ = .error e) := by unfold txAns; rw [hr]; exact rfl
    have he : e = 20 ∨ e = 3 ∨ e = 1 := by
      unfold rdAns at hr
      split at hr
      · injection hr with hr; omega
      · split at hr
        · cases hr
        · rename_i e' hh
          injection hr with hr
          have := rd_errs _ _ _ _ _ hh
          omega
    have hne : ((e : Int) != 0) = true := by rw [bne_iff_ne]; omega
    clear hr he
    simp only [numVal]
    go_wp2_with fail
    go_ret3
    exact ⟨by rw [HA.out]; rfl, HB.out⟩
  | ok q =>
    obtain ⟨n, p⟩ := q
    have hz := (rdAns_lt (by omega) hr).2 (by omega)
    have hp := rdAns_end HBy.out hr
    simp only [numVal]
    by_cases hl : 65536 < n
    · have HA : Hid (txAns bs at_ = .error 2) := by unfold txAns; rw [hr]; show (if 65536 < n then _ else _) = _; rw [if_pos hl]
      have hd : decide (65536 < (n : Int)) = true := by simp; omega
      clear hr
      go_wp2_with fail
      go_ret3
      exact ⟨by rw [HA.out]; rfl, HB.out⟩
    · have hd : decide (65536 < (n : Int)) = false := by simp; omega
      by_cases he : bs.length < p + n
      · have HA : Hid (txAns bs at_ = .error 3) := by unfold txAns; rw [hr]; show (if 65536 < n then _ else _) = _; rw [if_neg hl, if_pos he]
        have hd2 : decide ((bs.length : Int) - (p : Int) < (n : Int)) = true := by simp; omega
        clear hr
        go_wp2_with fail
        go_ret3
        exact ⟨by rw [HA.out]; rfl, HB.out⟩
      · have HA : Hid (txAns bs at_ = .ok ((bs.drop p).take n, p + n)) := by unfold txAns; rw [hr]; show (if 65536 < n then _ else _) = _; rw [if_neg hl, if_neg he]
        have hd2 : decide ((bs.length : Int) - (p : Int) < (n : Int)) = false := by simp; omega
        obtain ⟨B, d, hsub, hsl⟩ := (HV.out.below HB.out).sub_ p n (p : Int) ((p : Int) + (n : Int)) rfl (by omega) (by omega)
        have hcv := hsl.conv
        clear hr hsl
        go_wp2_with fail
        go_ret3
        exact ⟨by rw [HA.out]; simp only [txVal]; rfl, HB.out⟩

/-- A text's bytes. -/
def bytesOf (s : ByteArray) : List Nat := s.data.toList.map UInt8.toNat
theorem bytesOf_length (s : ByteArray) : (bytesOf s).length = s.size := by simp [bytesOf]
theorem bytesOf_cells (s : ByteArray) : U8s (bytesOf s) = Lib.strCells s := by simp [bytesOf, U8s, Lib.strCells]
theorem bytesOf_lt (s : ByteArray) : ∀ x ∈ bytesOf s, x < 256 := by
  intro x hx
  simp only [bytesOf, List.mem_map] at hx
  obtain ⟨b, _, rfl⟩ := hx
  exact b.toNat_lt
theorem strOf_bytesOf (s : ByteArray) : strOf (bytesOf s) = s := by
  unfold strOf bytesOf
  rw [List.map_map]
  have : (UInt8.ofNat ∘ UInt8.toNat) = id := by funext b; simp
  rw [this, List.map_id]
theorem bytesOf_strOf {l : List Nat} (h : ∀ x ∈ l, x < 256) : bytesOf (strOf l) = l := by
  unfold strOf bytesOf
  simp only [List.map_map]
  refine (List.map_congr_left fun x hx => ?_).trans (List.map_id l)
  have := h x hx
  simp [Function.comp]
  omega

/-- Appending a text, whether there is room or not. -/
theorem run_text (w : World) (base : Nat) (ty : TypeId) (v : Value) (xs : List Nat) (hown : OwnB w base v xs) (s : ByteArray) (hfit : xs.length + s.size ≤ 140737488500000) (hs : s.size ≤ 140737488355328) (hbase : base ≤ w.heap.size) :
    ∃ v' w', (Builtin.append_ #[30, 9] ty #[v, .string s]).run Tryd.prog w = .ok v' w' ∧ OwnB w' base v' (xs ++ bytesOf s) ∧ w.grownBy w' v.ownBlock := by
  obtain ⟨i, hi, hz, hsz, hby⟩ := info_u8
  have conv : ∀ {w' : World} {v' : Value}, w'.ownsRow base 5 1 v' (xs.length + s.size) (U8s xs ++ Lib.strCells s) → OwnB w' base v' (xs ++ bytesOf s) := by
    intro w' v' h
    unfold OwnB
    rw [U8s_append, bytesOf_cells, List.length_append, bytesOf_length]
    exact h
  rcases Nat.lt_or_ge 140737488355328 (xs.length + s.size) with hbig | hsmall
  · have hlen : (U8s xs ++ Lib.strCells s).length = (xs.length + s.size) * 1 := by rw [List.length_append, U8s_length, Lib.strCells_length, Nat.mul_one]
    have h2 := hown
    unfold OwnB at h2
    rcases h2.2 with ⟨_, h0⟩ | ⟨g, cap, cur, rfl, hbg, hg, hnc, hcm, hcs, htake⟩
    · omega
    · by_cases hroom : xs.length + s.size ≤ cap
      · have hcs' : cur.size = cap := by simpa using hcs
        have hr := Lib.run_append_room_string (P := Tryd.prog) w 30 9 ty 5 i Tryd.underlying30 Tryd.underlying9 hi hsz g xs.length cap cur hg s hroom (by omega)
        refine ⟨_, _, hr, conv ⟨hlen, .inr ⟨g, cap, _, rfl, hbg, setRow_heap w g cur _ 5 _ hg, hroom, hcm, ?_, ?_⟩⟩, ⟨rfl, rfl, rfl, by simp, fun k _ hk => setRow_other w g k _ (fun e => hk (by simp [Value.ownBlock, e]))⟩⟩
        · simp only [List.size_toArray, List.length_append, List.length_take, List.length_drop, Array.length_toList, Lib.strCells_length]
          omega
        · have ht' : cur.toList.take xs.length = U8s xs := by simpa using htake
          rw [ht', ← hlen]
          exact List.take_left
      · have holds : ∀ j u, (U8s xs)[j]? = some u → w.cell? ((⟨g, 0, none⟩ : Addr).add j) = some u := h2.cells (g := g) rfl
        have hr := Lib.run_append_grow_string (P := Tryd.prog) w 30 9 ty 5 i (.int .u8 0) Tryd.underlying30 Tryd.underlying9 hi hz ⟨g, 0, none⟩ xs.length cap (U8s xs) (by rw [hsz, U8s_length]; omega) holds s (by omega) (by omega) (by rw [hby]; exact growslice_fits_wide (by omega) (by omega))
        have hge := grownCap_ge w (xs.length + s.size) cap 5
        have hcm2 : grownCap w (xs.length + s.size) cap 5 ≤ maxLen := grownCap_le_maxLen w (xs.length + s.size) cap 5 (by unfold maxLen; omega)
        refine ⟨_, _, hr, conv ⟨hlen, .inr ⟨w.heap.size, _, _, rfl, hbase, heap_alloc_new w.drew _, hge, hcm2, ?_, ?_⟩⟩, ⟨rfl, rfl, rfl, by simp, fun k hk _ => Below.heap_alloc w.drew _ k hk⟩⟩
        · have hz1 : (Value.int IntKind.u8 0).cells.size = 1 := rfl
          simp only [Array.size_append, List.size_toArray, size_zeroCells, hz1, U8s_length, Lib.strCells_length]
          omega
        · simp only [Array.toList_append, List.append_assoc]
          rw [← List.append_assoc, ← hlen]
          exact List.take_left
  · obtain ⟨v', w', hr, h2, h3, _⟩ := Lib.run_append_own_string (P := Tryd.prog) w base 30 9 ty 5 i Tryd.underlying30 Tryd.underlying9 hi hz hsz hby v xs.length (U8s xs) hown s (by unfold maxLen; omega) hsmall hbase
    exact ⟨v', w', hr, conv h2, h3⟩

theorem wpList_text {w : World} {ops : Array Oper} {rest : List Oper} {o : Oper} {a : Act} {Q : Exit → Act → World → Prop} (hgd : o.guard = none) (sl x : Operand)
    (ho : o.op = .call { callee := .builtin .append, args := #[sl, x], argTypes := #[30, 9] }) (base : Nat) (v : Value) (xs : List Nat) (hsl : a.eval sl = v) (hown : OwnB w base v xs) (s : ByteArray) (hx : a.eval x = .string s)
    (hfit : xs.length + s.size ≤ 140737488500000) (hs : s.size ≤ 140737488355328) (hbase : base ≤ w.heap.size)
    (h : ∀ v' w', OwnB w' base v' (xs ++ bytesOf s) → w.grownBy w' v.ownBlock → wpList Tryd.prog ops Q rest (a.put o.dst v') w') : wpList Tryd.prog ops Q (o :: rest) a w := by
  refine wpList_plain hgd fun K hK => ?_
  obtain ⟨v', w', hr, h2, h3⟩ := run_text w base o.type v xs hown s hfit hs hbase
  unfold Oper.wp execOp
  simp only [ho, resolve, invoke, builtin, Sem.run_bind, Sem.run_pure, Result.andThen_ok, List.map_toArray, List.map_cons, List.map_nil, hsl, hx, hr]
  exact hK _ _ (h v' w' h2 h3)

set_option maxHeartbeats 1000000 in
set_option maxRecDepth 100000 in
theorem text_long (v : Value) (s : ByteArray) (w : World) (h : 65536 < s.size) :
    Calls Tryd.prog 95 #[v, .string s] w fun e w' => e = .returned (.tuple #[.slice none 0 0, .int .i64 2]) ∧ w' = w := by
  have hd : decide (65536 < (s.size : Int)) = true := by simp; omega
  go_enter Tryd.func95, Tryd.ntmps95
  go_wp2_with fail
  go_ret2
  exact ⟨rfl, rfl⟩

set_option maxHeartbeats 1000000 in
set_option maxRecDepth 100000 in
theorem text_c (v : Value) (bs : List Nat) (s : ByteArray) (w : World) (hv : SlB w v bs) (hl : bs.length ≤ 140737488355328) (hs : s.size ≤ 65536) :
    Calls Tryd.prog 95 #[v, .string s] w fun e w' => ∃ v', e = .returned (.tuple #[v', .int .i64 0]) ∧ OwnB w' w.heap.size v' (bs ++ (vn s.size ++ bytesOf s)) ∧ Below w.heap.size w w' := by
  have HV := Lib.hid hv
  have hd : decide (65536 < (s.size : Int)) = false := by simp; omega
  clear hv
  go_enter Tryd.func95, Tryd.ntmps95
  go_wp2_with fail
  refine (put_c v bs s.size w HV.out hl (by omega)).mono ?_
  rintro e w1 ⟨g, n, rfl, hn, hg, hblk, hb⟩
  have hvl : (vn s.size).length ≤ 10 := vn_len10 (by omega)
  have hlen : (bs ++ vn s.size).length ≤ 140737488355338 := by rw [List.length_append]; omega
  have HO := Lib.hid (OwnB.blk (base := w.heap.size) hblk hg hn (by unfold maxLen; omega))
  have HB := Lib.hid hb
  clear hblk hb hn
  go_wp2_with (at_builtin; refine wpList_text rfl (.tmp 13) (.tmp 14) rfl w.heap.size _ (bs ++ vn s.size) rfl HO.out s rfl (by omega) (by omega) HB.out.size ?_)
  intro v' w2 ho2 hg2
  have HO2 := Lib.hid ho2
  have HB2 : Hid (Below w.heap.size w w2) := HB.out.grown hg2 HB.out.size (fun k hk => by simp [Value.ownBlock] at hk; omega)
  clear ho2 hg2
  go_wp2_with fail
  go_ret2
  exact ⟨v', rfl, HO2.out, HB2.out⟩

end Go.Proofs.YtebdjahcahgafaaDoor

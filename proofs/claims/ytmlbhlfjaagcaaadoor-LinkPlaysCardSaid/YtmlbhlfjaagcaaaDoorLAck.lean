/- The contract of Acked. -/
import Derived.Test.YtmlbhlfjaagcaaaDoorLRec
import Derived.Maps.AppendAt
namespace Go.Proofs.YtmlbhlfjaagcaaaDoor
open Go.RowKit

theorem infoI64 : (Tryd.prog.info? 3).map (fun i => (i.zero, i.size, i.bytes)) = some (some (.int .i64 0), 1, 8) := by kernel_rfl
def I64s (bs : List Nat) : List Value := bs.map fun b : Nat => Value.int .i64 (b : Int)
theorem I64s_append (a b : List Nat) : I64s (a ++ b) = I64s a ++ I64s b := by simp [I64s]
theorem I64s_length (a : List Nat) : (I64s a).length = a.length := by simp [I64s]

/-- The number of the message that was sent at place i of those remembered. -/
def LS.num (s : LS) (i : Nat) : Nat := aheadN s.next (s.sent - i)
def ackTo (s : LS) (k : Nat) : List Nat := ((List.range k).map s.num).filter fun n => decide (n ∈ s.ak)
/-- Those that were acked. -/
def LS.acked (s : LS) : List Nat := ackTo s s.sent
theorem ackTo_len (s : LS) (k : Nat) : (ackTo s k).length ≤ k := by
  unfold ackTo
  exact Nat.le_trans (List.length_filter_le _ _) (by simp)
theorem ackTo_succ (s : LS) (k : Nat) : ackTo s (k + 1) = ackTo s k ++ if s.num k ∈ s.ak then [s.num k] else [] := by
  unfold ackTo
  rw [List.range_succ, List.map_append, List.filter_append]
  congr 1
  simp [List.filter_cons]

theorem mget_ak (n : Nat) (l : List Nat) : mget (akM l) (n : Int) = if n ∈ l then some (.agg #[]) else none := by
  unfold mget; rw [mfind_ak]; split <;> rfl
theorem look_ak {w : World} {ga : Nat} {l : List Nat} (h : MapI w ga .u16 (akM l)) (n : Nat) : (Instr.lookup 58 (.map (some ga)) (.int .u16 (n : Int)) true).run Tryd.prog w = .ok (.tuple #[.agg #[], .bool (decide (n ∈ l))]) w := by
  rw [h.look und58 und57 (zero75 w) (n : Int), mget_ak]
  by_cases h : n ∈ l <;> simp [h]

theorem cell_one_at (W : World) (x : Value) (t : TypeId) (n : Nat) (hn : n = W.heap.size) : ∀ j u, [x][j]? = some u → (W.alloc (.cells #[x] t)).cell? ((⟨n, 0, none⟩ : Addr).add j) = some u := by
  subst hn; exact cell_one_new W x t

/-- In the midst of Acked. -/
structure AckSt (w : World) (s : LS) (k : Nat) (v : Value) (wr : World) : Prop where
  own : wr.ownsRow w.heap.size 3 1 v (ackTo s k).length (I64s (ackTo s k))
  below : Below w.heap.size w wr

def AckedTo (w : World) (l : List Nat) (e : Ending) (w' : World) : Prop :=
  ∃ v, e = .returned v ∧ w'.ownsRow w.heap.size 3 1 v l.length (I64s l) ∧ Below w.heap.size w w'

set_option maxHeartbeats 2000000 in
set_option maxRecDepth 100000 in
theorem acked_c {g ga gp : Nat} {U : Nat → Prop} {s : LS} {w : World} (h : LinkAt w g ga gp U s) (hs : s.ok) :
    Calls Tryd.prog 19 #[.pointer (some ⟨g, 0, none⟩)] w (AckedTo w s.acked) := by
  obtain ⟨i0, hi, hz0, hz1, hz2⟩ := info_parts infoI64
  have c1 : w.cell? ⟨g, 1, none⟩ = some (.int .i64 (s.sent : Int)) := h.blk.cell 1
  have H := Lib.hid h
  have hsent := hs.sent
  have S0 : AckSt w s 0 (.slice none 0 0) w := ⟨World.ownsRow_nil _ _ _ _, Below.refl _ _⟩
  unfold LS.acked
  obtain ⟨st, hst⟩ : ∃ st, st = s.sent := ⟨_, rfl⟩
  rw [← hst] at c1 hsent
  rw [← hst]
  have HST := Lib.hid hst
  clear hst h hs
  go_enter Tryd.func19, Tryd.ntmps19
  go_wp2_with fail
  go_loopg [3, 12] st (fun gg s3 s12 wr => ∃ k : Nat, k + gg = st ∧ s12 = .int .i64 (k : Int) ∧ AckSt w s k s3 wr)
  case atStart => exact ⟨0, by omega, rfl, S0⟩
  case round =>
    obtain ⟨k, hk, rfl, S⟩ := hrel
    have HSt := Lib.hid S
    clear S c1
    cases gk with
    | zero =>
      obtain rfl : k = st := by omega
      have hd : decide (k < k) = false := by simp
      go_wp2_with fail
      go_ret
      exact ⟨_, rfl, HSt.out.own, HSt.out.below⟩
    | succ gk =>
      have hd : decide (k < st) = true := by simp; omega
      have HL := Lib.hid (H.out.below HSt.out.below)
      have c0 : wr.cell? ⟨g, 0, none⟩ = some (.int .u16 (s.next : Int)) := HL.out.blk.cell 0
      have c1 : wr.cell? ⟨g, 1, none⟩ = some (.int .i64 (st : Int)) := by rw [HST.out]; exact HL.out.blk.cell 1
      have c2 : wr.cell? ⟨g, 2, none⟩ = some (.map (some ga)) := HL.out.blk.cell 2
      have e0 : IntKind.i64.wrap ((st : Int) - (k : Int)) = (st : Int) - (k : Int) := IntWalk.i64_in _ (by omega)
      have e1 : IntKind.u16.wrap ((st : Int) - (k : Int)) = (st : Int) - (k : Int) := by rw [u16_wrap]; omega
      obtain ⟨n, hn⟩ : ∃ n, n = s.num k := ⟨_, rfl⟩
      have hnl : n < 65536 := by rw [hn]; exact ahead_lt _ _
      have e2 : IntKind.u16.wrap ((s.next : Int) - ((st : Int) - (k : Int))) = (n : Int) := by
        rw [hn, u16_wrap]; unfold LS.num aheadN; rw [← HST.out]; omega
      have hsucc := ackTo_succ s k
      rw [← hn] at hsucc
      have hlen := ackTo_len s k
      have HSU := Lib.hid hsucc
      have e5 : IntKind.i64.wrap (n : Int) = (n : Int) := IntWalk.i64_in _ (by omega)
      clear hsucc hn hnl
      go_wp2_with fail
      go_quiet (fail)
      have hlk := look_ak (HL.out.am.fr (S := fun _ => False) (Fr.drewN wr nq) (fun h => h)) n
      clear e0 e1 e2
      by_cases hm : n ∈ s.ak
      · rw [decide_eq_true hm] at hlk
        rw [if_pos hm] at HSU
        clear hm
        go_wp2_with (at_builtin; refine wpList_append_own_at _ rfl (.tmp 37) (.tmp 40) 43 rfl w.heap.size 3 i0 (.int .i64 0) 1 8 Tryd.underlying43 hi hz0 hz1 hz2 rfl (by decide) _ _ _ rfl ((ownsRow_fr (S := fun _ => False) HSt.out.own (Fr.drewN wr nq) (fun _ _ h => h)).alloc _ |>.alloc _) ⟨wr.heap.size + 1, 0, none⟩ 1 1 [.int .i64 (n : Int)] rfl rfl (cell_one_at _ _ _ _ (by simp)) ?c2 ?c3 ?c4 ?c5 ?_)
        case c2 => intro u hu; simp at hu; subst hu; rfl
        case c3 => unfold maxLen; omega
        case c4 => omega
        case c5 => have := HSt.out.below.size; simp; omega
        intro v9 w9 hown9 hgrow9 _ _
        have S9 : Hid (AckSt w s (k + 1) v9 w9) := by
          refine ⟨?_, ?_⟩
          · rw [HSU.out, I64s_append, List.length_append]; exact hown9
          · exact below_kept ((below_draw HSt.out.below nq).alloc HSt.out.below.size _) (by have := HSt.out.below.size; simp; omega) hgrow9 (fun q hq => (HSt.out.own.lt q hq).1)
        clear hown9 hgrow9 HSt HSU
        go_wp2_with fail
        go_roundg gk
        case measure => omega
        case rel => exact ⟨k + 1, by omega, by go_num, S9.out⟩
      · rw [decide_eq_false hm] at hlk
        rw [if_neg hm, List.append_nil] at HSU
        clear hm
        have S9 : Hid (∀ o, AckSt w s (k + 1) u3 ((wr.drewN nq).alloc o)) := fun o => by
          refine ⟨?_, (below_draw HSt.out.below nq).alloc HSt.out.below.size _⟩
          rw [HSU.out]
          exact (ownsRow_fr (S := fun _ => False) HSt.out.own (Fr.drewN wr nq) (fun _ _ h => h)).alloc _
        clear HSt HSU
        go_wp2_with fail
        go_roundg gk
        case measure => omega
        case rel => exact ⟨k + 1, by omega, by go_num, S9.out _⟩

end Go.Proofs.YtmlbhlfjaagcaaaDoor

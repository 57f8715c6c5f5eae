/- The contract of joined: two rows of bytes in new memory. -/
import Derived.Test.YtmlbhlfjaagcaaaDoorSl
import Derived.OwnWalk
namespace Go.Proofs.YtmlbhlfjaagcaaaDoor
open Go.RowKit

/-- Bytes in a new block of just their size. -/
def Fresh (w : World) (bs : List Nat) (e : Ending) (w' : World) : Prop :=
  ∃ g n, e = .returned (.slice (some ⟨g, 0, none⟩) n n) ∧ n = bs.length ∧ w.heap.size ≤ g ∧ Blk w' g 5 (U8s bs).toArray ∧ Below w.heap.size w w'

theorem info_u8 : ∃ i, Tryd.prog.info? 5 = some i ∧ i.zero = some (.int .u8 0) ∧ i.size = 1 ∧ i.bytes = 1 := by
  obtain ⟨i, hi, hzz⟩ := Option.map_eq_some_iff.1 infoU8
  simp only [Prod.mk.injEq] at hzz
  exact ⟨i, hi, hzz.1, hzz.2.1, hzz.2.2⟩

theorem make_run (n : Nat) (hn : n ≤ 281474976710656) (w : World) : (Instr.makeSlice 36 (.int .i64 0) (.int .i64 (n : Int))).run Tryd.prog w = .ok (.slice (some ⟨w.heap.size, 0, none⟩) 0 n) (w.alloc (.cells (madeCells #[.int .u8 0] n) 5)) := by
  obtain ⟨i, hi, hz, hs, hb⟩ := info_u8
  have h := run_make (P := Tryd.prog) w 36 5 i (.int .u8 0) Tryd.underlying36 hi hz .i64 .i64 0 (n : Int) (by omega) (by omega) (by rw [hb]; omega) (by omega)
  rw [hs, Nat.mul_one] at h
  rw [h]
  congr 2

theorem make_own (n : Nat) (hn : n ≤ 281474976710656) (w : World) : (w.alloc (.cells (madeCells #[.int .u8 0] n) 5)).ownsRow w.heap.size 5 1 (.slice (some ⟨w.heap.size, 0, none⟩) 0 n) 0 [] :=
  ⟨rfl, .inr ⟨w.heap.size, n, _, rfl, Nat.le_refl _, made_blk w n, by omega, by unfold maxLen; omega, by simp, by simp⟩⟩

set_option maxHeartbeats 1000000 in
set_option maxRecDepth 100000 in
theorem joined_c (v u : Value) (bs cs : List Nat) (w : World) (hv : SlB w v bs) (hu : SlB w u cs) (hn : bs.length + cs.length ≤ 281474976710656) :
    Calls Tryd.prog 52 #[v, u] w (Fresh w (bs ++ cs)) := by
  obtain ⟨A, c, rfl, hc, hA, hr⟩ := hv
  obtain ⟨B, d, rfl, hd, hB, hs⟩ := hu
  obtain ⟨i, hi, hz, hs1, hb1⟩ := info_u8
  have hmk := make_run (bs.length + cs.length) hn
  rw [show (((bs.length + cs.length : Nat)) : Int) = (bs.length : Int) + (cs.length : Int) by omega] at hmk
  have hown := Lib.hid (make_own (bs.length + cs.length) hn w)
  have HR := Lib.hid hr
  have HS := Lib.hid hs
  have H1 := Lib.hid (U8s_one bs)
  have H2 := Lib.hid (U8s_one cs)
  clear hr hs
  go_enter Tryd.func52, Tryd.ntmps52
  go_wp2_with (at_builtin; refine wpList_append_fits_any _ rfl (.tmp 12) (.tmp 13) 36 rfl w.heap.size 5 i 1 Tryd.underlying36 hi hs1 w.heap.size 0 (bs.length + cs.length) [] rfl hown.out A bs.length c (U8s bs) rfl ?a1 ?a2 ?a3 H1.out ?a4 ?_)
  case a1 => simp [U8s]
  case a2 => intro e; have := hA e; omega
  case a3 =>
    intro ad e j x hj
    have h0 : 0 < bs.length := by
      have := (List.getElem?_eq_some_iff.1 hj).1
      rw [U8s_length] at this; omega
    obtain ⟨ad', e', hb, hcell⟩ := HR.out.2 h0
    rw [e] at e'
    obtain rfl := Option.some.inj e'
    exact (World.cell?_alloc_lt w _ _ (by rw [block_of_add]; exact hb)).trans (hcell j x hj)
  case a4 => omega
  intro w1 hown1 hgr1
  have HO1 := Lib.hid hown1
  have HB1 : Hid (Below w.heap.size w w1) := ((Below.refl w.heap.size w).alloc (Nat.le_refl _) _).grown hgr1 (by simp) (fun k hk => by injection hk with hk; omega)
  clear hown hgr1 hown1
  go_wp2_with (at_builtin; refine wpList_append_fits_any _ rfl (.tmp 14) (.tmp 15) 36 rfl w.heap.size 5 i 1 Tryd.underlying36 hi hs1 w.heap.size bs.length (bs.length + cs.length) _ rfl HO1.out B cs.length d (U8s cs) rfl ?b1 ?b2 ?b3 H2.out ?b4 ?_)
  case b1 => simp [U8s]
  case b2 => intro e; have := hB e; omega
  case b3 =>
    intro ad e j x hj
    have h0 : 0 < cs.length := by
      have := (List.getElem?_eq_some_iff.1 hj).1
      rw [U8s_length] at this; omega
    obtain ⟨ad', e', hb, hcell⟩ := HS.out.2 h0
    rw [e] at e'
    obtain rfl := Option.some.inj e'
    exact (HB1.out.cell (by rw [block_of_add]; exact hb)).trans (hcell j x hj)
  case b4 => omega
  intro w2 hown2 hgr2
  have HO2 := Lib.hid hown2
  have HB2 : Hid (Below w.heap.size w w2) := HB1.out.grown hgr2 (HB1.out.size) (fun k hk => by injection hk with hk; omega)
  clear hgr2 hown2
  go_wp2_with fail
  go_ret
  refine ⟨w.heap.size, _, rfl, by simp, Nat.le_refl _, ?_, HB2.out⟩
  rcases HO2.out.2 with ⟨e, _⟩ | ⟨g, cap, cur, e, _, hg, h1, h2, h3, h4⟩
  · cases e
  · injection e with e1 e2 e3
    injection e1 with e1
    injection e1 with e1
    subst e1 e3
    unfold Blk
    rw [hg]
    congr 2
    have h5 : cur.toList = U8s bs ++ U8s cs := by
      rw [List.take_of_length_le (by simp; omega)] at h4
      simpa using h4
    rw [U8s_append, ← h5]

end Go.Proofs.YtmlbhlfjaagcaaaDoor

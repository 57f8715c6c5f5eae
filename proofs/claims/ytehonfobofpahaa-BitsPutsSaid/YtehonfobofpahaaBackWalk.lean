/- The walk of BitsBack. -/
import Derived.Test.YtehonfobofpahaaAwake
import Derived.Test.YtehonfobofpahaaArgs
import Derived.Test.YtehonfobofpahaaBack
import Derived.StillTailTactics
namespace Go.Proofs.Ytehonfobofpahaa
open Go.RowKit

theorem Try.info3 : (Try.prog.info? 3).map (fun i => (i.zero, i.size, i.bytes)) = some (some (.int .i64 0), 1, 8) := by kernel_rfl

theorem own_ne_blk {w : World} {base g : Nat} {e t : TypeId} {size n : Nat} {v : Value} {xs : List Value} {cs : Array Value} (h : w.ownsRow base e size v n xs) (hg : Blk w g t cs) (hne : e ≠ t) : v.ownBlock ≠ some g := by
  rcases h.2 with ⟨rfl, _⟩ | ⟨g', cap, cur, rfl, _, hh, _⟩
  · simp [Value.ownBlock]
  · intro he
    have : g' = g := by simpa [Value.ownBlock] using he
    subst this
    exact Blk.ne_ (t := e) hh hg hne rfl

theorem own_ne_own {w : World} {base base' : Nat} {e e' : TypeId} {size n size' n' : Nat} {v v' : Value} {xs xs' : List Value} (h : w.ownsRow base e size v n xs) (h' : w.ownsRow base' e' size' v' n' xs') (hne : e ≠ e') (k : Nat) (hk : v'.ownBlock = some k) : v.ownBlock ≠ some k := by
  rcases h'.2 with ⟨rfl, _⟩ | ⟨g', cap, cur, rfl, _, hh, _⟩
  · simp [Value.ownBlock] at hk
  · have : g' = k := by simpa [Value.ownBlock] using hk
    subst this
    exact own_ne_blk h (cs := cur) hh hne

/-- What was put, as cells. -/
def Xs (ps : List (Nat × Nat)) : List Value := Ints (ps.map fun a => (a.1 : Int))
def Ss (ps : List (Nat × Nat)) : List Value := Ints (ps.map fun a => (a.2 : Int))

/-- The writer holds the numbers qs; the two slices tell of the numbers ps and rs. -/
structure BackSt (w : World) (p : Nat) (v vp vi : Value) (n : Nat) (bs : List Nat) (qs ps rs : List (Nat × Nat)) (wr : World) : Prop where
  st : Wr wr p v n bs
  holds : HoldsPs bs n qs
  le : n ≤ 1048576
  small : ∀ a ∈ qs, a.2 ≤ 63
  put : wr.ownsRow w.heap.size 3 1 vp ps.length (Xs ps)
  inn : wr.ownsRow w.heap.size 3 1 vi rs.length (Ss rs)
  apart : ∀ k, vp.ownBlock = some k → vi.ownBlock ≠ some k
  below : Below w.heap.size w wr

theorem BackSt.putted {w wr w3 : World} {p n x s : Nat} {v v' vp vi : Value} {bs : List Nat} {qs ps rs : List (Nat × Nat)} (S : BackSt w p v vp vi n bs qs ps rs wr) (hp : w.heap.size ≤ p) (hs : s ≤ 63) (hx : x < 2 ^ s) (hle : n + s ≤ 1048576)
    (hw : Wr w3 p v' (n + s) (putN bs n x s)) (hf : Fr (Mine p v) wr w3) : BackSt w p v' vp vi (n + s) (putN bs n x s) (qs ++ [(x, s)]) ps rs w3 := by
  refine ⟨hw, S.holds.snoc hx, hle, fun a ha => ?_, ownsRow_fr S.put hf ?_, ownsRow_fr S.inn hf ?_, S.apart, below_put S.below S.st hf hp⟩
  · rcases List.mem_append.1 ha with h | h
    · exact S.small a h
    · simp at h; subst h; exact hs
  · rintro k hk (rfl | hm)
    · exact own_ne_blk S.put S.st.blk (by decide) hk
    · exact own_ne_own S.put S.st.own (by decide) k hm hk
  · rintro k hk (rfl | hm)
    · exact own_ne_blk S.inn S.st.blk (by decide) hk
    · exact own_ne_own S.inn S.st.own (by decide) k hm hk

theorem own_kept {wr w4 : World} {base : Nat} {e : TypeId} {n : Nat} {v vp : Value} {xs : List Value} {o : Obj} (h : wr.ownsRow base e 1 v n xs) (hg : (wr.alloc o).grownBy w4 vp.ownBlock) (hne : ∀ k, v.ownBlock = some k → vp.ownBlock ≠ some k) : w4.ownsRow base e 1 v n xs :=
  ownsRow_fr (S := fun k => vp.ownBlock = some k) h ((Fr.alloc wr o).trans (Fr.of_grown hg fun _ _ he => he) (fun _ _ h => h)) hne

theorem below_kept {w wr w4 : World} {B : Nat} {vp : Value} {o : Obj} (hb : Below B w wr) (hB : B ≤ wr.heap.size) (hg : (wr.alloc o).grownBy w4 vp.ownBlock) (hr : ∀ k, vp.ownBlock = some k → B ≤ k) : Below B w w4 :=
  (hb.alloc hB o).grown hg (by simp; omega) hr

theorem BackSt.one {w wr w4 : World} {p n : Nat} {v vp vp' vi : Value} {bs : List Nat} {qs ps rs : List (Nat × Nat)} {x : Nat × Nat} {o : Obj} (S : BackSt w p v vp vi n bs qs ps rs wr)
    (hown : w4.ownsRow w.heap.size 3 1 vp' (ps.length + 1) (Xs ps ++ [.int .i64 (x.1 : Int)])) (hg : (wr.alloc o).grownBy w4 vp.ownBlock) (hat : vp'.ownBlock = vp.ownBlock ∨ vp'.ownBlock = some (wr.heap.size + 1)) :
    BackSt w p v vp' vi n bs qs (ps ++ [x]) rs w4 := by
  refine ⟨⟨?_, own_kept S.st.own hg fun k hk h => own_ne_own S.put S.st.own (by decide) k hk h⟩, S.holds, S.le, S.small, ?_, own_kept S.inn hg fun k hk h => S.apart k h hk, ?_, below_kept S.below S.below.size hg fun k hk => (S.put.lt k hk).1⟩
  · exact (hg.block p (by have := S.st.blk.lt; simp; omega) (fun e => own_ne_blk S.put S.st.blk (by decide) e.symm)).trans (S.st.blk.alloc o)
  · have e1 : (ps ++ [x]).length = ps.length + 1 := by simp
    have e2 : Xs (ps ++ [x]) = Xs ps ++ [.int .i64 (x.1 : Int)] := by simp [Xs, Ints]
    rw [e1, e2]; exact hown
  · intro k hk hi
    rcases hat with h | h
    · exact S.apart k (h ▸ hk) hi
    · rw [h] at hk
      injection hk with hk
      have := S.inn.lt k hi
      omega

theorem BackSt.two {w wr w4 : World} {p n : Nat} {v vp vi vi' : Value} {bs : List Nat} {qs ps rs : List (Nat × Nat)} {x : Nat × Nat} {o : Obj} (S : BackSt w p v vp vi n bs qs ps rs wr)
    (hown : w4.ownsRow w.heap.size 3 1 vi' (rs.length + 1) (Ss rs ++ [.int .i64 (x.2 : Int)])) (hg : (wr.alloc o).grownBy w4 vi.ownBlock) (hat : vi'.ownBlock = vi.ownBlock ∨ vi'.ownBlock = some (wr.heap.size + 1)) :
    BackSt w p v vp vi' n bs qs ps (rs ++ [x]) w4 := by
  refine ⟨⟨?_, own_kept S.st.own hg fun k hk h => own_ne_own S.inn S.st.own (by decide) k hk h⟩, S.holds, S.le, S.small, own_kept S.put hg fun k hk h => S.apart k hk h, ?_, ?_, below_kept S.below S.below.size hg fun k hk => (S.inn.lt k hk).1⟩
  · exact (hg.block p (by have := S.st.blk.lt; simp; omega) (fun e => own_ne_blk S.inn S.st.blk (by decide) e.symm)).trans (S.st.blk.alloc o)
  · have e1 : (rs ++ [x]).length = rs.length + 1 := by simp
    have e2 : Ss (rs ++ [x]) = Ss rs ++ [.int .i64 (x.2 : Int)] := by simp [Ss, Ints]
    rw [e1, e2]; exact hown
  · intro k hk hi
    rcases hat with h | h
    · exact S.apart k hk (h ▸ hi)
    · rw [h] at hi
      injection hi with hi
      have := S.put.lt k hk
      omega

theorem own_slice {w : World} {base n : Nat} {e : TypeId} {v : Value} {xs : List Value} (h : w.ownsRow base e 1 v n xs) : ∃ A c, v = .slice A n c := by
  rcases h.2 with ⟨rfl, h0⟩ | ⟨g, cap, cur, rfl, _⟩
  · exact ⟨none, 0, by rw [h0]⟩
  · exact ⟨_, _, rfl⟩

/-- In the midst of the taking: j numbers have been taken. -/
structure TakenSt (w : World) (q g : Nat) (bs : List Nat) (ps : List (Nat × Nat)) (vp vi : Value) (j : Nat) (wx : World) : Prop where
  rd : Rd wx q g bs (total (ps.take j))
  put : wx.ownsRow w.heap.size 3 1 vp ps.length (Xs ps)
  inn : wx.ownsRow w.heap.size 3 1 vi ps.length (Ss ps)
  below : Below w.heap.size w wx

theorem TakenSt.next {w wx wy : World} {q g j : Nat} {bs : List Nat} {ps : List (Nat × Nat)} {vp vi : Value} (T : TakenSt w q g bs ps vp vi j wx) (hj : j < ps.length) (hq : w.heap.size ≤ q) (hr : Rd wy q g bs (total (ps.take j) + ps[j].2)) (hf : Fr (fun i => i = q) wx wy) :
    TakenSt w q g bs ps vp vi (j + 1) wy :=
  ⟨by rw [total_take_succ ps j hj]; exact hr, ownsRow_fr T.put hf (fun k hk e => own_ne_blk T.put T.rd.blk (by decide) (e ▸ hk)), ownsRow_fr T.inn hf (fun k hk e => own_ne_blk T.inn T.rd.blk (by decide) (e ▸ hk)), below_at T.below hf hq T.below.size⟩

theorem Xs_at (ps : List (Nat × Nat)) (j : Nat) (h : j < ps.length) : (Xs ps)[j]? = some (.int .i64 (ps[j].1 : Int)) := by simp [Xs, Ints, List.getElem?_eq_getElem h]
theorem Ss_at (ps : List (Nat × Nat)) (j : Nat) (h : j < ps.length) : (Ss ps)[j]? = some (.int .i64 (ps[j].2 : Int)) := by simp [Ss, Ints, List.getElem?_eq_getElem h]

theorem done_of {bs : List Nat} {n : Nat} {ps : List (Nat × Nat)} (h : HoldsPs bs n ps) : DoneB bs n := by
  have hl := h.row.len
  refine ⟨by omega, fun i hi => ?_⟩
  have hc := h.clean (8 * bs.length - 1 - i) (by omega)
  unfold bitAt at hc
  rw [show (8 * bs.length - 1 - i) / 8 = bs.length - 1 by omega, show 7 - (8 * bs.length - 1 - i) % 8 = i by omega] at hc
  exact hc

set_option maxHeartbeats 2000000 in
set_option maxRecDepth 100000 in
theorem back_walk (a0 a1 : Option Addr) (l0 c0 l1 c1 : Nat) (xs ys : List Int) (w : World) (h0 : Reads w w.heap.size a0 l0 (Ints xs)) (h1 : Reads w w.heap.size a1 l1 (Ints ys)) (hl0 : l0 * 8 ≤ 140737488351232) (hl1 : l1 * 8 ≤ 140737488351232) :
    Calls Try.prog 5 #[.slice a0 l0 c0, .slice a1 l1 c1] w fun e w' => e = .returned (.bool true) ∧ Below w.heap.size w w' := by
  obtain ⟨i0, hi, hz0, hz1, hz2⟩ := info_parts Try.info3
  have HR0 := Lib.hid h0
  have HR1 := Lib.hid h1
  clear h0 h1
  go_enter Try.func5, Try.ntmps5
  go_wp2_with fail
  refine (awake_c _).mono ?_
  rintro e wa ⟨rfl, hba⟩
  have BA := Lib.hid hba
  clear hba
  go_wp2_with fail
  refine (new_c _).mono ?_
  rintro e w1 ⟨rfl, rfl⟩
  have W0 := Lib.hid (Wr.new wa)
  have B0 := Lib.hid (BA.out.alloc BA.out.size (.cells #[.slice none 0 0, .int .i64 0] 51))
  have hp : w.heap.size ≤ wa.heap.size := BA.out.size
  generalize (wa.alloc (.cells #[.slice none 0 0, .int .i64 0] 51)) = w0 at W0 B0 ⊢
  generalize wa.heap.size = p at W0 hp ⊢
  clear BA
  have S0 : BackSt w p (.slice none 0 0) (.slice none 0 0) (.slice none 0 0) 0 [] [] [] [] w0 := ⟨W0.out, HoldsPs.nil, by omega, by simp, World.ownsRow_nil _ _ _ _, World.ownsRow_nil _ _ _ _, fun k hk => by simp [Value.ownBlock] at hk, B0.out⟩
  clear W0 B0
  go_wp2_with fail
  go_loopg [7, 8, 9, 10] (l0 + l1) (fun g s7 s8 s9 _ wr => ∃ (k n : Nat) (bs : List Nat) (v : Value) (ps : List (Nat × Nat)), k + g = l0 + l1 ∧ k ≤ l0 ∧ k ≤ l1 ∧ ps.length ≤ k ∧ s9 = .int .i64 (k : Int) ∧ BackSt w p v s7 s8 n bs ps ps ps wr)
  case atStart => exact ⟨0, 0, [], _, [], by omega, by omega, by omega, by simp, rfl, S0⟩
  case round =>
    obtain ⟨k, n, bs, v, ps, hkg, hk0, hk1, hps, rfl, S⟩ := hrel
    clear S0
    by_cases hlt : k < l0 ∧ k < l1
    · obtain ⟨hlt0, hlt1⟩ := hlt
      obtain ⟨b0, o0, e0, hb0, hc0⟩ := Ints_at HR0.out hlt0
      obtain ⟨b1, o1, e1, hb1, hc1⟩ := Ints_at HR1.out hlt1
      generalize xs.getD k 0 = x at hc0
      generalize ys.getD k 0 = y at hc1
      have d0 : wr.cell? ⟨b0, o0 + k, none⟩ = some (.int .i64 x) := (S.below.cell hb0).trans hc0
      have d1 : wr.cell? ⟨b1, o1 + k, none⟩ = some (.int .i64 y) := (S.below.cell hb1).trans hc1
      have Hc0 := Lib.hid hc0
      have Hc1 := Lib.hid hc1
      clear hc0 hc1
      subst e0 e1
      have i0' : (k : Int) < (l0 : Int) := by omega
      have i1' : (k : Int) < (l1 : Int) := by omega
      go_wp2_with fail
      go_still_tail 9, (by kernel_rfl)
      go_wp2_with fail
      have Sd : BackSt w p v u7 u8 n bs ps ps ps wr.drew := ⟨⟨S.st.blk, S.st.own⟩, S.holds, S.le, S.small, S.put, S.inn, S.apart, S.below.drew⟩
      generalize wr.drew = wq at Sd ⊢
      clear d0 d1 S
      refine (put_any p n v bs x y _ Sd.st Sd.holds.row Sd.le).mono ?_
      rintro e w3 (⟨_, rfl, rfl⟩ | ⟨a, sz, _, _, hs1, _, _, rfl, rfl⟩ | ⟨a, sz, rfl, rfl, hs1, hx, hle, v', rfl, hw, hf, _⟩)
      · go_wp2_with fail
        go_roundg (gk - 1)
        case measure => omega
        case rel => exact ⟨k + 1, n, bs, v, ps, by omega, by omega, by omega, by omega, rfl, Sd⟩
      · go_wp2_with fail
        go_roundg (gk - 1)
        case measure => omega
        case rel => exact ⟨k + 1, n, bs, v, ps, by omega, by omega, by omega, by omega, rfl, Sd⟩
      · have S3 := Sd.putted hp hs1 hx hle hw hf
        clear hw hf
        have d3 : w3.cell? ⟨b0, o0 + k, none⟩ = some (.int .i64 (a : Int)) := (S3.below.cell hb0).trans Hc0.out
        go_wp2_with (at_builtin; refine wpList_append_own_at _ rfl (.tmp 47) (.tmp 52) 22 rfl w.heap.size 3 i0 (.int .i64 0) 1 8 Try.underlying22 hi hz0 hz1 hz2 rfl (by decide) _ _ _ rfl (S3.put.alloc _) ⟨w3.heap.size, 0, none⟩ 1 1 [.int .i64 (a : Int)] rfl rfl (cell_one_new _ _ _) ?c2 ?c3 ?c4 ?c5 ?_)
        case c2 => intro u hu; simp at hu; subst hu; rfl
        case c3 => unfold maxLen; omega
        case c4 => omega
        case c5 => have := S3.below.size; simp; omega
        intro vp4 w4 hown4 hgrow4 _ hat4
        have S4 := S3.one (x := (a, sz)) hown4 hgrow4 hat4
        clear hown4 hgrow4 hat4 d3 S3
        have d4 : w4.cell? ⟨b1, o1 + k, none⟩ = some (.int .i64 (sz : Int)) := (S4.below.cell hb1).trans Hc1.out
        go_wp2_with (at_builtin; refine wpList_append_own_at _ rfl (.tmp 54) (.tmp 59) 22 rfl w.heap.size 3 i0 (.int .i64 0) 1 8 Try.underlying22 hi hz0 hz1 hz2 rfl (by decide) _ _ _ rfl (S4.inn.alloc _) ⟨w4.heap.size, 0, none⟩ 1 1 [.int .i64 (sz : Int)] rfl rfl (cell_one_new _ _ _) ?e2 ?e3 ?e4 ?e5 ?_)
        case e2 => intro u hu; simp at hu; subst hu; rfl
        case e3 => unfold maxLen; omega
        case e4 => omega
        case e5 => have := S4.below.size; simp; omega
        intro vi5 w5 hown5 hgrow5 _ hat5
        have S5 := S4.two (x := (a, sz)) hown5 hgrow5 hat5
        clear hown5 hgrow5 hat5 d4 S4
        go_wp2_with fail
        go_roundg (gk - 1)
        case measure => omega
        case rel => exact ⟨k + 1, n + sz, _, v', ps ++ [(a, sz)], by omega, by omega, by omega, by simp; omega, rfl, S5⟩
    · have hlen := S.holds.row.len
      have hle := S.le
      have hbl : bs.length ≤ 281474976710656 := by omega
      have hnb : n ≤ 8 * bs.length := by omega
      clear hlen hle
      obtain ⟨A7, c7, rfl⟩ := own_slice S.put
      obtain ⟨A8, c8, rfl⟩ := own_slice S.inn
      have hpl : ps.length ≤ 9223372036854775807 := by omega
      have hcase : (decide (k < l0) = false) ∨ (decide (k < l0) = true ∧ decide (k < l1) = false) := by
        simp; omega
      clear hlt
      rcases hcase with hd | ⟨hd, hd'⟩
      all_goals
        go_wp2_with fail
        refine (bytes_c p n v bs _ S.st hbl).mono ?_
        rintro e w2 ⟨g2, rfl, hg2, hk2, hb2⟩
        have K2 := Lib.hid hk2
        have P2 := Lib.hid (ownsRow_fr S.put (Fr.of_below (S := fun _ => False) hb2) (fun _ _ h => h))
        have I2 := Lib.hid (ownsRow_fr S.inn (Fr.of_below (S := fun _ => False) hb2) (fun _ _ h => h))
        have HB2 := Lib.hid (S.below.trans (hb2.mono S.below.size))
        clear hk2 hb2 hg2
        go_wp2_with fail
        refine (read_c (some ⟨g2, 0, none⟩) bs.length bs _ (by have := (Reads.blk K2.out).more K2.out.lt; rwa [U8s_length] at this) hbl).mono ?_
        rintro e w3 ⟨q, g3, rfl, hq, hg3, hrd, hb3⟩
        have T3 : TakenSt w q g3 bs ps (.slice A7 ps.length c7) (.slice A8 ps.length c8) 0 w3 := ⟨hrd, ownsRow_fr P2.out (Fr.of_below (S := fun _ => False) hb3) (fun _ _ h => h), ownsRow_fr I2.out (Fr.of_below (S := fun _ => False) hb3) (fun _ _ h => h), HB2.out.trans (hb3.mono HB2.out.size)⟩
        have hqB := Nat.le_trans HB2.out.size hq
        have HS := Lib.hid (And.intro S.holds S.small)
        clear hrd hb3 hq hg3 P2 I2 K2 HB2 S
        go_wp2_with fail
        go_loopg [12, 13, 14] ps.length (fun g s12 _ _ wx => ∃ j : Nat, j + g = ps.length ∧ s12 = .int .i64 (j : Int) ∧ TakenSt w q g3 bs ps (.slice A7 ps.length c7) (.slice A8 ps.length c8) j wx)
        case atStart => exact ⟨0, by omega, rfl, T3⟩
        case round =>
          obtain ⟨j, hjg, rfl, T⟩ := hrel
          clear T3
          clear hkg
          cases gk with
          | zero =>
            have hjl : decide (j < ps.length) = false := by simp; omega
            have ej : j = ps.length := by omega
            have hrd := T.rd
            rw [ej, List.take_length, ← HS.out.1.n_eq] at hrd
            have HRd := Lib.hid hrd
            have HBe := Lib.hid T.below
            clear hrd T ej
            go_wp2_with fail
            refine (done_c q g3 n bs _ HRd.out HS.out.1.row.byte hbl hnb).mono ?_
            rintro e w9 ⟨b, rfl, hb, i9, rfl⟩
            have hbt : b = true := hb.2 (done_of HS.out.1)
            subst hbt
            clear hb
            go_wp2_with fail
            go_ret
            exact ⟨rfl, below_draw HBe.out i9⟩
          | succ gk =>
            have hjl : decide (j < ps.length) = true := by simp; omega
            have hj : j < ps.length := by omega
            have hji : (j : Int) < (ps.length : Int) := by omega
            obtain ⟨gp, cp, ep, _, _⟩ := T.put.form (by omega)
            obtain ⟨gi, ci, ei, _, _⟩ := T.inn.form (by omega)
            injection ep with ep1 _ ep2
            injection ei with ei1 _ ei2
            subst ep1 ep2 ei1 ei2
            have dp : wr.cell? ⟨gp, j, none⟩ = some (.int .i64 (ps[j].1 : Int)) := by rw [T.put.cellAt j (by omega)]; exact Xs_at ps j hj
            have di : wr.cell? ⟨gi, j, none⟩ = some (.int .i64 (ps[j].2 : Int)) := by rw [T.inn.cellAt j (by omega)]; exact Ss_at ps j hj
            have hs63 := HS.out.2 _ (List.getElem_mem hj)
            have htk := HS.out.1.taken j hj
            have htt := total_take_succ ps j hj
            have htl := total_take_le ps (j + 1)
            have hne := HS.out.1.n_eq
            have hfit : total (ps.take j) + ps[j].2 ≤ 8 * bs.length := by omega
            obtain ⟨X, hX⟩ : ∃ X, X = ps[j].1 := ⟨_, rfl⟩
            obtain ⟨Z, hZ⟩ : ∃ Z, Z = ps[j].2 := ⟨_, rfl⟩
            rw [← hX] at dp htk
            rw [← hZ] at di hs63 htk hfit
            have HZ := Lib.hid hZ
            have Htk := Lib.hid htk
            clear hX hZ htk htt htl hne
            go_wp2_with fail
            refine (take_yes q g3 _ Z bs _ T.rd HS.out.1.row.byte hbl hs63 hfit).mono ?_
            rintro e w6 ⟨rfl, hr, hf, hsz⟩
            rw [Htk.out]
            have T6 := T.next hj hqB (by rw [← HZ.out]; exact hr) hf
            have dp6 : w6.cell? ⟨gp, j, none⟩ = some (.int .i64 (X : Int)) := by rw [T6.put.cellAt j (by omega), ← T.put.cellAt j (by omega)]; exact dp
            clear hr hf hsz dp di T
            have hself : ((X : Int) != (X : Int)) = false := by simp
            go_wp2_with fail
            go_roundg gk
            case measure => omega
            case rel => exact ⟨j + 1, by omega, rfl, T6⟩

end Go.Proofs.Ytehonfobofpahaa

/- The contract of Put. -/
import Derived.Test.YtehonfobofpahaaBase
import Derived.Test.YtehonfobofpahaaBits
import Derived.Test.YtehonfobofpahaaOps
import Derived.Deep.LoopGhost
import Derived.Deep.DeepCutAuto
import Derived.BigRegion
import Derived.Maps.AppendAt
namespace Go.Proofs.Ytehonfobofpahaa
open Go.RowKit

/-- Which old blocks a writer may write: its own and that of its bytes. -/
def Mine (p : Nat) (v : Value) (k : Nat) : Prop := k = p ∨ v.ownBlock = some k

/-- What a Put of sz bits of x leaves. -/
def PutTo (w : World) (p : Nat) (v : Value) (n : Nat) (bs : List Nat) (e : Ending) (w' : World) : Prop :=
  ∃ v', e = .returned (.int .i64 0) ∧ Wr w' p v' n bs ∧ Fr (Mine p v) w w' ∧ (v'.ownBlock = v.ownBlock ∨ ∃ k, v'.ownBlock = some k ∧ w.heap.size ≤ k)

/-- Where the bytes lie now: as ever, or in a block that is new since w. -/
def Born (w : World) (v v' : Value) : Prop := v'.ownBlock = v.ownBlock ∨ ∃ k, v'.ownBlock = some k ∧ w.heap.size ≤ k

/-- In the midst of a Put: so many bits are left. -/
structure PutSt (w : World) (p : Nat) (v : Value) (fin : List Nat) (tot x left n' : Nat) (bs' : List Nat) (v' : Value) (wr : World) : Prop where
  st : Wr wr p v' n' bs'
  row : Row bs' n'
  sum : n' + left = tot
  small : left ≤ 63
  fin : putN bs' n' x left = fin
  fr : Fr (Mine p v) w wr
  born : Born w v v'

/-- There is room for the next bit. -/
structure Roomy (w : World) (p : Nat) (v : Value) (n' g cap : Nat) (rs : List Nat) (wr : World) : Prop where
  blk : Blk wr p 51 #[.slice (some ⟨g, 0, none⟩) rs.length cap, .int .i64 (n' : Int)]
  own : wr.ownsRow (p + 1) 5 1 (.slice (some ⟨g, 0, none⟩) rs.length cap) rs.length (U8s rs)
  fr : Fr (Mine p v) w wr
  born : Born w v (.slice (some ⟨g, 0, none⟩) rs.length cap)

theorem Wr.off {w : World} {p n : Nat} {v : Value} {bs : List Nat} (h : Wr w p v n bs) : v.ownBlock ≠ some p := by
  intro e
  have := h.own.lt p e
  omega

theorem Born.mine {w : World} {p i : Nat} {v v' : Value} (h : Born w v v') (hi : i < w.heap.size) (h2 : v'.ownBlock = some i) : Mine p v i := by
  rcases h with h | ⟨k, h, hk⟩
  · exact .inr (h ▸ h2)
  · rw [h] at h2; injection h2 with h2; omega

theorem roomy_no {w wr : World} {p n2 l2 x tot : Nat} {v v2 : Value} {fin bs2 : List Nat} (S : PutSt w p v fin tot x l2 n2 bs2 v2 wr) (h8 : n2 % 8 ≠ 0) : ∃ g cap, Roomy w p v n2 g cap (room bs2 n2) wr := by
  have e : room bs2 n2 = bs2 := by unfold room; rw [if_neg h8]
  have hl := S.row.len
  obtain ⟨g, cap, rfl, _, _⟩ := S.st.own.form (by omega)
  exact ⟨g, cap, by rw [e]; exact ⟨S.st.blk, S.st.own, S.fr, S.born⟩⟩

theorem roomy_grown {w wr w1 : World} {p n2 l2 x tot : Nat} {v v2 v' : Value} {fin bs2 : List Nat} {o : Obj} (S : PutSt w p v fin tot x l2 n2 bs2 v2 wr) (h8 : n2 % 8 = 0)
    (hown : w1.ownsRow (p + 1) 5 1 v' (bs2.length + 1) (U8s bs2 ++ [.int .u8 0])) (hgrow : (wr.alloc o).grownBy w1 v2.ownBlock) (hat : v'.ownBlock = v2.ownBlock ∨ v'.ownBlock = some (wr.heap.size + 1)) :
    ∃ g cap, v' = .slice (some ⟨g, 0, none⟩) (bs2.length + 1) cap ∧ w1.cell? ⟨p, 0, none⟩ = some v2 ∧ w1.frozen? ⟨p, 0, none⟩ = false ∧ Roomy w p v n2 g cap (room bs2 n2) (w1.setCell ⟨p, 0, none⟩ v') := by
  have e : room bs2 n2 = bs2 ++ [0] := by unfold room; rw [if_pos h8]
  obtain ⟨g, cap, rfl, hg, _⟩ := hown.form (by omega)
  have hlt := S.st.blk.lt
  have hblk : Blk w1 p 51 #[v2, .int .i64 (n2 : Int)] := (hgrow.block p (by simp; omega) (fun e => S.st.off e.symm)).trans (S.st.blk.alloc o)
  refine ⟨g, cap, rfl, by rw [hblk.cell]; rfl, hblk.frozen 0, ?_⟩
  rw [e]
  have hl : (bs2 ++ [0]).length = bs2.length + 1 := by simp
  refine ⟨?_, ?_, ?_, ?_⟩
  · rw [hl]; exact hblk.set_ 0 _
  · rw [hl]
    exact ownsRow_setCell_below (by rw [U8s_append]; exact hown) (by simp) _
  · refine (S.fr.trans (S' := Mine p v2) ((Fr.alloc wr o).trans (S' := Mine p v2) (Fr.of_grown hgrow fun i _ he => .inr he) (fun _ _ h => h)) ?_).trans (Fr.set (S := fun k => k = p) w1 (p := ⟨p, 0, none⟩) rfl _) ?_
    · intro i hi hm
      rcases hm with rfl | hm
      · exact .inl rfl
      · exact S.born.mine hi hm
    · rintro i _ rfl; exact .inl rfl
  · rw [hl]
    have hz := S.fr.size
    rcases hat with hat | hat
    · rcases S.born with hb | ⟨k, hb, hk⟩
      · exact .inl (hat.trans hb)
      · exact .inr ⟨k, hat.trans hb, hk⟩
    · exact .inr ⟨_, hat, by omega⟩

theorem U8s_set (rs : List Nat) (m y : Nat) : U8s (rs.set m y) = (U8s rs).set m (.int .u8 (y : Int)) := by simp [U8s, List.map_set]

theorem Roomy.apart {w wc : World} {p n2 g cap : Nat} {v : Value} {rs : List Nat} (R : Roomy w p v n2 g cap rs wc) : g ≠ p := by
  have := R.own.lt g rfl
  omega

theorem Roomy.stored {w wc : World} {p n2 g cap : Nat} {v : Value} {rs : List Nat} (R : Roomy w p v n2 g cap rs wc) (m y : Nat) : Roomy w p v n2 g cap (rs.set m y) (wc.setCell ⟨g, m, none⟩ (.int .u8 (y : Int))).drew := by
  have hs := R.own.stored m (.int .u8 (y : Int))
  have hl : (rs.set m y).length = rs.length := by simp
  refine ⟨?_, ?_, ?_, ?_⟩
  · rw [hl]; exact R.blk.far (p := ⟨g, m, none⟩) (fun e => R.apart e.symm) _
  · rw [hl, U8s_set]; exact hs.1
  · refine (R.fr.trans (S' := fun k => k = g) (Fr.set (S := fun k => k = g) wc (p := ⟨g, m, none⟩) rfl _).drew ?_)
    rintro i hi rfl
    exact R.born.mine hi rfl
  · rw [hl]; exact R.born

theorem put_done {w wr wd : World} {p n2 l x tot g cap : Nat} {v v2 : Value} {fin bs2 : List Nat} (S : PutSt w p v fin tot x (l + 1) n2 bs2 v2 wr) (R : Roomy w p v n2 g cap (put1 bs2 n2 (x / 2 ^ l % 2)) wd) :
    PutSt w p v fin tot x l (n2 + 1) (put1 bs2 n2 (x / 2 ^ l % 2)) (.slice (some ⟨g, 0, none⟩) (put1 bs2 n2 (x / 2 ^ l % 2)).length cap) (wd.setCell ⟨p, 1, none⟩ (.int .i64 ((n2 : Int) + 1))) := by
  have h1 := S.sum
  have h2 := S.small
  refine ⟨⟨?_, ownsRow_setCell_below R.own (by simp) _⟩, S.row.put1 (Nat.mod_lt _ (by omega)), by omega, by omega, S.fin, ?_, R.born⟩
  · have := R.blk.set_ 1 (.int .i64 ((n2 : Int) + 1))
    simpa using this
  · refine R.fr.trans (Fr.set (S := fun k => k = p) wd (p := ⟨p, 1, none⟩) rfl _) ?_
    rintro i _ rfl; exact .inl rfl

set_option maxHeartbeats 1000000 in
set_option maxRecDepth 100000 in
theorem put_yes (p n x sz : Nat) (v : Value) (bs : List Nat) (w : World) (h : Wr w p v n bs) (hrow : Row bs n) (hsz : sz ≤ 63) (hx : x < 2 ^ sz) (hn : n + sz ≤ 1048576) :
    Calls Try.prog 11 #[.pointer (some ⟨p, 0, none⟩), .int .i64 (x : Int), .int .i64 (sz : Int)] w (PutTo w p v (n + sz) (putN bs n x sz)) := by
  have c1 : w.cell? ⟨p, 1, none⟩ = some (.int .i64 (n : Int)) := by rw [h.blk.cell]; rfl
  have hq : ((x : Int) / 2 ^ sz != 0) = false := by
    have : (x : Int) / 2 ^ sz = 0 := Int.ediv_eq_zero_of_lt (by omega) (by exact_mod_cast hx)
    rw [this]; rfl
  have hb : (sz : Int) ≤ 1048576 - (n : Int) := by omega
  have hx0 : (0 : Int) ≤ (x : Int) := by omega
  have hd1 : decide ((x : Int) < 0) = false := by simp
  have hd2 : decide (1048576 - (n : Int) < (sz : Int)) = false := by simp; omega
  have ST : PutSt w p v (putN bs n x sz) (n + sz) x sz n bs v w := ⟨h, hrow, rfl, hsz, rfl, Fr.refl _ _, .inl rfl⟩
  clear h hrow
  generalize putN bs n x sz = fin at *
  have HN := Lib.hid hn
  obtain ⟨i0, hi, hz0, hz1, hz2⟩ := info_parts Try.info5
  have hi' := Lib.hid hi
  go_enter Try.func11, Try.ntmps11
  go_wp2_with fail
  go_step3
  go_wp2_with fail
  refine (width_yes _ (by omega) (by omega) _).mono ?_
  rintro e w' ⟨rfl, rfl⟩
  go_wp2_with fail
  go_step3
  go_wp2_with fail
  clear hq hb hd1 hd2 c1 hx
  go_loopg [7, 8] sz (fun g s7 _ wr => ∃ (left n' : Nat) (bs' : List Nat) (v' : Value), left = g ∧ s7 = .int .i64 (left : Int) ∧ PutSt w p v fin (n + sz) x left n' bs' v' wr)
  case atStart => exact ⟨sz, n, bs, v, rfl, rfl, ST⟩
  case round =>
    obtain ⟨left, n1, bs1, v1, rfl, rfl, S1⟩ := hrel
    have hsum := S1.sum
    have hn1 : n1 ≤ 1048576 := by omega
    have c1 : wr.cell? ⟨p, 1, none⟩ = some (.int .i64 (n1 : Int)) := by rw [S1.st.blk.cell]; rfl
    clear hsum
    go_wp2_with fail
    refine (place_c _ (by omega) _).mono ?_
    rintro e w' ⟨rfl, rfl⟩
    go_wp2_with fail
    clear c1
    go_loopg [7, 8] (8 - n1 % 8) (fun g s7 s8 wx => ∃ (l2 n2 : Nat) (bs2 : List Nat) (v2 : Value), g ≤ 8 ∧ (n2 + g) % 8 = 0 ∧ s7 = .int .i64 (l2 : Int) ∧ s8 = .int .i64 ((g : Int) - 1) ∧ (1 ≤ g ∨ l2 < left) ∧ l2 ≤ left ∧ PutSt w p v fin (n + sz) x l2 n2 bs2 v2 wx)
    case atStart => exact ⟨left, n1, bs1, v1, by omega, by omega, rfl, by congr 1; omega, by omega, Nat.le_refl _, S1⟩
    case round =>
      obtain ⟨l2, n2, bs2, v2, hg8, hmod, rfl, rfl, hor, hlk, S2⟩ := hrel
      have hsum := S2.sum
      have hn2 : n2 ≤ 1048576 := by omega
      have hl2 : l2 ≤ 1048576 := by omega
      clear hsum
      cases gk with
      | zero =>
        have hlt : l2 < left := by omega
        go_wp2_with fail
        go_roundg l2
        case measure => exact hlt
        case rel => exact ⟨l2, n2, bs2, v2, rfl, rfl, S2⟩
      | succ k =>
        have ek : ((k + 1 : Nat) : Int) - 1 = (k : Int) := by omega
        rw [ek]
        clear ek
        by_cases hl0 : l2 = 0
        · subst hl0
          have hz : ((0 : Nat) : Int) = 0 := rfl
          rw [hz]
          clear hz
          go_wp2_with fail
          rw [Exit.noGoto_ret]
          go_ret
          have hs2 := S2.sum
          exact ⟨v2, rfl, by have := S2.st; have e := S2.fin; unfold putN at e; rw [← e]; rw [show n + sz = n2 by omega]; exact this, S2.fr, S2.born⟩
        · obtain ⟨l, rfl⟩ : ∃ l, l2 = l + 1 := ⟨l2 - 1, by omega⟩
          have ec : ((l + 1 : Nat) : Int) = (l : Int) + 1 := by omega
          rw [ec]
          clear ec
          have hne : (((l : Int) + 1) == 0) = false := by simp; omega
          go_upto_if 42 with (fail)
          go_cut [] (fun wx => ∃ g cap, Roomy w p v n2 g cap (room bs2 n2) wx)
          case first =>
            by_cases h7 : k = 7
            · subst h7
              obtain ⟨A2, cc2, rfl⟩ := S2.st.slice
              have c0 : wr.cell? ⟨p, 0, none⟩ = some (.slice A2 bs2.length cc2) := by rw [S2.st.blk.cell]; rfl
              have hlen := S2.row.len
              have hlt := S2.st.blk.lt
              have hown := Lib.hid S2.st.own
              have hlb : bs2.length ≤ 131072 := by omega
              clear hlen
              go_wp2_with (at_builtin; refine wpList_append_own_at _ rfl (.tmp 47) (.tmp 48) 32 rfl (p + 1) 5 i0 (.int .u8 0) 1 1 Try.underlying32 hi hz0 hz1 hz2 rfl (by decide) _ _ _ rfl (hown.out.alloc _) ⟨wr.heap.size, 0, none⟩ 1 1 [.int .u8 0] rfl rfl (cell_one_new _ _ _) ?c2 ?c3 ?c4 ?c5 ?_)
              case c2 => intro u hu; simp at hu; subst hu; rfl
              case c3 => unfold maxLen; omega
              case c4 => omega
              case c5 => simp; omega
              intro v3 w3 hown3 hgrow3 _ hat3
              obtain ⟨g, cap, hv3, cc0, cf0, RM⟩ := roomy_grown S2 (by omega) hown3 hgrow3 hat3
              subst hv3
              have HR3 := Lib.hid RM
              clear hown3 hgrow3 hat3 RM c0
              go_wp2_with fail
              go_meet
              exact ⟨g, cap, HR3.out⟩
            · have hk7 : ((k : Int) == 7) = false := by simp; omega
              go_wp2_with fail
              go_meet
              exact roomy_no S2 (by omega)
          case rest =>
            obtain ⟨g, cap, R⟩ := hcut
            have hrl := room_len S2.row.len
            obtain ⟨m, hm⟩ : ∃ m, m = n2 / 8 := ⟨_, rfl⟩
            obtain ⟨b, hb⟩ : ∃ b, b = (room bs2 n2).getD m 0 := ⟨_, rfl⟩
            have c0 : wc.cell? ⟨p, 0, none⟩ = some (.slice (some ⟨g, 0, none⟩) (m + 1) cap) := by rw [R.blk.cell, hrl, ← hm]; rfl
            have c1 : wc.cell? ⟨p, 1, none⟩ = some (.int .i64 (n2 : Int)) := by rw [R.blk.cell]; rfl
            have f1 : wc.frozen? ⟨p, 1, none⟩ = false := R.blk.frozen 1
            have hlu := U8s_get (room bs2 n2) m (by omega)
            have RO : wc.ownsRow (p + 1) 5 1 (.slice (some ⟨g, 0, none⟩) (room bs2 n2).length cap) (room bs2 n2).length (U8s (room bs2 n2)) := R.own
            have cb : wc.cell? ⟨g, m, none⟩ = some (.int .u8 (b : Int)) := by rw [RO.cellAt m (by omega), hlu, hb]
            have fb : wc.frozen? ⟨g, m, none⟩ = false := RO.frozenAt m
            have hgp : g ≠ p := R.apart
            have hb8 : b < 256 := by rw [hb, room_getD]; exact S2.row.byte _
            have hm1 : m ≤ 131072 := by omega
            have hls := S2.small
            have hk7 : k = 7 - n2 % 8 := by omega
            have ep : put1 bs2 n2 (x / 2 ^ l % 2) = (room bs2 n2).set m (b ||| ((x / 2 ^ l % 2) <<< k)) := by
              unfold put1
              rw [hrl, hb, hm, hk7]
              rfl
            have Ep := Lib.hid ep
            have Hn : Hid (l + 1 ≤ 63 ∧ (n2 + (k + 1)) % 8 = 0) := ⟨hls, hmod⟩
            clear hm hb hrl hmod ep hlu RO hls hk7
            have hw1 : IntKind.i64.wrap (m : Int) = (m : Int) := IntWalk.i64_in _ (by omega)
            have hl00 : (0 : Int) ≤ (l : Int) := by omega
            have hk00 : (0 : Int) ≤ (k : Int) := by omega
            go_wp2_with fail
            go_region
            rw [put_val b x l k hb8 (by have := Hn.out.1; omega) (by omega)]
            have R2 := R.stored m (b ||| ((x / 2 ^ l % 2) <<< k))
            rw [← Ep.out] at R2
            generalize (wc.setCell ⟨g, m, none⟩ (Value.int IntKind.u8 ((b ||| ((x / 2 ^ l % 2) <<< k) : Nat) : Int))).drew = wd at R2 ⊢
            clear c0 c1 f1 cb fb hw1
            have c1 : wd.cell? ⟨p, 1, none⟩ = some (.int .i64 (n2 : Int)) := by rw [R2.blk.cell]; rfl
            have f1 : wd.frozen? ⟨p, 1, none⟩ = false := R2.blk.frozen 1
            have PD := Lib.hid (put_done S2 R2)
            clear R2
            go_wp2_with fail
            go_roundg k
            case measure => omega
            case rel => exact ⟨l, n2 + 1, _, _, by omega, by have := Hn.out.2; omega, rfl, rfl, by omega, by omega, PD.out⟩

end Go.Proofs.Ytehonfobofpahaa

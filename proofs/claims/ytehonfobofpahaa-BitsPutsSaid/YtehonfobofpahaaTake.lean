/- The contract of Take. -/
import Derived.Test.YtehonfobofpahaaBase
import Derived.Test.YtehonfobofpahaaBits
import Derived.Test.YtehonfobofpahaaOps
import Derived.Deep.LoopGhost
import Derived.Deep.DeepCutAuto
namespace Go.Proofs.Ytehonfobofpahaa
open Go.RowKit

/-- What a Take of n bits leaves. -/
def TakeTo (w : World) (q g : Nat) (bs : List Nat) (k val : Nat) (e : Ending) (w' : World) : Prop :=
  e = .returned (.tuple #[.int .i64 (val : Int), .int .i64 0]) ∧ Rd w' q g bs k ∧ Fr (fun i => i = q) w w' ∧ w'.heap.size = w.heap.size

/-- In the midst of a Take. -/
structure TkSt (w : World) (q g : Nat) (bs : List Nat) (fin tot v left k : Nat) (wr : World) : Prop where
  rd : Rd wr q g bs k
  sum : k + left = tot
  small : left ≤ 63
  lt : v < 2 ^ (63 - left)
  fin : tk bs k v left = fin
  fr : Fr (fun i => i = q) w wr
  size : wr.heap.size = w.heap.size

theorem take_done {w wr : World} {q g fin tot v l k : Nat} {bs : List Nat} (S : TkSt w q g bs fin tot v (l + 1) k wr) (nq : Nat) :
    TkSt w q g bs fin tot (2 * v + bitAt bs k) l (k + 1) ((wr.drewN nq).setCell ⟨q, 1, none⟩ (.int .i64 ((k : Int) + 1))) := by
  have h1 := S.sum
  have h2 := S.small
  have h3 := S.lt
  have hb : bitAt bs k < 2 := Nat.mod_lt _ (by omega)
  have hne := S.rd.ne_
  refine ⟨⟨?_, ?_⟩, by omega, by omega, ?_, S.fin, ?_, ?_⟩
  · have := (show Blk (wr.drewN nq) q 56 _ from S.rd.blk).set_ 1 (.int .i64 ((k : Int) + 1))
    simpa using this
  · exact (show Blk (wr.drewN nq) g 5 _ from S.rd.row).far (p := ⟨q, 1, none⟩) (fun e => hne e.symm) _
  · have e : 2 ^ (63 - l) = 2 * 2 ^ (63 - (l + 1)) := by rw [show 63 - l = 63 - (l + 1) + 1 by omega, Nat.pow_succ]; omega
    rw [e]
    omega
  · exact (S.fr.trans (Fr.drewN (S := fun i => i = q) wr nq) (fun _ _ h => h)).trans (Fr.set (S := fun i => i = q) _ (p := ⟨q, 1, none⟩) rfl _) (fun _ _ h => h)
  · simpa [World.setCell] using S.size

set_option maxHeartbeats 1000000 in
set_option maxRecDepth 100000 in
theorem take_yes (q g k n : Nat) (bs : List Nat) (w : World) (h : Rd w q g bs k) (hby : ∀ i, bs.getD i 0 < 256) (hl : bs.length ≤ 281474976710656) (hn : n ≤ 63) (hk : k + n ≤ 8 * bs.length) :
    Calls Try.prog 21 #[.pointer (some ⟨q, 0, none⟩), .int .i64 (n : Int)] w (TakeTo w q g bs (k + n) (tk bs k 0 n)) := by
  have hd : decide (8 * (bs.length : Int) - (k : Int) < (n : Int)) = false := by simp; omega
  have ST : TkSt w q g bs (tk bs k 0 n) (k + n) 0 n k w := ⟨h, rfl, hn, Nat.two_pow_pos _, rfl, Fr.refl _ _, rfl⟩
  have H := Lib.hid h
  have HB := Lib.hid hby
  clear h hby
  generalize tk bs k 0 n = fin at *
  go_enter Try.func21, Try.ntmps21
  go_wp2_with fail
  go_step3
  go_wp2_with fail
  refine (width_yes _ (by omega) (by omega) _).mono ?_
  rintro e w' ⟨rfl, rfl⟩
  go_wp2_with fail
  refine (rest_c q _ _ _ _ _ H.out.blk (by omega) (by omega) hl).mono ?_
  rintro e w' ⟨rfl, nq, rfl⟩
  go_wp2_with fail
  go_step3
  go_wp2_with fail
  have SN : TkSt w q g bs fin (k + n) 0 n k (w.drewN nq) := ⟨⟨ST.rd.blk, ST.rd.row⟩, ST.sum, ST.small, ST.lt, ST.fin, Fr.drewN _ _, rfl⟩
  clear hd ST H
  go_loopg [6, 7, 8] n (fun gg s6 s7 _ wr => ∃ (v left k' : Nat), left = gg ∧ s6 = .int .i64 (v : Int) ∧ s7 = .int .i64 (left : Int) ∧ TkSt w q g bs fin (k + n) v left k' wr)
  case atStart => exact ⟨0, n, k, rfl, rfl, rfl, SN⟩
  case round =>
    obtain ⟨v, left, k1, rfl, rfl, rfl, S1⟩ := hrel
    have hsum := S1.sum
    have hk1 : k1 ≤ 8 * bs.length := by omega
    have c1 : wr.cell? ⟨q, 1, none⟩ = some (.int .i64 (k1 : Int)) := by rw [S1.rd.blk.cell]; rfl
    clear hsum SN
    go_wp2_with fail
    refine (place_c _ (by omega) _).mono ?_
    rintro e w' ⟨rfl, rfl⟩
    go_wp2_with fail
    clear c1
    go_loopg [6, 7, 8] (8 - k1 % 8) (fun gg s6 s7 s8 wx => ∃ (v2 l2 k2 : Nat), gg ≤ 8 ∧ (k2 + gg) % 8 = 0 ∧ s6 = .int .i64 (v2 : Int) ∧ s7 = .int .i64 (l2 : Int) ∧ s8 = .int .i64 ((gg : Int) - 1) ∧ (1 ≤ gg ∨ l2 < left) ∧ l2 ≤ left ∧ TkSt w q g bs fin (k + n) v2 l2 k2 wx)
    case atStart => exact ⟨v, left, k1, by omega, by omega, rfl, rfl, by congr 1; omega, by omega, Nat.le_refl _, S1⟩
    case round =>
      obtain ⟨v2, l2, k2, hg8, hmod, rfl, rfl, rfl, hor, hlk, S2⟩ := hrel
      have hsum := S2.sum
      have hk2 : k2 + l2 ≤ 8 * bs.length := by omega
      clear hsum
      cases gk with
      | zero =>
        have hlt : l2 < left := by omega
        go_wp2_with fail
        go_roundg l2
        case measure => exact hlt
        case rel => exact ⟨v2, l2, k2, rfl, rfl, rfl, S2⟩
      | succ j =>
        have ek : ((j + 1 : Nat) : Int) - 1 = (j : Int) := by omega
        rw [ek]
        clear ek
        by_cases hl0 : l2 = 0
        · subst hl0
          have hz : ((0 : Nat) : Int) = 0 := rfl
          rw [hz]
          clear hz
          go_wp2_with fail
          rw [Exit.noGoto_ret]
          go_ret2
          have hs2 := S2.sum
          exact ⟨by have e := S2.fin; unfold tk at e; rw [← e]; rfl, by rw [show k + n = k2 by omega]; exact S2.rd, S2.fr, S2.size⟩
        · obtain ⟨l, rfl⟩ : ∃ l, l2 = l + 1 := ⟨l2 - 1, by omega⟩
          have ec : ((l + 1 : Nat) : Int) = (l : Int) + 1 := by omega
          rw [ec]
          clear ec
          have hne : (((l : Int) + 1) == 0) = false := by simp; omega
          have hls := S2.small
          have hv := S2.lt
          have hp : 2 ^ (63 - (l + 1)) ≤ 2 ^ 62 := Nat.pow_le_pow_right (by omega) (by omega)
          have hv2 : v2 < 4611686018427387904 := by have : (2 : Nat) ^ 62 = 4611686018427387904 := by decide
                                                    omega
          obtain ⟨m, hm⟩ : ∃ m, m = k2 / 8 := ⟨_, rfl⟩
          obtain ⟨b, hb⟩ : ∃ b, b = bs.getD m 0 := ⟨_, rfl⟩
          have hmb : m < bs.length := by omega
          have c0 : wr.cell? ⟨q, 0, none⟩ = some (.slice (some ⟨g, 0, none⟩) bs.length bs.length) := by rw [S2.rd.blk.cell]; rfl
          have c1 : wr.cell? ⟨q, 1, none⟩ = some (.int .i64 (k2 : Int)) := by rw [S2.rd.blk.cell]; rfl
          have f1 : wr.frozen? ⟨q, 1, none⟩ = false := S2.rd.blk.frozen 1
          have cb : wr.cell? ⟨g, k2 / 8, none⟩ = some (.int .u8 (b : Int)) := by rw [S2.rd.row.cell, ← hm]; have := U8s_get bs m hmb; rw [← hb] at this; simpa using this
          have hb8 : b < 256 := by rw [hb]; exact HB.out m
          have Hm : Hid (m = k2 / 8 ∧ b = bs.getD m 0 ∧ (k2 + (j + 1)) % 8 = 0 ∧ l + 1 ≤ 63 ∧ v2 < 2 ^ (63 - (l + 1))) := ⟨hm, hb, hmod, hls, hv⟩
          have hi1 : (k2 : Int) / 8 < (bs.length : Int) := by omega
          have hi0 : (0 : Int) ≤ (k2 : Int) / 8 := by omega
          clear hm hb hmod hls hv hp
          go_wp2_with fail
          go_quiet (fail)
          rw [take_val v2 b j hb8 hv2]
          clear cb c0
          have TD := Lib.hid (take_done S2 nq)
          have eb : bitAt bs k2 = b / 2 ^ j % 2 := by
            have h1 := Hm.out.1
            have h2 := Hm.out.2.1
            have h3 := Hm.out.2.2.1
            unfold bitAt
            rw [← h1, ← h2, show 7 - k2 % 8 = j by omega]
          rw [← eb]
          clear eb
          go_wp2_with fail
          go_roundg j
          case measure => omega
          case rel => exact ⟨2 * v2 + bitAt bs k2, l, k2 + 1, by omega, by have := Hm.out.2.2.1; omega, rfl, rfl, rfl, by omega, by omega, TD.out⟩

end Go.Proofs.Ytehonfobofpahaa

/- The document's own answers: contracts of the reference's Row, Take and Done. -/
import Derived.Test.YtehonfobofpahaaArgs
import Derived.Test.YtehonfobofpahaaSameBits
import Derived.Test.YtehonfobofpahaaOps
import Derived.Deep.LoopGhost
import Derived.Deep.DeepCutAuto
import Derived.Maps.AppendAt
namespace Go.Proofs.Ytehonfobofpahaa
open Go.RowKit

theorem Try.info4 : (Try.prog.info? 4).map (fun i => (i.zero, i.size, i.bytes)) = some (some (.bool false), 1, 1) := by kernel_rfl

/-- The first n bits of a row of bytes, as bools. -/
def bitsL (bs : List Nat) (n : Nat) : List Bool := (List.range n).map fun k => bitAt bs k == 1
theorem bitsL_length (bs : List Nat) (n : Nat) : (bitsL bs n).length = n := by simp [bitsL]
theorem bitsL_succ (bs : List Nat) (n : Nat) : bitsL bs (n + 1) = bitsL bs n ++ [bitAt bs n == 1] := by simp [bitsL, List.range_succ]
theorem bitsL_get (bs : List Nat) (n i : Nat) (h : i < n) : (bitsL bs n)[i]? = some (bitAt bs i == 1) := by simp [bitsL, h]

theorem Bools_snoc (a : List Bool) (b : Bool) : Bools (a ++ [b]) = Bools a ++ [.bool b] := by simp [Bools]

theorem row_bit (b j : Nat) (hb : b < 256) : (bits BinOp.and IntKind.u8 ((b : Int) / 2 ^ j) 1 == 1) = (b / 2 ^ j % 2 == 1) := by
  rw [u8_bit b j hb]
  generalize b / 2 ^ j % 2 = y
  rw [Bool.eq_iff_iff]
  simp
  omega

set_option maxHeartbeats 1000000 in
theorem rrow_c (A : Option Addr) (c : Nat) (bs : List Nat) (w : World) (hr : Reads w w.heap.size A bs.length (U8s bs)) (hby : ∀ i, bs.getD i 0 < 256) (hl : bs.length ≤ 1048576) :
    Calls Try.prog 20 #[.slice A bs.length c] w fun e w' => ∃ v, e = .returned v ∧ w'.ownsRow w.heap.size 4 1 v (8 * bs.length) (Bools (bitsL bs (8 * bs.length))) ∧ Below w.heap.size w w' := by
  obtain ⟨i0, hi, hz0, hz1, hz2⟩ := info_parts Try.info4
  have HR := Lib.hid hr
  have HB := Lib.hid hby
  clear hr hby
  go_enter Try.func20, Try.ntmps20
  go_wp2_with fail
  go_loopg [3, 4] (8 * bs.length) (fun gg s3 s4 wr => ∃ i : Nat, i + gg = 8 * bs.length ∧ s4 = .int .i64 (i : Int) ∧ wr.ownsRow w.heap.size 4 1 s3 i (Bools (bitsL bs i)) ∧ Below w.heap.size w wr)
  case atStart => exact ⟨0, by omega, rfl, World.ownsRow_nil _ _ _ _, Below.refl _ _⟩
  case round =>
    obtain ⟨i, hig, rfl, hown, hbel⟩ := hrel
    have HO := Lib.hid hown
    have HBe := Lib.hid hbel
    clear hown hbel
    cases gk with
    | zero =>
      have hd : decide ((i : Int) < 8 * (bs.length : Int)) = false := by simp; omega
      have e : i = 8 * bs.length := by omega
      subst e
      go_wp2_with fail
      go_ret
      exact ⟨_, rfl, HO.out, HBe.out⟩
    | succ gk =>
      have hd : decide ((i : Int) < 8 * (bs.length : Int)) = true := by simp; omega
      obtain ⟨b, o, e, hbB, hc⟩ := HR.out.spot (k := i / 8) (by omega)
      rw [U8s_get bs (i / 8) (by omega)] at hc
      have d1 : wr.cell? ⟨b, o + i / 8, none⟩ = some (.int .u8 ((bs.getD (i / 8) 0 : Nat) : Int)) := (HBe.out.cell hbB).trans hc
      have hb8 := HB.out (i / 8)
      have hrb := row_bit (bs.getD (i / 8) 0) (7 - i % 8) hb8
      have hbe : (bs.getD (i / 8) 0 / 2 ^ (7 - i % 8) % 2 == 1) = (bitAt bs i == 1) := rfl
      rw [hbe] at hrb
      clear hc hbe
      generalize bs.getD (i / 8) 0 = y at d1 hb8 hrb
      subst e
      have h0 : (0 : Int) ≤ (i : Int) / 8 := by omega
      have h1 : (i : Int) / 8 < (bs.length : Int) := by omega
      have h2 : (0 : Int) ≤ 7 - (i : Int) % 8 := by omega
      have h3 : (7 - (i : Int) % 8).toNat = 7 - i % 8 := by omega
      go_wp2_with (at_builtin; refine wpList_append_own_at _ rfl (.tmp 12) (.tmp 24) 26 rfl w.heap.size 4 i0 (.bool false) 1 1 Try.underlying26 hi hz0 hz1 hz2 rfl (by decide) _ _ _ rfl (HO.out.alloc _) ⟨wr.heap.size, 0, none⟩ 1 1 [.bool (bitAt bs i == 1)] rfl rfl (cell_one_new _ _ _) ?c2 ?c3 ?c4 ?c5 ?_)
      case c2 => intro u hu; simp at hu; subst hu; rfl
      case c3 => unfold maxLen; omega
      case c4 => omega
      case c5 => have := HBe.out.size; simp; omega
      intro v4 w4 hown4 hgrow4 _ _
      have HO4 : Hid (w4.ownsRow w.heap.size 4 1 v4 (i + 1) (Bools (bitsL bs (i + 1)))) := by rw [bitsL_succ, Bools_snoc]; exact hown4
      have HB4 := Lib.hid ((HBe.out.alloc HBe.out.size (.cells #[.bool (bitAt bs i == 1)] 4)).grown hgrow4 (by have := HBe.out.size; simp; omega) (fun k hk => (HO.out.lt k hk).1))
      clear hown4 hgrow4 d1 hrb
      go_wp2_with fail
      go_roundg gk
      case measure => omega
      case rel => exact ⟨i + 1, by omega, rfl, HO4.out, HB4.out⟩

set_option maxHeartbeats 400000 in
theorem rdone_c (A : Option Addr) (c : Nat) (L : List Bool) (w : World) (B : Nat) (hr : Reads w B A L.length (Bools L)) (hl : L.length ≤ 9223372036854775807) :
    Calls Try.prog 23 #[.slice A L.length c] w fun e w' => (∃ b : Bool, e = .returned (.bool b) ∧ (b = true ↔ L.length < 8 ∧ ∀ i, i < L.length → L[i]? = some false)) ∧ w = w' := by
  have HR := Lib.hid hr
  clear hr
  go_enter Try.func23, Try.ntmps23
  go_wp2_with fail
  go_loopg [3] L.length (fun gg s3 wr => ∃ i : Nat, i + gg = L.length ∧ s3 = .int .i64 (i : Int) ∧ (∀ t, t < i → L[t]? = some false) ∧ w = wr)
  case atStart => exact ⟨0, by omega, rfl, fun t ht => by omega, rfl⟩
  case round =>
    obtain ⟨i, hig, rfl, hall, rfl⟩ := hrel
    have HA := Lib.hid hall
    clear hall
    cases gk with
    | zero =>
      have hd : decide (i < L.length) = false := by simp; omega
      go_wp2_with fail
      go_ret
      refine ⟨⟨_, rfl, ?_⟩, rfl⟩
      rw [decide_eq_true_iff]
      exact ⟨fun h => ⟨by omega, fun t ht => HA.out t (by omega)⟩, fun h => by omega⟩
    | succ gk =>
      have hd : decide (i < L.length) = true := by simp; omega
      have hlt : i < L.length := by omega
      obtain ⟨b, o, e, _, hc⟩ := HR.out.spot hlt
      have hg : (Bools L)[i]? = some (.bool L[i]) := by simp [Bools, List.getElem?_eq_getElem hlt]
      rw [hg] at hc
      obtain ⟨z, hz⟩ : ∃ z, z = L[i] := ⟨_, rfl⟩
      rw [← hz] at hc
      have HZ : Hid (L[i]? = some z) := by rw [hz]; exact List.getElem?_eq_getElem hlt
      clear hz hg
      subst e
      have hii : (i : Int) < (L.length : Int) := by omega
      cases z with
      | false =>
        go_wp2_with fail
        go_roundg gk
        case measure => omega
        case rel =>
          refine ⟨i + 1, by omega, rfl, fun t ht => ?_, rfl⟩
          by_cases et : t = i
          · subst et; exact HZ.out
          · exact HA.out t (by omega)
      | true =>
        go_wp2_with fail
        go_ret
        refine ⟨⟨false, rfl, ?_⟩, rfl⟩
        simp only [Bool.false_eq_true, false_iff]
        rintro ⟨_, h⟩
        have := h i hlt
        rw [HZ.out] at this
        simp at this

/-- The bools of a row of bytes from bit k on. -/
def fromL (bs : List Nat) (k : Nat) : List Bool := (List.range (8 * bs.length - k)).map fun i => bitAt bs (k + i) == 1
theorem fromL_length (bs : List Nat) (k : Nat) : (fromL bs k).length = 8 * bs.length - k := by simp [fromL]
theorem fromL_get (bs : List Nat) (k i : Nat) (h : i < 8 * bs.length - k) : (fromL bs k)[i]? = some (bitAt bs (k + i) == 1) := by simp [fromL, h]
theorem fromL_zero (bs : List Nat) : fromL bs 0 = bitsL bs (8 * bs.length) := by simp [fromL, bitsL]
theorem fromL_drop (bs : List Nat) (k n : Nat) : (fromL bs k).drop n = fromL bs (k + n) := by
  apply List.ext_getElem?
  intro i
  rw [List.getElem?_drop]
  rcases Nat.lt_or_ge i (8 * bs.length - (k + n)) with h | h
  · rw [fromL_get bs (k + n) i h, fromL_get bs k (n + i) (by omega), Nat.add_assoc]
  · rw [List.getElem?_eq_none (by rw [fromL_length]; omega), List.getElem?_eq_none (by rw [fromL_length]; omega)]

theorem Reads.cut {w : World} {B n k cap : Nat} {A : Option Addr} {xs : List Value} (h : Reads w B A n xs) (hk : k ≤ n) (hc : n ≤ cap) :
    Reads w B (if cap = k then A else A.map (·.add k)) (n - k) (xs.drop k) := by
  refine ⟨by rw [List.length_drop, h.1], fun hn => ?_⟩
  obtain ⟨ad, rfl, hb, hcell⟩ := h.2 (by omega)
  rw [if_neg (by omega)]
  refine ⟨ad.add k, rfl, by rw [block_of_add]; exact hb, fun j u hu => ?_⟩
  have e : (ad.add k).add j = ad.add (k + j) := by
    unfold Addr.add
    by_cases hk : k = 0 <;> by_cases hj : j = 0 <;> simp [hk, hj, Nat.add_assoc]
  rw [e]
  exact hcell _ u (by rw [← hu, List.getElem?_drop])

/-- What the reference's Take leaves: the number, the bits that are left, the error. -/
def RTake (w : World) (B : Nat) (bs : List Nat) (val k' er : Nat) (e : Ending) (w' : World) : Prop :=
  ∃ A' c', e = .returned (.tuple #[.int .i64 (val : Int), .slice A' (8 * bs.length - k') c', .int .i64 (er : Int)]) ∧ 8 * bs.length - k' ≤ c' ∧ c' ≤ 9223372036854775807 ∧ Reads w B A' (8 * bs.length - k') (Bools (fromL bs k')) ∧ ∃ j, w' = w.drewN j

theorem rtake_arg (A : Option Addr) (k c : Nat) (n : Int) (bs : List Nat) (w : World) (B : Nat) (hr : Reads w B A (8 * bs.length - k) (Bools (fromL bs k))) (hc : 8 * bs.length - k ≤ c) (hcm : c ≤ 9223372036854775807) (h : n < 0 ∨ 63 < n) :
    Calls Try.prog 22 #[.slice A (8 * bs.length - k) c, .int .i64 n] w (RTake w B bs 0 k 1) := by
  have HR := Lib.hid hr
  clear hr
  rcases h with h | h
  · have hd : decide (n < 0) = true := by simpa using h
    go_enter Try.func22, Try.ntmps22
    go_wp2_with fail
    go_ret3
    exact ⟨A, c, rfl, hc, hcm, HR.out, 0, rfl⟩
  · have hd : decide (n < 0) = false := by simp; omega
    have hd2 : decide (63 < n) = true := by simpa using h
    go_enter Try.func22, Try.ntmps22
    go_wp2_with fail
    go_ret3
    exact ⟨A, c, rfl, hc, hcm, HR.out, 0, rfl⟩

theorem rtake_end (A : Option Addr) (k c n m : Nat) (bs : List Nat) (w : World) (B : Nat) (hm : m = 8 * bs.length - k) (hr : Reads w B A m (Bools (fromL bs k))) (hc : m ≤ c) (hcm : c ≤ 9223372036854775807) (hn : n ≤ 63) (hl : m < n) :
    Calls Try.prog 22 #[.slice A m c, .int .i64 (n : Int)] w (RTake w B bs 0 k 3) := by
  have HR := Lib.hid hr
  have HM := Lib.hid hm
  clear hr hm
  have hd : decide ((n : Int) < 0) = false := by simp
  have hd2 : decide (63 < (n : Int)) = false := by simp; omega
  have hd3 : decide (m < n) = true := by simp; omega
  go_enter Try.func22, Try.ntmps22
  go_wp2_with fail
  go_ret3
  exact ⟨A, c, by rw [← HM.out]; rfl, by rw [← HM.out]; exact hc, hcm, by rw [← HM.out]; exact HR.out, 0, rfl⟩

set_option maxHeartbeats 1000000 in
theorem rtake_yes (A : Option Addr) (k c n m : Nat) (bs : List Nat) (w : World) (B : Nat) (hm : m = 8 * bs.length - k) (hr : Reads w B A m (Bools (fromL bs k))) (hc : m ≤ c) (hcm : c ≤ 9223372036854775807) (hn : n ≤ 63) (hl : n ≤ m) :
    Calls Try.prog 22 #[.slice A m c, .int .i64 (n : Int)] w (RTake w B bs (tk bs k 0 n) (k + n) 0) := by
  have HR := Lib.hid hr
  have HM := Lib.hid hm
  clear hr hm
  have hd : decide ((n : Int) < 0) = false := by simp
  have hd2 : decide (63 < (n : Int)) = false := by simp; omega
  have hd3 : decide (m < n) = false := by simp; omega
  obtain ⟨fin, hfin⟩ : ∃ fin, fin = tk bs k 0 n := ⟨_, rfl⟩
  rw [← hfin]
  have HF := Lib.hid hfin
  clear hfin
  go_enter Try.func22, Try.ntmps22
  go_wp2_with fail
  go_loopg [7, 8] n (fun gg s7 s8 wr => ∃ i v : Nat, i + gg = n ∧ s8 = .int .i64 (i : Int) ∧ s7 = .int .i64 (v : Int) ∧ v < 2 ^ i ∧ tk bs (k + i) v gg = fin ∧ w = wr)
  case atStart => exact ⟨0, 0, by omega, rfl, rfl, by decide, HF.out.symm, rfl⟩
  case round =>
    obtain ⟨i, v, hig, rfl, rfl, hv, htk, rfl⟩ := hrel
    have HT := Lib.hid htk
    clear htk
    cases gk with
    | zero =>
      have hdi : decide (i < n) = false := by simp; omega
      have ei : i = n := by omega
      have HV := Lib.hid hv
      clear hv
      have hn0 : (0 : Int) ≤ (n : Int) := by omega
      have hnm : (n : Int) ≤ (m : Int) := by omega
      have hnc : (n : Int) ≤ (c : Int) := by omega
      have hcut := HR.out.cut (k := n) hl hc
      have eb : (Bools (fromL bs k)).drop n = Bools (fromL bs (k + n)) := by rw [← fromL_drop]; simp [Bools]
      rw [eb] at hcut
      have el : m - n = 8 * bs.length - (k + n) := by have := HM.out; omega
      have HC := Lib.hid (And.intro hcut el)
      clear hcut eb el ei
      by_cases hcn : c = n
      · have HCN := Lib.hid hcn
        go_wp2_with fail
        go_quiet (fail)
        go_wp2_with fail
        go_ret3
        refine ⟨A, 0, ?_, ?_, by omega, ?_, nq, rfl⟩
        · rw [← HC.out.2, ← (show v = fin from HT.out)]; rfl
        · rw [← HC.out.2]; have := HCN.out; omega
        · rw [← HC.out.2]; have h := HC.out.1; rw [if_pos HCN.out] at h; exact h
      · have HCN := Lib.hid hcn
        go_wp2_with fail
        go_quiet (fail)
        go_wp2_with fail
        go_ret3
        refine ⟨A.map (·.add n), c - n, ?_, ?_, by omega, ?_, nq, rfl⟩
        · rw [← HC.out.2, ← (show v = fin from HT.out)]; rfl
        · rw [← HC.out.2]; omega
        · rw [← HC.out.2]; have h := HC.out.1; rw [if_neg HCN.out] at h; exact h
    | succ gk =>
      have hdi : decide (i < n) = true := by simp; omega
      have hlt : i < m := by omega
      have hi62 : 2 ^ i ≤ 2 ^ 62 := Nat.pow_le_pow_right (by omega) (by omega)
      have hv62 : v < 4611686018427387904 := by have : (2 : Nat) ^ 62 = 4611686018427387904 := by decide
                                                omega
      have hps : 2 ^ (i + 1) = 2 * 2 ^ i := by rw [Nat.pow_succ]; omega
      obtain ⟨b, o, e, _, hcell⟩ := HR.out.spot hlt
      have hg : (Bools (fromL bs k))[i]? = some (.bool (bitAt bs (k + i) == 1)) := by
        have := fromL_get bs k i (by rw [← HM.out]; exact hlt)
        simp [Bools, this]
      rw [hg] at hcell
      have hbl := bitAt_lt bs (k + i)
      have hnx : tk bs (k + (i + 1)) (2 * v + bitAt bs (k + i)) gk = fin := by rw [← HT.out]; rfl
      have HN := Lib.hid hnx
      have HV : Hid (v < 2 ^ i ∧ 2 ^ (i + 1) = 2 * 2 ^ i) := ⟨hv, hps⟩
      subst e
      have hii : (i : Int) < (m : Int) := by omega
      clear hg hnx hi62 hps hv
      by_cases hbit : bitAt bs (k + i) = 1
      · have hz : (bitAt bs (k + i) == 1) = true := by simp [hbit]
        rw [hz] at hcell
        have HBit := Lib.hid hbit
        clear hz hbit hbl
        go_wp2_with fail
        go_roundg gk
        case measure => omega
        case rel =>
          have h1 := HV.out
          have h2 := HN.out
          rw [HBit.out] at h2
          exact ⟨i + 1, 2 * v + 1, by omega, rfl, rfl, by omega, h2, rfl⟩
      · have hz : (bitAt bs (k + i) == 1) = false := by simp [hbit]
        rw [hz] at hcell
        have HBit : Hid (bitAt bs (k + i) = 0) := by show _ = _; omega
        clear hz hbit hbl
        go_wp2_with fail
        go_roundg gk
        case measure => omega
        case rel =>
          have h1 := HV.out
          have h2 := HN.out
          rw [HBit.out] at h2
          exact ⟨i + 1, 2 * v, by omega, rfl, rfl, by omega, h2, rfl⟩

end Go.Proofs.Ytehonfobofpahaa

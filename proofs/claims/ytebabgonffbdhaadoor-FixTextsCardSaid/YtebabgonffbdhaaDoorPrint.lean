/- The contract of Print. -/
import Derived.Test.YtebabgonffbdhaaDoorPrn
import Derived.Test.YtebabgonffbdhaaDoorSm
import Derived.Test.YtebabgonffbdhaaDoorBytes
import Derived.Test.YtebabgonffbdhaaDoorShelf
import Derived.Maps.AppendAt
import Derived.Deep.DeepCutAuto
import Derived.Lib.SmallJoins
namespace Go.Proofs.YtebabgonffbdhaaDoor
open Go.RowKit

/-- The table of powers of ten holds what its initialiser lays. -/
def Tab (w : World) : Prop := Lib.TabIs Tryd.prog w "internal/strconv.uint64pow10" .u64 Lib.pow10Tab

/-- The bytes l lie at v, in memory that is new since w. -/
structure TB (w : World) (v : Value) (l : List Nat) (wx : World) : Prop where
  own : wx.ownsRow w.heap.size 5 1 v l.length (U8s l)
  below : Below w.heap.size w wx

theorem TB.start (w : World) : TB w (.slice (some ⟨w.heap.size, 0, none⟩) 0 0) [] (w.alloc (.cells #[] 5)) :=
  ⟨⟨rfl, .inr ⟨w.heap.size, 0, #[], rfl, Nat.le_refl _, heap_alloc_new w _, Nat.le_refl _, Nat.zero_le _, rfl, rfl⟩⟩, (Below.refl _ _).alloc (Nat.le_refl _) _⟩
theorem TB.size {w wx : World} {v : Value} {l : List Nat} (h : TB w v l wx) : w.heap.size ≤ wx.heap.size := h.below.size
theorem TB.next {w wx w4 : World} {v v4 : Value} {l : List Nat} {c : Nat} {o : Obj} (h : TB w v l wx) (hown : w4.ownsRow w.heap.size 5 1 v4 (l.length + 1) (U8s l ++ [.int .u8 (c : Int)])) (hg : (wx.alloc o).grownBy w4 v.ownBlock) : TB w v4 (l ++ [c]) w4 := by
  refine ⟨?_, below_kept h.below h.size hg (fun k hk => (h.own.lt k hk).1)⟩
  rw [U8s_append, List.length_append]
  exact hown
theorem TB.conv {w wx : World} {v : Value} {l : List Nat} (h : TB w v l wx) : (convert 56 9 v).run Tryd.prog wx = .ok (.string (strOf l)) wx := by
  obtain ⟨A, c, rfl⟩ := own_slice h.own
  exact conv_reads wx _ c A l (Reads.of_own h.own)

theorem byteCells_dd (u : Nat) : Lib.byteCells (Lib.decDigits u) = U8s (dd u) := by
  simp [Lib.byteCells, U8s, dd]

theorem gpow : Tryd.prog.globalNamed "internal/strconv.uint64pow10" = some 2 := by kernel_rfl
theorem Tab.below {w w' : World} (h : Tab w) (hb : Below w.heap.size w w') : Tab w' := Go.Joins.tab_stays gpow h hb (Nat.le_refl _)

theorem append_uint (u : Nat) (w wx : World) (v : Value) (l : List Nat) (hu : u < 18446744073709551616) (h : TB w v l wx) (ht : Tab w) (hl : l.length ≤ 100) :
    Calls Tryd.prog 46 #[v, .int .u64 (u : Int), .int .i64 10] wx fun e w' => ∃ v', e = .returned v' ∧ TB w v' (l ++ dd u) w' := by
  have ci : Calls Tryd.prog 51 #[v, .int .u64 (u : Int), .int .i64 10] wx fun e w' => ∃ v', e = .returned v' ∧ w'.ownsRow w.heap.size 5 1 v' (l.length + (Lib.decDigits u).length) (U8s l ++ Lib.byteCells (Lib.decDigits u)) ∧ Below w.heap.size wx w' ∧ Lib.OthersKept 5 none wx w' := by
    by_cases h100 : u < 100
    · exact Tryd.internal_strconv_AppendUint_10_small w.heap.size l.length u h100 v (U8s l) wx h.own h.size (by omega)
    · exact Tryd.internal_strconv_AppendUint_10_big w.heap.size l.length u (by omega) hu v (U8s l) wx h.own h.size (by omega) (ht.below h.below)
  have CI := Lib.hid ci
  have HB := Lib.hid h
  obtain ⟨A, c, rfl⟩ := own_slice h.own
  clear ci h ht
  go_enter Tryd.func46, Tryd.ntmps46
  go_wp2_with fail
  refine CI.out.mono ?_
  rintro e w' ⟨v', rfl, ho, hb, _⟩
  go_wp2_with fail
  go_ret
  refine ⟨v', rfl, ?_, HB.out.below.trans hb⟩
  rw [List.length_append, U8s_append, ← byteCells_dd, dd, List.length_map]
  exact ho

set_option maxRecDepth 100000 in
set_option maxHeartbeats 1000000 in
theorem print_c (a : Int) (w : World) (ht : Tab w) (h1 : -9223372036854775808 ≤ a) (h2 : a < 9223372036854775808) :
    Calls Tryd.prog 28 #[.int .i64 a] w fun e w' => e = .returned (.string (strOf (printF a))) ∧ Below w.heap.size w w' := by
  obtain ⟨i0, hi, hz0, hz1, hz2⟩ := info_parts infoU8
  have CS := Lib.hid (size_c a w h1 h2)
  have HT := Lib.hid ht
  obtain ⟨f, hf⟩ : ∃ f, f = a.natAbs % 4294967296 := ⟨_, rfl⟩
  obtain ⟨u, hu⟩ : ∃ u, u = a.natAbs / 4294967296 := ⟨_, rfl⟩
  have ef : (a.natAbs : Int) % 4294967296 = (f : Int) := by omega
  have eu : (a.natAbs : Int) / 4294967296 = (u : Int) := by omega
  have hn : a.natAbs < 18446744073709551616 := by omega
  have hul : u < 18446744073709551616 := by omega
  have hfl : f < 4294967296 := by omega
  have hud : (dd u).length ≤ 20 := by
    rw [dd_len]
    rcases Nat.eq_zero_or_pos u with rfl | h
    · rw [Lib.nDigits_small (by omega)]; omega
    · have := Lib.numDigits_eq u h hul
      split at this <;> omega
  have HP := Lib.hid (show printF a = (minus a) ++ dd u ++ [46] ++ frac f by rw [hf, hu]; rfl)
  clear ht hf hu
  go_enter Tryd.func28, Tryd.ntmps28
  go_upto_region 3 with (go_at_call 31; refine CS.out.mono ?_; rintro e w' ⟨rfl, rfl⟩)
  rw [ef]
  have HS := TB.start w
  generalize w.alloc (.cells #[] 5) = w1 at HS
  have hneg : (decide (a < 0) = true ∧ a < 0) ∨ (decide (a < 0) = false ∧ ¬ a < 0) := by
    by_cases h : a < 0
    · exact .inl ⟨decide_eq_true h, h⟩
    · exact .inr ⟨decide_eq_false h, h⟩
  clear ef eu hn
  go_upto_if 14 with (fail)
  go_cut [5] (fun s5 wx => TB w s5 (minus a) wx)
  case first =>
    rcases hneg with ⟨hd, hn⟩ | ⟨hd, hn⟩
    · go_wp2_with (at_builtin; refine wpList_append_own_at _ rfl (.tmp 15) (.tmp 16) 56 rfl w.heap.size 5 i0 (.int .u8 0) 1 1 Tryd.underlying56 hi hz0 hz1 hz2 rfl (by decide) _ _ _ rfl (HS.own.alloc _) ⟨w1.heap.size, 0, none⟩ 1 1 [.int .u8 (45 : Int)] rfl rfl (cell_one_new _ _ _) ?c2 ?c3 ?c4 ?c5 ?_)
      case c2 => intro u hu; simp at hu; subst hu; rfl
      case c3 => unfold maxLen; simp; try omega
      case c4 => simp; try omega
      case c5 => have := HS.size; simp; omega
      intro v4 w4 hown4 hgrow4 _ _
      have HS' : TB w v4 [45] w4 := HS.next (c := 45) hown4 hgrow4
      clear hown4 hgrow4
      go_wp2_with fail
      go_meet
      rw [minus_neg hn]
      exact HS'
    · go_wp2_with fail
      go_meet
      rw [minus_pos (by omega)]
      exact HS
  case rest =>
    have HP' := HP.out
    obtain ⟨l, hl⟩ : ∃ l : List Nat, l = minus a := ⟨_, rfl⟩
    have hll : l.length ≤ 1 := by rw [hl]; unfold minus; split <;> simp
    rw [← hl] at hcut HP'
    have HP2 := Lib.hid HP'
    have HS2 := Lib.hid hcut
    clear hl hcut HP' HP hneg HS
    go_wp2_with fail
    refine (append_uint u w _ _ l hul HS2.out HT.out (by omega)).mono ?_
    rintro e w2 ⟨v2, rfl, hS3⟩
    have hl3 : (l ++ dd u).length ≤ 21 := by rw [List.length_append]; omega
    generalize l ++ dd u = l3 at *
    go_wp2_with (at_builtin; refine wpList_append_own_at _ rfl (.tmp 21) (.tmp 22) 56 rfl w.heap.size 5 i0 (.int .u8 0) 1 1 Tryd.underlying56 hi hz0 hz1 hz2 rfl (by decide) _ _ _ rfl (hS3.own.alloc _) ⟨w2.heap.size, 0, none⟩ 1 1 [.int .u8 (46 : Int)] rfl rfl (cell_one_new _ _ _) ?d2 ?d3 ?d4 ?d5 ?_)
    case d2 => intro u hu; simp at hu; subst hu; rfl
    case d3 => unfold maxLen; omega
    case d4 => omega
    case d5 => have := hS3.size; simp; omega
    intro v5 w5 hown5 hgrow5 _ _
    have HS5 := Lib.hid (hS3.next (c := 46) hown5 hgrow5)
    have hl5 : (l3 ++ [46]).length ≤ 22 := by rw [List.length_append]; simp; omega
    generalize l3 ++ [46] = l5 at *
    clear hown5 hgrow5 hS3 HS2
    by_cases hf0 : f = 0
    · subst hf0
      have hd0 : (((0 : Nat) : Int) == 0) = true := rfl
      go_wp2_with (at_builtin; refine wpList_append_own_at _ rfl (.tmp 26) (.tmp 27) 56 rfl w.heap.size 5 i0 (.int .u8 0) 1 1 Tryd.underlying56 hi hz0 hz1 hz2 rfl (by decide) _ _ _ rfl (HS5.out.own.alloc _) ⟨w5.heap.size, 0, none⟩ 1 1 [.int .u8 (48 : Int)] rfl rfl (cell_one_new _ _ _) ?e2 ?e3 ?e4 ?e5 ?_)
      case e2 => intro u hu; simp at hu; subst hu; rfl
      case e3 => unfold maxLen; omega
      case e4 => omega
      case e5 => have := HS5.out.size; simp; omega
      intro v6 w6 hown6 hgrow6 _ _
      have HS6 := HS5.out.next (c := 48) hown6 hgrow6
      have hcv := HS6.conv
      have HS6' := Lib.hid HS6
      clear hown6 hgrow6 HS6
      go_wp2_with fail
      go_ret
      exact ⟨by rw [HP2.out]; rfl, HS6'.out.below⟩
    · have hd0 : ((f : Int) == 0) = false := by simp; omega
      have HF := Lib.hid (show frac f = frd 32 f from if_neg hf0)
      have HW := Lib.hid (Few.all hfl)
      clear hf0 hfl
      go_wp2_with fail
      clear hd0
      go_loopg [4, 5] 32 (fun gg s4 s5 wr => ∃ (x : Nat) (m : List Nat), s4 = .int .u64 (x : Int) ∧ Few gg x ∧ m.length + gg ≤ 32 ∧ m ++ frd gg x = frd 32 f ∧ TB w s5 (l5 ++ m) wr)
      case atStart => exact ⟨f, [], rfl, HW.out, by simp, by simp, by rw [List.append_nil]; exact HS5.out⟩
      case round =>
        obtain ⟨x, m, rfl, hfew, hml, hmf, hS⟩ := hrel
        have hln : (l5 ++ m).length ≤ 54 := by rw [List.length_append]; omega
        obtain ⟨l6, hl6⟩ : ∃ l6, l6 = l5 ++ m := ⟨_, rfl⟩
        rw [← hl6] at hS hln
        have HL6 := Lib.hid hl6
        clear hl6
        have HM := Lib.hid hmf
        have HX := Lib.hid hfew
        have hx := hfew.2.1
        clear hmf hfew
        obtain ⟨A, c, rfl⟩ := own_slice hS.own
        by_cases hx0 : x = 0
        · subst hx0
          have hcv := hS.conv
          have HS' := Lib.hid hS
          clear hS hx
          go_wp2_with fail
          go_ret
          refine ⟨?_, HS'.out.below⟩
          have := HM.out
          rw [frd_zero, List.append_nil] at this
          rw [HP2.out, HF.out, ← this, HL6.out]
          rfl
        · cases gk with
          | zero => exact absurd HX.out.none_ hx0
          | succ gk =>
            have hd : ((x : Int) != 0) = true := by simp; omega
            have hm2 := HM.out
            rw [frd_step hx0] at hm2
            obtain ⟨q, hq⟩ : ∃ q, q = x * 10 / 4294967296 := ⟨_, rfl⟩
            obtain ⟨r, hr⟩ : ∃ r, r = x * 10 % 4294967296 := ⟨_, rfl⟩
            have hnx := HX.out.next
            rw [← hq, ← hr] at hm2
            rw [← hr] at hnx
            obtain ⟨y, hy⟩ : ∃ y, y = x * 10 := ⟨_, rfl⟩
            have e0 : IntKind.u64.wrap ((x : Int) * 10) = (y : Int) := by rw [IntKind.wrap_u64]; omega
            have e1 : (y : Int) / 4294967296 = (q : Int) := by omega
            have e2 : (y : Int) % 4294967296 = (r : Int) := by omega
            have hq10 : q < 10 := by omega
            have HM2 := Lib.hid hm2
            have HNX := Lib.hid hnx
            clear hx0 hm2 hq hr hnx HM HX hx hy
            have hS' := Lib.hid hS
            clear hS
            go_wp2_with (at_builtin; refine wpList_append_own_at _ rfl (.tmp 34) (.tmp 39) 56 rfl w.heap.size 5 i0 (.int .u8 0) 1 1 Tryd.underlying56 hi hz0 hz1 hz2 rfl (by decide) _ _ _ rfl (hS'.out.own.alloc _) ⟨wr.heap.size, 0, none⟩ 1 1 [.int .u8 (48 + (q : Int))] rfl rfl (cell_one_new _ _ _) ?f2 ?f3 ?f4 ?f5 ?_)
            case f2 => intro u hu; simp at hu; subst hu; rfl
            case f3 => unfold maxLen; omega
            case f4 => omega
            case f5 => have := hS'.out.size; simp; omega
            intro v7 w7 hown7 hgrow7 _ _
            have hS7 := hS'.out.next (c := 48 + q) (by push_cast; exact hown7) hgrow7
            have HS7 := Lib.hid hS7
            clear hown7 hgrow7 hS7
            go_wp2_with fail
            go_roundg gk
            case measure => omega
            case rel => exact ⟨r, m ++ [48 + q], by rw [e2], HNX.out, by rw [List.length_append]; simp; omega, by rw [List.append_assoc]; exact HM2.out, by rw [← List.append_assoc, ← HL6.out]; exact HS7.out⟩
end Go.Proofs.YtebabgonffbdhaaDoor

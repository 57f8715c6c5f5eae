/- The reference's Sqrt: the same root. -/
import Derived.Test.YtebabgonffbdhaaDoorOver
import Derived.Test.YtebabgonffbdhaaDoorSqrt
import Derived.Deep.RegionHeld3
import Derived.Deep.DeepCutAuto
namespace Go.Proofs.YtebabgonffbdhaaDoor
open Go.RowKit

/-- What holds of a root whose bits from j on are known. -/
structure Rq (t j root : Nat) : Prop where
  sq : root * root ≤ t
  above : t < (root + 2 ^ j) * (root + 2 ^ j)
  lt : root + 2 ^ j ≤ 562949953421312
theorem Rq.start {t : Nat} (h : t < 79228162514264337593543950336) : Rq t 49 0 := ⟨by omega, by rw [Nat.zero_add]; exact Nat.lt_of_lt_of_le h (by decide), by decide⟩
theorem Rq.end_ {t root : Nat} (h : Rq t 0 root) : IsRt t root := ⟨h.sq, h.above⟩
theorem Rq.no {t k root : Nat} (h : Rq t (k + 1) root) (hn : t < (root + 2 ^ k) * (root + 2 ^ k)) : Rq t k root := by
  refine ⟨h.sq, hn, ?_⟩
  have := h.lt
  have : 2 ^ k ≤ 2 ^ (k + 1) := Nat.pow_le_pow_right (by omega) (by omega)
  omega
theorem Rq.yes {t k root : Nat} (h : Rq t (k + 1) root) (hn : (root + 2 ^ k) * (root + 2 ^ k) ≤ t) : Rq t k (root + 2 ^ k) := by
  have e : root + 2 ^ k + 2 ^ k = root + 2 ^ (k + 1) := by rw [Nat.pow_succ]; omega
  exact ⟨hn, by rw [e]; exact h.above, by rw [e]; exact h.lt⟩

theorem rsqrt_neg (a : Int) (w : World) (h : a < 0) : Calls Tryd.prog 15 #[.int .i64 a] w fun e w' => e = .returned (.tuple #[.int .i64 0, .int .i64 1]) ∧ Below w.heap.size w w' := by
  go_enter Tryd.func15, Tryd.ntmps15
  go_wp2_with fail
  go_ret2
  exact ⟨rfl, Below.refl _ _⟩

/-- Of, its digits named once for all worlds. -/
theorem of_named (u : Nat) (h : u < 9223372036854775808) : ∃ d0 d1 d2 d3 : Nat, Dig8 d0 d1 d2 d3 0 0 0 0 ∧ vl8 d0 d1 d2 d3 0 0 0 0 = u ∧ ∀ v : World, Calls Tryd.prog 39 #[.int .i64 (u : Int)] v fun e w' => e = .returned (bigV false d0 d1 d2 d3 0 0 0 0) ∧ Below v.heap.size v w' := by
  refine ⟨_, _, _, _, of_dig u, of_vl (by omega), fun v => ?_⟩
  have := of_c (u : Int) v (by omega) (by omega)
  rw [Int.natAbs_natCast, decide_eq_false (by omega)] at this
  exact this

theorem makeS {w w1 : World} {g a0 a1 a2 a3 : Nat} (h : Blk w1 g 47 (cel false 0 0 a0 a1 a2 a3 0 0)) (hb : Below w.heap.size w w1) : w1.cell? ⟨g, 0, none⟩ = some (.bool false) ∧ w1.cell? ⟨g, 1, none⟩ = some (.int .i64 0) ∧ w1.cell? ⟨g, 2, none⟩ = some (.int .i64 0) ∧ w1.cell? ⟨g, 3, none⟩ = some (.int .i64 (a0 : Int)) ∧ w1.cell? ⟨g, 4, none⟩ = some (.int .i64 (a1 : Int)) ∧ w1.cell? ⟨g, 5, none⟩ = some (.int .i64 (a2 : Int)) ∧ w1.cell? ⟨g, 6, none⟩ = some (.int .i64 (a3 : Int)) ∧ w1.cell? ⟨g, 7, none⟩ = some (.int .i64 0) ∧ w1.cell? ⟨g, 8, none⟩ = some (.int .i64 0) ∧ Blk w1 g 47 (cel false 0 0 a0 a1 a2 a3 0 0) ∧ Below w.heap.size w w1 :=
  ⟨h.cell 0, h.cell 1, h.cell 2, h.cell 3, h.cell 4, h.cell 5, h.cell 6, h.cell 7, h.cell 8, h, hb⟩
theorem keepS {w w1 w2 : World} {g a0 a1 a2 a3 : Nat} (h : w1.cell? ⟨g, 0, none⟩ = some (.bool false) ∧ w1.cell? ⟨g, 1, none⟩ = some (.int .i64 0) ∧ w1.cell? ⟨g, 2, none⟩ = some (.int .i64 0) ∧ w1.cell? ⟨g, 3, none⟩ = some (.int .i64 (a0 : Int)) ∧ w1.cell? ⟨g, 4, none⟩ = some (.int .i64 (a1 : Int)) ∧ w1.cell? ⟨g, 5, none⟩ = some (.int .i64 (a2 : Int)) ∧ w1.cell? ⟨g, 6, none⟩ = some (.int .i64 (a3 : Int)) ∧ w1.cell? ⟨g, 7, none⟩ = some (.int .i64 0) ∧ w1.cell? ⟨g, 8, none⟩ = some (.int .i64 0) ∧ Blk w1 g 47 (cel false 0 0 a0 a1 a2 a3 0 0) ∧ Below w.heap.size w w1) (hb : Below w1.heap.size w1 w2) : w2.cell? ⟨g, 0, none⟩ = some (.bool false) ∧ w2.cell? ⟨g, 1, none⟩ = some (.int .i64 0) ∧ w2.cell? ⟨g, 2, none⟩ = some (.int .i64 0) ∧ w2.cell? ⟨g, 3, none⟩ = some (.int .i64 (a0 : Int)) ∧ w2.cell? ⟨g, 4, none⟩ = some (.int .i64 (a1 : Int)) ∧ w2.cell? ⟨g, 5, none⟩ = some (.int .i64 (a2 : Int)) ∧ w2.cell? ⟨g, 6, none⟩ = some (.int .i64 (a3 : Int)) ∧ w2.cell? ⟨g, 7, none⟩ = some (.int .i64 0) ∧ w2.cell? ⟨g, 8, none⟩ = some (.int .i64 0) ∧ Blk w2 g 47 (cel false 0 0 a0 a1 a2 a3 0 0) ∧ Below w.heap.size w w2 :=
  makeS (h.2.2.2.2.2.2.2.2.2.1.below hb h.2.2.2.2.2.2.2.2.2.1.lt) (bt h.2.2.2.2.2.2.2.2.2.2 hb)

set_option maxRecDepth 100000 in
set_option maxHeartbeats 4000000 in
theorem rsqrt_c (a : Nat) (w : World) (h : a < 9223372036854775808) :
    Calls Tryd.prog 15 #[.int .i64 (a : Int)] w fun e w' => (∃ n : Nat, IsRt (a * 4294967296) n ∧ e = .returned (.tuple #[.int .i64 (n : Int), .int .i64 0])) ∧ Below w.heap.size w w' := by
  have hneg : decide ((a : Int) < 0) = false := decide_eq_false (by omega)
  obtain ⟨a0, a1, a2, a3, da, va, CO⟩ := of_named a h
  have HA := Lib.hid (And.intro da va)
  have HCO := Lib.hid CO
  obtain ⟨T, hT⟩ : ∃ T, T = a * 4294967296 := ⟨_, rfl⟩
  have HR := Lib.hid (Rq.start (t := T) (by omega))
  have HW := Lib.hid (show vl8 0 0 a0 a1 a2 a3 0 0 = T by rw [up_vl, va, hT])
  have HWD := Lib.hid (up_dig da)
  rw [← hT]
  clear da va CO h hT
  go_enter Tryd.func15, Tryd.ntmps15
  go_wp2_with fail
  refine (HCO.out w).mono ?_
  rintro e w1 ⟨rfl, hb1⟩
  have HB1 := Lib.hid hb1
  clear hb1
  go_wp2_with fail
  refine (shift_up _ a0 a1 a2 a3 0 0 0 0 w1).mono ?_
  rintro e w2 ⟨rfl, hb2⟩
  have HB2 := Lib.hid (bt HB1.out hb2)
  clear hb2 HB1
  go_wp2_with fail
  have hk := Blk.new w2 47 (cel false 0 0 a0 a1 a2 a3 0 0)
  have hb3 : Below w.heap.size w (w2.alloc (.cells (cel false 0 0 a0 a1 a2 a3 0 0) 47)) := HB2.out.alloc HB2.out.size _
  generalize w2.alloc (.cells _ 47) = w3 at hk hb3 ⊢
  generalize w2.heap.size = g at hk ⊢
  have HK := Lib.hid hk
  have HB3 := Lib.hid hb3
  clear hk hb3 HB2
  clear HCO HA
  go_loopg [5, 6] 49 (fun gg s5 s6 wr => ∃ (z : Int) (r : Nat), s5 = .int .i64 (r : Int) ∧ s6 = .int .i64 z ∧ z = (gg : Int) - 1 ∧ gg ≤ 49 ∧ Rq T gg r ∧ Blk wr g 47 (cel false 0 0 a0 a1 a2 a3 0 0) ∧ Below w.heap.size w wr)
  case atStart => exact ⟨48, 0, rfl, rfl, rfl, Nat.le_refl _, HR.out, HK.out, HB3.out⟩
  case round =>
    obtain ⟨z, r, rfl, rfl, hz, hg, hq, hk, hb⟩ := hrel
    have HQ := Lib.hid hq
    have HK1 := Lib.hid hk
    have HB4 := Lib.hid hb
    clear hq hk hb HK HB3 HR
    cases gk with
    | zero =>
      obtain rfl : z = -1 := by omega
      clear hz hg
      go_wp2_with fail
      refine bodyPost_ret (v := .tuple #[.int .i64 (r : Int), .int .i64 0]) (by simp [results, Tryd.results15, go_sem]) rfl ⟨⟨r, HQ.out.end_, rfl⟩, HB4.out⟩
    | succ k =>
      obtain rfl : z = (k : Int) := by omega
      have hk48 : k ≤ 48 := by omega
      have hlt := HQ.out.lt
      have hpow : 2 ^ (k + 1) = 2 * 2 ^ k := by rw [Nat.pow_succ]; omega
      have iP : (2 : Int) ^ k = ((2 ^ k : Nat) : Int) := by push_cast; rfl
      have hno := Lib.hid HQ.out.no
      have hyes := Lib.hid HQ.out.yes
      generalize 2 ^ (k + 1) = P2 at *
      generalize 2 ^ k = P at *
      obtain ⟨mm, hmm⟩ : ∃ mm, mm = r + P := ⟨_, rfl⟩
      rw [← hmm] at hno hyes
      have e1 : wrap64 (P : Int) = (P : Int) := IntWalk.wrap64_in _ (by omega)
      have e2 : (r : Int) + (P : Int) = (mm : Int) := by omega
      have e3 : wrap64 (mm : Int) = (mm : Int) := IntWalk.wrap64_in _ (by omega)
      obtain ⟨d0, d1, d2, d3, dd_, vd, CO⟩ := of_named mm (by omega)
      have HDD := Lib.hid (And.intro dd_ vd)
      have HCO := Lib.hid CO
      clear hz hg hlt hpow hmm dd_ vd CO
      go_upto_region 9 with (fail)
      rw [e3]
      clear e1 e2 e3
      have HTM := Lib.hid (fun v => times_big false false d0 d1 d2 d3 d0 d1 d2 d3 v HDD.out.1 HDD.out.1)
      go_cut [8] (fun s8 wx => s8 = .int .i64 (cmp3 (mm * mm) T) ∧ Blk wx g 47 (cel false 0 0 a0 a1 a2 a3 0 0) ∧ Below w.heap.size w wx)
      case first =>
        go_region_held3 (fun w' => w'.cell? ⟨g, 0, none⟩ = some (.bool false) ∧ w'.cell? ⟨g, 1, none⟩ = some (.int .i64 0) ∧ w'.cell? ⟨g, 2, none⟩ = some (.int .i64 0) ∧ w'.cell? ⟨g, 3, none⟩ = some (.int .i64 (a0 : Int)) ∧ w'.cell? ⟨g, 4, none⟩ = some (.int .i64 (a1 : Int)) ∧ w'.cell? ⟨g, 5, none⟩ = some (.int .i64 (a2 : Int)) ∧ w'.cell? ⟨g, 6, none⟩ = some (.int .i64 (a3 : Int)) ∧ w'.cell? ⟨g, 7, none⟩ = some (.int .i64 0) ∧ w'.cell? ⟨g, 8, none⟩ = some (.int .i64 0) ∧ Blk w' g 47 (cel false 0 0 a0 a1 a2 a3 0 0) ∧ Below w.heap.size w w') (first | exact makeS HK1.out HB4.out.drew | exact keepS (by assumption) (by assumption))
          (first
            | (go_at_call 39; refine (HCO.out _).mono ?_; rintro e w' ⟨rfl, hb⟩)
            | (go_at_call 41; refine (HTM.out _).mono ?_; rintro e w' ⟨⟨c0, c1, c2, c3, c4, c5, c6, c7, rfl, dc, vc⟩, hb⟩)
            | (go_at_call 40; refine (compare_c _ _ _ _ _ _ _ _ _ _ _ _ _ _ _ _ _ _ _ (by assumption) HWD.out).mono ?_; rintro e w' ⟨rfl, hb⟩))
        rename_i hH
        have HH := Lib.hid hH.2.2.2.2.2.2.2.2.2
        rw [HDD.out.2, HW.out]
        clear hH hb dc vc
        go_wp2_with fail
        go_meet
        exact ⟨rfl, HH.out.1, HH.out.2⟩
      case rest =>
        obtain ⟨rfl, hk5, hb5⟩ := hcut
        have HK5 := Lib.hid hk5
        have HB5 := Lib.hid hb5
        clear hk5 hb5
        by_cases hle : mm * mm ≤ T
        · have hd : decide (cmp3 (mm * mm) T ≤ 0) = true := decide_eq_true (by unfold cmp3; split <;> (try split) <;> omega)
          have HN := Lib.hid (hyes.out hle)
          generalize cmp3 (mm * mm) T = cc at hd ⊢
          clear hle
          go_wp2_with fail
          go_roundg k
          case measure => omega
          case rel => exact ⟨(k : Int) - 1, mm, rfl, rfl, rfl, by omega, HN.out, HK5.out, HB5.out⟩
        · have hd : decide (cmp3 (mm * mm) T ≤ 0) = false := decide_eq_false (by unfold cmp3; split <;> (try split) <;> omega)
          have HN := Lib.hid (hno.out (by omega))
          generalize cmp3 (mm * mm) T = cc at hd ⊢
          clear hle
          go_wp2_with fail
          go_roundg k
          case measure => omega
          case rel => exact ⟨(k : Int) - 1, r, rfl, rfl, rfl, by omega, HN.out, HK5.out, HB5.out⟩
end Go.Proofs.YtebabgonffbdhaaDoor

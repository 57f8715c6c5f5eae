/- The contract of Long. -/
import Derived.Test.YtefaagacgoohjaaVWide
import Derived.Test.YtefaagacgoohjaaVRt
namespace Go.Proofs.Ytefaagacgoohjaa
open Go.RowKit

/-- The sum of both squares. -/
def sqs (x y : Int) : Nat := x.natAbs * x.natAbs + y.natAbs * y.natAbs
theorem sq_le {n : Nat} (h : n ≤ 9223372036854775808) : n * n ≤ 85070591730234615865843651857942052864 := Nat.mul_le_mul h h

theorem makeL {w w1 : World} {g : Nat} {s : Nat} (h : Blk w1 g 43 (wideR s)) (hb : Below w.heap.size w w1) :
    w1.cell? ⟨g, 0, none⟩ = some (.int .u64 ((s / 18446744073709551616 : Nat) : Int)) ∧ w1.cell? ⟨g, 1, none⟩ = some (.int .u64 ((s % 18446744073709551616 : Nat) : Int)) ∧ Blk w1 g 43 (wideR s) ∧ Below w.heap.size w w1 := ⟨h.cell 0, h.cell 1, h, hb⟩
theorem keepL {w w1 w2 : World} {g : Nat} {s : Nat} (h : w1.cell? ⟨g, 0, none⟩ = some (.int .u64 ((s / 18446744073709551616 : Nat) : Int)) ∧ w1.cell? ⟨g, 1, none⟩ = some (.int .u64 ((s % 18446744073709551616 : Nat) : Int)) ∧ Blk w1 g 43 (wideR s) ∧ Below w.heap.size w w1) (hb : Below w1.heap.size w1 w2) :
    w2.cell? ⟨g, 0, none⟩ = some (.int .u64 ((s / 18446744073709551616 : Nat) : Int)) ∧ w2.cell? ⟨g, 1, none⟩ = some (.int .u64 ((s % 18446744073709551616 : Nat) : Int)) ∧ Blk w2 g 43 (wideR s) ∧ Below w.heap.size w w2 :=
  makeL (h.2.2.1.below hb h.2.2.1.lt) (vbt h.2.2.2 hb)

set_option maxRecDepth 100000 in
set_option maxHeartbeats 1000000 in
theorem vlong_c (x y : Int) (n : Nat) (w : World) (hx : I64 x) (hy : I64 y) (hn : IsLong (sqs x y) n) :
    Calls Try.prog 19 #[vecV x y] w fun e w' => e = .returned (.int .i64 (n : Int)) ∧ Below w.heap.size w w' := by
  have q1 : x.natAbs * x.natAbs ≤ 85070591730234615865843651857942052864 := sq_le (by unfold I64 at hx; omega)
  have q2 : y.natAbs * y.natAbs ≤ 85070591730234615865843651857942052864 := sq_le (by unfold I64 at hy; omega)
  have HE := Lib.hid (fun w => eachw_c x y w hx hy)
  unfold sqs at hn
  generalize x.natAbs * x.natAbs = p at *
  generalize y.natAbs * y.natAbs = q at *
  have HP := Lib.hid (fun w => plus_c p q w (by omega))
  generalize p + q = S at *
  have HN := Lib.hid hn
  have HR := Lib.hid (Rl.start S)
  clear hn hx hy q1 q2
  go_enter Try.func19, Try.ntmps19
  go_wp2_with fail
  refine (HE.out _).mono ?_
  rintro e w1 ⟨rfl, hb⟩
  have HB1 := Lib.hid (vbt ((Below.refl _ _).alloc (Nat.le_refl _) _) hb)
  clear hb HE
  go_wp2_with fail
  refine (HP.out _).mono ?_
  rintro e w2 ⟨rfl, hb⟩
  have HB2 := Lib.hid (vbt (vbt HB1.out (bel2 _ _ _)) hb)
  clear hb HP HB1
  go_wp2_with fail
  have hk := Blk.new w2 43 (wideR S)
  have hb3 : Below w.heap.size w (w2.alloc (.cells (wideR S) 43)) := HB2.out.alloc HB2.out.size _
  have ew : w2.alloc (.cells (wideR S) 43) = w2.alloc (.cells #[.int .u64 ((S : Int) / 18446744073709551616), .int .u64 ((S : Int) % 18446744073709551616)] 43) := rfl
  rw [ew] at hk hb3
  generalize w2.alloc (.cells _ 43) = w3 at hk hb3 ⊢
  clear ew
  generalize w2.heap.size = g at hk ⊢
  have HK := Lib.hid hk
  have HB3 := Lib.hid hb3
  clear hk hb3 HB2
  go_loopg [6, 7] 63 (fun gg s6 s7 wr => ∃ (z : Int) (r : Nat), s6 = .int .i64 (r : Int) ∧ s7 = .int .i64 z ∧ z = (gg : Int) - 1 ∧ gg ≤ 63 ∧ Rl S gg r ∧ Blk wr g 43 (wideR S) ∧ Below w.heap.size w wr)
  case atStart => exact ⟨62, 0, rfl, rfl, rfl, Nat.le_refl _, HR.out, HK.out, HB3.out⟩
  case round =>
    obtain ⟨z, r, rfl, rfl, hz, hg, hq, hk, hb⟩ := hrel
    have HQ := Lib.hid hq
    have HK1 := Lib.hid hk
    have HB4 := Lib.hid hb
    clear hq hk hb HK HB3 HR
    cases gk with
    | zero =>
      obtain rfl : z = -1 := by omega
      obtain rfl : r = n := HQ.out.end_.unique HN.out
      clear hz hg
      go_wp2_with fail
      go_ret
      exact ⟨rfl, HB4.out⟩
    | succ k =>
      obtain rfl : z = (k : Int) := by omega
      have hk48 : k ≤ 62 := by omega
      have hlt := HQ.out.lt
      have hor := HQ.out.or
      have hpow : 2 ^ (k + 1) = 2 * 2 ^ k := by rw [Nat.pow_succ]; omega
      have iP : (2 : Int) ^ k = ((2 ^ k : Nat) : Int) := by push_cast; rfl
      have hpos := Nat.two_pow_pos k
      have hno := Lib.hid HQ.out.no
      have hyes := Lib.hid HQ.out.yes
      rw [iP] at hor
      generalize 2 ^ (k + 1) = P2 at *
      generalize 2 ^ k = P at *
      obtain ⟨mm, hmm⟩ : ∃ mm, mm = r + P := ⟨_, rfl⟩
      rw [← hmm] at hno hyes hor
      have e1 : wrap64 (P : Int) = (P : Int) := IntWalk.wrap64_in _ (by omega)
      have HS := Lib.hid (fun w => square_c (mm : Int) w (by unfold I64; omega))
      simp only [Int.natAbs_natCast] at HS
      clear hz hg hlt hpow hmm hpos
      go_upto_region 8 with (fail)
      clear hor iP e1
      go_cut [29] (fun s29 wx => s29 = .bool (!decide (S < mm * mm)) ∧ Blk wx g 43 (wideR S) ∧ Below w.heap.size w wx)
      case first =>
        go_region_held3 (fun w' => w'.cell? ⟨g, 0, none⟩ = some (.int .u64 ((S / 18446744073709551616 : Nat) : Int)) ∧ w'.cell? ⟨g, 1, none⟩ = some (.int .u64 ((S % 18446744073709551616 : Nat) : Int)) ∧ Blk w' g 43 (wideR S) ∧ Below w.heap.size w w') (first | exact makeL HK1.out HB4.out.drew | exact keepL (by assumption) (by assumption))
          (first
            | (go_at_call 39; refine (HS.out _).mono ?_; rintro e w' ⟨rfl, hb⟩)
            | (go_at_call 41; refine (less_c _ _ _).mono ?_; rintro e w' ⟨rfl, hb⟩))
        rename_i hH
        have HH := Lib.hid hH.2.2
        clear hH hb
        go_wp2_with fail
        go_meet
        exact ⟨rfl, HH.out.1, HH.out.2⟩
      case rest =>
        obtain ⟨rfl, hk5, hb5⟩ := hcut
        have HK5 := Lib.hid hk5
        have HB5 := Lib.hid hb5
        clear hk5 hb5
        by_cases hle : mm * mm ≤ S
        · have hd : (!decide (S < mm * mm)) = true := by simp; omega
          have HN := Lib.hid (hyes.out hle)
          generalize (!decide (S < mm * mm)) = cc at hd ⊢
          subst hd
          clear hle
          go_wp2_with fail
          go_roundg k
          case measure => omega
          case rel => exact ⟨(k : Int) - 1, mm, rfl, rfl, rfl, by omega, HN.out, HK5.out, HB5.out⟩
        · have hd : (!decide (S < mm * mm)) = false := by simp; omega
          have HN := Lib.hid (hno.out (by omega))
          generalize (!decide (S < mm * mm)) = cc at hd ⊢
          subst hd
          clear hle
          go_wp2_with fail
          go_roundg k
          case measure => omega
          case rel => exact ⟨(k : Int) - 1, r, rfl, rfl, rfl, by omega, HN.out, HK5.out, HB5.out⟩
end Go.Proofs.Ytefaagacgoohjaa

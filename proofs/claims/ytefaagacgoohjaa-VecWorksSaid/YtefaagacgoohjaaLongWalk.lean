/- The walk of VecLong: how long a pair is, against its parts. -/
import Derived.Test.YtefaagacgoohjaaVAwake
namespace Go.Proofs.Ytefaagacgoohjaa
open Go.RowKit

/-- A number without its sign; MaxInt of the least. -/
def sizeF (x : Int) : Int := if x = -9223372036854775808 then 9223372036854775807 else (x.natAbs : Int)
theorem sizeF_i64 (x : Int) (h : I64 x) : 0 ≤ sizeF x ∧ sizeF x ≤ 9223372036854775807 := by unfold sizeF I64 at *; split <;> omega

theorem lsize_c (x : Int) (w : World) (h : I64 x) : Calls Try.prog 25 #[.int .i64 x] w fun e w' => e = .returned (.int .i64 (sizeF x)) ∧ w = w' := by
  unfold I64 at h
  by_cases k : x = -9223372036854775808
  · subst k
    go_enter Try.func25, Try.ntmps25
    go_wp2
    go_ret
    exact ⟨rfl, rfl⟩
  · have e : sizeF x = (x.natAbs : Int) := by unfold sizeF; rw [if_neg k]
    rw [e]
    clear e
    go_enter Try.func25, Try.ntmps25
    go_wp2
    all_goals
      go_ret
      exact ⟨ret_int (by omega), rfl⟩

theorem long_ge {s n a : Nat} (h : IsLong s n) (ha : a * a ≤ s) (hl : a < 9223372036854775808) : a ≤ n := by
  obtain ⟨h1, h2, h3⟩ := h
  rcases Nat.lt_or_ge n a with hlt | hge
  · have : (n + 1) * (n + 1) ≤ a * a := Nat.mul_le_mul hlt hlt
    omega
  · exact hge
theorem long_le {n a b : Nat} (h : n * n ≤ a * a + b * b) : n ≤ a + b := by
  rcases Nat.lt_or_ge (a + b) n with hlt | hge
  · have h1 : (a + b) * (a + b) < n * n := Nat.mul_lt_mul'' hlt hlt
    have h2 : (a + b) * (a + b) = a * a + b * b + 2 * (a * b) := by rw [Nat.add_mul, Nat.mul_add, Nat.mul_add, Nat.mul_comm b a]; omega
    omega
  · exact hge

theorem long_facts {x y : Int} {n : Nat} (hx : I64 x) (hy : I64 y) (h : IsLong (sqs x y) n) :
    sizeF x ≤ n ∧ sizeF y ≤ n ∧ (n : Int) ≤ addF (sizeF x) (sizeF y) ∧ (n = 0 ↔ x = 0 ∧ y = 0) := by
  have sx : sizeF x ≤ n := by
    have hb := h.2.1
    unfold I64 at hx
    have q : sizeF x = ((sizeF x).toNat : Int) := by unfold sizeF; split <;> omega
    have q2 : (sizeF x).toNat ≤ x.natAbs ∧ (sizeF x).toNat < 9223372036854775808 := by unfold sizeF; split <;> omega
    have := long_ge h (a := (sizeF x).toNat) (Nat.le_trans (Nat.mul_le_mul q2.1 q2.1) (by unfold sqs; omega)) q2.2
    omega
  have sy : sizeF y ≤ n := by
    have hb := h.2.1
    unfold I64 at hy
    have q : sizeF y = ((sizeF y).toNat : Int) := by unfold sizeF; split <;> omega
    have q2 : (sizeF y).toNat ≤ y.natAbs ∧ (sizeF y).toNat < 9223372036854775808 := by unfold sizeF; split <;> omega
    have := long_ge h (a := (sizeF y).toNat) (Nat.le_trans (Nat.mul_le_mul q2.1 q2.1) (by unfold sqs; omega)) q2.2
    omega
  have hl := long_le h.1
  have hb := h.2.1
  refine ⟨sx, sy, ?_, ?_⟩
  · unfold addF sat sizeF I64 at *
    split at sx <;> split at sy <;> (simp only [*, if_true, if_false]; repeat' split) <;> omega
  · unfold sizeF at sx sy
    constructor
    · rintro rfl
      split at sx <;> split at sy <;> omega
    · rintro ⟨rfl, rfl⟩
      simp at hl
      omega

set_option maxHeartbeats 1000000 in
set_option maxRecDepth 100000 in
theorem long_walk (x y : Int) (w : World) (hx : I64 x) (hy : I64 y) :
    Calls Try.prog 4 #[vecV x y] w fun e w' => e = .returned (.bool true) ∧ Below w.heap.size w w' := by
  obtain ⟨n, hn⟩ := long_exists (sqs x y)
  obtain ⟨f1, f2, f3, f4⟩ := long_facts hx hy hn
  have HL := Lib.hid (fun w => vlong_c x y n w hx hy hn)
  have HX := Lib.hid (fun w => lsize_c x w hx)
  have HY := Lib.hid (fun w => lsize_c y w hy)
  have gx := sizeF_i64 x hx
  have gy := sizeF_i64 y hy
  have HA := Lib.hid (fun w => add_c (sizeF x) (sizeF y) w (by omega) (by omega) (by omega) (by omega))
  have HT := Lib.hid (fun (hx' : x ≠ -9223372036854775808) (hy' : y ≠ -9223372036854775808) w => vlong_c (-y) x n w (by unfold I64 at *; omega) hx (by unfold sqs at *; rw [Int.natAbs_neg, Nat.add_comm]; exact hn))
  generalize addF (sizeF x) (sizeF y) = sm at *
  generalize sizeF x = sx at *
  generalize sizeF y = sy at *
  have d1 : decide (sx ≤ (n : Int)) = true := decide_eq_true f1
  have d2 : decide (sy ≤ (n : Int)) = true := decide_eq_true f2
  have d3 : decide ((n : Int) ≤ sm) = true := decide_eq_true f3
  have HC := Lib.hid (And.intro hx hy)
  obtain ⟨b1, e1⟩ : ∃ b, (x == 0) = b := ⟨_, rfl⟩
  obtain ⟨b2, e2⟩ : ∃ b, (y == 0) = b := ⟨_, rfl⟩
  have e3 : ((n : Int) == 0) = (b1 && b2) := by
    rw [← e1, ← e2, Bool.eq_iff_iff]
    simp only [beq_iff_eq, Bool.and_eq_true]
    omega
  have HE := Lib.hid (And.intro e1 (And.intro e2 e3))
  clear f1 f2 f3 f4 gx gy hn hx hy e1 e2 e3
  go_enter Try.func4, Try.ntmps4
  go_wp2_with fail
  refine (awake_c _).mono ?_
  rintro e w1 ⟨rfl, hb⟩
  have hk : Blk w1 w.heap.size 23 #[.int .i64 x, .int .i64 y] := (Blk.new w 23 _).below hb (by simp)
  have c0 : w1.cell? ⟨w.heap.size, 0, none⟩ = some (.int .i64 x) := hk.cell 0
  have c1 : w1.cell? ⟨w.heap.size, 1, none⟩ = some (.int .i64 y) := hk.cell 1
  have HK := Lib.hid hk
  have HB1 := Lib.hid (vbt ((Below.refl _ _).alloc (Nat.le_refl _) _) hb)
  clear hb hk
  obtain ⟨g, hg⟩ : ∃ g, g = w.heap.size := ⟨_, rfl⟩
  rw [← hg] at c0 c1 HK ⊢
  clear hg
  go_wp2_with fail
  refine (HL.out _).mono ?_
  rintro e w2 ⟨rfl, hb⟩
  have hk := HK.out.below hb HK.out.lt
  clear c0 c1
  have c0 : w2.cell? ⟨g, 0, none⟩ = some (.int .i64 x) := hk.cell 0
  have c1 : w2.cell? ⟨g, 1, none⟩ = some (.int .i64 y) := hk.cell 1
  have HK2 := Lib.hid hk
  have HB2 := Lib.hid (vbt HB1.out hb)
  clear hb hk
  go_upto_region 5 with (first | (go_at_call 25; refine (HX.out _).mono ?_; rintro e w' ⟨rfl, rfl⟩) | (go_at_call 25; refine (HY.out _).mono ?_; rintro e w' ⟨rfl, rfl⟩))
  go_cut [7] (fun s7 wx => ∃ B : Bool, s7 = .bool B ∧ (B = false → x ≠ -9223372036854775808 ∧ y ≠ -9223372036854775808) ∧ wx = w2)
  case first =>
    by_cases hm : x = -9223372036854775808
    · have q1 : (x == -9223372036854775808) = true := by simpa using hm
      clear hm
      go_wp2_with fail
      go_meet
      exact ⟨true, rfl, by simp, rfl⟩
    · have q1 : (x == -9223372036854775808) = false := by simpa using hm
      obtain ⟨m2, q2⟩ : ∃ b, (y == -9223372036854775808) = b := ⟨_, rfl⟩
      have HQ := Lib.hid (And.intro hm q2)
      clear hm
      go_wp2_with fail
      go_meet
      refine ⟨m2, rfl, ?_, rfl⟩
      rintro rfl
      exact ⟨HQ.out.1, by simpa using HQ.out.2⟩
  case rest =>
    obtain ⟨B, rfl, hB, rfl⟩ := hcut
    have HBB := Lib.hid hB
    clear hB
    go_upto_if 26 with (fail)
    go_cut [7] (fun s7 wx => s7 = .bool true ∧ Blk wx g 23 #[.int .i64 x, .int .i64 y] ∧ Below w.heap.size w wx)
    case first =>
      cases B
      · obtain ⟨hm, hm'⟩ := HBB.out rfl
        have q3 : wrap64 (-y) = -y := IntWalk.wrap64_in _ (by have := HC.out.2; unfold I64 at this; omega)
        have HT2 := Lib.hid (HT.out hm hm')
        clear hm hm' HT
        go_wp2_with fail
        refine (HT2.out _).mono ?_
        rintro e w3 ⟨rfl, hb⟩
        have HB3 := Lib.hid hb
        clear hb
        go_wp2_with fail
        go_meet
        exact ⟨rfl, HK2.out.below HB3.out HK2.out.lt, vbt HB2.out HB3.out⟩
      · go_wp2_with fail
        go_meet
        exact ⟨rfl, HK2.out, HB2.out⟩
    case rest =>
      obtain ⟨rfl, hk, hb⟩ := hcut
      have c0 : wc.cell? ⟨g, 0, none⟩ = some (.int .i64 x) := hk.cell 0
      have c1 : wc.cell? ⟨g, 1, none⟩ = some (.int .i64 y) := hk.cell 1
      have HB4 := Lib.hid hb
      obtain ⟨e1, e2, e3⟩ := HE.out
      clear hk hb HB2 HK2 HBB HC HE HX HY HL HT
      go_wp2_with fail
      refine (HA.out _).mono ?_
      rintro e w3 ⟨rfl, rfl⟩
      go_wp2_with fail
      all_goals
        go_ret
        exact ⟨rfl, HB4.out⟩
end Go.Proofs.Ytefaagacgoohjaa

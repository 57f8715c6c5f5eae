/- The contract of Sqrt. -/
import Derived.Test.YtebabgonffbdhaaDoorMul
import Derived.Laws.Bits64b
namespace Go.Proofs.YtebabgonffbdhaaDoor
open Go.RowKit

/-- n is the root of t. -/
def IsRt (t n : Nat) : Prop := n * n ≤ t ∧ t < (n + 1) * (n + 1)
theorem IsRt.unique {t n m : Nat} (h : IsRt t n) (k : IsRt t m) : n = m := by
  rcases Nat.lt_trichotomy n m with hlt | rfl | hlt
  · have : (n + 1) * (n + 1) ≤ m * m := Nat.mul_le_mul hlt hlt
    have := h.2; have := k.1; omega
  · rfl
  · have : (m + 1) * (m + 1) ≤ n * n := Nat.mul_le_mul hlt hlt
    have := k.2; have := h.1; omega

/-- What holds of a root whose bits from j on are known. -/
structure Rt (t j root : Nat) : Prop where
  low : root % 2 ^ j = 0
  sq : root * root ≤ t
  above : t < (root + 2 ^ j) * (root + 2 ^ j)
  lt : root + 2 ^ j ≤ 281474976710656

theorem Rt.start {t : Nat} (h : t < 79228162514264337593543950336) : Rt t 48 0 := ⟨rfl, by omega, by simpa using h, by decide⟩
theorem Rt.end_ {t root : Nat} (h : Rt t 0 root) : IsRt t root := ⟨h.sq, h.above⟩
theorem Rt.no {t k root : Nat} (h : Rt t (k + 1) root) (hn : t < (root + 2 ^ k) * (root + 2 ^ k)) : Rt t k root := by
  refine ⟨?_, h.sq, hn, ?_⟩
  · have h1 := h.low
    rw [Nat.pow_succ] at h1
    have := Nat.mod_mul_right_mod root (2 ^ k) 2
    rw [h1] at this
    simpa using this.symm
  · have := h.lt
    have : 2 ^ k ≤ 2 ^ (k + 1) := Nat.pow_le_pow_right (by omega) (by omega)
    omega
theorem Rt.yes {t k root : Nat} (h : Rt t (k + 1) root) (hn : (root + 2 ^ k) * (root + 2 ^ k) ≤ t) : Rt t k (root + 2 ^ k) := by
  have e : root + 2 ^ k + 2 ^ k = root + 2 ^ (k + 1) := by rw [Nat.pow_succ]; omega
  refine ⟨?_, hn, by rw [e]; exact h.above, by rw [e]; exact h.lt⟩
  have h1 := h.low
  rw [Nat.pow_succ] at h1
  have := Nat.mod_mul_right_mod root (2 ^ k) 2
  rw [h1] at this
  rw [Nat.add_mod_right]
  simpa using this.symm

theorem Rt.or {t k root : Nat} (h : Rt t (k + 1) root) : bits .or .u64 (root : Int) (IntKind.u64.wrap ((2 : Int) ^ k)) = ((root + 2 ^ k : Nat) : Int) := by
  have e64 : (2 : Int) ^ 64 = 18446744073709551616 := by decide
  have iP : (2 : Int) ^ k = ((2 ^ k : Nat) : Int) := by push_cast; rfl
  have iQ : (2 : Int) ^ (k + 1) = ((2 ^ (k + 1) : Nat) : Int) := by push_cast; rfl
  have hP : 2 ^ (k + 1) = 2 * 2 ^ k := by rw [Nat.pow_succ]; omega
  have hpos := Nat.two_pow_pos k
  have hlt := h.lt
  have hlow := h.low
  have hj : ∀ x z : Int, 0 ≤ x → x % 2 ^ (k + 1) = 0 → x < 2 ^ 64 → 0 ≤ z → z < 2 ^ (k + 1) → z < 2 ^ 64 → bits .or .u64 x z = x + z :=
    bits_join .u64 64 (by decide) (fun n h0 h1 => by rw [e64] at h1; rw [IntKind.wrap_u64]; omega) (k + 1)
  rw [iQ, e64] at hj
  rw [iP]
  generalize 2 ^ (k + 1) = Q at *
  generalize 2 ^ k = P at *
  rw [show IntKind.u64.wrap (P : Int) = (P : Int) by rw [IntKind.wrap_u64]; omega, hj _ _ (by omega) (by omega) (by omega) (by omega) (by omega) (by omega)]
  omega

theorem sqrt_neg (a : Int) (w : World) (h : a < 0) : Calls Tryd.prog 13 #[.int .i64 a] w fun e w' => e = .returned (.tuple #[.int .i64 0, .int .i64 1]) ∧ w = w' := by
  go_enter Tryd.func13, Tryd.ntmps13
  go_wp2_with fail
  go_ret2
  exact ⟨rfl, rfl⟩

theorem split_le (x H L : Nat) (hL : L < 18446744073709551616) : x ≤ H * 18446744073709551616 + L ↔ (x / 18446744073709551616 < H ∨ x / 18446744073709551616 = H ∧ x % 18446744073709551616 ≤ L) := by omega

set_option maxRecDepth 100000 in
set_option maxHeartbeats 1000000 in
theorem sqrt_c (a : Nat) (w : World) (h : a < 9223372036854775808) :
    Calls Tryd.prog 13 #[.int .i64 (a : Int)] w fun e w' => (∃ n : Nat, IsRt (a * 4294967296) n ∧ n < 281474976710656 ∧ e = .returned (.tuple #[.int .i64 (n : Int), .int .i64 0])) ∧ w = w' := by
  obtain ⟨H, hH⟩ : ∃ H, H = (a : Int).natAbs / 4294967296 := ⟨_, rfl⟩
  obtain ⟨L, hL⟩ : ∃ L, L = (a : Int).natAbs * 4294967296 % 18446744073709551616 := ⟨_, rfl⟩
  have hHL : H * 18446744073709551616 + L = a * 4294967296 := by omega
  have hL2 : L < 18446744073709551616 := by omega
  have ct := times_c a w (by omega) (by omega)
  rw [← hH, ← hL] at ct
  have HT := Lib.hid ct
  have HS := Lib.hid (Rt.start (t := H * 18446744073709551616 + L) (by omega))
  have HSP := Lib.hid (fun x => split_le x H L hL2)
  rw [← hHL]
  generalize H * 18446744073709551616 + L = t at HS HSP ⊢
  clear ct hH hL hHL
  have hneg : decide ((a : Int) < 0) = false := decide_eq_false (by omega)
  go_enter Tryd.func13, Tryd.ntmps13
  go_wp2_with (go_at_call 30; refine HT.out.mono ?_; rintro e w' ⟨rfl, rfl⟩)
  go_loop [6, 7] (fun s6 s7 => ∃ (j root : Nat) (z : Int), j ≤ 48 ∧ s6 = .int .u64 (root : Int) ∧ s7 = .int .i64 z ∧ z = (j : Int) - 1 ∧ Rt t j root) (fun _ s7 => (intOf s7 + 1).toNat)
  case atStart => exact ⟨48, 0, 47, by omega, rfl, rfl, rfl, HS.out⟩
  case round =>
    obtain ⟨j, root, z, hj, rfl, rfl, hz, hrt⟩ := hrel
    have HR := Lib.hid hrt
    clear hrt
    cases j with
    | zero =>
      obtain rfl : z = -1 := by omega
      have hlt : (root : Int) < 281474976710656 := by have := HR.out.lt; simp at this; omega
      clear hz
      go_wp2_with fail
      refine bodyPost_ret (v := .tuple #[.int .i64 (root : Int), .int .i64 0]) (by simp [results, Tryd.results13, go_sem]) rfl ⟨⟨root, HR.out.end_, by omega, rfl⟩, rfl⟩
    | succ k =>
      obtain rfl : z = (k : Int) := by omega
      clear hz
      have hor := HR.out.or
      have hnlt : root + 2 ^ k < 18446744073709551616 := by
        have := HR.out.lt
        have : 2 ^ k ≤ 2 ^ (k + 1) := Nat.pow_le_pow_right (by omega) (by omega)
        omega
      have hno := Lib.hid HR.out.no
      have hyes := Lib.hid HR.out.yes
      generalize root + 2 ^ k = next at hor hnlt hno hyes
      have cm := Tryd.bits_Mul64 next next hnlt hnlt w
      have hsp := HSP.out (next * next)
      generalize hx : next * next = x at *
      obtain ⟨sh, hsh⟩ : ∃ sh, sh = x / 18446744073709551616 := ⟨_, rfl⟩
      obtain ⟨sl, hsl⟩ : ∃ sl, sl = x % 18446744073709551616 := ⟨_, rfl⟩
      rw [← hsh, ← hsl] at cm hsp
      have HCM := Lib.hid cm
      have hxx := Lib.hid hx
      have hk0 : (0 : Int) ≤ (k : Int) := by omega
      have hk47 : k ≤ 47 := by omega
      clear cm hx hsh hsl hj
      by_cases hle : x ≤ t
      · have hR' := Lib.hid (hyes.out hle)
        rcases hsp.1 hle with h1 | ⟨rfl, h3⟩
        · have d1 : decide (sh < H) = true := decide_eq_true h1
          clear hsp hle h1
          go_wp2_with (go_at_call 35; refine HCM.out.mono ?_; rintro e w' ⟨rfl, rfl⟩)
          go_round
          case rel => exact ⟨k, next, (k : Int) - 1, by omega, rfl, rfl, rfl, hR'.out⟩
          case measure => simp [intOf]
        · have d3 : decide (sl ≤ L) = true := decide_eq_true h3
          clear hsp hle h3
          go_wp2_with (go_at_call 35; refine HCM.out.mono ?_; rintro e w' ⟨rfl, rfl⟩)
          go_round
          case rel => exact ⟨k, next, (k : Int) - 1, by omega, rfl, rfl, rfl, hR'.out⟩
          case measure => simp [intOf]
      · have hR' := Lib.hid (hno.out (by omega))
        by_cases h1 : sh = H
        · subst h1
          have d3 : decide (sl ≤ L) = false := decide_eq_false (fun h => hle (hsp.2 (.inr ⟨rfl, h⟩)))
          clear hsp hle
          go_wp2_with (go_at_call 35; refine HCM.out.mono ?_; rintro e w' ⟨rfl, rfl⟩)
          go_round
          case rel => exact ⟨k, root, (k : Int) - 1, by omega, rfl, rfl, rfl, hR'.out⟩
          case measure => simp [intOf]
        · have d1 : decide (sh < H) = false := decide_eq_false (fun h => hle (hsp.2 (.inl h)))
          have d2 : ((sh : Int) == (H : Int)) = false := by simp; omega
          have d2' : (sh == H) = false := by simp; omega
          clear hsp hle h1
          go_wp2_with (go_at_call 35; refine HCM.out.mono ?_; rintro e w' ⟨rfl, rfl⟩)
          go_round
          case rel => exact ⟨k, root, (k : Int) - 1, by omega, rfl, rfl, rfl, hR'.out⟩
          case measure => simp [intOf]
end Go.Proofs.YtebabgonffbdhaaDoor

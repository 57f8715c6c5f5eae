/- The walk of WireShort: how long numbers are. -/
import Derived.Test.YtmddhlpkanjffaaDoorAwake
namespace Go.Proofs.YtmddhlpkanjffaaDoor
open Go.RowKit

/-- How many rounds are left. -/
def cnt (r : Nat) : Nat := if r = 0 then 0 else (vn r).length
theorem cnt_step {r : Nat} (h : 0 < r) : cnt r = cnt (r / 128) + 1 := by
  unfold cnt
  rw [if_neg (by omega)]
  by_cases h1 : r < 128
  · rw [vn_small h1, if_pos (by omega)]; rfl
  · rw [vn_big h1, if_neg (by omega)]; rfl
theorem cnt_all (n : Nat) : (vn n).length = 1 + cnt (n / 128) := by
  unfold cnt
  by_cases h1 : n < 128
  · rw [vn_small h1, if_pos (by omega)]; rfl
  · rw [vn_big h1, if_neg (by omega)]; simp only [List.length_cons]; omega

theorem vn_mono (a : Nat) : ∀ b, a ≤ b → (vn a).length ≤ (vn b).length := by
  induction a using vn.induct with
  | case1 a h => intro b _; rw [vn_small h]; exact vn_pos b
  | case2 a h ih =>
    intro b hb
    rw [vn_big h, vn_big (by omega : ¬ b < 128)]
    simp only [List.length_cons]
    have := ih (b / 128) (by omega)
    omega
theorem vn_twice (n : Nat) : (vn n).length ≤ (vn (2 * n)).length ∧ (vn (2 * n)).length ≤ (vn n).length + 1 := by
  refine ⟨vn_mono n _ (by omega), ?_⟩
  by_cases h : 2 * n < 128
  · rw [vn_small h]; simp
  · rw [vn_big h]
    simp only [List.length_cons]
    have := vn_mono (2 * n / 128) n (by omega)
    omega

set_option maxHeartbeats 1000000 in
set_option maxRecDepth 100000 in
theorem short_walk (n : Int) (w : World) (ht : Tab w) (h : -9223372036854775808 ≤ n ∧ n < 9223372036854775808) :
    Calls Tryd.prog 8 #[.int .i64 n] w fun e w' => e = .returned (.bool true) ∧ Below w.heap.size w w' := by
  have HT := Lib.hid ht
  clear ht
  obtain ⟨h1, h2⟩ := h
  go_enter Tryd.func8, Tryd.ntmps8
  go_wp2_with fail
  refine (awake_c w HT.out).mono ?_
  rintro e w1 ⟨rfl, hb1⟩
  have HB1 := Lib.hid hb1
  clear hb1
  by_cases hneg : n < 0
  · have hd : decide (n < 0) = true := by simpa using hneg
    go_wp2_with fail
    refine (num_neg _ n w1 hneg).mono ?_
    rintro e w2 ⟨rfl, rfl⟩
    go_wp2_with fail
    go_ret
    exact ⟨rfl, HB1.out⟩
  · obtain ⟨m, rfl⟩ : ∃ m : Nat, n = (m : Int) := ⟨n.toNat, by omega⟩
    clear hneg h1
    go_wp2_with fail
    refine (num_c _ [] m w1 (SlB.nil w1) (by simp) (by omega)).mono ?_
    rintro e w2 ⟨g, n2, rfl, hn2, hg, hk, hb2⟩
    have HB2 := Lib.hid (below_trans HB1.out hb2)
    rw [List.nil_append, cnt_all] at hn2
    have HN := Lib.hid hn2
    have hn10 : n2 ≤ 10 := by have := vn_len9 (z := m) (by omega); rw [cnt_all] at this; omega
    clear hg hk hb2 hn2
    go_wp2_with fail
    go_loopg [6, 7] (cnt (m / 128)) (fun gg s6 s7 wr => ∃ k r : Nat, k + cnt r = n2 ∧ gg = cnt r ∧ r < 9223372036854775808 ∧ k ≤ n2 ∧ s6 = .int .i64 (k : Int) ∧ s7 = .int .i64 (r : Int) ∧ wr = w2)
    case atStart => exact ⟨1, m / 128, HN.out.symm, rfl, by omega, by have := HN.out; omega, rfl, by simp, rfl⟩
    case round =>
      obtain ⟨k, r, hkr, hgg, hr, hkn, rfl, rfl, rfl⟩ := hrel
      cases gk with
      | zero =>
        obtain rfl : r = 0 := by
          rcases Nat.eq_zero_or_pos r with h | h
          · exact h
          · have := cnt_step h; omega
        obtain rfl : k = n2 := by omega
        clear hgg hkr
        go_wp2_with fail
        refine (int_c _ [] (m : Int) wr (SlB.nil wr) (by simp) (by omega) h2).mono ?_
        rintro e w3 ⟨g3, n3, rfl, hn3, _, _, hb3⟩
        have HB3 := Lib.hid (below_trans HB2.out hb3)
        have hz : zz (m : Int) = 2 * m := by unfold zz; split <;> omega
        have hvt := vn_twice m
        rw [List.nil_append, hz] at hn3
        rw [← hn3, cnt_all m, ← HN.out] at hvt
        have hd1 : decide (k ≤ n3) = true := by simp; omega
        have hd2 : decide ((n3 : Int) ≤ (k : Int) + 1) = true := by simp; omega
        clear hb3 hn3 hz hvt
        go_wp2_with fail
        go_ret
        exact ⟨rfl, HB3.out⟩
      | succ gk =>
        have hr0 : 0 < r := by
          rcases Nat.eq_zero_or_pos r with h | h
          · subst h; simp [cnt] at hgg
          · exact h
        have hst := cnt_step hr0
        have hr0' : (0 : Int) < (r : Int) := by omega
        have hd : decide (0 < r) = true := by simpa using hr0
        have HK : Hid (k + 1 + cnt (r / 128) = n2 ∧ gk = cnt (r / 128)) := ⟨by omega, by omega⟩
        clear hst hgg hkr
        go_wp2_with fail
        go_roundg gk
        case measure => omega
        case rel => exact ⟨k + 1, r / 128, HK.out.1, HK.out.2, by omega, by have := HK.out.1; omega, rfl, by simp, rfl⟩

end Go.Proofs.YtmddhlpkanjffaaDoor

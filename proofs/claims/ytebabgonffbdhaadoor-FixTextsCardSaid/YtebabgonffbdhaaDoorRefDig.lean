/- The reference's digits. -/
import Derived.Test.YtebabgonffbdhaaDoorParse
namespace Go.Proofs.YtebabgonffbdhaaDoor
open Go.RowKit

theorem drop_get (l : List Nat) (a k : Nat) : (l.drop a).getD k 0 = l.getD (a + k) 0 := by
  rw [List.getD_eq_getElem?_getD, List.getD_eq_getElem?_getD, List.getElem?_drop]

theorem rdig_c (s : ByteArray) (at_ : Nat) (w : World) (hs : s.size ≤ maxLen) (ha : at_ ≤ s.size) : Calls Tryd.prog 45 #[.string s, .int .i64 (at_ : Int)] w fun e w' => e = .returned (.int .i64 (ld ((cs s).drop at_) : Int)) ∧ w = w' := by
  unfold maxLen at hs
  have hle := ld_le ((cs s).drop at_)
  rw [List.length_drop, cs_length] at hle
  have HIN := Lib.hid (fun k h => ld_in (l := (cs s).drop at_) (k := k) h)
  have HOUT := Lib.hid (ld_out (l := (cs s).drop at_))
  have hG : ∀ k, (hlt : at_ + k < s.size) → ((cs s).drop at_).getD k 0 = (s[at_ + k]'hlt).toNat := fun k hlt => by rw [drop_get, cs_get s _ hlt]
  have HG := Lib.hid hG
  have HL := Lib.hid (show ((cs s).drop at_).length = s.size - at_ by rw [List.length_drop, cs_length])
  clear hG
  generalize (cs s).drop at_ = l at *
  go_enter Tryd.func45, Tryd.ntmps45
  go_wp2_with fail
  go_loop [5] (fun i => ∃ k : Nat, k ≤ ld l ∧ i = .int .i64 (k : Int)) (fun i => s.size - (intOf i).toNat)
  case atStart => exact ⟨0, Nat.zero_le _, rfl⟩
  case round =>
    obtain ⟨k, hk, rfl⟩ := hrel
    by_cases hlt : at_ + k < s.size
    · have hg := HG.out k hlt
      have hlti : (at_ : Int) + (k : Int) < (s.size : Int) := by omega
      have hnn : (0 : Int) ≤ (at_ : Int) + (k : Int) := by omega
      have htn : ((at_ : Int) + (k : Int)).toNat = at_ + k := by omega
      by_cases hd : isD (s[at_ + k]'hlt).toNat = true
      · have hkl : k < ld l := by
          rcases Nat.lt_or_ge k (ld l) with h | h
          · exact h
          · obtain rfl : k = ld l := by omega
            have := HOUT.out (by rw [HL.out]; omega)
            rw [hg, hd] at this
            cases this
        obtain ⟨d1, d2⟩ := isD_iff.1 hd
        have i1 : (48 : Int) ≤ ((s[at_ + k]'hlt).toNat : Int) := by omega
        have i2 : ((s[at_ + k]'hlt).toNat : Int) ≤ 57 := by omega
        clear hg hd d1 d2
        go_wp2_with fail
        go_round
        case rel => exact ⟨k + 1, hkl, by go_num⟩
        case measure => simp [intOf]; omega
      · have hkl : k = ld l := by
          rcases Nat.lt_or_ge k (ld l) with h | h
          · have := HIN.out k h
            rw [hg] at this
            exact absurd this hd
          · omega
        have HK := Lib.hid hkl
        rw [isD_iff] at hd
        by_cases h48 : 48 ≤ (s[at_ + k]'hlt).toNat
        · have i1 : (48 : Int) ≤ ((s[at_ + k]'hlt).toNat : Int) := by omega
          have i2 : (57 : Int) < ((s[at_ + k]'hlt).toNat : Int) := by omega
          clear hg hd hkl h48
          go_wp2_with fail
          go_ret
          exact ⟨ret_int (by rw [← HK.out]), rfl⟩
        · have i1 : ((s[at_ + k]'hlt).toNat : Int) < 48 := by omega
          clear hg hd hkl h48
          go_wp2_with fail
          go_ret
          exact ⟨ret_int (by rw [← HK.out]), rfl⟩
    · have hlti : (s.size : Int) ≤ (at_ : Int) + (k : Int) := by omega
      go_wp2_with fail
      go_ret
      exact ⟨ret_int (by omega), rfl⟩
end Go.Proofs.YtebabgonffbdhaaDoor

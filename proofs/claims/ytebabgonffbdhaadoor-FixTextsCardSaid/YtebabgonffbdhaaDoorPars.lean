/- The contracts of Parse and of what it calls. -/
import Derived.Test.YtebabgonffbdhaaDoorDig
import Derived.Test.YtebabgonffbdhaaDoorSm
namespace Go.Proofs.YtebabgonffbdhaaDoor
open Go.RowKit

/-- A text's bytes as numbers. -/
def cs (s : ByteArray) : List Nat := s.data.toList.map UInt8.toNat
theorem cs_length (s : ByteArray) : (cs s).length = s.size := by simp [cs]
theorem cs_get (s : ByteArray) (k : Nat) (h : k < s.size) : (cs s).getD k 0 = s[k].toNat := by
  rw [getD_at _ _ (by rw [cs_length]; exact h)]
  simp [cs]
  rfl

theorem lead_c (s : ByteArray) (w : World) (hs : s.size ≤ maxLen) : Calls Tryd.prog 42 #[.string s] w fun e w' => e = .returned (.int .i64 (ld (cs s) : Int)) ∧ w = w' := by
  unfold maxLen at hs
  have hle := ld_le (cs s)
  rw [cs_length] at hle
  go_enter Tryd.func42, Tryd.ntmps42
  go_wp2_with fail
  go_loop [3] (fun i => ∃ k : Nat, k ≤ ld (cs s) ∧ i = .int .i64 (k : Int)) (fun i => s.size - (intOf i).toNat)
  case atStart => exact ⟨0, Nat.zero_le _, rfl⟩
  case round =>
    obtain ⟨k, hk, rfl⟩ := hrel
    by_cases hlt : k < s.size
    · have hg := cs_get s k hlt
      by_cases hd : isD s[k].toNat = true
      · have hkl : k < ld (cs s) := by
          rcases Nat.lt_or_ge k (ld (cs s)) with h | h
          · exact h
          · obtain rfl : k = ld (cs s) := by omega
            have := ld_out (l := cs s) (by rw [cs_length]; exact hlt)
            rw [hg, hd] at this
            cases this
        obtain ⟨d1, d2⟩ := isD_iff.1 hd
        have i1 : (48 : Int) ≤ (s[k].toNat : Int) := by omega
        have i2 : (s[k].toNat : Int) ≤ 57 := by omega
        clear hg hd d1 d2
        go_wp2_with fail
        go_round
        case rel => exact ⟨k + 1, hkl, by go_num⟩
        case measure => simp [intOf]; omega
      · have hkl : k = ld (cs s) := by
          rcases Nat.lt_or_ge k (ld (cs s)) with h | h
          · have := ld_in h
            rw [hg] at this
            exact absurd this hd
          · omega
        have HK := Lib.hid hkl
        rw [isD_iff] at hd
        by_cases h48 : 48 ≤ s[k].toNat
        · have i1 : (48 : Int) ≤ (s[k].toNat : Int) := by omega
          have i2 : (57 : Int) < (s[k].toNat : Int) := by omega
          clear hg hd hkl h48
          go_wp2_with fail
          go_ret
          exact ⟨ret_int (by rw [← HK.out]), rfl⟩
        · have i1 : (s[k].toNat : Int) < 48 := by omega
          clear hg hd hkl h48
          go_wp2_with fail
          go_ret
          exact ⟨ret_int (by rw [← HK.out]), rfl⟩
    · go_wp2_with fail
      go_ret
      exact ⟨ret_int (by omega), rfl⟩

theorem whole_c (s : ByteArray) (w : World) (hs : s.size ≤ 10) (hd : allD (cs s)) : Calls Tryd.prog 43 #[.string s] w fun e w' => e = .returned (.int .i64 (wn (cs s) : Int)) ∧ w = w' := by
  have HD := Lib.hid hd
  clear hd
  go_enter Tryd.func43, Tryd.ntmps43
  go_wp2_with fail
  go_loop [3, 4, 7] (fun n _ i => ∃ k : Nat, k ≤ s.size ∧ i = .int .i64 (k : Int) ∧ n = .int .i64 (wn ((cs s).take k) : Int)) (fun _ _ i => s.size - (intOf i).toNat)
  case atStart => exact ⟨0, Nat.zero_le _, rfl, rfl⟩
  case round =>
    obtain ⟨k, hk, rfl, rfl⟩ := hrel
    have hb : wn ((cs s).take k) < 10 ^ 10 := Nat.lt_of_lt_of_le (wn_lt k _ (by rw [List.length_take, cs_length]; omega) (fun c hc => HD.out c (List.mem_of_mem_take hc))) (Nat.pow_le_pow_right (by omega) (by omega))
    have hb' : (wn ((cs s).take k) : Int) < 10000000000 := by omega
    by_cases hlt : k < s.size
    · have hst := wn_take (cs s) k (by rw [cs_length]; exact hlt)
      rw [cs_get s k hlt] at hst
      have hc : 48 ≤ s[k].toNat ∧ s[k].toNat ≤ 57 := by
        rw [← cs_get s k hlt, getD_at _ _ (by rw [cs_length]; exact hlt)]
        exact HD.out _ (List.getElem_mem _)
      obtain ⟨i1, i2⟩ := hc
      have HS := Lib.hid hst
      generalize wn ((cs s).take k) = n at *
      clear hst hb
      go_wp2_with fail
      go_round
      case rel => exact ⟨k + 1, hlt, by go_num, by rw [HS.out]; go_num⟩
      case measure => simp [intOf]; omega
    · go_wp2_with fail
      go_ret
      exact ⟨ret_int (by rw [List.take_of_length_le (by rw [cs_length]; omega)]), rfl⟩

theorem fract_c (s : ByteArray) (w : World) (hs : s.size ≤ 32) (hd : allD (cs s)) : Calls Tryd.prog 44 #[.string s] w fun e w' => e = .returned (.int .i64 (fnn (cs s) : Int)) ∧ w = w' := by
  have HD := Lib.hid hd
  clear hd
  go_enter Tryd.func44, Tryd.ntmps44
  go_wp2_with fail
  go_loop [3, 4] (fun n i => ∃ (j : Nat) (z : Int), j ≤ s.size ∧ i = .int .i64 z ∧ z = (j : Int) - 1 ∧ n = .int .i64 (fnn ((cs s).drop j) : Int)) (fun _ i => (intOf i + 1).toNat)
  case atStart => exact ⟨s.size, _, Nat.le_refl _, rfl, rfl, by rw [List.drop_of_length_le (by rw [cs_length]; omega)]; rfl⟩
  case round =>
    obtain ⟨j, z, hj, rfl, hz, rfl⟩ := hrel
    have hb : fnn ((cs s).drop j) < 4294967296 := fnn_lt _ (fun c hc => HD.out c (List.mem_of_mem_drop hc))
    have hb' : (fnn ((cs s).drop j) : Int) < 4294967296 := by omega
    cases j with
    | zero =>
      obtain rfl : z = -1 := by omega
      clear hz hb
      go_wp2_with fail
      go_ret
      exact ⟨rfl, rfl⟩
    | succ k =>
      obtain rfl : z = (k : Int) := by omega
      have hlt : k < s.size := hj
      have hst := fnn_drop (cs s) k (by rw [cs_length]; exact hlt)
      rw [cs_get s k hlt] at hst
      have hc : 48 ≤ s[k].toNat ∧ s[k].toNat ≤ 57 := by
        rw [← cs_get s k hlt, getD_at _ _ (by rw [cs_length]; exact hlt)]
        exact HD.out _ (List.getElem_mem _)
      obtain ⟨i1, i2⟩ := hc
      have HS := Lib.hid hst
      generalize fnn ((cs s).drop (k + 1)) = n at *
      clear hst hb hz
      go_wp2_with fail
      go_round
      case rel => exact ⟨k, (k : Int) - 1, by omega, rfl, rfl, by rw [HS.out]; go_num⟩
      case measure => simp [intOf]

end Go.Proofs.YtebabgonffbdhaaDoor

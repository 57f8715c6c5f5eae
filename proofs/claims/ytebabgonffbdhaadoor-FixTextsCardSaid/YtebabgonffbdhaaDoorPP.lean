/- Plain mathematics: what is printed is read again. -/
import Derived.Test.YtebabgonffbdhaaDoorParse
import Derived.Test.YtebabgonffbdhaaDoorPrint
namespace Go.Proofs.YtebabgonffbdhaaDoor

theorem ld_stop : ∀ (p : List Nat) (c : Nat) (r : List Nat), allD p → isD c = false → ld (p ++ c :: r) = p.length
  | [], c, r, _, hc => by simp [ld, hc]
  | x :: p, c, r, hp, hc => by
    have hx : isD x = true := isD_iff.2 (hp x (by simp))
    have ih := ld_stop p c r (fun y hy => hp y (by simp [hy])) hc
    simp [ld, hx, ih]

theorem nDigits_le : ∀ (k u : Nat), u < 10 ^ (k + 1) → Go.Lib.nDigits u ≤ k + 1
  | 0, u, h => by rw [Go.Lib.nDigits_small (by simpa using h)]; omega
  | k + 1, u, h => by
    by_cases h10 : u < 10
    · rw [Go.Lib.nDigits_small h10]; omega
    · rw [Go.Lib.nDigits_big h10]
      have := nDigits_le k (u / 10) (by rw [Nat.pow_succ] at h; omega)
      omega

theorem parse_print (a : Nat) (h : a < 9223372036854775808) : parseF (printF (a : Int)) = some a := by
  have hm : minus (a : Int) = [] := minus_pos (by omega)
  unfold printF
  rw [hm, Int.natAbs_natCast, List.nil_append, List.append_assoc]
  obtain ⟨u, hu⟩ : ∃ u, u = a / 4294967296 := ⟨_, rfl⟩
  obtain ⟨f, hf⟩ : ∃ f, f = a % 4294967296 := ⟨_, rfl⟩
  have hul : u ≤ 2147483647 := by omega
  have hfl : f < 4294967296 := by omega
  have hau : a = u * 4294967296 + f := by omega
  rw [← hu, ← hf, hau]
  clear hu hf hau
  have hld : ld (dd u ++ ([46] ++ frac f)) = (dd u).length := ld_stop (dd u) 46 (frac f) (dd_dig u) rfl
  have hlen : (dd u).length ≤ 10 := by rw [dd_len]; exact nDigits_le 9 u (by omega)
  have hpos : 1 ≤ (dd u).length := by rw [dd_len]; exact Go.Lib.nDigits_pos u
  have hdrop : (dd u ++ ([46] ++ frac f)).drop ((dd u).length + 1) = frac f := by
    rw [← List.append_assoc, List.drop_left' (by simp)]
  have htake : (dd u ++ ([46] ++ frac f)).take (dd u).length = dd u := List.take_left' rfl
  have hl2 := frac_len (f := f)
  unfold parseF
  rw [hld, hdrop, htake, if_neg (by omega), if_neg, if_neg, if_neg (by omega), if_neg, if_neg (by rw [wn_dd]; omega), wn_dd, fnn_frac hfl]
  · rw [(allD_iff _).2 (frac_dig hfl)]; omega
  · rintro (h1 | h1)
    · simp at h1
    · apply h1
      rw [List.getD_eq_getElem?_getD, List.getElem?_append_right (Nat.le_refl _), Nat.sub_self]
      rfl
  · rintro ⟨h1, h2⟩
    rw [List.getD_eq_getElem?_getD, List.getElem?_append_left hpos, ← List.getD_eq_getElem?_getD] at h1
    have := dd_head u h1
    subst this
    rw [dd_small (by omega)] at h2
    simp at h2

theorem parse_minus (a : Int) (h : a < 0) : parseF (printF a) = none := by
  unfold printF parseF
  rw [minus_neg h, List.append_assoc, List.append_assoc, show ld ([45] ++ (dd (a.natAbs / 4294967296) ++ ([46] ++ frac (a.natAbs % 4294967296)))) = 0 from rfl]
  simp

theorem parse_lt {l : List Nat} {x : Nat} (h : parseF l = some x) : x < 9223372036854775808 := by
  unfold parseF at h
  split at h
  · cases h
  split at h
  · cases h
  split at h
  · cases h
  split at h
  · cases h
  split at h
  · cases h
  rename_i h5
  split at h
  · cases h
  rename_i h6
  have := fnn_lt _ ((allD_iff (l.drop (ld l + 1))).1 (by have := ld_le (l.drop (ld l + 1)); omega))
  injection h with h
  omega

theorem print_lt (a : Int) : ∀ c ∈ printF a, c < 256 := by
  intro c hc
  unfold printF at hc
  rcases List.mem_append.1 hc with hc | hc
  · rcases List.mem_append.1 hc with hc | hc
    · rcases List.mem_append.1 hc with hc | hc
      · unfold minus at hc
        split at hc
        · simp at hc; omega
        · cases hc
      · have := dd_dig _ c hc; omega
    · simp at hc; omega
  · have := frac_dig (Nat.mod_lt _ (by omega)) c hc; omega

theorem cs_strOf {l : List Nat} (h : ∀ c ∈ l, c < 256) : cs (strOf l) = l := by
  simp only [cs, strOf, List.map_map]
  conv => rhs; rw [← List.map_id l]
  apply List.map_congr_left
  intro c hc
  have := h c hc
  simp [Function.comp]
  omega

theorem print_len (a : Int) (h1 : -9223372036854775808 ≤ a) (h2 : a < 9223372036854775808) : (strOf (printF a)).size ≤ 100 := by
  have : (strOf (printF a)).size = (printF a).length := by simp [strOf, ByteArray.size]
  rw [this]
  have h3 : (dd (a.natAbs / 4294967296)).length ≤ 10 := by rw [dd_len]; exact nDigits_le 9 _ (by omega)
  have h4 := frac_len (f := a.natAbs % 4294967296)
  have h5 : (minus a).length ≤ 1 := by unfold minus; split <;> simp
  unfold printF
  simp only [List.length_append]
  simp
  omega

end Go.Proofs.YtebabgonffbdhaaDoor

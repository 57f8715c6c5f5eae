/- The walk of FixPrints: what is printed is read again. -/
import Derived.Test.YtebabgonffbdhaaDoorAwake
import Derived.Test.YtebabgonffbdhaaDoorPP
import Derived.Deep.DeepCutAuto
namespace Go.Proofs.YtebabgonffbdhaaDoor
open Go.RowKit

theorem parse_of (l : List Nat) (h : ∀ c ∈ l, c < 256) (w : World) (hs : (strOf l).size ≤ 100) : Calls Tryd.prog 26 #[.string (strOf l)] w fun e w' => e = .returned (pval (parseF l)) ∧ w = w' := by
  have := parse_c (strOf l) w (by unfold maxLen; omega)
  rwa [cs_strOf h] at this

theorem parse_back (a : Int) (w : World) (h1 : -9223372036854775808 ≤ a) (h2 : a < 9223372036854775808) (hn : 0 ≤ a) : Calls Tryd.prog 26 #[.string (strOf (printF a))] w fun e w' => e = .returned (.tuple #[.int .i64 a, .int .i64 0]) ∧ w = w' := by
  have := parse_of (printF a) (print_lt a) w (print_len a h1 h2)
  obtain ⟨n, rfl⟩ : ∃ n : Nat, a = (n : Int) := ⟨a.toNat, by omega⟩
  rwa [parse_print n (by omega)] at this
theorem parse_back_neg (a : Int) (w : World) (h1 : -9223372036854775808 ≤ a) (h2 : a < 9223372036854775808) (hn : a < 0) : Calls Tryd.prog 26 #[.string (strOf (printF a))] w fun e w' => e = .returned (.tuple #[.int .i64 0, .int .i64 20]) ∧ w = w' := by
  have := parse_of (printF a) (print_lt a) w (print_len a h1 h2)
  rwa [parse_minus a hn] at this

set_option maxHeartbeats 1000000 in
set_option maxRecDepth 100000 in
theorem prints_walk (a : Int) (s : ByteArray) (w : World) (ht : Tab w) (h1 : -9223372036854775808 ≤ a) (h2 : a < 9223372036854775808) (hs : s.size ≤ maxLen) :
    Calls Tryd.prog 8 #[.int .i64 a, .string s] w fun e w' => e = .returned (.bool true) ∧ Below w.heap.size w w' := by
  have HT := Lib.hid ht
  have HSs := Lib.hid hs
  clear ht hs
  go_enter Tryd.func8, Tryd.ntmps8
  go_wp2_with fail
  refine (awake_c w HT.out).mono ?_
  rintro e w1 ⟨rfl, hb⟩
  have HB := Lib.hid hb
  clear hb
  go_wp2_with fail
  refine (print_c a w1 (HT.out.below HB.out) h1 h2).mono ?_
  rintro e w2 ⟨rfl, hb⟩
  have HB2 := Lib.hid (HB.out.trans (hb.mono HB.out.size))
  clear hb HB
  go_upto_region 3 with (fail)
  go_cut [7, 8] (fun s7 s8 wx => (∃ x y : Int, s7 = .int .i64 x ∧ s8 = .int .i64 y ∧ ((y = 0 ∧ x = a ∧ 0 ≤ a) ∨ (y = 20 ∧ x = 0 ∧ a < 0))) ∧ w2 = wx)
  case first =>
    by_cases hn : a < 0
    · have HN := Lib.hid hn
      clear hn
      go_wp2_with (go_at_call 26; refine (parse_back_neg a w2 h1 h2 HN.out).mono ?_; rintro e w3 ⟨rfl, rfl⟩)
      go_meet
      exact ⟨⟨0, 20, rfl, rfl, .inr ⟨rfl, rfl, HN.out⟩⟩, rfl⟩
    · have HN := Lib.hid (show 0 ≤ a by omega)
      clear hn
      go_wp2_with (go_at_call 26; refine (parse_back a w2 h1 h2 HN.out).mono ?_; rintro e w3 ⟨rfl, rfl⟩)
      go_meet
      exact ⟨⟨a, 0, rfl, rfl, .inl ⟨rfl, rfl, HN.out⟩⟩, rfl⟩
  case rest =>
    obtain ⟨⟨x, y, rfl, rfl, hxy⟩, rfl⟩ := hcut
    go_upto_region 4 with (fail)
    go_cut [38] (fun s38 wx => s38 = .bool false ∧ w2 = wx)
    case first =>
      rcases hxy with ⟨rfl, rfl, hn⟩ | ⟨rfl, rfl, hn⟩
      · have hd : decide (0 ≤ x) = true := decide_eq_true hn
        go_wp2_with fail
        go_meet
        exact ⟨rfl, rfl⟩
      · have hd : decide (0 ≤ a) = false := decide_eq_false (by omega)
        go_wp2_with fail
        go_meet
        exact ⟨rfl, rfl⟩
    case rest =>
      obtain ⟨rfl, rfl⟩ := hcut
      clear hxy
      have cp := parse_c s w2 HSs.out
      cases hp : parseF (cs s) with
      | none =>
        rw [hp] at cp
        have CP := Lib.hid cp
        clear cp hp
        go_wp2_with (go_at_call 26; refine CP.out.mono ?_; rintro e w3 ⟨rfl, rfl⟩; simp only [pval])
        go_ret
        exact ⟨rfl, HB2.out⟩
      | some v =>
        rw [hp] at cp
        have CP := Lib.hid cp
        have hv := parse_lt hp
        have i1 : (v : Int) < 9223372036854775808 := by omega
        have HV := Lib.hid i1
        clear cp hp hv i1
        have hd : decide (0 ≤ (v : Int)) = true := decide_eq_true (by omega)
        go_wp2_with (go_at_call 26; refine CP.out.mono ?_; rintro e w3 ⟨rfl, rfl⟩; simp only [pval])
        refine (print_c (v : Int) w2 (HT.out.below HB2.out) (by omega) HV.out).mono ?_
        rintro e w3 ⟨rfl, hb⟩
        have HB3 := Lib.hid (HB2.out.trans (hb.mono HB2.out.size))
        clear hb
        go_wp2_with (go_at_call 26; refine (parse_back (v : Int) w3 (by omega) HV.out (by omega)).mono ?_; rintro e w4 ⟨rfl, rfl⟩)
        go_ret
        exact ⟨rfl, HB3.out⟩
end Go.Proofs.YtebabgonffbdhaaDoor

/- The walk of FixWorks: what is reckoned is what the document says. -/
import Derived.Test.YtebabgonffbdhaaDoorAwake
import Derived.Test.YtebabgonffbdhaaDoorRefDiv
import Derived.Test.YtebabgonffbdhaaDoorRefSqrt
namespace Go.Proofs.YtebabgonffbdhaaDoor
open Go.RowKit

theorem rt_exists (t : Nat) : ∃ n, IsRt t n := by
  induction t with
  | zero => exact ⟨0, by decide, by decide⟩
  | succ t ih =>
    obtain ⟨n, h1, h2⟩ := ih
    by_cases h : t + 1 < (n + 1) * (n + 1)
    · exact ⟨n, by omega, h⟩
    · refine ⟨n + 1, by omega, ?_⟩
      have : (n + 1) * (n + 1) < (n + 1 + 1) * (n + 1 + 1) := Nat.mul_lt_mul'' (by omega) (by omega)
      omega

/-- Both divide alike. -/
theorem div_both (a b : Int) (h1 : -9223372036854775808 ≤ a) (h2 : a < 9223372036854775808) (h3 : -9223372036854775808 ≤ b) (h4 : b < 9223372036854775808) : ∃ x y : Int,
    (∀ v : World, Calls Tryd.prog 12 #[.int .i64 a, .int .i64 b] v fun e w' => e = .returned (.tuple #[.int .i64 x, .int .i64 y]) ∧ Below v.heap.size v w') ∧
    (∀ v : World, Calls Tryd.prog 14 #[.int .i64 a, .int .i64 b] v fun e w' => e = .returned (.tuple #[.int .i64 x, .int .i64 y]) ∧ Below v.heap.size v w') := by
  by_cases hb : b = 0
  · subst hb
    exact ⟨0, 30, fun v => (div_zero a v).mono fun _ _ ⟨he, k, hw⟩ => ⟨he, by rw [hw]; exact below_draw (Below.refl _ _) k⟩, fun v => rdiv_zero a v⟩
  · exact ⟨divF a b, 0, fun v => (div_c a b v h1 h2 h3 h4 hb).mono fun _ _ ⟨he, k, hw⟩ => ⟨he, by rw [hw]; exact below_draw (Below.refl _ _) k⟩, fun v => rdiv_c a b v h1 h2 h3 h4 hb⟩
/-- Both have the same roots. -/
theorem sqrt_both (a : Int) (h2 : a < 9223372036854775808) : ∃ x y : Int,
    (∀ v : World, Calls Tryd.prog 13 #[.int .i64 a] v fun e w' => e = .returned (.tuple #[.int .i64 x, .int .i64 y]) ∧ Below v.heap.size v w') ∧
    (∀ v : World, Calls Tryd.prog 15 #[.int .i64 a] v fun e w' => e = .returned (.tuple #[.int .i64 x, .int .i64 y]) ∧ Below v.heap.size v w') := by
  by_cases hn : a < 0
  · exact ⟨0, 1, fun v => (sqrt_neg a v hn).mono fun _ _ ⟨he, hw⟩ => ⟨he, by rw [← hw]; exact Below.refl _ _⟩, fun v => rsqrt_neg a v hn⟩
  · obtain ⟨m, rfl⟩ : ∃ m : Nat, a = (m : Int) := ⟨a.toNat, by omega⟩
    obtain ⟨n, hr⟩ := rt_exists (m * 4294967296)
    refine ⟨(n : Int), 0, fun v => (sqrt_c m v (by omega)).mono ?_, fun v => (rsqrt_c m v (by omega)).mono ?_⟩
    · rintro e w' ⟨⟨k, hk, _, rfl⟩, rfl⟩
      exact ⟨by rw [hk.unique hr], Below.refl _ _⟩
    · rintro e w' ⟨⟨k, hk, rfl⟩, hb⟩
      exact ⟨by rw [hk.unique hr], hb⟩

set_option maxHeartbeats 2000000 in
set_option maxRecDepth 100000 in
theorem works_walk (a b : Int) (w : World) (ht : Tab w) (h1 : -9223372036854775808 ≤ a) (h2 : a < 9223372036854775808) (h3 : -9223372036854775808 ≤ b) (h4 : b < 9223372036854775808) :
    Calls Tryd.prog 3 #[.int .i64 a, .int .i64 b] w fun e w' => e = .returned (.bool true) ∧ Below w.heap.size w w' := by
  have HT := Lib.hid ht
  clear ht
  obtain ⟨x, e, cd, rd⟩ := div_both a b h1 h2 h3 h4
  obtain ⟨y, f, cs_, rs⟩ := sqrt_both a h2
  have CD := Lib.hid cd
  have RD := Lib.hid rd
  have CS := Lib.hid cs_
  have RS := Lib.hid rs
  have CA := Lib.hid (fun v => add_c a b v h1 h2 h3 h4)
  have RA := Lib.hid (fun v => radd_c a b v h1 h2 h3 h4)
  have CB := Lib.hid (fun v => sub_c a b v h1 h2 h3 h4)
  have RB := Lib.hid (fun v => rsub_c a b v h1 h2 h3 h4)
  have CM := Lib.hid (fun v => mul_c a b v h1 h2 h3 h4)
  have RM := Lib.hid (fun v => rmul_c a b v h1 h2 h3 h4)
  have CF := Lib.hid (fun v => from_c a v h1 h2)
  have RF := Lib.hid (fun v => rfrom_c a v h1 h2)
  have CT := Lib.hid (fun v => to_c a v h1 h2)
  have RT := Lib.hid (fun v => rto_c a v h1 h2)
  generalize addF a b = va at *
  generalize subF a b = vb at *
  generalize mulF a b = vm at *
  generalize fromF a = vf at *
  generalize tq a = vt at *
  clear cd rd cs_ rs
  go_enter Tryd.func3, Tryd.ntmps3
  go_wp2_with fail
  refine (awake_c w HT.out).mono ?_
  rintro e w1 ⟨rfl, hb⟩
  have HB1 := Lib.hid hb
  clear hb
  go_wp2_with fail
  refine (CD.out w1).mono ?_
  rintro e w2 ⟨rfl, hb⟩
  have HB2 := Lib.hid (bt HB1.out hb)
  clear hb
  go_wp2_with fail
  refine (CS.out w2).mono ?_
  rintro e w3 ⟨rfl, hb⟩
  have HB3 := Lib.hid (bt HB2.out hb)
  clear hb
  go_wp2_with fail
  refine (RD.out w3).mono ?_
  rintro e w4 ⟨rfl, hb⟩
  have HB4 := Lib.hid (bt HB3.out hb)
  clear hb
  go_wp2_with fail
  refine (RS.out w4).mono ?_
  rintro e w5 ⟨rfl, hb⟩
  have HB5 := Lib.hid (bt HB4.out hb)
  clear hb
  go_wp2_with (first | (go_at_call 16; refine (CA.out _).mono ?_; rintro e w' ⟨rfl, rfl⟩) | (go_at_call 17; refine (RA.out _).mono ?_; rintro e w' ⟨rfl, rfl⟩) | (go_at_call 18; refine (CB.out _).mono ?_; rintro e w' ⟨rfl, rfl⟩) | (go_at_call 19; refine (RB.out _).mono ?_; rintro e w' ⟨rfl, rfl⟩) | (go_at_call 20; refine (CM.out _).mono ?_; rintro e w' ⟨rfl, rfl⟩))
  refine (RM.out w5).mono ?_
  rintro e w6 ⟨rfl, hb⟩
  have HB6 := Lib.hid (bt HB5.out hb)
  clear hb
  go_wp2_with (go_at_call 22; refine (CF.out _).mono ?_; rintro e w' ⟨rfl, rfl⟩)
  refine (RF.out w6).mono ?_
  rintro e w7 ⟨rfl, hb⟩
  have HB7 := Lib.hid (bt HB6.out hb)
  clear hb
  go_wp2_with (go_at_call 24; refine (CT.out _).mono ?_; rintro e w' ⟨rfl, rfl⟩)
  refine (RT.out w7).mono ?_
  rintro e w8 ⟨rfl, hb⟩
  have HB8 := Lib.hid (bt HB7.out hb)
  clear hb
  go_wp2_with fail
  go_ret
  exact ⟨rfl, HB8.out⟩
end Go.Proofs.YtebabgonffbdhaaDoor

/- The walk of VecNear: nearness goes either way round, and farther; a mean lies between; what was clamped stays. -/
import Derived.Test.YtefaagacgoohjaaAddsWalk
namespace Go.Proofs.Ytefaagacgoohjaa
open Go.RowKit

/-- Are two pairs at most so far apart? -/
def nearB (x y u v r : Int) : Bool := if r < 0 then false else nearF x u r && nearF y v r
theorem vnearB_c (x y u v r : Int) (w : World) (hx : I64 x) (hy : I64 y) (hu : I64 u) (hv : I64 v) (hr : I64 r) :
    Calls Try.prog 21 #[vecV x y, vecV u v, .int .i64 r] w fun e w' => e = .returned (.bool (nearB x y u v r)) ∧ Below w.heap.size w w' := by
  unfold nearB
  split
  · exact vnear_neg x y u v r w ‹_›
  · exact vnear_c x y u v r w hx hy hu hv hr (by omega)
theorem nearB_comm (x y u v r : Int) : nearB u v x y r = nearB x y u v r := by
  unfold nearB nearF
  rw [show (u - x).natAbs = (x - u).natAbs by omega, show (v - y).natAbs = (y - v).natAbs by omega]
theorem nearB_more (x y u v r m : Int) (h : nearB x y u v r = true) (hm : r ≤ m) : nearB x y u v m = true := by
  unfold nearB nearF at *
  split at h
  · cases h
  · rw [if_neg (by omega)]
    simp only [Bool.and_eq_true, decide_eq_true_eq] at *
    omega
theorem nearB_self (x y m : Int) (hm : 0 ≤ m) : nearB x y x y m = true := by
  unfold nearB nearF
  rw [if_neg (by omega)]
  simp only [Bool.and_eq_true, decide_eq_true_eq]
  omega
theorem clampF_in (x r : Int) (h : 0 ≤ r) : -r ≤ clampF x r ∧ clampF x r ≤ r := by unfold clampF; split <;> (try split) <;> omega
theorem clampF_i64 {x r : Int} (h : I64 r) (k : 0 ≤ r) : I64 (clampF x r) := by
  have := clampF_in x r k
  unfold I64 at *
  omega
theorem clampF_twice (x r : Int) (h : 0 ≤ r) : clampF (clampF x r) r = clampF x r := by
  have := clampF_in x r h
  generalize clampF x r = c at *
  unfold clampF
  rw [if_neg (by omega), if_neg (by omega)]
theorem nearB_zero (x y r : Int) (h : 0 ≤ r) : nearB (clampF x r) (clampF y r) 0 0 r = true := by
  have h1 := clampF_in x r h
  have h2 := clampF_in y r h
  unfold nearB nearF
  rw [if_neg (by omega)]
  simp only [Bool.and_eq_true, decide_eq_true_eq]
  omega
theorem midF_comm (a b : Int) : midF b a = midF a b := by unfold midF; rw [Int.add_comm]
theorem midF_in (a b : Int) : (a ≤ midF a b ∨ b ≤ midF a b) ∧ (midF a b ≤ a ∨ midF a b ≤ b) ∧ (a ≤ b → a ≤ midF a b ∧ midF a b ≤ b) ∧ (b ≤ a → b ≤ midF a b ∧ midF a b ≤ a) := by unfold midF; omega

/-- Clamp's two answers. -/
def clampV (x y r : Int) : Value := if r < 0 then .tuple #[vecV 0 0, .int .i64 1] else .tuple #[vecV (clampF x r) (clampF y r), .int .i64 0]

set_option maxHeartbeats 2000000 in
set_option maxRecDepth 100000 in
theorem near_walk (x y u v r more : Int) (w : World) (hx : I64 x) (hy : I64 y) (hu : I64 u) (hv : I64 v) (hr : I64 r) (hm : I64 more) :
    Calls Try.prog 5 #[vecV x y, vecV u v, .int .i64 r, .int .i64 more] w fun e w' => e = .returned (.bool true) ∧ Below w.heap.size w w' := by
  obtain ⟨mx, hmx⟩ : ∃ mx, (if r < more then more else r) = mx := ⟨_, rfl⟩
  obtain ⟨m0, hm0⟩ : ∃ mx, (if r < 0 then 0 else r) = mx := ⟨_, rfl⟩
  obtain ⟨n1, hn1⟩ : ∃ mx, (if u < x then u else x) = mx := ⟨_, rfl⟩
  obtain ⟨n2, hn2⟩ : ∃ mx, (if x < u then u else x) = mx := ⟨_, rfl⟩
  obtain ⟨n3, hn3⟩ : ∃ mx, (if v < y then v else y) = mx := ⟨_, rfl⟩
  obtain ⟨n4, hn4⟩ : ∃ mx, (if y < v then v else y) = mx := ⟨_, rfl⟩
  have rx : I64 mx := by rw [← hmx]; split <;> assumption
  have r0 : I64 m0 := by rw [← hm0]; split <;> first | assumption | exact i64 (by decide) (by decide)
  have lx : r ≤ mx := by rw [← hmx]; split <;> omega
  have l0 : 0 ≤ m0 := by rw [← hm0]; split <;> omega
  have z0 : I64 0 := i64 (by decide) (by decide)
  have F1 := Lib.hid (nearB_more x y u v r mx · lx)
  have F2 := Lib.hid (nearB_self x y m0 l0)
  have t1 := midF_in x u
  have t2 := midF_in y v
  have q1 : n1 ≤ midF x u ∧ midF x u ≤ n2 := by rw [← hn1, ← hn2]; split <;> split <;> omega
  have q2 : n3 ≤ midF y v ∧ midF y v ≤ n4 := by rw [← hn3, ← hn4]; split <;> split <;> omega
  have d1 : decide (n1 ≤ midF x u) = true := decide_eq_true q1.1
  have d2 : decide (midF x u ≤ n2) = true := decide_eq_true q1.2
  have d3 : decide (n3 ≤ midF y v) = true := decide_eq_true q2.1
  have d4 : decide (midF y v ≤ n4) = true := decide_eq_true q2.2
  have f1 := midF_comm x u
  have f2 := midF_comm y v
  have f3 := nearB_comm x y u v r
  clear q1 q2 lx l0 t1 t2
  go_enter Try.func5, Try.ntmps5
  go_wp2_with fail
  refine (awake_c _).mono ?_
  rintro e w1 ⟨rfl, hb⟩
  have HB := Lib.hid ((Boxes.start w x y u v).keep hb)
  clear hb
  obtain ⟨g, hg⟩ : ∃ g, g = w.heap.size := ⟨_, rfl⟩
  rw [← hg] at HB ⊢
  clear hg
  obtain ⟨c0, c1, c2, c3, -, -, -⟩ := HB.out
  go_wp2_with fail
  refine (vnearB_c _ _ _ _ _ _ hx hy hu hv hr).mono ?_
  rintro e w2 ⟨rfl, hb⟩
  have HB2 := Lib.hid (HB.out.keep hb)
  clear hb c0 c1 c2 c3 HB
  obtain ⟨c0, c1, c2, c3, -, -, -⟩ := HB2.out
  go_wp2_with fail
  refine (vnearB_c _ _ _ _ _ _ hu hv hx hy hr).mono ?_
  rintro e w3 ⟨rfl, hb⟩
  have HB3 := Lib.hid (HB2.out.keep hb)
  clear hb c0 c1 c2 c3 HB2
  obtain ⟨c0, c1, c2, c3, -, -, -⟩ := HB3.out
  rw [f3]
  obtain ⟨P, hP⟩ : ∃ P, nearB x y u v r = P := ⟨_, rfl⟩
  obtain ⟨Wd, hW⟩ : ∃ P, nearB x y u v mx = P := ⟨_, rfl⟩
  have HPW := Lib.hid (show P = true → Wd = true by rw [← hP, ← hW]; exact F1.out)
  rw [hP]
  clear f3 F1
  go_wp2_with fail
  refine (vnearB_c _ _ _ _ _ _ hx hy hu hv rx).mono ?_
  rintro e w4 ⟨rfl, hb⟩
  rw [hW]
  clear hP hW rx
  have HB4 := Lib.hid (HB3.out.keep hb)
  clear hb c0 c1 c2 c3 HB3
  obtain ⟨c0, c1, c2, c3, -, -, -⟩ := HB4.out
  go_wp2_with fail
  refine (vmean_c _ _ _ _ _ hx hy hu hv).mono ?_
  rintro e w5 ⟨rfl, hb⟩
  generalize midF x u = p at *
  generalize midF y v = q at *
  have HB5 := Lib.hid (HB4.out.keep hb)
  clear hb c0 c1 c2 c3 HB4
  go_upto_region 6 with (fail)
  have hk := Blk.new w5 23 #[.int .i64 p, .int .i64 q]
  have hb6 := HB5.out.keep ((Below.refl w5.heap.size w5).alloc (Nat.le_refl _) (.cells #[.int .i64 p, .int .i64 q] 23))
  generalize w5.alloc (.cells #[.int .i64 p, .int .i64 q] 23) = w6 at *
  generalize w5.heap.size = j at *
  have HB6 := Lib.hid (Boxes3.make hb6 hk)
  clear hb6 hk HB5
  go_cut [14] (fun s14 wx => s14 = .bool true ∧ Boxes w wx g (g + 1) x y u v)
  case first =>
    go_region_held3 (fun w' => Boxes3 w w' g (g + 1) j x y u v p q) (first | exact HB6.out.drew | exact Boxes3.keep (by assumption) (by assumption))
      (first
        | (go_at_call 23; refine (vmean_c _ _ _ _ _ (by assumption) (by assumption) (by assumption) (by assumption)).mono ?_; rintro e w' ⟨rfl, hb⟩; simp only [f1, f2]))
    rename_i hH
    have HH := Lib.hid hH.2.2.2.2.2.2.2
    clear hH hb
    go_wp2_with fail
    go_meet
    exact ⟨rfl, HH.out⟩
  case rest =>
    obtain ⟨rfl, hbx⟩ := hcut
    have HC := Lib.hid hbx
    clear hbx d1 d2 d3 d4 f1 f2 hn1 hn2 hn3 hn4 HB6
    obtain ⟨c0, c1, c2, c3, -, -, -⟩ := HC.out
    by_cases hneg : r < 0
    · have N1 := Lib.hid (fun w => vclamp_neg x y r w hneg)
      have N2 := Lib.hid (fun w => vclamp_neg 0 0 r w hneg)
      clear hneg
      go_wp2_with fail
      refine (N1.out _).mono ?_
      rintro e w7 ⟨rfl, hb⟩
      have HC7 := Lib.hid (HC.out.keep hb)
      clear hb c0 c1 c2 c3 HC
      go_wp2_with fail
      refine (N2.out _).mono ?_
      rintro e w8 ⟨rfl, hb⟩
      have hk8 : Blk w8 w7.heap.size 23 #[.int .i64 0, .int .i64 0] := (Blk.new w7 23 _).below hb (by simp)
      have HC8 := Lib.hid (Boxes3.make ((HC7.out.keep ((Below.refl w7.heap.size w7).alloc (Nat.le_refl _) (.cells #[.int .i64 0, .int .i64 0] 23))).keep hb) hk8)
      generalize w7.heap.size = j7 at *
      clear hb hk8 HC7
      go_upto_region 9 with (fail)
      have hk9 := Blk.new w8 23 #[.int .i64 0, .int .i64 0]
      have hb9 := HC8.out.keep ((Below.refl w8.heap.size w8).alloc (Nat.le_refl _) (.cells #[.int .i64 0, .int .i64 0] 23))
      generalize w8.alloc (.cells #[.int .i64 0, .int .i64 0] 23) = w9 at *
      generalize w8.heap.size = j8 at *
      have HC9 := Lib.hid hb9
      obtain ⟨c0, c1, c2, c3, c4, c5, -⟩ := hb9
      have c6 := hk9.cell 0
      have c7 := hk9.cell 1
      clear hk9 HC8
      cases P
      · go_wp2_with fail
        refine (vnearB_c _ _ _ _ _ _ hx hy hx hy r0).mono ?_
        rintro e w10 ⟨rfl, hb⟩
        rw [F2.out]
        have HD := Lib.hid (vbt HC9.out.below hb)
        clear hb
        go_wp2_with fail
        go_ret
        exact ⟨rfl, HD.out⟩
      · obtain rfl : Wd = true := HPW.out rfl
        go_wp2_with fail
        refine (vnearB_c _ _ _ _ _ _ hx hy hx hy r0).mono ?_
        rintro e w10 ⟨rfl, hb⟩
        rw [F2.out]
        have HD := Lib.hid (vbt HC9.out.below hb)
        clear hb
        go_wp2_with fail
        go_ret
        exact ⟨rfl, HD.out⟩
    · have hpos : 0 ≤ r := by omega
      have N1 := Lib.hid (fun w => vclamp_c x y r w hr hpos)
      have N2 := Lib.hid (fun w => vclamp_c (clampF x r) (clampF y r) r w hr hpos)
      rw [clampF_twice x r hpos, clampF_twice y r hpos] at N2
      have NZ := Lib.hid (fun w => vnearB_c (clampF x r) (clampF y r) 0 0 r w (clampF_i64 hr hpos) (clampF_i64 hr hpos) z0 z0 hr)
      rw [nearB_zero x y r hpos] at NZ
      generalize clampF x r = cx at *
      generalize clampF y r = cy at *
      clear hneg hpos
      go_wp2_with fail
      refine (N1.out _).mono ?_
      rintro e w7 ⟨rfl, hb⟩
      have HC7 := Lib.hid (HC.out.keep hb)
      clear hb c0 c1 c2 c3 HC
      go_wp2_with fail
      refine (N2.out _).mono ?_
      rintro e w8 ⟨rfl, hb⟩
      have hk8 : Blk w8 w7.heap.size 23 #[.int .i64 cx, .int .i64 cy] := (Blk.new w7 23 _).below hb (by simp)
      have HC8 := Lib.hid (Boxes3.make ((HC7.out.keep ((Below.refl w7.heap.size w7).alloc (Nat.le_refl _) (.cells #[.int .i64 cx, .int .i64 cy] 23))).keep hb) hk8)
      generalize w7.heap.size = j7 at *
      clear hb hk8 HC7
      go_upto_region 9 with (fail)
      have hk9 := Blk.new w8 23 #[.int .i64 cx, .int .i64 cy]
      have hb9 := HC8.out.keep ((Below.refl w8.heap.size w8).alloc (Nat.le_refl _) (.cells #[.int .i64 cx, .int .i64 cy] 23))
      generalize w8.alloc (.cells #[.int .i64 cx, .int .i64 cy] 23) = w9 at *
      generalize w8.heap.size = j8 at *
      have HC9 := Lib.hid hb9
      obtain ⟨c0, c1, c2, c3, c4, c5, -⟩ := hb9
      have c6 := hk9.cell 0
      have c7 := hk9.cell 1
      clear hk9 HC8
      go_wp2_with fail
      refine (NZ.out _).mono ?_
      rintro e w9 ⟨rfl, hb⟩
      have HC10 := Lib.hid (HC9.out.keep hb)
      clear hb c0 c1 c2 c3 c4 c5 c6 c7 HC9
      have HC9 := HC10
      obtain ⟨c0, c1, c2, c3, -⟩ := HC10.out
      clear HC10
      cases P
      · go_wp2_with fail
        refine (vnearB_c _ _ _ _ _ _ hx hy hx hy r0).mono ?_
        rintro e w10 ⟨rfl, hb⟩
        rw [F2.out]
        have HD := Lib.hid (vbt HC9.out.below hb)
        clear hb
        go_wp2_with fail
        go_ret
        exact ⟨rfl, HD.out⟩
      · obtain rfl : Wd = true := HPW.out rfl
        go_wp2_with fail
        refine (vnearB_c _ _ _ _ _ _ hx hy hx hy r0).mono ?_
        rintro e w10 ⟨rfl, hb⟩
        rw [F2.out]
        have HD := Lib.hid (vbt HC9.out.below hb)
        clear hb
        go_wp2_with fail
        go_ret
        exact ⟨rfl, HD.out⟩
end Go.Proofs.Ytefaagacgoohjaa

/- The walk of VecDots: products go either way round, and scale. -/
import Derived.Test.YtefaagacgoohjaaVAwake
namespace Go.Proofs.Ytefaagacgoohjaa
open Go.RowKit

theorem mulF_comm (a b : Int) : mulF a b = mulF b a := by rw [mulF_eq, mulF_eq, Int.mul_comm]
theorem dotF_comm (x y u v : Int) : dotF u v x y = dotF x y u v := by unfold dotF; rw [mulF_comm u x, mulF_comm v y]
theorem tq_mul (a : Int) : tq (a * 4294967296) = a := by unfold tq; split <;> omega
theorem mulF_one {a : Int} (h : I64 a) : mulF a 4294967296 = a := by rw [mulF_eq, tq_mul, sat_id h.1 h.2]
theorem mulF_zero (a : Int) : mulF a 0 = 0 := by rw [mulF_eq, Int.mul_zero]; decide
theorem mulF_whole (a n : Int) (h : I64 (n * a)) : mulF a (n * 4294967296) = n * a := by
  rw [mulF_eq, show a * (n * 4294967296) = n * a * 4294967296 by rw [Int.mul_comm n a, Int.mul_assoc], tq_mul, sat_id h.1 h.2]

theorem and7 (k : Int) : 0 ≤ bits .and .i64 k 7 ∧ bits .and .i64 k 7 < 8 := by
  rw [and_i64]
  have h := BitVec.toNat_and (BitVec.ofInt 64 k) (BitVec.ofInt 64 7)
  have e : (BitVec.ofInt 64 7).toNat = 7 := by decide
  rw [e] at h
  have h2 : (BitVec.ofInt 64 k).toNat &&& 7 ≤ 7 := Nat.and_le_right
  rw [BitVec.toInt_eq_toNat_cond]
  split <;> omega

/-- Two pairs lie in two boxes. -/
abbrev Boxes (w w1 : World) (g h : Nat) (x y u v : Int) : Prop :=
  w1.cell? ⟨g, 0, none⟩ = some (.int .i64 x) ∧ w1.cell? ⟨g, 1, none⟩ = some (.int .i64 y) ∧ w1.cell? ⟨h, 0, none⟩ = some (.int .i64 u) ∧ w1.cell? ⟨h, 1, none⟩ = some (.int .i64 v) ∧ Blk w1 g 23 #[.int .i64 x, .int .i64 y] ∧ Blk w1 h 23 #[.int .i64 u, .int .i64 v] ∧ Below w.heap.size w w1
theorem Boxes.make {w w1 : World} {g h : Nat} {x y u v : Int} (a : Blk w1 g 23 #[.int .i64 x, .int .i64 y]) (b : Blk w1 h 23 #[.int .i64 u, .int .i64 v]) (hb : Below w.heap.size w w1) : Boxes w w1 g h x y u v :=
  ⟨a.cell 0, a.cell 1, b.cell 0, b.cell 1, a, b, hb⟩
theorem Boxes.keep {w w1 w2 : World} {g h : Nat} {x y u v : Int} (a : Boxes w w1 g h x y u v) (hb : Below w1.heap.size w1 w2) : Boxes w w2 g h x y u v :=
  .make (a.2.2.2.2.1.below hb a.2.2.2.2.1.lt) (a.2.2.2.2.2.1.below hb a.2.2.2.2.2.1.lt) (vbt a.2.2.2.2.2.2 hb)
theorem Boxes.start (w : World) (x y u v : Int) : Boxes w ((w.alloc (.cells #[.int .i64 x, .int .i64 y] 23)).alloc (.cells #[.int .i64 u, .int .i64 v] 23)) w.heap.size (w.heap.size + 1) x y u v := by
  refine .make ((Blk.new _ _ _).alloc _) ?_ (bel2 _ _ _)
  have := Blk.new (w.alloc (.cells #[.int .i64 x, .int .i64 y] 23)) 23 #[.int .i64 u, .int .i64 v]
  rwa [show (w.alloc (.cells #[.int .i64 x, .int .i64 y] 23)).heap.size = w.heap.size + 1 by simp] at this
theorem Boxes.drew {w w1 : World} {g h : Nat} {x y u v : Int} (a : Boxes w w1 g h x y u v) : Boxes w w1.drew g h x y u v := ⟨a.1, a.2.1, a.2.2.1, a.2.2.2.1, a.2.2.2.2.1, a.2.2.2.2.2.1, a.2.2.2.2.2.2.drew⟩

set_option maxHeartbeats 1000000 in
set_option maxRecDepth 100000 in
theorem dots_walk (x y u v k : Int) (w : World) (hx : I64 x) (hy : I64 y) (hu : I64 u) (hv : I64 v) :
    Calls Try.prog 7 #[vecV x y, vecV u v, .int .i64 k] w fun e w' => e = .returned (.bool true) ∧ Below w.heap.size w w' := by
  have r0 : I64 0 := i64 (by decide) (by decide)
  have r1 : I64 4294967296 := i64 (by decide) (by decide)
  obtain ⟨n, hn⟩ : ∃ n, bits .and .i64 k 7 = n := ⟨_, rfl⟩
  have hn1 := and7 k
  rw [hn] at hn1
  have HN := Lib.hid hn1
  clear hn1
  go_enter Try.func7, Try.ntmps7
  go_wp2_with fail
  refine (awake_c _).mono ?_
  rintro e w1 ⟨rfl, hb⟩
  have HB := Lib.hid ((Boxes.start w x y u v).keep hb)
  clear hb
  obtain ⟨g, hg⟩ : ∃ g, g = w.heap.size := ⟨_, rfl⟩
  rw [← hg] at HB ⊢
  clear hg
  go_upto_region 3 with (fail)
  go_cut [9] (fun s9 wx => s9 = .bool true ∧ Boxes w wx g (g + 1) x y u v)
  case first =>
    go_region_held3 (fun w' => Boxes w w' g (g + 1) x y u v) (first | exact HB.out.drew | exact Boxes.keep (by assumption) (by assumption))
      (first
        | (go_at_call 17; refine (vdot_c _ _ _ _ _ (by assumption) (by assumption) (by assumption) (by assumption)).mono ?_; rintro e w' ⟨rfl, hb⟩; (try rw [dotF_comm x y u v]))
        | (go_at_call 15; refine (vscale_c _ _ _ _ (by assumption) (by assumption) (by assumption)).mono ?_; rintro e w' ⟨rfl, hb⟩; simp only [mulF_one hx, mulF_one hy, mulF_zero]))
    rename_i hH
    have HH := Lib.hid hH
    clear hH hb
    go_wp2_with fail
    go_meet
    exact ⟨rfl, HH.out⟩
  case rest =>
    obtain ⟨rfl, hbx⟩ := hcut
    have HC := Lib.hid hbx
    obtain ⟨c0, c1, c2, c3, -, -, -⟩ := hbx
    go_upto_region 4 with (fail)
    go_cut [50] (fun s50 wx => ∃ B : Bool, s50 = .bool B ∧ (B = false → -1125899906842624 ≤ x ∧ x ≤ 1125899906842624 ∧ -1125899906842624 ≤ y ∧ y ≤ 1125899906842624) ∧ wx = wc)
    case first =>
      by_cases h1 : 1125899906842624 < x
      · have d1 : decide (1125899906842624 < x) = true := decide_eq_true h1
        go_wp2_with fail
        go_meet
        exact ⟨true, rfl, by simp, rfl⟩
      have d1 : decide (1125899906842624 < x) = false := decide_eq_false h1
      by_cases h2 : x < -1125899906842624
      · have d2 : decide (x < -1125899906842624) = true := decide_eq_true h2
        clear h1
        go_wp2_with fail
        go_meet
        exact ⟨true, rfl, by simp, rfl⟩
      have d2 : decide (x < -1125899906842624) = false := decide_eq_false h2
      by_cases h3 : 1125899906842624 < y
      · have d3 : decide (1125899906842624 < y) = true := decide_eq_true h3
        clear h1 h2
        go_wp2_with fail
        go_meet
        exact ⟨true, rfl, by simp, rfl⟩
      have d3 : decide (1125899906842624 < y) = false := decide_eq_false h3
      obtain ⟨b, d4⟩ : ∃ b, decide (y < -1125899906842624) = b := ⟨_, rfl⟩
      have HL := Lib.hid (show b = false → -1125899906842624 ≤ x ∧ x ≤ 1125899906842624 ∧ -1125899906842624 ≤ y ∧ y ≤ 1125899906842624 by rintro rfl; have := of_decide_eq_false d4; omega)
      clear h1 h2 h3
      go_wp2_with fail
      go_meet
      exact ⟨b, rfl, HL.out, rfl⟩
    case rest =>
      obtain ⟨B, rfl, hB, rfl⟩ := hcut
      have HBB := Lib.hid hB
      clear hB
      cases B
      · have hs := HBB.out rfl
        have hn1 := HN.out
        have ex : -9223372036854775808 ≤ n * x ∧ n * x < 9223372036854775808 := by
          obtain ⟨m, rfl⟩ : ∃ m : Nat, n = (m : Int) := ⟨n.toNat, by omega⟩
          have : m = 0 ∨ m = 1 ∨ m = 2 ∨ m = 3 ∨ m = 4 ∨ m = 5 ∨ m = 6 ∨ m = 7 := by omega
          rcases this with rfl | rfl | rfl | rfl | rfl | rfl | rfl | rfl <;> omega
        have ey : -9223372036854775808 ≤ n * y ∧ n * y < 9223372036854775808 := by
          obtain ⟨m, rfl⟩ : ∃ m : Nat, n = (m : Int) := ⟨n.toNat, by omega⟩
          have : m = 0 ∨ m = 1 ∨ m = 2 ∨ m = 3 ∨ m = 4 ∨ m = 5 ∨ m = 6 ∨ m = 7 := by omega
          rcases this with rfl | rfl | rfl | rfl | rfl | rfl | rfl | rfl <;> omega
        have S3 := Lib.hid (fun w => vscale_c x y (n * 4294967296) w hx hy (i64 (by omega) (by omega)))
        rw [mulF_whole x n ex, mulF_whole y n ey] at S3
        have w1 : IntKind.i64.wrap (n * 4294967296) = n * 4294967296 := IntWalk.i64_in _ (by omega)
        have w2 : IntKind.i64.wrap (n * x) = n * x := IntWalk.i64_in _ (by omega)
        have w3 : IntKind.i64.wrap (n * y) = n * y := IntWalk.i64_in _ (by omega)
        have w4 : wrap64 (n * 4294967296) = n * 4294967296 := IntWalk.wrap64_in _ (by omega)
        have w5 : wrap64 (n * x) = n * x := IntWalk.wrap64_in _ (by omega)
        have w6 : wrap64 (n * y) = n * y := IntWalk.wrap64_in _ (by omega)
        clear hs hn1 ex ey
        go_wp2_with fail
        refine (S3.out _).mono ?_
        rintro e w7 ⟨rfl, hb⟩
        have HD := Lib.hid (HC.out.keep hb)
        clear hb c0 c1 c2 c3
        go_upto_region 7 with (fail)
        have hk8 := Blk.new w7 23 #[.int .i64 (n * x), .int .i64 (n * y)]
        have hb8 := HD.out.keep ((Below.refl w7.heap.size w7).alloc (Nat.le_refl _) (.cells #[.int .i64 (n * x), .int .i64 (n * y)] 23))
        generalize w7.alloc (.cells #[.int .i64 (n * x), .int .i64 (n * y)] 23) = w8 at *
        have HD8 := Lib.hid hb8
        obtain ⟨c0, c1, c2, c3, -, -, -⟩ := hb8
        have c4 := hk8.cell 0
        have c5 := hk8.cell 1
        clear hk8
        go_wp2_with fail
        go_ret
        exact ⟨rfl, HD8.out.2.2.2.2.2.2⟩
      · go_wp2_with fail
        go_ret
        exact ⟨rfl, HC.out.2.2.2.2.2.2⟩
end Go.Proofs.Ytefaagacgoohjaa

/- The document's examples come out. -/
import Derived.Test.YtkekidgakmhicaaWay
namespace Go.Proofs.Ytkekidgakmhicaa
open Go.RowKit

theorem nine {k i : Nat} (h : 1 ≤ i ∨ k = 0 ∧ i = 0) (h2 : i ≤ rL k) (hn : rN k + i = 9) : k = 4 ∧ i = 3 := by
  have hk := rN_ge k
  have hk9 : k < 10 := by omega
  match k, hk9 with
  | 0, _ => simp [rN, rL] at *; omega
  | 1, _ => simp [rN, rL] at *; omega
  | 2, _ => simp [rN, rL] at *; omega
  | 3, _ => simp [rN, rL] at *; omega
  | 4, _ => simp [rN, rL] at *; omega
  | 5, _ => simp [rN, rL] at *; omega
  | 6, _ => simp [rN, rL] at *; omega
  | 7, _ => simp [rN, rL] at *; omega
  | 8, _ => simp [rN, rL] at *; omega
  | 9, _ => simp [rN, rL] at *; omega

theorem num_minus2 : Num 13835058055282163712 (-2) := num_lit _ _ (by decide) (by decide)
theorem num_501 : Num 4647521301399863296 501 := num_lit _ _ (by decide) (by decide)

/-- Place at the two examples, with the words as letters. -/
theorem place_six (w : World) : Calls Try.prog 7 #[.complex .f64 13830554455654793216 13830554455654793216] w fun e w' => e = .returned (.tuple #[.int .i64 6, .int .i64 0]) ∧ Below w.heap.size w w' :=
  place_c (k := 3) (i := 2) w ⟨num_minus, num_minus⟩ (.inl (by decide)) (by decide) (by decide) (by decide)
theorem place_out (w : World) : Calls Try.prog 7 #[.complex .f64 4647521301399863296 0] w fun e w' => e = .returned (.tuple #[.int .i64 0, .int .i64 2]) ∧ w = w' :=
  place_far w ⟨num_501, num_zero⟩ (by decide) (by decide) (by decide)

set_option maxRecDepth 100000 in
set_option maxHeartbeats 2000000 in
theorem awake_c (w : World) : Calls Try.prog 4 #[] w fun e w' => e = .returned (.bool true) ∧ Below w.heap.size w w' := by
  obtain ⟨p, q, hpq, ht⟩ := turn_ex
  have a1 : (FloatKind.f64.format.order p 13835058055282163712 == some .eq) = true := by rw [num_eq hpq.re num_minus2]; decide
  have a2 : (FloatKind.f64.format.order q 4613937818241073152 == some .eq) = true := by rw [num_eq hpq.im num_three]; decide
  have A := Lib.hid (And.intro a1 a2)
  have HT := Lib.hid ht
  clear ht hpq a1 a2
  go_enter Try.func4, Try.ntmps4
  go_wp2_with fail
  refine (HT.out _).mono ?_
  rintro e w0 ⟨rfl, rfl⟩
  clear HT
  go_wp2_with fail
  refine (heading_ex _).mono ?_
  rintro e w1 ⟨rfl, hb1⟩
  have HB1 := Lib.hid hb1
  clear hb1
  go_wp2_with fail
  refine (walk_ex _).mono ?_
  rintro e w2 ⟨⟨v, xs, p2, q2, rfl, hown, hx, hc⟩, hb2⟩
  obtain ⟨g, cap, rfl, hg, hglt⟩ := hown.form (by decide)
  have hcell : w2.cell? ((⟨g, 0, none⟩ : Addr).add 1) = some (.complex .f64 p2 q2) := hown.cells (g := g) rfl 1 _ hx
  have b1 : (FloatKind.f64.format.order p2 4611686018427387904 == some .eq) = true := by rw [num_eq hc.re num_two]; decide
  have b2 : (FloatKind.f64.format.order q2 4607182418800017408 == some .eq) = true := by rw [num_eq hc.im num_one]; decide
  have B := Lib.hid (And.intro b1 b2)
  have HCELL := Lib.hid (show w2.cell? ⟨g, 1, none⟩ = some (.complex .f64 p2 q2) from hcell)
  have HGL := Lib.hid hglt
  have HB2 := Lib.hid (bt HB1.out hb2)
  clear hown hx hc hb2 hg hglt hcell b1 b2 HB1
  go_wp2_with fail
  refine (spiral_c 9 _ (by decide)).mono ?_
  rintro e w3 ⟨⟨k, i, p3, q3, h1, h2, h3, h4, rfl⟩, hb3⟩
  obtain ⟨rfl, rfl⟩ := nine h1 h2 h3
  have c1 : (FloatKind.f64.format.order p3 4611686018427387904 == some .eq) = true := by rw [num_eq h4.re num_two]; decide
  have c2 : (FloatKind.f64.format.order q3 13830554455654793216 == some .eq) = true := by rw [num_eq h4.im num_minus]; decide
  have C := Lib.hid (And.intro c1 c2)
  have HC3 := Lib.hid ((hb3.cell HGL.out).trans HCELL.out)
  have HG3 := Lib.hid (Nat.lt_of_lt_of_le HGL.out hb3.size)
  have HB3 := Lib.hid (bt HB2.out hb3)
  clear h1 h2 h3 h4 c1 c2 hb3 HB2 HCELL HGL
  go_wp2_with fail
  refine (place_six _).mono ?_
  rintro e w4 ⟨rfl, hb4⟩
  have HC4 := Lib.hid ((hb4.cell HG3.out).trans HC3.out)
  have HB4 := Lib.hid (bt HB3.out hb4)
  clear hb4 HB3 HC3 HG3
  go_wp2_with fail
  refine (place_out _).mono ?_
  rintro e w5 ⟨rfl, rfl⟩
  obtain ⟨a1, a2⟩ := A.out
  obtain ⟨b1, b2⟩ := B.out
  obtain ⟨c1, c2⟩ := C.out
  have hcell := HC4.out
  clear A B C HC4
  go_wp2_with fail
  refine (cell_half _).mono ?_
  rintro e w6 ⟨rfl, rfl⟩
  go_wp2_with fail
  go_ret
  exact ⟨rfl, HB4.out⟩
end Go.Proofs.Ytkekidgakmhicaa

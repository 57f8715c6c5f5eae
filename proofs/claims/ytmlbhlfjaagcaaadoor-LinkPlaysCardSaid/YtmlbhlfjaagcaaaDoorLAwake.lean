/- The contract of awake: the document's examples come out. -/
import Derived.Test.YtmlbhlfjaagcaaaDoorLTwo
import Derived.Lib.SlBytesConst
namespace Go.Proofs.YtmlbhlfjaagcaaaDoor
open Go.RowKit

def hiB : List Nat := [104, 105]
def yoB : List Nat := [121, 111]
def sb1 : LS := ⟨5, 0, [], true, 65535, 0, 65535, 1, []⟩
def sa2 : LS := ⟨0, 1, [65535], true, 5, 0, 5, 1, []⟩
theorem many2 {b : List Nat} (h : b.length = 2) : manyN b.length = 1 := by rw [h]; rfl
theorem aw1 : (LS.new 5).recv (dgram (LS.new 65535) hiB 0) = ⟨sb1, 0, some hiB⟩ := by
  unfold LS.recv
  rw [dec_dgram (zero_new _) (by decide) 0 (by decide)]
  rfl
theorem aw2 : sb1.recv (dgram (LS.new 65535) hiB 0) = ⟨sb1, 71, none⟩ := by
  unfold LS.recv
  rw [dec_dgram (zero_new _) (by decide) 0 (by decide)]
  rfl
theorem aw3 : (LS.new 65535).sendS.recv (dgram sb1 yoB 0) = ⟨sa2, 0, some yoB⟩ := by
  unfold LS.recv
  rw [dec_dgram (fun h => by cases h) (by decide) 0 (by decide)]
  rfl
theorem aw4 : sa2.acked = [65535] := by decide
theorem aw5 : (sb1.sendS.next = 6) := rfl

theorem marked_sl (w : World) (l : List Nat) (fz : Nat × Nat) : SlB (w.alloc (.cells (U8s l).toArray 5 fz)) (.slice (some ⟨w.heap.size, 0, none⟩) l.length l.length) l := by
  refine ⟨_, _, rfl, Nat.le_refl _, (fun e => nomatch e), by rw [U8s_length], fun _ => ⟨_, rfl, by simp, fun j u hu => ?_⟩⟩
  rw [addr0, cell_of_row _ w.heap.size j _ 5 fz (heap_alloc_new w _), List.getElem?_toArray]
  exact hu

theorem newer_t (w : World) : Calls Tryd.prog 12 #[.int .i64 0, .int .i64 65535] w fun e w' => e = .returned (.bool true) ∧ w = w' := bnewer_c 0 65535 w
theorem newer_f (w : World) : Calls Tryd.prog 12 #[.int .i64 0, .int .i64 32768] w fun e w' => e = .returned (.bool false) ∧ w = w' := bnewer_c 0 32768 w
theorem tab_pos {w : World} (h : Tab w) : 0 < w.heap.size := World.block_lt_of_cell? w ⟨0, 0, none⟩ (h 0 (by omega))

set_option maxHeartbeats 8000000 in
set_option maxRecDepth 100000 in
theorem awake_c (w : World) (ht : Tab w) : Calls Tryd.prog 9 #[] w fun e w' => e = .returned (.bool true) ∧ Below w.heap.size w w' := by
  have HT := Lib.hid ht
  clear ht
  go_enter Tryd.func9, Tryd.ntmps9
  go_wp2_with fail
  refine (new1_c w w 65535 (Below.refl _ _)).mono ?_
  rintro e w1 ⟨x, rfl, hx1, _, hb1⟩
  have HX1 : Hid (One w w1 x (LS.new 65535)) := hx1
  clear hx1 hb1
  go_wp2_with fail
  refine (new1_c w w1 5 HX1.out.below).mono ?_
  rintro e w2 ⟨y, rfl, hy2, hy3, hb2⟩
  have HX2 := Lib.hid (HX1.out.go hb2)
  have HA := Lib.hid (apart_new HX1.out hy3)
  have HY2 : Hid (One w w2 y (LS.new 5)) := hy2
  clear hy2 hy3 hb2 HX1
  have hcb := Lib.run_convert_bytes_const (P := Tryd.prog) w2 36 5 #[.int .u8 104, .int .u8 105] 2 2 Tryd.underlying36 Tryd.underlying5
  go_wp2_with fail
  clear hcb
  have HX3 := Lib.hid (HX2.out.go (lbel1 w2 (.cells #[.int .u8 104, .int .u8 105] 5 (2, 3))))
  have HY3 := Lib.hid (HY2.out.go (lbel1 w2 (.cells #[.int .u8 104, .int .u8 105] 5 (2, 3))))
  have HV3 : Hid (SlB (w2.alloc (.cells #[.int .u8 104, .int .u8 105] 5 (2, 3))) (.slice (some ⟨w2.heap.size, 0, none⟩) 2 2) hiB) := marked_sl w2 hiB (2, 3)
  clear HX2 HY2
  generalize w2.alloc (.cells #[.int .u8 104, .int .u8 105] 5 (2, 3)) = w3 at HX3 HY3 HV3 ⊢
  refine (send1_c _ hiB HX3.out HV3.out (HT.out.below HX3.out.below) (by decide)).mono ?_
  rintro e w4 (⟨h1, _⟩ | ⟨_, v4, gs, rfl, h2, h3, h4, h5⟩)
  · exact absurd h1 (by decide)
  have HY4 := Lib.hid (HY3.out.other HX3.out HA.out h5 (fun i h => h.elim .inl (fun e => .inr (.inl e))))
  have HX4 := Lib.hid h4
  obtain ⟨g0, r0, c0, rfl, hc0, hs0, _, _, hk0, _⟩ := row_at h2 h3 (j := 0) (d := dgram (LS.new 65535) hiB 0) rfl
  have hbr : ∃ cs, Blk w4 r0 36 cs ∧ cs[0]? = some (.slice (some ⟨g0, 0, none⟩) (dgram (LS.new 65535) hiB 0).length (dgram (LS.new 65535) hiB 0).length) := by
    rcases h2.2 with ⟨h, _⟩ | ⟨g', cap, cur, h, _, hh, _⟩
    · cases h
    · injection h with h
      injection h with h
      injection h with h
      subst h
      refine ⟨cur, hh, ?_⟩
      rw [← Blk.cell (t := 36) hh]; exact hc0
  obtain ⟨cs0, hbr, hcs0⟩ := hbr
  have hl0 : (dgram (LS.new 65535) hiB 0).length = 17 := dgram_len _ _ _
  rw [hl0] at hs0 hc0 hcs0
  have HS0 := Lib.hid hs0
  have HBR := Lib.hid hbr
  have HK0 := Lib.hid hk0
  have HC0 := Lib.hid hcs0
  have hm1 : manyN hiB.length = 1 := rfl
  rw [hm1]
  have HDl : Hid (∀ z ∈ dgram (LS.new 65535) hiB 0, z < 256) := dgram_lt (new_ok (by omega)) (by decide) (by decide) (by decide)
  clear h2 h3 h4 h5 hs0 hbr hk0 HX3 HY3 HV3 hm1 hcs0
  go_wp2_with fail
  refine (recv1_c _ (dgram (LS.new 65535) hiB 0) HY4.out HS0.out (HT.out.below HX4.out.below) (by rw [hl0]; omega) HDl.out).mono ?_
  rw [aw1]
  rintro e w5 ⟨hy5, hf5, ⟨m, v5, h1, h2, rfl, ho5⟩ | ⟨h1, _⟩⟩
  case inr => cases h1
  obtain rfl : hiB = m := by injection h1
  have HX5 := Lib.hid (HX4.out.other HY4.out HA.out.symm hf5 (fun _ h => h))
  have HBR5 := Lib.hid (keep_blk HY4.out.at_ hf5 (fun _ h => h) HBR.out (by decide))
  have HK5 := Lib.hid (keep_blk HY4.out.at_ hf5 (fun _ h => h) HK0.out (by decide))
  have HY5 := Lib.hid hy5
  have HO5 := Lib.hid ho5
  have hs5 : SlB w5 (.slice (some ⟨g0, 0, none⟩) 17 17) (dgram (LS.new 65535) hiB 0) := U8s_reads (ys := []) (t := 5) (by rw [List.append_nil]; exact HK5.out) hl0.symm (by rw [hl0]; omega)
  have hc5 : w5.cell? ⟨r0, 0, none⟩ = some (.slice (some ⟨g0, 0, none⟩) 17 17) := by rw [HBR5.out.cell]; exact HC0.out
  have HS5 := Lib.hid hs5
  clear hy5 hf5 h1 h2 ho5 hs5 HX4 HY4 HBR HK0 HS0 hc0
  go_wp2_with fail
  refine (recv1_c _ (dgram (LS.new 65535) hiB 0) HY5.out HS5.out (HT.out.below HX5.out.below) (by rw [hl0]; omega) HDl.out).mono ?_
  rw [aw2]
  rintro e w6 ⟨hy6, hf6, ⟨m, v6, h1, _⟩ | ⟨_, rfl⟩⟩
  case inl => cases h1
  have HX6 := Lib.hid (HX5.out.other HY5.out HA.out.symm hf6 (fun _ h => h))
  have HBR6 := Lib.hid (keep_blk HY5.out.at_ hf6 (fun _ h => h) HBR5.out (by decide))
  have HO6 : Hid (OwnB w6 w4.heap.size v5 hiB) := keep_row HY5.out.at_ hf6 (fun _ h => h) HO5.out (by decide)
  have HY6 := Lib.hid hy6
  have hcb := Lib.run_convert_bytes_const (P := Tryd.prog) w6 36 5 #[.int .u8 121, .int .u8 111] 2 2 Tryd.underlying36 Tryd.underlying5
  clear hy6 hf6 HX5 HY5 HBR5 HK5 HO5 HS5 hc5
  go_wp2_with fail
  clear hcb
  have HX7 := Lib.hid (HX6.out.go (lbel1 w6 (.cells #[.int .u8 121, .int .u8 111] 5 (2, 3))))
  have HY7 := Lib.hid (HY6.out.go (lbel1 w6 (.cells #[.int .u8 121, .int .u8 111] 5 (2, 3))))
  have HBR7 := Lib.hid (HBR6.out.alloc (.cells #[.int .u8 121, .int .u8 111] 5 (2, 3)))
  have HO7 : Hid (OwnB (w6.alloc (.cells #[.int .u8 121, .int .u8 111] 5 (2, 3))) w4.heap.size v5 hiB) := HO6.out.below (lbel1 w6 (.cells #[.int .u8 121, .int .u8 111] 5 (2, 3)))
  have HV7 : Hid (SlB (w6.alloc (.cells #[.int .u8 121, .int .u8 111] 5 (2, 3))) (.slice (some ⟨w6.heap.size, 0, none⟩) 2 2) yoB) := marked_sl w6 yoB (2, 3)
  clear HX6 HY6 HBR6 HO6
  generalize w6.alloc (.cells #[.int .u8 121, .int .u8 111] 5 (2, 3)) = w7 at HX7 HY7 HV7 HBR7 HO7 ⊢
  refine (send1_c _ yoB HY7.out HV7.out (HT.out.below HX7.out.below) (by decide)).mono ?_
  rintro e w8 (⟨h1, _⟩ | ⟨_, v8, gs8, rfl, h2, h3, h4, h5⟩)
  · exact absurd h1 (by decide)
  have hS8 : ∀ i, i = y.g ∨ i = y.a → S3 y.g y.a y.p i := fun i h => h.elim .inl (fun e => .inr (.inl e))
  have HX8 := Lib.hid (HX7.out.other HY7.out HA.out.symm h5 hS8)
  have HBR8 := Lib.hid (keep_blk HY7.out.at_ h5 hS8 HBR7.out (by decide))
  have HO8 : Hid (OwnB w8 w4.heap.size v5 hiB) := keep_row HY7.out.at_ h5 hS8 HO7.out (by decide)
  obtain ⟨g1, r1, c1, rfl, hc1, hs1, _, _, hk1, _⟩ := row_at h2 h3 (j := 0) (d := dgram sb1 yoB 0) rfl
  have hl1 : (dgram sb1 yoB 0).length = 17 := dgram_len _ _ _
  rw [hl1] at hs1 hc1
  have HS8 := Lib.hid hs1
  have hm1 : manyN yoB.length = 1 := rfl
  rw [hm1]
  have HDl8 : Hid (∀ z ∈ dgram sb1 yoB 0, z < 256) := dgram_lt (s := sb1) HY7.out.ok (by decide) (by decide) (by decide)
  clear h2 h3 h4 h5 hs1 hk1 HX7 HY7 HV7 hm1 HBR7 HO7 hS8
  go_wp2_with fail
  refine (recv1_c _ (dgram sb1 yoB 0) HX8.out HS8.out (HT.out.below HX8.out.below) (by rw [hl1]; omega) HDl8.out).mono ?_
  rw [aw3]
  rintro e w9 ⟨hx9, hf9, ⟨m, v9, h1, h2, rfl, ho9⟩ | ⟨h1, _⟩⟩
  case inr => cases h1
  obtain rfl : yoB = m := by injection h1
  have HBR9 := Lib.hid (keep_blk HX8.out.at_ hf9 (fun _ h => h) HBR8.out (by decide))
  have HO9 : Hid (OwnB w9 w4.heap.size v5 hiB) := keep_row HX8.out.at_ hf9 (fun _ h => h) HO8.out (by decide)
  have HP9 := Lib.hid ho9
  have HX9 := Lib.hid hx9
  clear hx9 hf9 h1 h2 ho9 HX8 HBR8 HO8 HS8 hc1
  go_wp2_with fail
  refine (acked_c HX9.out.at_ HX9.out.ok).mono ?_
  rw [aw4]
  rintro e w10 ⟨v10, rfl, h1, h2⟩
  have hb10 : Below w.heap.size w w10 := below_trans HX9.out.below h2
  have hc10 : w10.cell? ⟨r0, 0, none⟩ = some (.slice (some ⟨g0, 0, none⟩) 17 17) := by rw [(HBR9.out.below h2 HBR9.out.lt).cell]; exact HC0.out
  have hstr1 := (HO9.out.below h2).sl.conv
  have hstr2 := (HP9.out.below h2).sl.conv
  obtain ⟨g10, c10, rfl, _, _⟩ := h1.form (by decide)
  have ha10 := h1.cells (g := g10) rfl 0 (.int .i64 65535) rfl
  rw [addr0] at ha10
  have HB10 := Lib.hid hb10
  have e1 : strOf hiB = ⟨#[104, 105]⟩ := rfl
  have e2 : strOf yoB = ⟨#[121, 111]⟩ := rfl
  rw [e1] at hstr1
  rw [e2] at hstr2
  have en : (LS.new 65535).next = 65535 := rfl
  rw [en]
  have hl10 : ([65535] : List Nat).length = 1 := rfl
  rw [hl10]
  clear h1 h2 hb10 HX9 HBR9 HO9 HP9 e1 e2 en hl10
  go_wp2_with fail
  refine (newer_t _).mono ?_
  rintro e w11 ⟨rfl, rfl⟩
  go_wp2_with fail
  refine (newer_f _).mono ?_
  rintro e w12 ⟨rfl, rfl⟩
  go_wp2_with fail
  go_ret
  exact ⟨rfl, HB10.out⟩

end Go.Proofs.YtmlbhlfjaagcaaaDoor

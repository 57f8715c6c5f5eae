/- The walk of WireWrites: how numbers and texts are written, and summed. -/
import Derived.Test.YtmddhlpkanjffaaDoorAwake
import Derived.Test.YtmddhlpkanjffaaDoorUni
import Derived.Test.YtmddhlpkanjffaaDoorLent
import Derived.Deep.RegionHeld3
namespace Go.Proofs.YtmddhlpkanjffaaDoor
open Go.RowKit

/-- The five slices by their number. -/
def five {α : Type} (a b c d e : α) : Nat → α
  | 0 => a
  | 1 => b
  | 2 => c
  | 3 => d
  | _ => e

theorem five_all {P : Nat → Prop} (h0 : P 0) (h1 : P 1) (h2 : P 2) (h3 : P 3) (h4 : P 4) : ∀ j, j < 5 → P j := by
  intro j hj
  match j, hj with
  | 0, _ => exact h0
  | 1, _ => exact h1
  | 2, _ => exact h2
  | 3, _ => exact h3
  | 4, _ => exact h4

theorem FullB.lower {w : World} {base B : Nat} {v : Value} {bs fs : List Nat} {A : Option Addr} (h : FullB w base v bs A fs) (hb : B ≤ base) : FullB w B v bs A fs :=
  ⟨h.val, h.take, h.le, h.max, h.byte, h.void, fun a e => by obtain ⟨g, e1, e2, e3⟩ := h.row a e; exact ⟨g, e1, Nat.le_trans hb e2, e3⟩⟩

theorem FullB.between {w : World} {base : Nat} {v : Value} {bs fs : List Nat} {A : Option Addr} (h : FullB w base v bs A fs) : ∀ p, A = some p → base ≤ p.block ∧ p.block < w.heap.size := by
  intro p e
  obtain ⟨g, rfl, e2, e3⟩ := h.row p e
  exact ⟨e2, e3.lt⟩

theorem At.fr {S : Nat → Prop} {w w' : World} {A : Option Addr} {fs : List Nat} (h : At w A fs) (hf : Fr S w w') (hn : ∀ p, A = some p → ¬ S p.block) : At w' A fs :=
  ⟨h.1, fun a e => by obtain ⟨g, e1, e2⟩ := h.2 a e; exact ⟨g, e1, e2.fr hf (by have := hn a e; rw [e1] at this; exact this)⟩⟩

/-- A region's condition on the world may be strengthened on the way. -/
theorem wpAnyH_weaken {P : Program} {ops : Array Oper} {Q : Exit → Act → World → Prop} {md : Region.Mode} {S S' : World → Prop} (hS : ∀ w, S' w → S w) :
    ∀ (fuel : Nat) (listed : Array Bool) (a : Act) (w : World), wpAnyH P md ops Q S' fuel listed a w → wpAnyH P md ops Q S fuel listed a w
  | 0, _, _, _, h => h
  | fuel + 1, _, _, _, h => ⟨h.1, fun i hi => wpOp_mono (fun a' w' h' => ⟨hS w' h'.1, wpAnyH_weaken hS fuel _ a' w' h'.2⟩) (h.2 i hi)⟩

set_option maxHeartbeats 4000000 in
set_option maxRecDepth 100000 in
theorem writes_walk (v : Value) (bs : List Nat) (n : Int) (s : ByteArray) (w : World) (hv : SlB w v bs) (ht : Tab w) (hn : bs.length * 1 ≤ 140737488351232) (hby : ∀ x ∈ bs, x < 256) (hr : -9223372036854775808 ≤ n ∧ n < 9223372036854775808) :
    Calls Tryd.prog 3 #[v, .int .i64 n, .string s] w fun e w' => e = .returned (.bool true) ∧ Below w.heap.size w w' := by
  have HV := Lib.hid hv
  have HT := Lib.hid ht
  have HBy := Lib.hid hby
  have HR := Lib.hid hr
  obtain ⟨A, c, rfl, hc, hA, hrd⟩ := hv
  have HRd := Lib.hid hrd
  clear ht hby hr hrd
  have hn2 : bs.length ≤ 140737488355318 := by omega
  have hn3 : bs.length ≤ 140737488355328 := by omega
  clear hn
  go_enter Tryd.func3, Tryd.ntmps3
  go_wp2_with fail
  refine (awake_c w HT.out).mono ?_
  rintro e w1 ⟨rfl, hb1⟩
  have HB1 := Lib.hid hb1
  clear hb1
  go_wp2_with fail
  refine (lent_c A c bs w1 ((HRd.out.below HB1.out).more HB1.out.size) hn3).mono ?_
  rintro e w2 ⟨g, rfl, hg, hk2, hb2⟩
  have HG2 := Lib.hid hk2
  have HB2 := Lib.hid (below_trans HB1.out hb2)
  have HGb : Hid (w.heap.size ≤ g) := Nat.le_trans HB1.out.size hg
  have HGl : Hid (g < w2.heap.size) := hk2.lt
  have HS2 := Lib.hid (U8s_reads (c := bs.length + 3) hk2 rfl (by omega))
  clear hk2 hb2 hg HB1
  go_wp2_with fail
  refine (num_u n HS2.out hn2 HBy.out HR.out.1 HR.out.2).mono ?_
  rintro e w3 ⟨x, rfl, Ax, Fx, hx, hb3⟩
  obtain ⟨nx, hnx⟩ : ∃ k, k = (numB bs n).length := ⟨_, rfl⟩
  obtain ⟨Lx, hLx⟩ : ∃ k, k = Fx.length := ⟨_, rfl⟩
  obtain rfl : x = .slice Ax nx Lx := by rw [hnx, hLx]; exact hx.val
  clear hnx hLx
  have X3 := Lib.hid hx
  have C3 := Lib.hid hb3
  have HS3 := Lib.hid (HS2.out.below hb3)
  clear hx hb3
  go_wp2_with fail
  refine (int_u n HS3.out hn2 HBy.out HR.out.1 HR.out.2).mono ?_
  rintro e w4 ⟨y, rfl, Ay, Fy, hy, hb4⟩
  obtain ⟨ny, hny⟩ : ∃ k, k = (bs ++ vn (zz n)).length := ⟨_, rfl⟩
  obtain ⟨Ly, hLy⟩ : ∃ k, k = Fy.length := ⟨_, rfl⟩
  obtain rfl : y = .slice Ay ny Ly := by rw [hny, hLy]; exact hy.val
  clear hny hLy
  have Y4 := Lib.hid hy
  have C4 := Lib.hid hb4
  have HS4 := Lib.hid (HS3.out.below hb4)
  clear hy hb4
  go_wp2_with fail
  refine (text_u s HS4.out hn2 HBy.out).mono ?_
  rintro e w5 ⟨z, rfl, Az, Fz, hz, hb5⟩
  obtain ⟨nz, hnz⟩ : ∃ k, k = (textB bs s).length := ⟨_, rfl⟩
  obtain ⟨Lz, hLz⟩ : ∃ k, k = Fz.length := ⟨_, rfl⟩
  obtain rfl : z = .slice Az nz Lz := by rw [hnz, hLz]; exact hz.val
  clear hnz hLz
  have Z5 := Lib.hid hz
  have C5 := Lib.hid hb5
  have HS5 := Lib.hid (HS4.out.below hb5)
  have B5 := Lib.hid (below_trans (below_trans (below_trans HB2.out C3.out) C4.out) hb5)
  clear hz hb5
  go_wp2_with fail
  refine (frame_u HS5.out (HT.out.below B5.out) hn2 HBy.out).mono ?_
  rintro e w6 ⟨u, rfl, Au, Fu, hu, hb6⟩
  obtain ⟨nu, hnu⟩ : ∃ k, k = (frame bs).length := ⟨_, rfl⟩
  obtain ⟨Lu, hLu⟩ : ∃ k, k = Fu.length := ⟨_, rfl⟩
  obtain rfl : u = .slice Au nu Lu := by rw [hnu, hLu]; exact hu.val
  clear hnu hLu
  have U6 := Lib.hid hu
  have C6 := Lib.hid hb6
  have HS6 := Lib.hid (HS5.out.below hb6)
  have B6 := Lib.hid (below_trans B5.out hb6)
  clear hu hb6
  go_wp2_with fail
  refine (open_u HS6.out (HT.out.below B6.out) hn2 HBy.out).mono ?_
  rintro e w7 ⟨o, rfl, Ao, Fo, ho, hb7⟩
  obtain ⟨no, hno⟩ : ∃ k, k = (openB bs).length := ⟨_, rfl⟩
  obtain ⟨Lo, hLo⟩ : ∃ k, k = Fo.length := ⟨_, rfl⟩
  obtain rfl : o = .slice Ao no Lo := by rw [hno, hLo]; exact ho.val
  clear hno hLo
  have O7 := Lib.hid ho
  have C7 := Lib.hid hb7
  have HS7 := Lib.hid (HS6.out.below hb7)
  have B7 := Lib.hid (below_trans B6.out hb7)
  clear ho hb7
  go_wp2_with fail
  refine (sum_c _ bs w7 HS7.out (HT.out.below B7.out) (by omega) HBy.out).mono ?_
  rintro e w8 ⟨rfl, rfl⟩
  obtain ⟨q, hq⟩ : ∃ q, q = crc bs := ⟨_, rfl⟩
  rw [← hq]
  have HQ := Lib.hid hq
  clear hq
  go_wp2_with fail
  have hk8 : Blk (w8.alloc (.cells #[.slice Ax nx Lx, .slice Ay ny Ly, .slice Az nz Lz, .slice Au nu Lu, .slice Ao no Lo] 22)) w8.heap.size 22 #[.slice Ax nx Lx, .slice Ay ny Ly, .slice Az nz Lz, .slice Au nu Lu, .slice Ao no Lo] := Blk.new w8 22 _
  have hb8 : Below w8.heap.size w8 (w8.alloc (.cells #[.slice Ax nx Lx, .slice Ay ny Ly, .slice Az nz Lz, .slice Au nu Lu, .slice Ao no Lo] 22)) := (Below.refl _ _).alloc (Nat.le_refl _) _
  have hh8 : w8.heap.size < (w8.alloc (.cells #[.slice Ax nx Lx, .slice Ay ny Ly, .slice Az nz Lz, .slice Au nu Lu, .slice Ao no Lo] 22)).heap.size := hk8.lt
  generalize w8.alloc (.cells #[.slice Ax nx Lx, .slice Ay ny Ly, .slice Az nz Lz, .slice Au nu Lu, .slice Ao no Lo] 22) = w9 at hk8 hb8 hh8
  have hF : ∀ j, j < 5 → FullB w9 w2.heap.size (five (.slice Ax nx Lx) (.slice Ay ny Ly) (.slice Az nz Lz) (.slice Au nu Lu) (.slice Ao no Lo) j) (five (numB bs n) (bs ++ vn (zz n)) (textB bs s) (frame bs) (openB bs) j) (five Ax Ay Az Au Ao j) (five Fx Fy Fz Fu Fo j) := by
    have c34 := C4.out
    have s3 := C3.out.size
    have s4 := C4.out.size
    have s5 := C5.out.size
    have s6 := C6.out.size
    refine five_all ?_ ?_ ?_ ?_ ?_
    · exact (((((X3.out.below C4.out).below C5.out).below C6.out).below C7.out).below hb8)
    · exact ((((Y4.out.below C5.out).below C6.out).below C7.out).below hb8).lower s3
    · exact (((Z5.out.below C6.out).below C7.out).below hb8).lower (Nat.le_trans s3 s4)
    · exact ((U6.out.below C7.out).below hb8).lower (Nat.le_trans (Nat.le_trans s3 s4) s5)
    · exact (O7.out.below hb8).lower (Nat.le_trans (Nat.le_trans (Nat.le_trans s3 s4) s5) s6)
  have hG := apart5 (A := five Ax Ay Az Au Ao) (LO := fun j => if j = 0 then w2.heap.size else if j = 1 then w3.heap.size else if j = 2 then w4.heap.size else if j = 3 then w5.heap.size else if j = 4 then w6.heap.size else w8.heap.size)
    (five_all C3.out.size C4.out.size C5.out.size C6.out.size C7.out.size) (five_all X3.out.between Y4.out.between Z5.out.between U6.out.between O7.out.between)
  have HF := Lib.hid hF
  have HSz : Hid (w2.heap.size ≤ w9.heap.size) := Nat.le_trans (Nat.le_trans (Nat.le_trans (Nat.le_trans (Nat.le_trans C3.out.size C4.out.size) C5.out.size) C6.out.size) C7.out.size) hb8.size
  have B9 := Lib.hid (below_trans B7.out hb8)
  have HG9 := Lib.hid ((((((HG2.out.below C3.out HG2.out.lt).below C4.out (HG2.out.below C3.out HG2.out.lt).lt).fr (Fr.of_below (S := fun _ => False) C5.out) (fun h => h)).fr (Fr.of_below (S := fun _ => False) C6.out) (fun h => h)).fr (Fr.of_below (S := fun _ => False) C7.out) (fun h => h)).fr (Fr.of_below (S := fun _ => False) hb8) (fun h => h))
  clear hF hb8 X3 Y4 Z5 U6 O7 C3 C4 C5 C6 C7 B5 B6 B7 HS2 HS3 HS4 HS5 HS6 HS7 HB2 HG2
  refine (owned_c w8.heap.size w2.heap.size (five (.slice Ax nx Lx) (.slice Ay ny Ly) (.slice Az nz Lz) (.slice Au nu Lu) (.slice Ao no Lo)) (five (numB bs n) (bs ++ vn (zz n)) (textB bs s) (frame bs) (openB bs)) (five Ax Ay Az Au Ao) (five Fx Fy Fz Fu Fo) w9 hk8 HF.out hG).mono ?_
  rintro e w10 ⟨rfl, hat10, hf10⟩
  have hout : ∀ k, k < w2.heap.size → ¬ (∃ j, j < 5 ∧ ∃ a, five Ax Ay Az Au Ao j = some a ∧ k = a.block) := by
    rintro k hk ⟨j, hj, a, ha, rfl⟩
    have := ((HF.out j hj).between a ha).1
    omega
  have HG10 := Lib.hid (HG9.out.fr hf10 (hout g HGl.out))
  have B10 : Hid (Below w.heap.size w w10) := B9.out.trans (hf10.below B9.out.size (fun i hi => hout i (Nat.lt_of_lt_of_le (Nat.lt_of_lt_of_le hi HGb.out) (Nat.le_of_lt HGl.out))))
  have HAt := Lib.hid hat10
  clear hat10 hf10 hout HG9 B9 hk8 hG hh8
  go_wp2_with fail
  refine (kept_c g c w.heap.size A bs w10 HG10.out (HRd.out.below B10.out) HGb.out hn3).mono ?_
  rintro e w11 ⟨rfl, hf11⟩
  have B11 := Lib.hid (below_at B10.out hf11 HGb.out B10.out.size)
  have HS11 : Hid (∀ j, j < 5 → SlB w11 (five (.slice Ax nx Lx) (.slice Ay ny Ly) (.slice Az nz Lz) (.slice Au nu Lu) (.slice Ao no Lo) j) (five (numB bs n) (bs ++ vn (zz n)) (textB bs s) (frame bs) (openB bs) j)) := fun j hj =>
    ((HF.out j hj).on ((HAt.out j hj).fr hf11 (fun p hp => by have := ((HF.out j hj).between p hp).1; have := HGl.out; show ¬ p.block = g; omega))).sl
  have X11 := Lib.hid (HS11.out 0 (by omega))
  have Y11 := Lib.hid (HS11.out 1 (by omega))
  have Z11 := Lib.hid (HS11.out 2 (by omega))
  have U11 := Lib.hid (HS11.out 3 (by omega))
  have O11 := Lib.hid (HS11.out 4 (by omega))
  have V11 := Lib.hid (HV.out.below B11.out)
  clear hf11 HS11 HAt HF HG10 B10
  go_wp2_with fail
  refine (rnum_u n V11.out hn2 HR.out.1 HR.out.2).mono ?_
  rintro e w12 ⟨xr, rfl, sx, b12⟩
  have XR := Lib.hid sx
  have C12 := Lib.hid b12
  clear sx b12
  go_wp2_with fail
  refine (rtext_u s (V11.out.below C12.out) hn2).mono ?_
  rintro e w13 ⟨zr, rfl, sz, b13⟩
  have ZR := Lib.hid sz
  have C13 := Lib.hid b13
  have D13 := Lib.hid (below_trans C12.out b13)
  clear sz b13
  go_wp2_with fail
  refine (ropen_u (V11.out.below D13.out) hn2 HBy.out).mono ?_
  rintro e w14 ⟨or_, rfl, so, b14⟩
  have OR := Lib.hid so
  have D14 := Lib.hid (below_trans D13.out b14)
  have E14 := Lib.hid (below_trans C13.out b14)
  have F14 := Lib.hid b14
  clear so b14
  have B14 := Lib.hid (below_trans B11.out D14.out)
  have V14 := Lib.hid (V11.out.below D14.out)
  have HQe : Hid ((q : Int) = ((crc bs : Nat) : Int)) := by show _ = _; rw [HQ.out]
  obtain ⟨sx, hsx⟩ : ∃ t, t = strOf (numB bs n) := ⟨_, rfl⟩
  obtain ⟨sy, hsy⟩ : ∃ t, t = strOf (bs ++ vn (zz n)) := ⟨_, rfl⟩
  obtain ⟨sz, hsz⟩ : ∃ t, t = strOf (textB bs s) := ⟨_, rfl⟩
  obtain ⟨su, hsu⟩ : ∃ t, t = strOf (frame bs) := ⟨_, rfl⟩
  obtain ⟨so, hso⟩ : ∃ t, t = strOf (openB bs) := ⟨_, rfl⟩
  have KEEP : Hid (∀ w', Below w14.heap.size w14 w' → Below w14.heap.size w14 w' ∧ Sem.run Tryd.prog (convert 22 9 (.slice Ax nx Lx)) w' = .ok (.string sx) w' ∧ Sem.run Tryd.prog (convert 22 9 xr) w' = .ok (.string sx) w' ∧ Sem.run Tryd.prog (convert 22 9 (.slice Ay ny Ly)) w' = .ok (.string sy) w' ∧ Sem.run Tryd.prog (convert 22 9 (.slice Az nz Lz)) w' = .ok (.string sz) w' ∧ Sem.run Tryd.prog (convert 22 9 zr) w' = .ok (.string sz) w' ∧ Sem.run Tryd.prog (convert 22 9 (.slice Au nu Lu)) w' = .ok (.string su) w' ∧ Sem.run Tryd.prog (convert 22 9 (.slice Ao no Lo)) w' = .ok (.string so) w' ∧ Sem.run Tryd.prog (convert 22 9 or_) w' = .ok (.string so) w') := by
    intro w' hb
    rw [hsx, hsy, hsz, hsu, hso]
    exact ⟨hb, ((X11.out.below D14.out).below hb).conv, ((XR.out.below E14.out).below hb).conv, ((Y11.out.below D14.out).below hb).conv, ((Z11.out.below D14.out).below hb).conv, ((ZR.out.below F14.out).below hb).conv, ((U11.out.below D14.out).below hb).conv, ((O11.out.below D14.out).below hb).conv, ((OR.out).below hb).conv⟩
  have HSY := Lib.hid hsy
  have HSU := Lib.hid hsu
  clear hsx hsy hsz hsu hso X11 Y11 Z11 U11 O11 XR ZR OR C12 C13 D13 D14 E14 F14 V11 B11 HQ HV HT
  go_wp2_with fail
  simp only [List.append_eq, List.cons_append, List.nil_append]
  refine wp_region_held_drew (S := fun w' => Below w14.heap.size w14 w' ∧ Sem.run Tryd.prog (convert 22 9 (.slice Ax nx Lx)) w' = .ok (.string sx) w' ∧ Sem.run Tryd.prog (convert 22 9 xr) w' = .ok (.string sx) w' ∧ Sem.run Tryd.prog (convert 22 9 (.slice Ay ny Ly)) w' = .ok (.string sy) w' ∧ Sem.run Tryd.prog (convert 22 9 (.slice Az nz Lz)) w' = .ok (.string sz) w' ∧ Sem.run Tryd.prog (convert 22 9 zr) w' = .ok (.string sz) w' ∧ Sem.run Tryd.prog (convert 22 9 (.slice Au nu Lu)) w' = .ok (.string su) w' ∧ Sem.run Tryd.prog (convert 22 9 (.slice Ao no Lo)) w' = .ok (.string so) w' ∧ Sem.run Tryd.prog (convert 22 9 or_) w' = .ok (.string so) w') (by kernel_rfl) (KEEP.out _ ((Below.refl _ _).drew)) (fun hH0 => ?_)
  refine wpAnyH_take (i := 0) (oi := { dst := some 80, op := Op.move (Operand.tmp 7), type := 4, pos := "law.go:38", after := #[], guard := none }) (v := ?v0) rfl (by kernel_rfl) (by kernel_rfl) (by kernel_rfl) (fun _ _ _ h => h) (Or.inl ⟨by rfl, ?h0⟩) hH0 ?r0
  case h0 => intro w' hSw; (try dsimp only at hSw); go_simp; (try with_reducible rfl)
  simp only [Act.put, List.setIfInBounds_toArray, List.set_cons_zero, List.set_cons_succ]
  refine wpAnyH_take (i := 1) (oi := { dst := some 81, op := Op.move (Operand.tmp 80), type := 4, pos := "law.go:38", after := #[{ on := 0, ground := Ground.data }], guard := none }) (v := ?v1) rfl (by kernel_rfl) (by kernel_rfl) (by kernel_rfl) (fun _ _ _ h => h) (Or.inl ⟨by rfl, ?h1⟩) hH0 ?r1
  case h1 => intro w' hSw; (try dsimp only at hSw); go_simp; (try with_reducible rfl)
  simp only [Act.put, List.setIfInBounds_toArray, List.set_cons_zero, List.set_cons_succ]
  refine wpAnyH_take (i := 2) (oi := { dst := some 82, op := Op.move (Operand.tmp 18), type := 4, pos := "law.go:38", after := #[{ on := 1, ground := Ground.guard }], guard := some (1, true) }) (v := ?v2) rfl (by kernel_rfl) (by kernel_rfl) (by kernel_rfl) (fun _ _ _ h => h) (Or.inl ⟨by rfl, ?h2⟩) hH0 ?r2
  case h2 => intro w' hSw; (try dsimp only at hSw); go_simp; (try with_reducible rfl)
  simp only [Act.put, List.setIfInBounds_toArray, List.set_cons_zero, List.set_cons_succ]
  refine wpAnyH_take (i := 3) (oi := { dst := some 83, op := Op.pick (Operand.tmp 81) (Operand.tmp 82) (Operand.const (Value.bool false)), type := 4, pos := "law.go:38", after := #[{ on := 1, ground := Ground.data }, { on := 2, ground := Ground.data }], guard := none }) (v := ?v3) rfl (by kernel_rfl) (by kernel_rfl) (by kernel_rfl) (fun _ _ _ h => h) (Or.inl ⟨by rfl, ?h3⟩) hH0 ?r3
  case h3 => intro w' hSw; (try dsimp only at hSw); go_simp; (try with_reducible rfl)
  simp only [Act.put, List.setIfInBounds_toArray, List.set_cons_zero, List.set_cons_succ]
  refine wpAnyH_take (i := 4) (oi := { dst := some 84, op := Op.move (Operand.tmp 83), type := 4, pos := "law.go:38", after := #[{ on := 3, ground := Ground.data }, { on := 1, ground := Ground.chain }], guard := none }) (v := ?v4) rfl (by kernel_rfl) (by kernel_rfl) (by kernel_rfl) (fun _ _ _ h => h) (Or.inl ⟨by rfl, ?h4⟩) hH0 ?r4
  case h4 => intro w' hSw; (try dsimp only at hSw); go_simp; (try with_reducible rfl)
  simp only [Act.put, List.setIfInBounds_toArray, List.set_cons_zero, List.set_cons_succ]
  refine wpAnyH_take (i := 5) (oi := { dst := some 85, op := Op.move (Operand.tmp 19), type := 4, pos := "law.go:38", after := #[{ on := 4, ground := Ground.guard }], guard := some (4, true) }) (v := ?v5) rfl (by kernel_rfl) (by kernel_rfl) (by kernel_rfl) (fun _ _ _ h => h) (Or.inl ⟨by rfl, ?h5⟩) hH0 ?r5
  case h5 => intro w' hSw; (try dsimp only at hSw); go_simp; (try with_reducible rfl)
  simp only [Act.put, List.setIfInBounds_toArray, List.set_cons_zero, List.set_cons_succ]
  refine wpAnyH_take (i := 6) (oi := { dst := some 86, op := Op.pick (Operand.tmp 84) (Operand.tmp 85) (Operand.const (Value.bool false)), type := 4, pos := "law.go:38", after := #[{ on := 4, ground := Ground.data }, { on := 5, ground := Ground.data }], guard := none }) (v := ?v6) rfl (by kernel_rfl) (by kernel_rfl) (by kernel_rfl) (fun _ _ _ h => h) (Or.inl ⟨by rfl, ?h6⟩) hH0 ?r6
  case h6 => intro w' hSw; (try dsimp only at hSw); go_simp; (try with_reducible rfl)
  simp only [Act.put, List.setIfInBounds_toArray, List.set_cons_zero, List.set_cons_succ]
  refine wpAnyH_take (i := 7) (oi := { dst := some 87, op := Op.move (Operand.tmp 86), type := 4, pos := "law.go:38", after := #[{ on := 6, ground := Ground.data }, { on := 4, ground := Ground.chain }], guard := none }) (v := ?v7) rfl (by kernel_rfl) (by kernel_rfl) (by kernel_rfl) (fun _ _ _ h => h) (Or.inl ⟨by rfl, ?h7⟩) hH0 ?r7
  case h7 => intro w' hSw; (try dsimp only at hSw); go_simp; (try with_reducible rfl)
  simp only [Act.put, List.setIfInBounds_toArray, List.set_cons_zero, List.set_cons_succ]
  refine wpAnyH_take (i := 8) (oi := { dst := some 88, op := Op.move (Operand.tmp 9), type := 22, pos := "law.go:38", after := #[{ on := 7, ground := Ground.guard }], guard := some (7, true) }) (v := ?v8) rfl (by kernel_rfl) (by kernel_rfl) (by kernel_rfl) (fun _ _ _ h => h) (Or.inl ⟨by rfl, ?h8⟩) hH0 ?r8
  case h8 => intro w' hSw; (try dsimp only at hSw); go_simp; (try with_reducible rfl)
  simp only [Act.put, List.setIfInBounds_toArray, List.set_cons_zero, List.set_cons_succ]
  refine wpAnyH_take (i := 9) (oi := { dst := some 89, op := Op.convert 22 9 (Operand.tmp 88), type := 9, pos := "law.go:38", after := #[{ on := 8, ground := Ground.data }, { on := 7, ground := Ground.guard }], guard := some (7, true) }) (v := ?v9) rfl (by kernel_rfl) (by kernel_rfl) (by kernel_rfl) (fun _ _ _ h => h) (Or.inl ⟨by rfl, ?h9⟩) hH0 ?r9
  case h9 => intro w' hSw; (try dsimp only at hSw); go_simp; (try with_reducible rfl)
  simp only [Act.put, List.setIfInBounds_toArray, List.set_cons_zero, List.set_cons_succ]
  refine wpAnyH_take (i := 10) (oi := { dst := some 90, op := Op.move (Operand.tmp 20), type := 22, pos := "law.go:38", after := #[{ on := 7, ground := Ground.guard }], guard := some (7, true) }) (v := ?v10) rfl (by kernel_rfl) (by kernel_rfl) (by kernel_rfl) (fun _ _ _ h => h) (Or.inl ⟨by rfl, ?h10⟩) hH0 ?r10
  case h10 => intro w' hSw; (try dsimp only at hSw); go_simp; (try with_reducible rfl)
  simp only [Act.put, List.setIfInBounds_toArray, List.set_cons_zero, List.set_cons_succ]
  refine wpAnyH_take (i := 11) (oi := { dst := some 91, op := Op.convert 22 9 (Operand.tmp 90), type := 9, pos := "law.go:38", after := #[{ on := 10, ground := Ground.data }, { on := 7, ground := Ground.guard }], guard := some (7, true) }) (v := ?v11) rfl (by kernel_rfl) (by kernel_rfl) (by kernel_rfl) (fun _ _ _ h => h) (Or.inl ⟨by rfl, ?h11⟩) hH0 ?r11
  case h11 => intro w' hSw; (try dsimp only at hSw); go_simp; (try with_reducible rfl)
  simp only [Act.put, List.setIfInBounds_toArray, List.set_cons_zero, List.set_cons_succ]
  refine wpAnyH_take (i := 12) (oi := { dst := some 92, op := Op.binOp BinOp.eql 9 (Operand.tmp 89) (Operand.tmp 91) 9, type := 4, pos := "law.go:38", after := #[{ on := 9, ground := Ground.data }, { on := 11, ground := Ground.data }, { on := 7, ground := Ground.guard }], guard := some (7, true) }) (v := ?v12) rfl (by kernel_rfl) (by kernel_rfl) (by kernel_rfl) (fun _ _ _ h => h) (Or.inl ⟨by rfl, ?h12⟩) hH0 ?r12
  case h12 => intro w' hSw; (try dsimp only at hSw); go_simp; (try with_reducible rfl)
  simp only [Act.put, List.setIfInBounds_toArray, List.set_cons_zero, List.set_cons_succ]
  refine wpAnyH_take (i := 13) (oi := { dst := some 93, op := Op.pick (Operand.tmp 87) (Operand.tmp 92) (Operand.const (Value.bool false)), type := 4, pos := "law.go:38", after := #[{ on := 7, ground := Ground.data }, { on := 12, ground := Ground.data }], guard := none }) (v := ?v13) rfl (by kernel_rfl) (by kernel_rfl) (by kernel_rfl) (fun _ _ _ h => h) (Or.inl ⟨by rfl, ?h13⟩) hH0 ?r13
  case h13 => intro w' hSw; (try dsimp only at hSw); go_simp; (try with_reducible rfl)
  simp only [Act.put, List.setIfInBounds_toArray, List.set_cons_zero, List.set_cons_succ]
  refine wpAnyH_take (i := 14) (oi := { dst := some 94, op := Op.move (Operand.tmp 93), type := 4, pos := "law.go:38", after := #[{ on := 13, ground := Ground.data }, { on := 7, ground := Ground.chain }], guard := none }) (v := ?v14) rfl (by kernel_rfl) (by kernel_rfl) (by kernel_rfl) (fun _ _ _ h => h) (Or.inl ⟨by rfl, ?h14⟩) hH0 ?r14
  case h14 => intro w' hSw; (try dsimp only at hSw); go_simp; (try with_reducible rfl)
  simp only [Act.put, List.setIfInBounds_toArray, List.set_cons_zero, List.set_cons_succ]
  refine wpAnyH_take (i := 15) (oi := { dst := some 95, op := Op.move (Operand.tmp 10), type := 25, pos := "law.go:38", after := #[{ on := 14, ground := Ground.guard }], guard := some (14, true) }) (v := ?v15) rfl (by kernel_rfl) (by kernel_rfl) (by kernel_rfl) (fun _ _ _ h => h) (Or.inl ⟨by rfl, ?h15⟩) hH0 ?r15
  case h15 => intro w' hSw; (try dsimp only at hSw); go_simp; (try with_reducible rfl)
  simp only [Act.put, List.setIfInBounds_toArray, List.set_cons_zero, List.set_cons_succ]
  refine wpAnyH_take (i := 16) (oi := { dst := some 96, op := Op.move (Operand.tmp 21), type := 25, pos := "law.go:38", after := #[{ on := 14, ground := Ground.guard }], guard := some (14, true) }) (v := ?v16) rfl (by kernel_rfl) (by kernel_rfl) (by kernel_rfl) (fun _ _ _ h => h) (Or.inl ⟨by rfl, ?h16⟩) hH0 ?r16
  case h16 => intro w' hSw; (try dsimp only at hSw); go_simp; (try with_reducible rfl)
  simp only [Act.put, List.setIfInBounds_toArray, List.set_cons_zero, List.set_cons_succ]
  refine wpAnyH_take (i := 17) (oi := { dst := some 97, op := Op.binOp BinOp.eql 25 (Operand.tmp 95) (Operand.tmp 96) 25, type := 4, pos := "law.go:38", after := #[{ on := 15, ground := Ground.data }, { on := 16, ground := Ground.data }, { on := 14, ground := Ground.guard }], guard := some (14, true) }) (v := ?v17) rfl (by kernel_rfl) (by kernel_rfl) (by kernel_rfl) (fun _ _ _ h => h) (Or.inl ⟨by rfl, ?h17⟩) hH0 ?r17
  case h17 => intro w' hSw; (try dsimp only at hSw); go_simp; (try with_reducible rfl)
  simp only [Act.put, List.setIfInBounds_toArray, List.set_cons_zero, List.set_cons_succ]
  refine wpAnyH_take (i := 18) (oi := { dst := some 98, op := Op.pick (Operand.tmp 94) (Operand.tmp 97) (Operand.const (Value.bool false)), type := 4, pos := "law.go:38", after := #[{ on := 14, ground := Ground.data }, { on := 17, ground := Ground.data }], guard := none }) (v := ?v18) rfl (by kernel_rfl) (by kernel_rfl) (by kernel_rfl) (fun _ _ _ h => h) (Or.inl ⟨by rfl, ?h18⟩) hH0 ?r18
  case h18 => intro w' hSw; (try dsimp only at hSw); go_simp; (try with_reducible rfl)
  simp only [Act.put, List.setIfInBounds_toArray, List.set_cons_zero, List.set_cons_succ]
  refine wpAnyH_take (i := 19) (oi := { dst := some 99, op := Op.move (Operand.tmp 98), type := 4, pos := "law.go:38", after := #[{ on := 18, ground := Ground.data }, { on := 14, ground := Ground.chain }], guard := none }) (v := ?v19) rfl (by kernel_rfl) (by kernel_rfl) (by kernel_rfl) (fun _ _ _ h => h) (Or.inl ⟨by rfl, ?h19⟩) hH0 ?r19
  case h19 => intro w' hSw; (try dsimp only at hSw); go_simp; (try with_reducible rfl)
  simp only [Act.put, List.setIfInBounds_toArray, List.set_cons_zero, List.set_cons_succ]
  refine wpAnyH_take (i := 20) (oi := { dst := some 100, op := Op.move (Operand.tmp 11), type := 22, pos := "law.go:38", after := #[{ on := 19, ground := Ground.guard }], guard := some (19, true) }) (v := ?v20) rfl (by kernel_rfl) (by kernel_rfl) (by kernel_rfl) (fun _ _ _ h => h) (Or.inl ⟨by rfl, ?h20⟩) hH0 ?r20
  case h20 => intro w' hSw; (try dsimp only at hSw); go_simp; (try with_reducible rfl)
  simp only [Act.put, List.setIfInBounds_toArray, List.set_cons_zero, List.set_cons_succ]
  refine wpAnyH_take (i := 21) (oi := { dst := some 101, op := Op.convert 22 9 (Operand.tmp 100), type := 9, pos := "law.go:38", after := #[{ on := 20, ground := Ground.data }, { on := 19, ground := Ground.guard }], guard := some (19, true) }) (v := ?v21) rfl (by kernel_rfl) (by kernel_rfl) (by kernel_rfl) (fun _ _ _ h => h) (Or.inl ⟨by rfl, ?h21⟩) hH0 ?r21
  case h21 => intro w' hSw; (try dsimp only at hSw); go_simp; (try with_reducible rfl)
  simp only [Act.put, List.setIfInBounds_toArray, List.set_cons_zero, List.set_cons_succ]
  refine wpAnyH_take (i := 22) (oi := { dst := some 102, op := Op.move (Operand.tmp 0), type := 22, pos := "law.go:38", after := #[{ on := 19, ground := Ground.guard }], guard := some (19, true) }) (v := ?v22) rfl (by kernel_rfl) (by kernel_rfl) (by kernel_rfl) (fun _ _ _ h => h) (Or.inl ⟨by rfl, ?h22⟩) hH0 ?r22
  case h22 => intro w' hSw; (try dsimp only at hSw); go_simp; (try with_reducible rfl)
  simp only [Act.put, List.setIfInBounds_toArray, List.set_cons_zero, List.set_cons_succ]
  refine wpAnyH_take (i := 23) (oi := { dst := some 103, op := Op.move (Operand.tmp 1), type := 3, pos := "law.go:38", after := #[{ on := 19, ground := Ground.guard }], guard := some (19, true) }) (v := ?v23) rfl (by kernel_rfl) (by kernel_rfl) (by kernel_rfl) (fun _ _ _ h => h) (Or.inl ⟨by rfl, ?h23⟩) hH0 ?r23
  case h23 => intro w' hSw; (try dsimp only at hSw); go_simp; (try with_reducible rfl)
  simp only [Act.put, List.setIfInBounds_toArray, List.set_cons_zero, List.set_cons_succ]
  refine wpAnyH_ready (rs := [24]) (by kernel_rfl) (by simp) ?_
  refine AllReadyH.cons (o := { dst := some 104, op := Op.call { callee := Callee.value (Operand.func 23), args := #[Operand.tmp 102, Operand.tmp 103], argTypes := #[22, 3] }, type := 22, pos := "law.go:38", after := #[{ on := 22, ground := Ground.data }, { on := 23, ground := Ground.data }, { on := 19, ground := Ground.chain }, { on := 19, ground := Ground.guard }], guard := some (19, true) }) rfl (fun K hK => ?_) AllReadyH.nil
  go_simp
  refine (rint_c _ bs n _ (V14.out.below hH0.1) hn2 HR.out.1 HR.out.2).mono ?_
  rintro e w15 ⟨v15, rfl, ho15, hb15⟩
  have hB15 := below_trans hH0.1 hb15
  have HO15 := Lib.hid ho15
  have hcv15 : ∀ wz, Below w15.heap.size w15 wz → Sem.run Tryd.prog (convert 22 9 v15) wz = .ok (.string sy) wz := fun wz hz => by rw [HSY.out]; exact (ho15.sl.below hz).conv
  have HCV15 := Lib.hid hcv15
  clear ho15 hb15 hcv15
  go_wp2_with fail
  refine hK.out _ _ ?_ (fun hH1 => ?_)
  · exact KEEP.out _ hB15
  clear hK K
  refine wpAnyH_weaken (S' := fun w' => (Below w14.heap.size w14 w' ∧ Sem.run Tryd.prog (convert 22 9 (.slice Ax nx Lx)) w' = .ok (.string sx) w' ∧ Sem.run Tryd.prog (convert 22 9 xr) w' = .ok (.string sx) w' ∧ Sem.run Tryd.prog (convert 22 9 (.slice Ay ny Ly)) w' = .ok (.string sy) w' ∧ Sem.run Tryd.prog (convert 22 9 (.slice Az nz Lz)) w' = .ok (.string sz) w' ∧ Sem.run Tryd.prog (convert 22 9 zr) w' = .ok (.string sz) w' ∧ Sem.run Tryd.prog (convert 22 9 (.slice Au nu Lu)) w' = .ok (.string su) w' ∧ Sem.run Tryd.prog (convert 22 9 (.slice Ao no Lo)) w' = .ok (.string so) w' ∧ Sem.run Tryd.prog (convert 22 9 or_) w' = .ok (.string so) w') ∧ Sem.run Tryd.prog (convert 22 9 v15) w' = .ok (.string sy) w') (fun w' h => h.1) _ _ _ _ ?_
  have hH2 : (Below w14.heap.size w14 w15 ∧ Sem.run Tryd.prog (convert 22 9 (.slice Ax nx Lx)) w15 = .ok (.string sx) w15 ∧ Sem.run Tryd.prog (convert 22 9 xr) w15 = .ok (.string sx) w15 ∧ Sem.run Tryd.prog (convert 22 9 (.slice Ay ny Ly)) w15 = .ok (.string sy) w15 ∧ Sem.run Tryd.prog (convert 22 9 (.slice Az nz Lz)) w15 = .ok (.string sz) w15 ∧ Sem.run Tryd.prog (convert 22 9 zr) w15 = .ok (.string sz) w15 ∧ Sem.run Tryd.prog (convert 22 9 (.slice Au nu Lu)) w15 = .ok (.string su) w15 ∧ Sem.run Tryd.prog (convert 22 9 (.slice Ao no Lo)) w15 = .ok (.string so) w15 ∧ Sem.run Tryd.prog (convert 22 9 or_) w15 = .ok (.string so) w15) ∧ Sem.run Tryd.prog (convert 22 9 v15) w15 = .ok (.string sy) w15 := ⟨hH1, HCV15.out w15 (Below.refl _ _)⟩
  clear hH0 hH1
  refine wpAnyH_take (i := 25) (oi := { dst := some 105, op := Op.convert 22 9 (Operand.tmp 104), type := 9, pos := "law.go:38", after := #[{ on := 24, ground := Ground.data }, { on := 19, ground := Ground.guard }], guard := some (19, true) }) (v := ?v25) rfl (by kernel_rfl) (by kernel_rfl) (by kernel_rfl) (fun _ _ _ h => h) (Or.inl ⟨by rfl, ?h25⟩) hH2 ?r25
  case h25 => intro w' hSw; (try dsimp only at hSw); go_simp; (try with_reducible rfl)
  simp only [Act.put, List.setIfInBounds_toArray, List.set_cons_zero, List.set_cons_succ]
  refine wpAnyH_take (i := 26) (oi := { dst := some 106, op := Op.binOp BinOp.eql 9 (Operand.tmp 101) (Operand.tmp 105) 9, type := 4, pos := "law.go:38", after := #[{ on := 21, ground := Ground.data }, { on := 25, ground := Ground.data }, { on := 19, ground := Ground.guard }], guard := some (19, true) }) (v := ?v26) rfl (by kernel_rfl) (by kernel_rfl) (by kernel_rfl) (fun _ _ _ h => h) (Or.inl ⟨by rfl, ?h26⟩) hH2 ?r26
  case h26 => intro w' hSw; (try dsimp only at hSw); go_simp; (try with_reducible rfl)
  simp only [Act.put, List.setIfInBounds_toArray, List.set_cons_zero, List.set_cons_succ]
  refine wpAnyH_take (i := 27) (oi := { dst := some 107, op := Op.pick (Operand.tmp 99) (Operand.tmp 106) (Operand.const (Value.bool false)), type := 4, pos := "law.go:38", after := #[{ on := 19, ground := Ground.data }, { on := 26, ground := Ground.data }], guard := none }) (v := ?v27) rfl (by kernel_rfl) (by kernel_rfl) (by kernel_rfl) (fun _ _ _ h => h) (Or.inl ⟨by rfl, ?h27⟩) hH2 ?r27
  case h27 => intro w' hSw; (try dsimp only at hSw); go_simp; (try with_reducible rfl)
  simp only [Act.put, List.setIfInBounds_toArray, List.set_cons_zero, List.set_cons_succ]
  refine wpAnyH_take (i := 28) (oi := { dst := some 108, op := Op.move (Operand.tmp 107), type := 4, pos := "law.go:38", after := #[{ on := 27, ground := Ground.data }, { on := 24, ground := Ground.chain }], guard := none }) (v := ?v28) rfl (by kernel_rfl) (by kernel_rfl) (by kernel_rfl) (fun _ _ _ h => h) (Or.inl ⟨by rfl, ?h28⟩) hH2 ?r28
  case h28 => intro w' hSw; (try dsimp only at hSw); go_simp; (try with_reducible rfl)
  simp only [Act.put, List.setIfInBounds_toArray, List.set_cons_zero, List.set_cons_succ]
  refine wpAnyH_take (i := 29) (oi := { dst := some 109, op := Op.move (Operand.tmp 12), type := 22, pos := "law.go:38", after := #[{ on := 28, ground := Ground.guard }], guard := some (28, true) }) (v := ?v29) rfl (by kernel_rfl) (by kernel_rfl) (by kernel_rfl) (fun _ _ _ h => h) (Or.inl ⟨by rfl, ?h29⟩) hH2 ?r29
  case h29 => intro w' hSw; (try dsimp only at hSw); go_simp; (try with_reducible rfl)
  simp only [Act.put, List.setIfInBounds_toArray, List.set_cons_zero, List.set_cons_succ]
  refine wpAnyH_take (i := 30) (oi := { dst := some 110, op := Op.convert 22 9 (Operand.tmp 109), type := 9, pos := "law.go:38", after := #[{ on := 29, ground := Ground.data }, { on := 28, ground := Ground.guard }], guard := some (28, true) }) (v := ?v30) rfl (by kernel_rfl) (by kernel_rfl) (by kernel_rfl) (fun _ _ _ h => h) (Or.inl ⟨by rfl, ?h30⟩) hH2 ?r30
  case h30 => intro w' hSw; (try dsimp only at hSw); go_simp; (try with_reducible rfl)
  simp only [Act.put, List.setIfInBounds_toArray, List.set_cons_zero, List.set_cons_succ]
  refine wpAnyH_take (i := 31) (oi := { dst := some 111, op := Op.move (Operand.tmp 22), type := 22, pos := "law.go:38", after := #[{ on := 28, ground := Ground.guard }], guard := some (28, true) }) (v := ?v31) rfl (by kernel_rfl) (by kernel_rfl) (by kernel_rfl) (fun _ _ _ h => h) (Or.inl ⟨by rfl, ?h31⟩) hH2 ?r31
  case h31 => intro w' hSw; (try dsimp only at hSw); go_simp; (try with_reducible rfl)
  simp only [Act.put, List.setIfInBounds_toArray, List.set_cons_zero, List.set_cons_succ]
  refine wpAnyH_take (i := 32) (oi := { dst := some 112, op := Op.convert 22 9 (Operand.tmp 111), type := 9, pos := "law.go:38", after := #[{ on := 31, ground := Ground.data }, { on := 28, ground := Ground.guard }], guard := some (28, true) }) (v := ?v32) rfl (by kernel_rfl) (by kernel_rfl) (by kernel_rfl) (fun _ _ _ h => h) (Or.inl ⟨by rfl, ?h32⟩) hH2 ?r32
  case h32 => intro w' hSw; (try dsimp only at hSw); go_simp; (try with_reducible rfl)
  simp only [Act.put, List.setIfInBounds_toArray, List.set_cons_zero, List.set_cons_succ]
  refine wpAnyH_take (i := 33) (oi := { dst := some 113, op := Op.binOp BinOp.eql 9 (Operand.tmp 110) (Operand.tmp 112) 9, type := 4, pos := "law.go:38", after := #[{ on := 30, ground := Ground.data }, { on := 32, ground := Ground.data }, { on := 28, ground := Ground.guard }], guard := some (28, true) }) (v := ?v33) rfl (by kernel_rfl) (by kernel_rfl) (by kernel_rfl) (fun _ _ _ h => h) (Or.inl ⟨by rfl, ?h33⟩) hH2 ?r33
  case h33 => intro w' hSw; (try dsimp only at hSw); go_simp; (try with_reducible rfl)
  simp only [Act.put, List.setIfInBounds_toArray, List.set_cons_zero, List.set_cons_succ]
  refine wpAnyH_take (i := 34) (oi := { dst := some 114, op := Op.pick (Operand.tmp 108) (Operand.tmp 113) (Operand.const (Value.bool false)), type := 4, pos := "law.go:38", after := #[{ on := 28, ground := Ground.data }, { on := 33, ground := Ground.data }], guard := none }) (v := ?v34) rfl (by kernel_rfl) (by kernel_rfl) (by kernel_rfl) (fun _ _ _ h => h) (Or.inl ⟨by rfl, ?h34⟩) hH2 ?r34
  case h34 => intro w' hSw; (try dsimp only at hSw); go_simp; (try with_reducible rfl)
  simp only [Act.put, List.setIfInBounds_toArray, List.set_cons_zero, List.set_cons_succ]
  refine wpAnyH_take (i := 35) (oi := { dst := some 115, op := Op.move (Operand.tmp 114), type := 4, pos := "law.go:38", after := #[{ on := 34, ground := Ground.data }, { on := 28, ground := Ground.chain }], guard := none }) (v := ?v35) rfl (by kernel_rfl) (by kernel_rfl) (by kernel_rfl) (fun _ _ _ h => h) (Or.inl ⟨by rfl, ?h35⟩) hH2 ?r35
  case h35 => intro w' hSw; (try dsimp only at hSw); go_simp; (try with_reducible rfl)
  simp only [Act.put, List.setIfInBounds_toArray, List.set_cons_zero, List.set_cons_succ]
  refine wpAnyH_take (i := 36) (oi := { dst := some 116, op := Op.move (Operand.tmp 13), type := 25, pos := "law.go:38", after := #[{ on := 35, ground := Ground.guard }], guard := some (35, true) }) (v := ?v36) rfl (by kernel_rfl) (by kernel_rfl) (by kernel_rfl) (fun _ _ _ h => h) (Or.inl ⟨by rfl, ?h36⟩) hH2 ?r36
  case h36 => intro w' hSw; (try dsimp only at hSw); go_simp; (try with_reducible rfl)
  simp only [Act.put, List.setIfInBounds_toArray, List.set_cons_zero, List.set_cons_succ]
  refine wpAnyH_take (i := 37) (oi := { dst := some 117, op := Op.move (Operand.tmp 23), type := 25, pos := "law.go:38", after := #[{ on := 35, ground := Ground.guard }], guard := some (35, true) }) (v := ?v37) rfl (by kernel_rfl) (by kernel_rfl) (by kernel_rfl) (fun _ _ _ h => h) (Or.inl ⟨by rfl, ?h37⟩) hH2 ?r37
  case h37 => intro w' hSw; (try dsimp only at hSw); go_simp; (try with_reducible rfl)
  simp only [Act.put, List.setIfInBounds_toArray, List.set_cons_zero, List.set_cons_succ]
  refine wpAnyH_take (i := 38) (oi := { dst := some 118, op := Op.binOp BinOp.eql 25 (Operand.tmp 116) (Operand.tmp 117) 25, type := 4, pos := "law.go:38", after := #[{ on := 36, ground := Ground.data }, { on := 37, ground := Ground.data }, { on := 35, ground := Ground.guard }], guard := some (35, true) }) (v := ?v38) rfl (by kernel_rfl) (by kernel_rfl) (by kernel_rfl) (fun _ _ _ h => h) (Or.inl ⟨by rfl, ?h38⟩) hH2 ?r38
  case h38 => intro w' hSw; (try dsimp only at hSw); go_simp; (try with_reducible rfl)
  simp only [Act.put, List.setIfInBounds_toArray, List.set_cons_zero, List.set_cons_succ]
  refine wpAnyH_take (i := 39) (oi := { dst := some 119, op := Op.pick (Operand.tmp 115) (Operand.tmp 118) (Operand.const (Value.bool false)), type := 4, pos := "law.go:38", after := #[{ on := 35, ground := Ground.data }, { on := 38, ground := Ground.data }], guard := none }) (v := ?v39) rfl (by kernel_rfl) (by kernel_rfl) (by kernel_rfl) (fun _ _ _ h => h) (Or.inl ⟨by rfl, ?h39⟩) hH2 ?r39
  case h39 => intro w' hSw; (try dsimp only at hSw); go_simp; (try with_reducible rfl)
  simp only [Act.put, List.setIfInBounds_toArray, List.set_cons_zero, List.set_cons_succ]
  refine wpAnyH_take (i := 40) (oi := { dst := some 120, op := Op.move (Operand.tmp 119), type := 4, pos := "law.go:38", after := #[{ on := 39, ground := Ground.data }, { on := 35, ground := Ground.chain }], guard := none }) (v := ?v40) rfl (by kernel_rfl) (by kernel_rfl) (by kernel_rfl) (fun _ _ _ h => h) (Or.inl ⟨by rfl, ?h40⟩) hH2 ?r40
  case h40 => intro w' hSw; (try dsimp only at hSw); go_simp; (try with_reducible rfl)
  simp only [Act.put, List.setIfInBounds_toArray, List.set_cons_zero, List.set_cons_succ]
  refine wpAnyH_take (i := 41) (oi := { dst := some 121, op := Op.move (Operand.tmp 14), type := 22, pos := "law.go:38", after := #[{ on := 40, ground := Ground.guard }], guard := some (40, true) }) (v := ?v41) rfl (by kernel_rfl) (by kernel_rfl) (by kernel_rfl) (fun _ _ _ h => h) (Or.inl ⟨by rfl, ?h41⟩) hH2 ?r41
  case h41 => intro w' hSw; (try dsimp only at hSw); go_simp; (try with_reducible rfl)
  simp only [Act.put, List.setIfInBounds_toArray, List.set_cons_zero, List.set_cons_succ]
  refine wpAnyH_take (i := 42) (oi := { dst := some 122, op := Op.convert 22 9 (Operand.tmp 121), type := 9, pos := "law.go:38", after := #[{ on := 41, ground := Ground.data }, { on := 40, ground := Ground.guard }], guard := some (40, true) }) (v := ?v42) rfl (by kernel_rfl) (by kernel_rfl) (by kernel_rfl) (fun _ _ _ h => h) (Or.inl ⟨by rfl, ?h42⟩) hH2 ?r42
  case h42 => intro w' hSw; (try dsimp only at hSw); go_simp; (try with_reducible rfl)
  simp only [Act.put, List.setIfInBounds_toArray, List.set_cons_zero, List.set_cons_succ]
  refine wpAnyH_take (i := 43) (oi := { dst := some 123, op := Op.move (Operand.tmp 0), type := 22, pos := "law.go:38", after := #[{ on := 40, ground := Ground.guard }], guard := some (40, true) }) (v := ?v43) rfl (by kernel_rfl) (by kernel_rfl) (by kernel_rfl) (fun _ _ _ h => h) (Or.inl ⟨by rfl, ?h43⟩) hH2 ?r43
  case h43 => intro w' hSw; (try dsimp only at hSw); go_simp; (try with_reducible rfl)
  simp only [Act.put, List.setIfInBounds_toArray, List.set_cons_zero, List.set_cons_succ]
  refine wpAnyH_ready (rs := [44]) (by kernel_rfl) (by simp) ?_
  refine AllReadyH.cons (o := { dst := some 124, op := Op.call { callee := Callee.value (Operand.func 24), args := #[Operand.tmp 123], argTypes := #[22] }, type := 22, pos := "law.go:38", after := #[{ on := 43, ground := Ground.data }, { on := 40, ground := Ground.chain }, { on := 40, ground := Ground.guard }], guard := some (40, true) }) rfl (fun K hK => ?_) AllReadyH.nil
  go_simp
  refine (rframe_c _ bs _ (V14.out.below hH2.1.1) hn2 HBy.out).mono ?_
  rintro e w16 ⟨v16, rfl, ho16, hb16⟩
  have hB16 := below_trans hH2.1.1 hb16
  have hcv16 : Sem.run Tryd.prog (convert 22 9 v16) w16 = .ok (.string su) w16 := by rw [HSU.out]; exact ho16.sl.conv
  have hcv15 := HCV15.out w16 hb16
  clear ho16 hb16
  go_wp2_with fail
  refine hK.out _ _ ?_ (fun hH3 => ?_)
  · exact ⟨KEEP.out _ hB16, hcv15⟩
  clear hK K
  refine wpAnyH_weaken (S' := fun w' => ((Below w14.heap.size w14 w' ∧ Sem.run Tryd.prog (convert 22 9 (.slice Ax nx Lx)) w' = .ok (.string sx) w' ∧ Sem.run Tryd.prog (convert 22 9 xr) w' = .ok (.string sx) w' ∧ Sem.run Tryd.prog (convert 22 9 (.slice Ay ny Ly)) w' = .ok (.string sy) w' ∧ Sem.run Tryd.prog (convert 22 9 (.slice Az nz Lz)) w' = .ok (.string sz) w' ∧ Sem.run Tryd.prog (convert 22 9 zr) w' = .ok (.string sz) w' ∧ Sem.run Tryd.prog (convert 22 9 (.slice Au nu Lu)) w' = .ok (.string su) w' ∧ Sem.run Tryd.prog (convert 22 9 (.slice Ao no Lo)) w' = .ok (.string so) w' ∧ Sem.run Tryd.prog (convert 22 9 or_) w' = .ok (.string so) w') ∧ Sem.run Tryd.prog (convert 22 9 v15) w' = .ok (.string sy) w') ∧ Sem.run Tryd.prog (convert 22 9 v16) w' = .ok (.string su) w') (fun w' h => h.1) _ _ _ _ ?_
  have hH4 : ((Below w14.heap.size w14 w16 ∧ Sem.run Tryd.prog (convert 22 9 (.slice Ax nx Lx)) w16 = .ok (.string sx) w16 ∧ Sem.run Tryd.prog (convert 22 9 xr) w16 = .ok (.string sx) w16 ∧ Sem.run Tryd.prog (convert 22 9 (.slice Ay ny Ly)) w16 = .ok (.string sy) w16 ∧ Sem.run Tryd.prog (convert 22 9 (.slice Az nz Lz)) w16 = .ok (.string sz) w16 ∧ Sem.run Tryd.prog (convert 22 9 zr) w16 = .ok (.string sz) w16 ∧ Sem.run Tryd.prog (convert 22 9 (.slice Au nu Lu)) w16 = .ok (.string su) w16 ∧ Sem.run Tryd.prog (convert 22 9 (.slice Ao no Lo)) w16 = .ok (.string so) w16 ∧ Sem.run Tryd.prog (convert 22 9 or_) w16 = .ok (.string so) w16) ∧ Sem.run Tryd.prog (convert 22 9 v15) w16 = .ok (.string sy) w16) ∧ Sem.run Tryd.prog (convert 22 9 v16) w16 = .ok (.string su) w16 := ⟨hH3, hcv16⟩
  clear hH2 hH3 hcv15 hcv16
  refine wpAnyH_take (i := 45) (oi := { dst := some 125, op := Op.convert 22 9 (Operand.tmp 124), type := 9, pos := "law.go:38", after := #[{ on := 44, ground := Ground.data }, { on := 40, ground := Ground.guard }], guard := some (40, true) }) (v := ?v45) rfl (by kernel_rfl) (by kernel_rfl) (by kernel_rfl) (fun _ _ _ h => h) (Or.inl ⟨by rfl, ?h45⟩) hH4 ?r45
  case h45 => intro w' hSw; (try dsimp only at hSw); go_simp; (try with_reducible rfl)
  simp only [Act.put, List.setIfInBounds_toArray, List.set_cons_zero, List.set_cons_succ]
  refine wpAnyH_take (i := 46) (oi := { dst := some 126, op := Op.binOp BinOp.eql 9 (Operand.tmp 122) (Operand.tmp 125) 9, type := 4, pos := "law.go:38", after := #[{ on := 42, ground := Ground.data }, { on := 45, ground := Ground.data }, { on := 40, ground := Ground.guard }], guard := some (40, true) }) (v := ?v46) rfl (by kernel_rfl) (by kernel_rfl) (by kernel_rfl) (fun _ _ _ h => h) (Or.inl ⟨by rfl, ?h46⟩) hH4 ?r46
  case h46 => intro w' hSw; (try dsimp only at hSw); go_simp; (try with_reducible rfl)
  simp only [Act.put, List.setIfInBounds_toArray, List.set_cons_zero, List.set_cons_succ]
  refine wpAnyH_take (i := 47) (oi := { dst := some 127, op := Op.pick (Operand.tmp 120) (Operand.tmp 126) (Operand.const (Value.bool false)), type := 4, pos := "law.go:38", after := #[{ on := 40, ground := Ground.data }, { on := 46, ground := Ground.data }], guard := none }) (v := ?v47) rfl (by kernel_rfl) (by kernel_rfl) (by kernel_rfl) (fun _ _ _ h => h) (Or.inl ⟨by rfl, ?h47⟩) hH4 ?r47
  case h47 => intro w' hSw; (try dsimp only at hSw); go_simp; (try with_reducible rfl)
  simp only [Act.put, List.setIfInBounds_toArray, List.set_cons_zero, List.set_cons_succ]
  refine wpAnyH_take (i := 48) (oi := { dst := some 128, op := Op.move (Operand.tmp 127), type := 4, pos := "law.go:38", after := #[{ on := 47, ground := Ground.data }, { on := 44, ground := Ground.chain }], guard := none }) (v := ?v48) rfl (by kernel_rfl) (by kernel_rfl) (by kernel_rfl) (fun _ _ _ h => h) (Or.inl ⟨by rfl, ?h48⟩) hH4 ?r48
  case h48 => intro w' hSw; (try dsimp only at hSw); go_simp; (try with_reducible rfl)
  simp only [Act.put, List.setIfInBounds_toArray, List.set_cons_zero, List.set_cons_succ]
  refine wpAnyH_take (i := 49) (oi := { dst := some 129, op := Op.move (Operand.tmp 15), type := 22, pos := "law.go:38", after := #[{ on := 48, ground := Ground.guard }], guard := some (48, true) }) (v := ?v49) rfl (by kernel_rfl) (by kernel_rfl) (by kernel_rfl) (fun _ _ _ h => h) (Or.inl ⟨by rfl, ?h49⟩) hH4 ?r49
  case h49 => intro w' hSw; (try dsimp only at hSw); go_simp; (try with_reducible rfl)
  simp only [Act.put, List.setIfInBounds_toArray, List.set_cons_zero, List.set_cons_succ]
  refine wpAnyH_take (i := 50) (oi := { dst := some 130, op := Op.convert 22 9 (Operand.tmp 129), type := 9, pos := "law.go:38", after := #[{ on := 49, ground := Ground.data }, { on := 48, ground := Ground.guard }], guard := some (48, true) }) (v := ?v50) rfl (by kernel_rfl) (by kernel_rfl) (by kernel_rfl) (fun _ _ _ h => h) (Or.inl ⟨by rfl, ?h50⟩) hH4 ?r50
  case h50 => intro w' hSw; (try dsimp only at hSw); go_simp; (try with_reducible rfl)
  simp only [Act.put, List.setIfInBounds_toArray, List.set_cons_zero, List.set_cons_succ]
  refine wpAnyH_take (i := 51) (oi := { dst := some 131, op := Op.move (Operand.tmp 24), type := 22, pos := "law.go:38", after := #[{ on := 48, ground := Ground.guard }], guard := some (48, true) }) (v := ?v51) rfl (by kernel_rfl) (by kernel_rfl) (by kernel_rfl) (fun _ _ _ h => h) (Or.inl ⟨by rfl, ?h51⟩) hH4 ?r51
  case h51 => intro w' hSw; (try dsimp only at hSw); go_simp; (try with_reducible rfl)
  simp only [Act.put, List.setIfInBounds_toArray, List.set_cons_zero, List.set_cons_succ]
  refine wpAnyH_take (i := 52) (oi := { dst := some 132, op := Op.convert 22 9 (Operand.tmp 131), type := 9, pos := "law.go:38", after := #[{ on := 51, ground := Ground.data }, { on := 48, ground := Ground.guard }], guard := some (48, true) }) (v := ?v52) rfl (by kernel_rfl) (by kernel_rfl) (by kernel_rfl) (fun _ _ _ h => h) (Or.inl ⟨by rfl, ?h52⟩) hH4 ?r52
  case h52 => intro w' hSw; (try dsimp only at hSw); go_simp; (try with_reducible rfl)
  simp only [Act.put, List.setIfInBounds_toArray, List.set_cons_zero, List.set_cons_succ]
  refine wpAnyH_take (i := 53) (oi := { dst := some 133, op := Op.binOp BinOp.eql 9 (Operand.tmp 130) (Operand.tmp 132) 9, type := 4, pos := "law.go:38", after := #[{ on := 50, ground := Ground.data }, { on := 52, ground := Ground.data }, { on := 48, ground := Ground.guard }], guard := some (48, true) }) (v := ?v53) rfl (by kernel_rfl) (by kernel_rfl) (by kernel_rfl) (fun _ _ _ h => h) (Or.inl ⟨by rfl, ?h53⟩) hH4 ?r53
  case h53 => intro w' hSw; (try dsimp only at hSw); go_simp; (try with_reducible rfl)
  simp only [Act.put, List.setIfInBounds_toArray, List.set_cons_zero, List.set_cons_succ]
  refine wpAnyH_take (i := 54) (oi := { dst := some 134, op := Op.pick (Operand.tmp 128) (Operand.tmp 133) (Operand.const (Value.bool false)), type := 4, pos := "law.go:38", after := #[{ on := 48, ground := Ground.data }, { on := 53, ground := Ground.data }], guard := none }) (v := ?v54) rfl (by kernel_rfl) (by kernel_rfl) (by kernel_rfl) (fun _ _ _ h => h) (Or.inl ⟨by rfl, ?h54⟩) hH4 ?r54
  case h54 => intro w' hSw; (try dsimp only at hSw); go_simp; (try with_reducible rfl)
  simp only [Act.put, List.setIfInBounds_toArray, List.set_cons_zero, List.set_cons_succ]
  refine wpAnyH_take (i := 55) (oi := { dst := some 135, op := Op.move (Operand.tmp 134), type := 4, pos := "law.go:38", after := #[{ on := 54, ground := Ground.data }, { on := 48, ground := Ground.chain }], guard := none }) (v := ?v55) rfl (by kernel_rfl) (by kernel_rfl) (by kernel_rfl) (fun _ _ _ h => h) (Or.inl ⟨by rfl, ?h55⟩) hH4 ?r55
  case h55 => intro w' hSw; (try dsimp only at hSw); go_simp; (try with_reducible rfl)
  simp only [Act.put, List.setIfInBounds_toArray, List.set_cons_zero, List.set_cons_succ]
  refine wpAnyH_take (i := 56) (oi := { dst := some 136, op := Op.move (Operand.tmp 16), type := 4, pos := "law.go:38", after := #[{ on := 55, ground := Ground.guard }], guard := some (55, true) }) (v := ?v56) rfl (by kernel_rfl) (by kernel_rfl) (by kernel_rfl) (fun _ _ _ h => h) (Or.inl ⟨by rfl, ?h56⟩) hH4 ?r56
  case h56 => intro w' hSw; (try dsimp only at hSw); go_simp; (try with_reducible rfl)
  simp only [Act.put, List.setIfInBounds_toArray, List.set_cons_zero, List.set_cons_succ]
  refine wpAnyH_take (i := 57) (oi := { dst := some 137, op := Op.move (Operand.tmp 25), type := 4, pos := "law.go:38", after := #[{ on := 55, ground := Ground.guard }], guard := some (55, true) }) (v := ?v57) rfl (by kernel_rfl) (by kernel_rfl) (by kernel_rfl) (fun _ _ _ h => h) (Or.inl ⟨by rfl, ?h57⟩) hH4 ?r57
  case h57 => intro w' hSw; (try dsimp only at hSw); go_simp; (try with_reducible rfl)
  simp only [Act.put, List.setIfInBounds_toArray, List.set_cons_zero, List.set_cons_succ]
  refine wpAnyH_take (i := 58) (oi := { dst := some 138, op := Op.binOp BinOp.eql 4 (Operand.tmp 136) (Operand.tmp 137) 4, type := 4, pos := "law.go:38", after := #[{ on := 56, ground := Ground.data }, { on := 57, ground := Ground.data }, { on := 55, ground := Ground.guard }], guard := some (55, true) }) (v := ?v58) rfl (by kernel_rfl) (by kernel_rfl) (by kernel_rfl) (fun _ _ _ h => h) (Or.inl ⟨by rfl, ?h58⟩) hH4 ?r58
  case h58 => intro w' hSw; (try dsimp only at hSw); go_simp; (try with_reducible rfl)
  simp only [Act.put, List.setIfInBounds_toArray, List.set_cons_zero, List.set_cons_succ]
  refine wpAnyH_take (i := 59) (oi := { dst := some 139, op := Op.pick (Operand.tmp 135) (Operand.tmp 138) (Operand.const (Value.bool false)), type := 4, pos := "law.go:38", after := #[{ on := 55, ground := Ground.data }, { on := 58, ground := Ground.data }], guard := none }) (v := ?v59) rfl (by kernel_rfl) (by kernel_rfl) (by kernel_rfl) (fun _ _ _ h => h) (Or.inl ⟨by rfl, ?h59⟩) hH4 ?r59
  case h59 => intro w' hSw; (try dsimp only at hSw); go_simp; (try with_reducible rfl)
  simp only [Act.put, List.setIfInBounds_toArray, List.set_cons_zero, List.set_cons_succ]
  refine wpAnyH_take (i := 60) (oi := { dst := some 140, op := Op.move (Operand.tmp 139), type := 4, pos := "law.go:38", after := #[{ on := 59, ground := Ground.data }, { on := 55, ground := Ground.chain }], guard := none }) (v := ?v60) rfl (by kernel_rfl) (by kernel_rfl) (by kernel_rfl) (fun _ _ _ h => h) (Or.inl ⟨by rfl, ?h60⟩) hH4 ?r60
  case h60 => intro w' hSw; (try dsimp only at hSw); go_simp; (try with_reducible rfl)
  simp only [Act.put, List.setIfInBounds_toArray, List.set_cons_zero, List.set_cons_succ]
  refine wpAnyH_take (i := 61) (oi := { dst := some 141, op := Op.move (Operand.tmp 17), type := 3, pos := "law.go:38", after := #[{ on := 60, ground := Ground.guard }], guard := some (60, true) }) (v := ?v61) rfl (by kernel_rfl) (by kernel_rfl) (by kernel_rfl) (fun _ _ _ h => h) (Or.inl ⟨by rfl, ?h61⟩) hH4 ?r61
  case h61 => intro w' hSw; (try dsimp only at hSw); go_simp; (try with_reducible rfl)
  simp only [Act.put, List.setIfInBounds_toArray, List.set_cons_zero, List.set_cons_succ]
  refine wpAnyH_take (i := 62) (oi := { dst := some 142, op := Op.move (Operand.tmp 0), type := 22, pos := "law.go:38", after := #[{ on := 60, ground := Ground.guard }], guard := some (60, true) }) (v := ?v62) rfl (by kernel_rfl) (by kernel_rfl) (by kernel_rfl) (fun _ _ _ h => h) (Or.inl ⟨by rfl, ?h62⟩) hH4 ?r62
  case h62 => intro w' hSw; (try dsimp only at hSw); go_simp; (try with_reducible rfl)
  simp only [Act.put, List.setIfInBounds_toArray, List.set_cons_zero, List.set_cons_succ]
  refine wpAnyH_ready (rs := [63]) (by kernel_rfl) (by simp) ?_
  refine AllReadyH.cons (o := { dst := some 143, op := Op.call { callee := Callee.value (Operand.func 25), args := #[Operand.tmp 142], argTypes := #[22] }, type := 3, pos := "law.go:38", after := #[{ on := 62, ground := Ground.data }, { on := 60, ground := Ground.chain }, { on := 60, ground := Ground.guard }], guard := some (60, true) }) rfl (fun K hK => ?_) AllReadyH.nil
  go_simp
  refine (rsum_c _ bs _ (V14.out.below hH4.1.1.1) (by omega) HBy.out).mono ?_
  rintro e w17 ⟨rfl, rfl⟩
  rw [← HQe.out]
  go_wp2_with fail
  refine hK.out _ _ ?_ (fun hH5 => ?_)
  · exact hH4
  clear hK K
  refine wpAnyH_take (i := 64) (oi := { dst := some 144, op := Op.binOp BinOp.eql 3 (Operand.tmp 141) (Operand.tmp 143) 3, type := 4, pos := "law.go:38", after := #[{ on := 61, ground := Ground.data }, { on := 63, ground := Ground.data }, { on := 60, ground := Ground.guard }], guard := some (60, true) }) (v := ?v64) rfl (by kernel_rfl) (by kernel_rfl) (by kernel_rfl) (fun _ _ _ h => h) (Or.inl ⟨by rfl, ?h64⟩) hH4 ?r64
  case h64 => intro w' hSw; (try dsimp only at hSw); go_simp; (try with_reducible rfl)
  simp only [Act.put, List.setIfInBounds_toArray, List.set_cons_zero, List.set_cons_succ]
  refine wpAnyH_take (i := 65) (oi := { dst := some 145, op := Op.pick (Operand.tmp 140) (Operand.tmp 144) (Operand.const (Value.bool false)), type := 4, pos := "law.go:38", after := #[{ on := 60, ground := Ground.data }, { on := 64, ground := Ground.data }], guard := none }) (v := ?v65) rfl (by kernel_rfl) (by kernel_rfl) (by kernel_rfl) (fun _ _ _ h => h) (Or.inl ⟨by rfl, ?h65⟩) hH4 ?r65
  case h65 => intro w' hSw; (try dsimp only at hSw); go_simp; (try with_reducible rfl)
  simp only [Act.put, List.setIfInBounds_toArray, List.set_cons_zero, List.set_cons_succ]
  refine wpAnyH_take (i := 66) (oi := { dst := some 6, op := Op.assign (Operand.tmp 145), type := 4, pos := "law.go:38", after := #[{ on := 65, ground := Ground.data }, { on := 63, ground := Ground.chain }, { on := 0, ground := Ground.phase }, { on := 1, ground := Ground.phase }, { on := 2, ground := Ground.phase }, { on := 3, ground := Ground.phase }, { on := 4, ground := Ground.phase }, { on := 5, ground := Ground.phase }, { on := 6, ground := Ground.phase }, { on := 7, ground := Ground.phase }, { on := 8, ground := Ground.phase }, { on := 9, ground := Ground.phase }, { on := 10, ground := Ground.phase }, { on := 11, ground := Ground.phase }, { on := 12, ground := Ground.phase }, { on := 13, ground := Ground.phase }, { on := 14, ground := Ground.phase }, { on := 15, ground := Ground.phase }, { on := 16, ground := Ground.phase }, { on := 17, ground := Ground.phase }, { on := 18, ground := Ground.phase }, { on := 19, ground := Ground.phase }, { on := 20, ground := Ground.phase }, { on := 21, ground := Ground.phase }, { on := 22, ground := Ground.phase }, { on := 23, ground := Ground.phase }, { on := 24, ground := Ground.phase }, { on := 25, ground := Ground.phase }, { on := 26, ground := Ground.phase }, { on := 27, ground := Ground.phase }, { on := 28, ground := Ground.phase }, { on := 29, ground := Ground.phase }, { on := 30, ground := Ground.phase }, { on := 31, ground := Ground.phase }, { on := 32, ground := Ground.phase }, { on := 33, ground := Ground.phase }, { on := 34, ground := Ground.phase }, { on := 35, ground := Ground.phase }, { on := 36, ground := Ground.phase }, { on := 37, ground := Ground.phase }, { on := 38, ground := Ground.phase }, { on := 39, ground := Ground.phase }, { on := 40, ground := Ground.phase }, { on := 41, ground := Ground.phase }, { on := 42, ground := Ground.phase }, { on := 43, ground := Ground.phase }, { on := 44, ground := Ground.phase }, { on := 45, ground := Ground.phase }, { on := 46, ground := Ground.phase }, { on := 47, ground := Ground.phase }, { on := 48, ground := Ground.phase }, { on := 49, ground := Ground.phase }, { on := 50, ground := Ground.phase }, { on := 51, ground := Ground.phase }, { on := 52, ground := Ground.phase }, { on := 53, ground := Ground.phase }, { on := 54, ground := Ground.phase }, { on := 55, ground := Ground.phase }, { on := 56, ground := Ground.phase }, { on := 57, ground := Ground.phase }, { on := 58, ground := Ground.phase }, { on := 59, ground := Ground.phase }, { on := 60, ground := Ground.phase }, { on := 61, ground := Ground.phase }, { on := 62, ground := Ground.phase }, { on := 63, ground := Ground.phase }, { on := 64, ground := Ground.phase }, { on := 65, ground := Ground.phase }], guard := none }) (v := ?v66) rfl (by kernel_rfl) (by kernel_rfl) (by kernel_rfl) (fun _ _ _ h => h) (Or.inl ⟨by rfl, ?h66⟩) hH4 ?r66
  case h66 => intro w' hSw; (try dsimp only at hSw); go_simp; (try with_reducible rfl)
  simp only [Act.put, List.setIfInBounds_toArray, List.set_cons_zero, List.set_cons_succ]
  refine wpAnyH_done (by kernel_rfl) ?_ _
  have HBF := Lib.hid (below_trans B14.out hB16)
  clear hH4 hH5 hB15 hB16
  go_wp2_with fail
  go_ret
  exact ⟨rfl, HBF.out⟩

end Go.Proofs.YtmddhlpkanjffaaDoor

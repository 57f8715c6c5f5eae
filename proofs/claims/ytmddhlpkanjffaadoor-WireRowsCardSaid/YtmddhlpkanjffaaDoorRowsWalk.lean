/- The walk of WireRows: texts and numbers in a row are read one behind another. -/
import Derived.Test.YtmddhlpkanjffaaDoorAwake
import Derived.Test.YtmddhlpkanjffaaDoorThere
import Derived.Test.YtmddhlpkanjffaaDoorStrCells
namespace Go.Proofs.YtmddhlpkanjffaaDoor
open Go.RowKit

/-- A text and, where there is one, a number. -/
def tx (ss : List ByteArray) (i : Nat) : List Nat := vn (ss.getD i ⟨#[]⟩).size ++ bytesOf (ss.getD i ⟨#[]⟩)
def nm (zs : List Int) (l1 i : Nat) : List Nat := if i < l1 then vn (zz (zs.getD i 0)) else []
/-- All that is written behind i rounds. -/
def encR (ss : List ByteArray) (zs : List Int) (l1 : Nat) : Nat → List Nat
  | 0 => []
  | i + 1 => encR ss zs l1 i ++ (tx ss i ++ nm zs l1 i)

theorem encR_split (ss : List ByteArray) (zs : List Int) (l1 i : Nat) : ∀ m, i < m → ∃ q, encR ss zs l1 m = encR ss zs l1 i ++ (tx ss i ++ (nm zs l1 i ++ q)) := by
  intro m
  induction m with
  | zero => intro h; omega
  | succ m ih =>
    intro h
    by_cases e : i = m
    · subst e
      exact ⟨[], by rw [encR, List.append_nil]⟩
    · obtain ⟨q, hq⟩ := ih (by omega)
      refine ⟨q ++ (tx ss m ++ nm zs l1 m), ?_⟩
      rw [encR, hq]
      simp only [List.append_assoc]

theorem encR_len (ss : List ByteArray) (zs : List Int) (l1 : Nat) (hz : ∀ i, zs.getD i 0 < 9223372036854775808 ∧ -9223372036854775808 ≤ zs.getD i 0) (i : Nat) (h : ∀ j, j < i → (ss.getD j ⟨#[]⟩).size ≤ 65536) : (encR ss zs l1 i).length ≤ i * 65600 := by
  induction i with
  | zero => simp [encR]
  | succ i ih =>
    have h1 := ih (fun j hj => h j (by omega))
    have h2 := h i (by omega)
    have h3 : (vn (ss.getD i ⟨#[]⟩).size).length ≤ 10 := vn_len10 (by omega)
    have h4 : (nm zs l1 i).length ≤ 10 := by
      unfold nm
      split
      · exact vn_len10 (zz_lt (hz i).2 (hz i).1)
      · simp
    rw [encR, List.length_append, List.length_append, tx, List.length_append, bytesOf_length]
    omega

theorem tx_lt (ss : List ByteArray) (i : Nat) : ∀ x ∈ tx ss i, x < 256 := by
  intro x hx
  rcases List.mem_append.1 hx with h | h
  · exact vn_lt _ x h
  · exact bytesOf_lt _ x h
theorem nm_lt (zs : List Int) (l1 i : Nat) : ∀ x ∈ nm zs l1 i, x < 256 := by
  intro x hx
  unfold nm at hx
  split at hx
  · exact vn_lt _ x hx
  · cases hx
theorem encR_lt (ss : List ByteArray) (zs : List Int) (l1 i : Nat) : ∀ x ∈ encR ss zs l1 i, x < 256 := by
  induction i with
  | zero => intro x hx; cases hx
  | succ i ih =>
    intro x hx
    rw [encR] at hx
    rcases List.mem_append.1 hx with h | h
    · exact ih x h
    · rcases List.mem_append.1 h with h | h
      · exact tx_lt ss i x h
      · exact nm_lt zs l1 i x h

set_option maxHeartbeats 2000000 in
set_option maxRecDepth 100000 in
theorem rows_walk (A0 A1 : Option Addr) (l0 c0 l1 c1 : Nat) (ss : List ByteArray) (zs : List Int) (w : World) (ht : Tab w) (r0 : Reads w w.heap.size A0 l0 (Strs ss)) (r1 : Reads w w.heap.size A1 l1 (Ints zs)) (hl0 : l0 ≤ maxLen) (hl1 : l1 ≤ maxLen)
    (hz : ∀ i, zs.getD i 0 < 9223372036854775808 ∧ -9223372036854775808 ≤ zs.getD i 0) :
    Calls Tryd.prog 7 #[.slice A0 l0 c0, .slice A1 l1 c1] w fun e w' => e = .returned (.bool true) ∧ Below w.heap.size w w' := by
  have HT := Lib.hid ht
  have R0 := Lib.hid r0
  have R1 := Lib.hid r1
  have HZ := Lib.hid hz
  have HL : Hid (l0 ≤ maxLen ∧ l1 ≤ maxLen) := ⟨hl0, hl1⟩
  clear ht r0 r1 hz hl0 hl1
  go_enter Tryd.func7, Tryd.ntmps7
  go_wp2_with fail
  refine (awake_c w HT.out).mono ?_
  rintro e w1 ⟨rfl, hb1⟩
  have HB1 := Lib.hid hb1
  clear hb1
  go_wp2_with fail
  obtain ⟨m, hm⟩ : ∃ m, m = min l0 20 := ⟨_, rfl⟩
  have HM := Lib.hid hm
  clear hm
  go_loopg [6, 7, 8, 9] m (fun gg s6 s7 _ _ wr => ∃ (i : Nat), i + gg = m ∧ s7 = .int .i64 (i : Int) ∧ SlB wr s6 (encR ss zs l1 i) ∧ Below w.heap.size w wr ∧ (∀ j, j < i → (ss.getD j ⟨#[]⟩).size ≤ 65536))
  case atStart => exact ⟨0, by omega, rfl, SlB.nil _, HB1.out, fun j hj => by omega⟩
  case round =>
    obtain ⟨i, hig, rfl, hs, hb, hall⟩ := hrel
    have HS := Lib.hid hs
    have HB := Lib.hid hb
    have HAll := Lib.hid hall
    clear hs hb hall HB1
    cases gk with
    | zero =>
      obtain rfl : i = m := by omega
      by_cases h20 : i < l0
      · have hd1 : decide (i < l0) = true := by simpa using h20
        have hd2 : decide ((i : Int) < 20) = false := by have := HM.out; simp; omega
        have hlm := encR_len ss zs l1 HZ.out i HAll.out
        obtain ⟨A6, c6, rfl, _, _, _⟩ := HS.out
        obtain ⟨L, hL⟩ : ∃ L, L = (encR ss zs l1 i).length := ⟨_, rfl⟩
        have HLn := Lib.hid hL
        have hLs : L ≤ 1312000 := by have := HM.out; omega
        rw [← hL] at HS ⊢
        clear hL hlm
        go_wp2_with fail
        go_loopg [10, 11, 12, 13, 14, 15, 16, 17] i (fun gg s10 s11 _ _ _ _ _ _ wx => ∃ (j p : Nat), j + gg = i ∧ s11 = .int .i64 (j : Int) ∧ s10 = .int .i64 (p : Int) ∧ p = (encR ss zs l1 j).length ∧ p ≤ L ∧ SlB wx (.slice A6 L c6) (encR ss zs l1 i) ∧ Below w.heap.size w wx)
        case atStart => exact ⟨0, 0, by omega, rfl, rfl, rfl, by omega, HS.out, HB.out⟩
        case round =>
          obtain ⟨j, p, hjg, rfl, rfl, hp, hpL, hs, hb⟩ := hrel
          clear HS HB
          have HS := Lib.hid hs
          have HB := Lib.hid hb
          have HP := Lib.hid hp
          clear hs hb hp
          cases gk with
          | zero =>
            obtain rfl : j = i := by omega
            obtain rfl : p = L := by rw [HP.out, HLn.out]
            have hd1 : decide (j < l0) = true := by simpa using h20
            have hd2 : decide ((j : Int) < 20) = false := by have := HM.out; simp; omega
            go_wp2_with fail
            go_ret
            exact ⟨rfl, HB.out⟩
          | succ gk =>
            have hjm : j < i := by omega
            have hjl : j < l0 := by have := HM.out; omega
            have hj20 : j < 20 := by have := HM.out; omega
            have hd1 : decide (j < l0) = true := by simpa using hjl
            have hii : (j : Int) < (l0 : Int) := by omega
            have hd2 : decide ((j : Int) < 20) = true := by simp; omega
            obtain ⟨b, o, rfl, hbl, hcell⟩ := Strs_at R0.out hjl
            have hc0 : ∀ wz, Below w.heap.size w wz → wz.cell? ⟨b, o + j, none⟩ = some (.string (ss.getD j ⟨#[]⟩)) := fun wz hz => (hz.cell (p := ⟨b, o + j, none⟩) hbl).trans hcell
            have HC0 := Lib.hid hc0
            clear hcell hc0
            obtain ⟨q, hq⟩ := encR_split ss zs l1 j i hjm
            have hsz := HAll.out j hjm
            obtain ⟨s, hs⟩ : ∃ s, s = ss.getD j ⟨#[]⟩ := ⟨_, rfl⟩
            rw [← hs] at hsz HC0
            have hans : txAns (encR ss zs l1 i) (p : Int) = .ok (bytesOf s, p + (vn s.size).length + s.size) := by
              have h0 := there_text (encR ss zs l1 j) (bytesOf s) (nm zs l1 j ++ q) (by rw [bytesOf_length]; exact hsz)
              rw [hq, HP.out]
              unfold tx
              rw [← hs]
              simp only [bytesOf_length] at h0
              simp only [List.append_assoc]
              exact h0
            have HAns := Lib.hid hans
            have hnext : (encR ss zs l1 (j + 1)).length = p + (vn s.size).length + s.size + (nm zs l1 j).length := by
              rw [encR, tx, ← hs, HP.out]
              simp only [List.length_append, bytesOf_length]
              omega
            have hle : (encR ss zs l1 (j + 1)).length ≤ L := by
              rw [HLn.out]
              rw [hq, encR]
              simp only [List.length_append]
              omega
            have HNext := Lib.hid hnext
            have HLe := Lib.hid hle
            have hpz : Hid (p + (vn s.size).length + s.size ≤ L) := by show _ ≤ L; omega
            clear hans hq hs hnext hle
            go_wp2_with fail
            refine (readtext_c _ (encR ss zs l1 i) (p : Int) wr HS.out (by rw [← HLn.out]; omega) (by omega) (by omega) (encR_lt ss zs l1 i)).mono ?_
            rintro e w3 ⟨rfl, hb3⟩
            rw [HAns.out]
            simp only [txVal, strOf_bytesOf]
            have HB3 := Lib.hid (below_trans HB.out hb3)
            have HS3 := Lib.hid (HS.out.below hb3)
            have hc3 := HC0.out w3 HB3.out
            obtain ⟨p2, hp2⟩ : ∃ p2, p2 = p + (vn s.size).length + s.size := ⟨_, rfl⟩
            rw [← hp2]
            rw [← hp2] at HNext hpz
            have HP2 := Lib.hid hp2
            clear hb3 HAns HS HB hp2
            by_cases hj1 : j < l1
            · have hd3 : decide (j < l1) = true := by simpa using hj1
              have hi1 : (j : Int) < (l1 : Int) := by omega
              obtain ⟨b1, o1, rfl, hbl1, hcell1⟩ := Ints_at R1.out hj1
              obtain ⟨z, hz⟩ : ∃ z, z = zs.getD j 0 := ⟨_, rfl⟩
              have hzr := HZ.out j
              rw [← hz] at hcell1 hzr
              have hc1 : ∀ wz, Below w.heap.size w wz → wz.cell? ⟨b1, o1 + j, none⟩ = some (.int .i64 z) := fun wz hz => (hz.cell (p := ⟨b1, o1 + j, none⟩) hbl1).trans hcell1
              have HC1 := Lib.hid hc1
              have hnm : nm zs l1 j = vn (zz z) := by unfold nm; rw [if_pos hj1, ← hz]
              obtain ⟨q, hq⟩ := encR_split ss zs l1 j i hjm
              have hpl : (encR ss zs l1 j ++ tx ss j).length = p2 := by
                have h1 := HNext.out
                rw [encR, hnm] at h1
                simp only [List.length_append] at h1 ⊢
                omega
              have hans : rdAns (encR ss zs l1 i) (p2 : Int) 10 = .ok (zz z, p2 + (vn (zz z)).length) := by
                have h0 := there_int (encR ss zs l1 j ++ tx ss j) q (zz_lt hzr.2 hzr.1)
                rw [hpl] at h0
                rw [hq, hnm, ← List.append_assoc (encR ss zs l1 j)]
                exact h0
              have HAns := Lib.hid hans
              have HN2 : Hid ((encR ss zs l1 (j + 1)).length = p2 + (vn (zz z)).length) := by show _ = _; rw [HNext.out, hnm]
              have hp2L : p2 ≤ L := hpz.out
              clear hcell1 hc1 hnm hq hpl hans hz HNext hpz hzr
              go_wp2_with fail
              refine (readint_c _ (encR ss zs l1 i) (p2 : Int) w3 HS3.out (by rw [← HLn.out]; omega) (by omega) (by omega) (encR_lt ss zs l1 i)).mono ?_
              rintro e w4 ⟨rfl, hb4⟩
              rw [HAns.out]
              simp only [intVal, uz_zz]
              have HB4 := Lib.hid (below_trans HB3.out hb4)
              have HS4 := Lib.hid (HS3.out.below hb4)
              have hc4 := HC1.out w4 HB4.out
              obtain ⟨p3, hp3⟩ : ∃ p3, p3 = p2 + (vn (zz z)).length := ⟨_, rfl⟩
              rw [← hp3]
              rw [← hp3] at HN2
              have hp3L : p3 ≤ L := by rw [← HN2.out]; exact HLe.out
              clear hb4 HAns HS3 HB3 hp3 hc3 HC1 HC0
              go_wp2_with fail
              go_roundg gk
              case measure => omega
              case rel => exact ⟨j + 1, p3, by omega, rfl, rfl, HN2.out.symm, hp3L, HS4.out, HB4.out⟩
            · have hd3 : decide (j < l1) = false := by simpa using hj1
              have hnm : nm zs l1 j = [] := by unfold nm; rw [if_neg hj1]
              have HN2 : Hid ((encR ss zs l1 (j + 1)).length = p2) := by show _ = _; rw [HNext.out, hnm]; rfl
              have hp2L : p2 ≤ L := hpz.out
              clear hnm HNext hpz HC0
              go_wp2_with fail
              go_roundg gk
              case measure => omega
              case rel => exact ⟨j + 1, p2, by omega, rfl, rfl, HN2.out.symm, hp2L, HS3.out, HB3.out⟩
      · have hd1 : decide (i < l0) = false := by simpa using h20
        have hlm := encR_len ss zs l1 HZ.out i HAll.out
        obtain ⟨A6, c6, rfl, _, _, _⟩ := HS.out
        obtain ⟨L, hL⟩ : ∃ L, L = (encR ss zs l1 i).length := ⟨_, rfl⟩
        have HLn := Lib.hid hL
        have hLs : L ≤ 1312000 := by have := HM.out; omega
        rw [← hL] at HS ⊢
        clear hL hlm
        go_wp2_with fail
        go_loopg [10, 11, 12, 13, 14, 15, 16, 17] i (fun gg s10 s11 _ _ _ _ _ _ wx => ∃ (j p : Nat), j + gg = i ∧ s11 = .int .i64 (j : Int) ∧ s10 = .int .i64 (p : Int) ∧ p = (encR ss zs l1 j).length ∧ p ≤ L ∧ SlB wx (.slice A6 L c6) (encR ss zs l1 i) ∧ Below w.heap.size w wx)
        case atStart => exact ⟨0, 0, by omega, rfl, rfl, rfl, by omega, HS.out, HB.out⟩
        case round =>
          obtain ⟨j, p, hjg, rfl, rfl, hp, hpL, hs, hb⟩ := hrel
          clear HS HB
          have HS := Lib.hid hs
          have HB := Lib.hid hb
          have HP := Lib.hid hp
          clear hs hb hp
          cases gk with
          | zero =>
            obtain rfl : j = i := by omega
            obtain rfl : p = L := by rw [HP.out, HLn.out]
            have hd1 : decide (j < l0) = false := by simpa using h20
            go_wp2_with fail
            go_ret
            exact ⟨rfl, HB.out⟩
          | succ gk =>
            have hjm : j < i := by omega
            have hjl : j < l0 := by have := HM.out; omega
            have hj20 : j < 20 := by have := HM.out; omega
            have hd1 : decide (j < l0) = true := by simpa using hjl
            have hii : (j : Int) < (l0 : Int) := by omega
            have hd2 : decide ((j : Int) < 20) = true := by simp; omega
            obtain ⟨b, o, rfl, hbl, hcell⟩ := Strs_at R0.out hjl
            have hc0 : ∀ wz, Below w.heap.size w wz → wz.cell? ⟨b, o + j, none⟩ = some (.string (ss.getD j ⟨#[]⟩)) := fun wz hz => (hz.cell (p := ⟨b, o + j, none⟩) hbl).trans hcell
            have HC0 := Lib.hid hc0
            clear hcell hc0
            obtain ⟨q, hq⟩ := encR_split ss zs l1 j i hjm
            have hsz := HAll.out j hjm
            obtain ⟨s, hs⟩ : ∃ s, s = ss.getD j ⟨#[]⟩ := ⟨_, rfl⟩
            rw [← hs] at hsz HC0
            have hans : txAns (encR ss zs l1 i) (p : Int) = .ok (bytesOf s, p + (vn s.size).length + s.size) := by
              have h0 := there_text (encR ss zs l1 j) (bytesOf s) (nm zs l1 j ++ q) (by rw [bytesOf_length]; exact hsz)
              rw [hq, HP.out]
              unfold tx
              rw [← hs]
              simp only [bytesOf_length] at h0
              simp only [List.append_assoc]
              exact h0
            have HAns := Lib.hid hans
            have hnext : (encR ss zs l1 (j + 1)).length = p + (vn s.size).length + s.size + (nm zs l1 j).length := by
              rw [encR, tx, ← hs, HP.out]
              simp only [List.length_append, bytesOf_length]
              omega
            have hle : (encR ss zs l1 (j + 1)).length ≤ L := by
              rw [HLn.out]
              rw [hq, encR]
              simp only [List.length_append]
              omega
            have HNext := Lib.hid hnext
            have HLe := Lib.hid hle
            have hpz : Hid (p + (vn s.size).length + s.size ≤ L) := by show _ ≤ L; omega
            clear hans hq hs hnext hle
            go_wp2_with fail
            refine (readtext_c _ (encR ss zs l1 i) (p : Int) wr HS.out (by rw [← HLn.out]; omega) (by omega) (by omega) (encR_lt ss zs l1 i)).mono ?_
            rintro e w3 ⟨rfl, hb3⟩
            rw [HAns.out]
            simp only [txVal, strOf_bytesOf]
            have HB3 := Lib.hid (below_trans HB.out hb3)
            have HS3 := Lib.hid (HS.out.below hb3)
            have hc3 := HC0.out w3 HB3.out
            obtain ⟨p2, hp2⟩ : ∃ p2, p2 = p + (vn s.size).length + s.size := ⟨_, rfl⟩
            rw [← hp2]
            rw [← hp2] at HNext hpz
            have HP2 := Lib.hid hp2
            clear hb3 HAns HS HB hp2
            by_cases hj1 : j < l1
            · have hd3 : decide (j < l1) = true := by simpa using hj1
              have hi1 : (j : Int) < (l1 : Int) := by omega
              obtain ⟨b1, o1, rfl, hbl1, hcell1⟩ := Ints_at R1.out hj1
              obtain ⟨z, hz⟩ : ∃ z, z = zs.getD j 0 := ⟨_, rfl⟩
              have hzr := HZ.out j
              rw [← hz] at hcell1 hzr
              have hc1 : ∀ wz, Below w.heap.size w wz → wz.cell? ⟨b1, o1 + j, none⟩ = some (.int .i64 z) := fun wz hz => (hz.cell (p := ⟨b1, o1 + j, none⟩) hbl1).trans hcell1
              have HC1 := Lib.hid hc1
              have hnm : nm zs l1 j = vn (zz z) := by unfold nm; rw [if_pos hj1, ← hz]
              obtain ⟨q, hq⟩ := encR_split ss zs l1 j i hjm
              have hpl : (encR ss zs l1 j ++ tx ss j).length = p2 := by
                have h1 := HNext.out
                rw [encR, hnm] at h1
                simp only [List.length_append] at h1 ⊢
                omega
              have hans : rdAns (encR ss zs l1 i) (p2 : Int) 10 = .ok (zz z, p2 + (vn (zz z)).length) := by
                have h0 := there_int (encR ss zs l1 j ++ tx ss j) q (zz_lt hzr.2 hzr.1)
                rw [hpl] at h0
                rw [hq, hnm, ← List.append_assoc (encR ss zs l1 j)]
                exact h0
              have HAns := Lib.hid hans
              have HN2 : Hid ((encR ss zs l1 (j + 1)).length = p2 + (vn (zz z)).length) := by show _ = _; rw [HNext.out, hnm]
              have hp2L : p2 ≤ L := hpz.out
              clear hcell1 hc1 hnm hq hpl hans hz HNext hpz hzr
              go_wp2_with fail
              refine (readint_c _ (encR ss zs l1 i) (p2 : Int) w3 HS3.out (by rw [← HLn.out]; omega) (by omega) (by omega) (encR_lt ss zs l1 i)).mono ?_
              rintro e w4 ⟨rfl, hb4⟩
              rw [HAns.out]
              simp only [intVal, uz_zz]
              have HB4 := Lib.hid (below_trans HB3.out hb4)
              have HS4 := Lib.hid (HS3.out.below hb4)
              have hc4 := HC1.out w4 HB4.out
              obtain ⟨p3, hp3⟩ : ∃ p3, p3 = p2 + (vn (zz z)).length := ⟨_, rfl⟩
              rw [← hp3]
              rw [← hp3] at HN2
              have hp3L : p3 ≤ L := by rw [← HN2.out]; exact HLe.out
              clear hb4 HAns HS3 HB3 hp3 hc3 HC1 HC0
              go_wp2_with fail
              go_roundg gk
              case measure => omega
              case rel => exact ⟨j + 1, p3, by omega, rfl, rfl, HN2.out.symm, hp3L, HS4.out, HB4.out⟩
            · have hd3 : decide (j < l1) = false := by simpa using hj1
              have hnm : nm zs l1 j = [] := by unfold nm; rw [if_neg hj1]
              have HN2 : Hid ((encR ss zs l1 (j + 1)).length = p2) := by show _ = _; rw [HNext.out, hnm]; rfl
              have hp2L : p2 ≤ L := hpz.out
              clear hnm HNext hpz HC0
              go_wp2_with fail
              go_roundg gk
              case measure => omega
              case rel => exact ⟨j + 1, p2, by omega, rfl, rfl, HN2.out.symm, hp2L, HS3.out, HB3.out⟩
    | succ gk =>
      have hil : i < l0 := by have := HM.out; omega
      have hi20 : i < 20 := by have := HM.out; omega
      have hd1 : decide (i < l0) = true := by simpa using hil
      have hii : (i : Int) < (l0 : Int) := by omega
      have hd2 : decide ((i : Int) < 20) = true := by simp; omega
      obtain ⟨b, o, rfl, hbl, hcell⟩ := Strs_at R0.out hil
      have hc0 : wr.cell? ⟨b, o + i, none⟩ = some (.string (ss.getD i ⟨#[]⟩)) := (HB.out.cell (p := ⟨b, o + i, none⟩) hbl).trans hcell
      clear hcell
      obtain ⟨s, hs⟩ : ∃ s, s = ss.getD i ⟨#[]⟩ := ⟨_, rfl⟩
      rw [← hs] at hc0
      have HSS := Lib.hid hs
      clear hs
      have hlm := encR_len ss zs l1 HZ.out i HAll.out
      by_cases hlong : 65536 < s.size
      · have hdl : decide (65536 < (s.size : Int)) = true := by simp; omega
        go_wp2_with fail
        refine (text_long _ s wr hlong).mono ?_
        rintro e w2 ⟨rfl, rfl⟩
        go_wp2_with fail
        go_ret
        exact ⟨rfl, HB.out⟩
      · go_wp2_with fail
        refine (text_c _ (encR ss zs l1 i) s wr HS.out (by omega) (by omega)).mono ?_
        rintro e w2 ⟨v2, rfl, ho2, hb2⟩
        have HB2 := Lib.hid (below_trans HB.out hb2)
        have HO2 := Lib.hid ho2.sl
        have HAll2 : Hid (∀ j, j < i + 1 → (ss.getD j ⟨#[]⟩).size ≤ 65536) := fun j hj => by
          by_cases e : j = i
          · subst e; rw [← HSS.out]; omega
          · exact HAll.out j (by omega)
        have htx : tx ss i = vn s.size ++ bytesOf s := by unfold tx; rw [← HSS.out]
        have HTx := Lib.hid htx
        have hl2 : Hid ((encR ss zs l1 i ++ (vn s.size ++ bytesOf s)).length ≤ 140737488355328) := by
          have h3 : (vn s.size).length ≤ 10 := vn_len10 (by omega)
          show _ ≤ _
          simp only [List.length_append, bytesOf_length]
          omega
        clear ho2 hb2 HS HB HAll htx hlong hlm
        by_cases hi1 : i < l1
        · have hd3 : decide (i < l1) = true := by simpa using hi1
          have hii1 : (i : Int) < (l1 : Int) := by omega
          obtain ⟨b1, o1, rfl, hbl1, hcell1⟩ := Ints_at R1.out hi1
          obtain ⟨z, hz⟩ : ∃ z, z = zs.getD i 0 := ⟨_, rfl⟩
          have hzr := HZ.out i
          rw [← hz] at hcell1 hzr
          have hc1 : w2.cell? ⟨b1, o1 + i, none⟩ = some (.int .i64 z) := (HB2.out.cell (p := ⟨b1, o1 + i, none⟩) hbl1).trans hcell1
          have HNm : Hid (nm zs l1 i = vn (zz z)) := by show _ = _; unfold nm; rw [if_pos hi1, ← hz]
          have HZR := Lib.hid hzr
          clear hcell1 hz hzr
          go_wp2_with fail
          refine (int_c _ _ z w2 HO2.out hl2.out HZR.out.2 HZR.out.1).mono ?_
          rintro e w3 ⟨g3, n3, rfl, hn3, hg3, hk3, hb3⟩
          have HB3 := Lib.hid (below_trans HB2.out hb3)
          have HS3 : Hid (SlB w3 (.slice (some ⟨g3, 0, none⟩) n3 n3) (encR ss zs l1 (i + 1))) := by
            have h1 : encR ss zs l1 (i + 1) = encR ss zs l1 i ++ (vn s.size ++ bytesOf s) ++ vn (zz z) := by
              rw [encR, HTx.out, HNm.out]
              simp only [List.append_assoc]
            show SlB _ _ _
            rw [h1]
            refine (OwnB.blk (base := 0) hk3 (Nat.zero_le _) hn3 ?_).sl
            have h3 : (vn (zz z)).length ≤ 10 := vn_len10 (zz_lt HZR.out.2 HZR.out.1)
            have := hl2.out
            rw [List.length_append]
            unfold maxLen
            omega
          clear hn3 hg3 hk3 hb3 hc1
          go_wp2_with fail
          go_roundg gk
          case measure => omega
          case rel => exact ⟨i + 1, by omega, rfl, HS3.out, HB3.out, HAll2.out⟩
        · have hd3 : decide (i < l1) = false := by simpa using hi1
          have HS3 : Hid (SlB w2 v2 (encR ss zs l1 (i + 1))) := by
            have h1 : encR ss zs l1 (i + 1) = encR ss zs l1 i ++ (vn s.size ++ bytesOf s) := by
              rw [encR, HTx.out, nm, if_neg hi1, List.append_nil]
            show SlB _ _ _
            rw [h1]
            exact HO2.out
          go_wp2_with fail
          go_roundg gk
          case measure => omega
          case rel => exact ⟨i + 1, by omega, rfl, HS3.out, HB2.out, HAll2.out⟩

end Go.Proofs.YtmddhlpkanjffaaDoor

/- The contract of LinkParts. -/
import Derived.Test.YtmlbhlfjaagcaaaDoorNewerWalk
import Derived.Test.YtmlbhlfjaagcaaaDoorLFr
namespace Go.Proofs.YtmlbhlfjaagcaaaDoor
open Go.RowKit

structure PtSt (w : World) (x : Lk) (s : LS) (wr : World) : Prop where
  one : One w wr x s

theorem parts_sum (s : LS) (b : List Nat) (k : Nat) : (min (200 * k) b.length : Nat) + (dgram s b k).length - 15 = min (200 * (k + 1)) b.length := by
  rw [dgram_len, cut_len]; omega

set_option maxHeartbeats 8000000 in
set_option maxRecDepth 100000 in
theorem parts_c (f : Int) (a : Option Addr) (len cap : Nat) (bss : List (List Nat)) (w : World) (ht : Tab w) (hr : RowsArg w a len bss) (hl : len ≤ 140737488351232) :
    Calls Tryd.prog 7 #[.int .i64 f, .slice a len cap] w fun e w' => e = .returned (.bool true) ∧ Below w.heap.size w w' := by
  have HT := Lib.hid ht
  have HR := Lib.hid hr
  clear ht hr
  obtain ⟨p, hp⟩ : ∃ p : Nat, p = (f % 65536).toNat := ⟨_, rfl⟩
  have hf1 : bits .and .i64 f 65535 = (p : Int) := by rw [i64_and16]; omega
  have HP := Lib.hid hp
  clear hp
  go_enter Tryd.func7, Tryd.ntmps7
  go_wp2_with fail
  refine (awake_c w HT.out).mono ?_
  rintro e w1 ⟨rfl, hb1⟩
  have HB1 := Lib.hid hb1
  clear hb1
  go_wp2_with fail
  refine (new1_c w w1 f HB1.out).mono ?_
  rintro e w2 ⟨x, rfl, hx, _, _⟩
  rw [← HP.out] at hx
  have S0 : One w w2 x (LS.new p) := hx
  clear hx
  go_wp2_with fail
  clear hf1
  go_loopg [7, 8] 40 (fun gg s7 s8 wr => ∃ (i : Nat) (s : LS), i + gg = 40 ∧ i ≤ len ∧ s8 = .int .i64 (i : Int) ∧ s7 = .int .i64 (s.next : Int) ∧ One w wr x s)
  case atStart => exact ⟨0, LS.new p, rfl, Nat.zero_le _, rfl, rfl, S0⟩
  case round =>
    obtain ⟨i, s, hig, hil, rfl, rfl, hx⟩ := hrel
    have HX := Lib.hid hx
    clear hx S0
    rcases Nat.lt_or_ge i len with hlt | hge
    · cases gk with
      | zero =>
        obtain rfl : i = 40 := by omega
        have hd1 : decide (((40 : Nat) : Int) < (len : Int)) = true := by simp; omega
        have hd2 : decide (((40 : Nat) : Int) < 40) = false := by decide
        have hd3 : decide (40 < len) = true := by simp; omega
        go_wp2_with fail
        go_ret
        exact ⟨rfl, HX.out.below⟩
      | succ gk =>
        have hd1 : decide (i < len) = true := by simp; omega
        have hd2 : decide ((i : Int) < 40) = true := by simp; omega
        obtain ⟨bb, oo, rfl, hbb, hat⟩ := HR.out.at_ (by omega)
        have hib : i < bss.length := by rw [HR.out.size]; exact hlt
        obtain ⟨A, c, hcell, hsl⟩ := hat i bss[i] (List.getElem?_eq_getElem hib)
        obtain ⟨hby, hbl⟩ := HR.out.byte bss[i] (List.getElem_mem hib)
        generalize bss[i] = b at *
        have hc1 : wr.cell? ⟨bb, oo + i, none⟩ = some (.slice A b.length c) := (HX.out.below.cell (p := ⟨bb, oo + i, none⟩) hbb).trans hcell
        have HSl := Lib.hid (hsl.below HX.out.below)
        have HBy := Lib.hid hby
        have HC := Lib.hid hcell
        have HBB := Lib.hid hbb
        have hi1 : (0 : Int) ≤ (i : Int) := by omega
        have hi2 : (i : Int) < (len : Int) := by omega
        have hi3 : (i : Int) < 40 := by omega
        clear hat hsl hby hcell hbb hib
        go_wp2_with fail
        refine (send1_c _ b HX.out HSl.out (HT.out.below HX.out.below) HBy.out).mono ?_
        rintro e w3 (⟨h1, rfl, rfl⟩ | ⟨h1, v3, gs, rfl, h2, h3, h4, h5⟩)
        · have hd3 : decide ((b.length : Int) ≤ 2000) = false := by simp; omega
          clear h1
          go_wp2_with fail
          go_roundg gk
          case measure => omega
          case rel => exact ⟨i + 1, s, by omega, by omega, by go_num, rfl, HX.out⟩
        · have hd3 : decide ((b.length : Int) ≤ 2000) = true := by simp; omega
          have hmk := many_pos b.length
          have hml := many_le h1
          have hnx := HX.out.ok.next
          have hv3 : ∃ r cc, v3 = .slice (some ⟨r, 0, none⟩) (manyN b.length) cc := by
            obtain ⟨r, cc, e, _⟩ := h2.form (by omega)
            exact ⟨r, cc, e⟩
          obtain ⟨r, cc, rfl⟩ := hv3
          have hcells : ∀ k, k < manyN b.length → ∃ g, w3.cell? ⟨r, k, none⟩ = some (.slice (some ⟨g, 0, none⟩) (dgram s b k).length (dgram s b k).length) := by
            intro k hk
            obtain ⟨g, r', c', e, hc, _⟩ := row_at h2 h3 (j := k) (d := dgram s b k) (by simp [dgrams, hk])
            injection e with e
            injection e with e
            injection e with e
            subst e
            exact ⟨g, hc⟩
          have hc3 : w3.cell? ⟨bb, oo + i, none⟩ = some (.slice A b.length c) := (h4.below.cell (p := ⟨bb, oo + i, none⟩) HBB.out).trans HC.out
          have HX3 := Lib.hid h4
          have HCe := Lib.hid hcells
          have e1 : (b.length : Int) + 200 - 1 = ((b.length + 199 : Nat) : Int) := by omega
          obtain ⟨q, hq⟩ : ∃ q : Nat, q = (b.length + 199) / 200 := ⟨_, rfl⟩
          have e3 : ((b.length : Int) + 200 - 1).tdiv 200 = (q : Int) := by rw [e1, hq]; rfl
          have e4 : ((b.length : Int) + 200 - 1) / 200 = (q : Int) := by rw [e1, hq]; rfl
          have e5 : (if (1 : Int) < (q : Int) then (q : Int) else 1) = (manyN b.length : Int) := by
            unfold manyN; rw [← hq]; split <;> omega
          have hql : q ≤ 10 := by omega
          have hbl2 : (b.length : Int) ≤ 2000 := by omega
          have HM : Hid (200 * manyN b.length ≥ b.length) := by show _ ≥ _; unfold manyN; omega
          have HSn : Hid (s.sendS.next = (s.next + 1) % 65536) := rfl
          clear hq e1 h1 h2 h3 h4 h5 hcells HX HSl HBy hc1
          generalize hmn : manyN b.length = mn at *
          have HMn := Lib.hid hmn
          clear hmn
          go_wp2_with fail
          clear e3 e4 e5
          go_loopg [13, 14] mn (fun gg s13 s14 wz => ∃ k : Nat, k + gg = mn ∧ s14 = .int .i64 (k : Int) ∧ s13 = .int .i64 ((min (200 * k) b.length : Nat) : Int) ∧ wz = w3)
          case atStart => exact ⟨0, by omega, rfl, by simp, rfl⟩
          case round =>
            obtain ⟨k, hkg, rfl, rfl, rfl⟩ := hrel
            cases gk with
            | zero =>
              obtain rfl : k = mn := by omega
              have hdk : decide (k < k) = false := by simp
              have hsum : min (200 * k) b.length = b.length := by have := HM.out; omega
              rw [hsum]
              have hb1 : ((s.next : Int) != (s.next : Int)) = false := by simp
              have hb2 : ((k : Int) != (k : Int)) = false := by simp
              have hb3 : ((b.length : Int) != (b.length : Int)) = false := by simp
              have en : bits .and .i64 ((s.next : Int) + 1) 65535 = (s.sendS.next : Int) := by rw [i64_and16, HSn.out]; omega
              clear hsum
              go_wp2_with fail
              go_roundg gk
              case measure => omega
              case rel => exact ⟨i + 1, s.sendS, by omega, by omega, by go_num, rfl, HX3.out⟩
            | succ gk2 =>
              have hdk : decide (k < mn) = true := by simp; omega
              obtain ⟨g, hck⟩ := HCe.out k (by omega)
              have hst := parts_sum s b k
              have hdl := dgram_len s b k
              have hcl : (cutN b k).length ≤ 200 := by rw [cut_len]; omega
              obtain ⟨y, hy⟩ : ∃ y, y = min (200 * k) b.length := ⟨_, rfl⟩
              obtain ⟨z, hz⟩ : ∃ z, z = min (200 * (k + 1)) b.length := ⟨_, rfl⟩
              rw [← hy, ← hz] at hst
              rw [← hy]
              have hyl : y ≤ 2000 := by omega
              generalize (dgram s b k).length = dl at *
              have ez : (y : Int) + (dl : Int) - 15 = (z : Int) := by omega
              have hdl2 : dl ≤ 215 := by omega
              have HZ := Lib.hid hz
              have hki : (k : Int) < (mn : Int) := by omega
              have hk0 : (0 : Int) ≤ (k : Int) := by omega
              clear hst hdl hy hz hcl
              go_wp2_with fail
              go_roundg gk2
              case measure => omega
              case rel => exact ⟨k + 1, by omega, by go_num, by rw [← HZ.out], rfl⟩
    · obtain rfl : i = len := by omega
      have hd1 : decide (i < i) = false := by simp
      go_wp2_with fail
      go_ret
      exact ⟨rfl, HX.out.below⟩

end Go.Proofs.YtmlbhlfjaagcaaaDoor

/- The program's look at names: letter, digit, name, Word, Name. The program's look at names: name, Name. The program's look at types, variables, instructions: isType, validValue, validGlob, validInstr. The program's every: whether a row is right throughout. The program's look at functions and images: slices.Equal, validLocals, validFn, valid. The program's look at functions and images: validFn, every over functions, valid. -/
import Derived.Test.YtebdjahcahgafaaDoorINam
import Derived.BigQuiet
import Derived.Test.YtebdjahcahgafaaDoorIOkM
import Derived.Deep.QuietTactic
namespace Go.Proofs.YtebdjahcahgafaaDoor
open Go.RowKit

theorem qdigit_c (x : Nat) (w : World) : Calls Tryd.prog 105 #[.int .u8 (x : Int)] w fun e w' => e = .returned (.bool (digitB x)) ∧ w' = w := by
  by_cases h1 : 48 ≤ x
  · by_cases h2 : x ≤ 57
    · have e0 : digitB x = true := by unfold digitB; simp [h1, h2]
      rw [e0]
      have i1 : (48 : Int) ≤ (x : Int) := by omega
      have i2 : (x : Int) ≤ 57 := by omega
      clear h1 h2 e0
      go_enter Tryd.func105, Tryd.ntmps105
      go_wp2_with fail
      go_ret
      exact ⟨rfl, rfl⟩
    · have e0 : digitB x = false := by unfold digitB; simp [h2]
      rw [e0]
      have i1 : (48 : Int) ≤ (x : Int) := by omega
      have i2 : decide ((x : Int) ≤ 57) = false := by simp; omega
      clear h1 h2 e0
      go_enter Tryd.func105, Tryd.ntmps105
      go_wp2_with fail
      go_ret
      exact ⟨rfl, rfl⟩
  · have e0 : digitB x = false := by unfold digitB; simp [h1]
    rw [e0]
    have i1 : (x : Int) < 48 := by omega
    clear h1 e0
    go_enter Tryd.func105, Tryd.ntmps105
    go_wp2_with fail
    go_ret
    exact ⟨rfl, rfl⟩

theorem qletter_c (x : Nat) (w : World) : Calls Tryd.prog 104 #[.int .u8 (x : Int)] w fun e w' => e = .returned (.bool (letterB x)) ∧ w' = w := by
  by_cases h1 : 97 ≤ x
  · by_cases h2 : x ≤ 122
    · have e0 : letterB x = true := by unfold letterB; simp [h1, h2]
      rw [e0]
      have i1 : (97 : Int) ≤ (x : Int) := by omega
      have i2 : (x : Int) ≤ 122 := by omega
      clear h1 h2 e0
      go_enter Tryd.func104, Tryd.ntmps104
      go_wp2_with fail
      go_ret
      exact ⟨rfl, rfl⟩
    · have e0 : letterB x = false := by unfold letterB; simp [h2]; omega
      rw [e0]
      have i1 : (97 : Int) ≤ (x : Int) := by omega
      have i2 : decide ((x : Int) ≤ 122) = false := by simp; omega
      have i3 : ((x : Int) == 95) = false := by simp; omega
      clear h1 h2 e0
      go_enter Tryd.func104, Tryd.ntmps104
      go_wp2_with fail
      go_ret
      exact ⟨rfl, rfl⟩
  · have i1 : (x : Int) < 97 := by omega
    by_cases h3 : x = 95
    · have e0 : letterB x = true := by unfold letterB; simp [h3]
      rw [e0]
      have i3 : ((x : Int) == 95) = true := by simp; omega
      clear h1 h3 e0
      go_enter Tryd.func104, Tryd.ntmps104
      go_wp2_with fail
      go_ret
      exact ⟨rfl, rfl⟩
    · have e0 : letterB x = false := by unfold letterB; simp [h1, h3]
      rw [e0]
      have i3 : ((x : Int) == 95) = false := by simp; omega
      clear h1 h3 e0
      go_enter Tryd.func104, Tryd.ntmps104
      go_wp2_with fail
      go_ret
      exact ⟨rfl, rfl⟩

theorem qword_mem {s t : ByteArray} (h : s = t) (ht : wordB (bytesOf t) = true) : Hid (wordB (bytesOf s) = true) := by subst h; exact ht

set_option maxHeartbeats 2000000 in
set_option maxRecDepth 100000 in
theorem qword_c (s : ByteArray) (w : World) : Calls Tryd.prog 106 #[.string s] w fun e w' => e = .returned (.bool (wordB (bytesOf s))) ∧ w' = w := by
  generalize hres : wordB (bytesOf s) = res
  have HR := Lib.hid hres
  by_cases h0 : s = ((⟨#[98, 111, 111, 108]⟩ : ByteArray))
  · obtain rfl : res = true := by rw [← HR.out]; exact (qword_mem h0 (by kernel_rfl)).out
    have e0 : (s.toList == ([98, 111, 111, 108] : List UInt8)) = true := by rw [h0]; kernel_rfl
    clear hres h0
    go_enter Tryd.func106, Tryd.ntmps106
    go_wp2_with fail
    go_ret
    exact ⟨rfl, rfl⟩
  have e0 : (s.toList == ([98, 111, 111, 108] : List UInt8)) = false := by
    have := str_ne h0
    rwa [show ((⟨#[98, 111, 111, 108]⟩ : ByteArray)).toList = [98, 111, 111, 108] by kernel_rfl] at this
  by_cases h1 : s = ((⟨#[101, 108, 115, 101]⟩ : ByteArray))
  · obtain rfl : res = true := by rw [← HR.out]; exact (qword_mem h1 (by kernel_rfl)).out
    have e1 : (s.toList == ([101, 108, 115, 101] : List UInt8)) = true := by rw [h1]; kernel_rfl
    clear hres h1
    go_enter Tryd.func106, Tryd.ntmps106
    go_wp2_with fail
    go_ret
    exact ⟨rfl, rfl⟩
  have e1 : (s.toList == ([101, 108, 115, 101] : List UInt8)) = false := by
    have := str_ne h1
    rwa [show ((⟨#[101, 108, 115, 101]⟩ : ByteArray)).toList = [101, 108, 115, 101] by kernel_rfl] at this
  by_cases h2 : s = ((⟨#[101, 110, 116]⟩ : ByteArray))
  · obtain rfl : res = true := by rw [← HR.out]; exact (qword_mem h2 (by kernel_rfl)).out
    have e2 : (s.toList == ([101, 110, 116] : List UInt8)) = true := by rw [h2]; kernel_rfl
    clear hres h2
    go_enter Tryd.func106, Tryd.ntmps106
    go_wp2_with fail
    go_ret
    exact ⟨rfl, rfl⟩
  have e2 : (s.toList == ([101, 110, 116] : List UInt8)) = false := by
    have := str_ne h2
    rwa [show ((⟨#[101, 110, 116]⟩ : ByteArray)).toList = [101, 110, 116] by kernel_rfl] at this
  by_cases h3 : s = ((⟨#[102, 97, 108, 115, 101]⟩ : ByteArray))
  · obtain rfl : res = true := by rw [← HR.out]; exact (qword_mem h3 (by kernel_rfl)).out
    have e3 : (s.toList == ([102, 97, 108, 115, 101] : List UInt8)) = true := by rw [h3]; kernel_rfl
    clear hres h3
    go_enter Tryd.func106, Tryd.ntmps106
    go_wp2_with fail
    go_ret
    exact ⟨rfl, rfl⟩
  have e3 : (s.toList == ([102, 97, 108, 115, 101] : List UInt8)) = false := by
    have := str_ne h3
    rwa [show ((⟨#[102, 97, 108, 115, 101]⟩ : ByteArray)).toList = [102, 97, 108, 115, 101] by kernel_rfl] at this
  by_cases h4 : s = ((⟨#[102, 105, 120]⟩ : ByteArray))
  · obtain rfl : res = true := by rw [← HR.out]; exact (qword_mem h4 (by kernel_rfl)).out
    have e4 : (s.toList == ([102, 105, 120] : List UInt8)) = true := by rw [h4]; kernel_rfl
    clear hres h4
    go_enter Tryd.func106, Tryd.ntmps106
    go_wp2_with fail
    go_ret
    exact ⟨rfl, rfl⟩
  have e4 : (s.toList == ([102, 105, 120] : List UInt8)) = false := by
    have := str_ne h4
    rwa [show ((⟨#[102, 105, 120]⟩ : ByteArray)).toList = [102, 105, 120] by kernel_rfl] at this
  by_cases h5 : s = ((⟨#[102, 110]⟩ : ByteArray))
  · obtain rfl : res = true := by rw [← HR.out]; exact (qword_mem h5 (by kernel_rfl)).out
    have e5 : (s.toList == ([102, 110] : List UInt8)) = true := by rw [h5]; kernel_rfl
    clear hres h5
    go_enter Tryd.func106, Tryd.ntmps106
    go_wp2_with fail
    go_ret
    exact ⟨rfl, rfl⟩
  have e5 : (s.toList == ([102, 110] : List UInt8)) = false := by
    have := str_ne h5
    rwa [show ((⟨#[102, 110]⟩ : ByteArray)).toList = [102, 110] by kernel_rfl] at this
  by_cases h6 : s = ((⟨#[105, 102]⟩ : ByteArray))
  · obtain rfl : res = true := by rw [← HR.out]; exact (qword_mem h6 (by kernel_rfl)).out
    have e6 : (s.toList == ([105, 102] : List UInt8)) = true := by rw [h6]; kernel_rfl
    clear hres h6
    go_enter Tryd.func106, Tryd.ntmps106
    go_wp2_with fail
    go_ret
    exact ⟨rfl, rfl⟩
  have e6 : (s.toList == ([105, 102] : List UInt8)) = false := by
    have := str_ne h6
    rwa [show ((⟨#[105, 102]⟩ : ByteArray)).toList = [105, 102] by kernel_rfl] at this
  by_cases h7 : s = ((⟨#[105, 110, 116]⟩ : ByteArray))
  · obtain rfl : res = true := by rw [← HR.out]; exact (qword_mem h7 (by kernel_rfl)).out
    have e7 : (s.toList == ([105, 110, 116] : List UInt8)) = true := by rw [h7]; kernel_rfl
    clear hres h7
    go_enter Tryd.func106, Tryd.ntmps106
    go_wp2_with fail
    go_ret
    exact ⟨rfl, rfl⟩
  have e7 : (s.toList == ([105, 110, 116] : List UInt8)) = false := by
    have := str_ne h7
    rwa [show ((⟨#[105, 110, 116]⟩ : ByteArray)).toList = [105, 110, 116] by kernel_rfl] at this
  by_cases h8 : s = ((⟨#[108, 101, 116]⟩ : ByteArray))
  · obtain rfl : res = true := by rw [← HR.out]; exact (qword_mem h8 (by kernel_rfl)).out
    have e8 : (s.toList == ([108, 101, 116] : List UInt8)) = true := by rw [h8]; kernel_rfl
    clear hres h8
    go_enter Tryd.func106, Tryd.ntmps106
    go_wp2_with fail
    go_ret
    exact ⟨rfl, rfl⟩
  have e8 : (s.toList == ([108, 101, 116] : List UInt8)) = false := by
    have := str_ne h8
    rwa [show ((⟨#[108, 101, 116]⟩ : ByteArray)).toList = [108, 101, 116] by kernel_rfl] at this
  by_cases h9 : s = ((⟨#[110, 117, 108, 108]⟩ : ByteArray))
  · obtain rfl : res = true := by rw [← HR.out]; exact (qword_mem h9 (by kernel_rfl)).out
    have e9 : (s.toList == ([110, 117, 108, 108] : List UInt8)) = true := by rw [h9]; kernel_rfl
    clear hres h9
    go_enter Tryd.func106, Tryd.ntmps106
    go_wp2_with fail
    go_ret
    exact ⟨rfl, rfl⟩
  have e9 : (s.toList == ([110, 117, 108, 108] : List UInt8)) = false := by
    have := str_ne h9
    rwa [show ((⟨#[110, 117, 108, 108]⟩ : ByteArray)).toList = [110, 117, 108, 108] by kernel_rfl] at this
  by_cases h10 : s = ((⟨#[114, 101, 116, 117, 114, 110]⟩ : ByteArray))
  · obtain rfl : res = true := by rw [← HR.out]; exact (qword_mem h10 (by kernel_rfl)).out
    have e10 : (s.toList == ([114, 101, 116, 117, 114, 110] : List UInt8)) = true := by rw [h10]; kernel_rfl
    clear hres h10
    go_enter Tryd.func106, Tryd.ntmps106
    go_wp2_with fail
    go_ret
    exact ⟨rfl, rfl⟩
  have e10 : (s.toList == ([114, 101, 116, 117, 114, 110] : List UInt8)) = false := by
    have := str_ne h10
    rwa [show ((⟨#[114, 101, 116, 117, 114, 110]⟩ : ByteArray)).toList = [114, 101, 116, 117, 114, 110] by kernel_rfl] at this
  by_cases h11 : s = ((⟨#[116, 114, 117, 101]⟩ : ByteArray))
  · obtain rfl : res = true := by rw [← HR.out]; exact (qword_mem h11 (by kernel_rfl)).out
    have e11 : (s.toList == ([116, 114, 117, 101] : List UInt8)) = true := by rw [h11]; kernel_rfl
    clear hres h11
    go_enter Tryd.func106, Tryd.ntmps106
    go_wp2_with fail
    go_ret
    exact ⟨rfl, rfl⟩
  have e11 : (s.toList == ([116, 114, 117, 101] : List UInt8)) = false := by
    have := str_ne h11
    rwa [show ((⟨#[116, 114, 117, 101]⟩ : ByteArray)).toList = [116, 114, 117, 101] by kernel_rfl] at this
  by_cases h12 : s = ((⟨#[118, 97, 114]⟩ : ByteArray))
  · obtain rfl : res = true := by rw [← HR.out]; exact (qword_mem h12 (by kernel_rfl)).out
    have e12 : (s.toList == ([118, 97, 114] : List UInt8)) = true := by rw [h12]; kernel_rfl
    clear hres h12
    go_enter Tryd.func106, Tryd.ntmps106
    go_wp2_with fail
    go_ret
    exact ⟨rfl, rfl⟩
  have e12 : (s.toList == ([118, 97, 114] : List UInt8)) = false := by
    have := str_ne h12
    rwa [show ((⟨#[118, 97, 114]⟩ : ByteArray)).toList = [118, 97, 114] by kernel_rfl] at this
  by_cases h13 : s = ((⟨#[119, 104, 105, 108, 101]⟩ : ByteArray))
  · obtain rfl : res = true := by rw [← HR.out]; exact (qword_mem h13 (by kernel_rfl)).out
    have e13 : (s.toList == ([119, 104, 105, 108, 101] : List UInt8)) = true := by rw [h13]; kernel_rfl
    clear hres h13
    go_enter Tryd.func106, Tryd.ntmps106
    go_wp2_with fail
    go_ret
    exact ⟨rfl, rfl⟩
  have e13 : (s.toList == ([119, 104, 105, 108, 101] : List UInt8)) = false := by
    have := str_ne h13
    rwa [show ((⟨#[119, 104, 105, 108, 101]⟩ : ByteArray)).toList = [119, 104, 105, 108, 101] by kernel_rfl] at this
  have HW : Hid (res = false) := by
    show _ = _
    rw [← HR.out, ← word_in, ← Bool.not_eq_true, inS_iff]
    have : wordS = [⟨#[98, 111, 111, 108]⟩, ⟨#[101, 108, 115, 101]⟩, ⟨#[101, 110, 116]⟩, ⟨#[102, 97, 108, 115, 101]⟩, ⟨#[102, 105, 120]⟩, ⟨#[102, 110]⟩, ⟨#[105, 102]⟩, ⟨#[105, 110, 116]⟩, ⟨#[108, 101, 116]⟩, ⟨#[110, 117, 108, 108]⟩, ⟨#[114, 101, 116, 117, 114, 110]⟩, ⟨#[116, 114, 117, 101]⟩, ⟨#[118, 97, 114]⟩, ⟨#[119, 104, 105, 108, 101]⟩] := by kernel_rfl
    rw [this]
    simp only [List.mem_cons, List.not_mem_nil, or_false, not_or]
    exact ⟨h0, h1, h2, h3, h4, h5, h6, h7, h8, h9, h10, h11, h12, h13⟩
  obtain rfl : res = false := HW.out
  clear hres h0 h1 h2 h3 h4 h5 h6 h7 h8 h9 h10 h11 h12 h13 HW HR
  go_enter Tryd.func106, Tryd.ntmps106
  go_wp2_with fail
  go_ret
  exact ⟨rfl, rfl⟩

/-- What name answers: a kind and a size. -/
def nameA (s : ByteArray) : Int × Nat := if nameN (bytesOf s) < 1 ∨ 24 < nameN (bytesOf s) then (0, 0) else if wordB ((bytesOf s).take (nameN (bytesOf s))) = true then (2, nameN (bytesOf s)) else (1, nameN (bytesOf s))

theorem strOf_take (s : ByteArray) (n : Nat) : bytesOf (s.extract 0 n) = (bytesOf s).take n := by
  unfold bytesOf
  rw [← List.map_take]
  congr 1
  simp [ByteArray.extract, ByteArray.copySlice]

theorem name_eq (s : ByteArray) : (decide ((nameA s).1 = 1) && decide ((nameA s).2 = s.size)) = nameK s := by
  have hl := bytesOf_length s
  unfold nameA nameK
  by_cases h1 : nameN (bytesOf s) < 1 ∨ 24 < nameN (bytesOf s)
  · rw [if_pos h1]
    by_cases h2 : nameN (bytesOf s) = s.size
    · rcases h1 with h1 | h1
      · have : decide (1 ≤ s.size) = false := by rw [decide_eq_false_iff_not]; omega
        rw [this]; simp
      · have : decide (s.size ≤ 24) = false := by rw [decide_eq_false_iff_not]; omega
        rw [this]; simp
    · rw [decide_eq_false h2]; simp
  · rw [if_neg h1]
    by_cases h2 : nameN (bytesOf s) = s.size
    · rw [h2, ← hl, List.take_length]
      have a1 : 1 ≤ (bytesOf s).length := by omega
      have a2 : (bytesOf s).length ≤ 24 := by omega
      cases hw : wordB (bytesOf s)
      · simp [a1, a2]
      · simp
    · have e : ∀ k : Int, (if wordB ((bytesOf s).take (nameN (bytesOf s))) = true then ((2 : Int), nameN (bytesOf s)) else (1, nameN (bytesOf s))).2 = nameN (bytesOf s) := by
        intro k; split <;> rfl
      rw [e 0, decide_eq_false h2]; simp

set_option maxHeartbeats 2000000 in
set_option maxRecDepth 100000 in
theorem qname_c (s : ByteArray) (w : World) (hs : s.size ≤ 281474976710656) : Calls Tryd.prog 90 #[.string s] w fun e w' => e = .returned (.tuple #[.int .i64 (nameA s).1, .int .i64 ((nameA s).2 : Int)]) ∧ w' = w := by
  have hle := name_le (bytesOf s)
  rw [bytesOf_length] at hle
  have HL := Lib.hid hle
  clear hle
  go_enter Tryd.func90, Tryd.ntmps90
  go_wp2_with fail
  go_loopg [3, 4, 5, 6, 7, 8, 9, 10, 11, 12, 13, 14, 15, 16, 17, 18, 19, 20, 21, 22, 23, 24, 25] s.size (fun gg s3 _ _ _ _ _ _ _ _ _ _ _ _ _ _ _ _ _ _ _ _ _ _ wr => ∃ k : Nat, k + gg = s.size ∧ s3 = .int .i64 (k : Int) ∧ Hid (k ≤ nameN (bytesOf s)) ∧ wr = w)
  case atStart => exact ⟨0, by omega, rfl, Nat.zero_le _, rfl⟩
  case round =>
    obtain ⟨k, hk, rfl, HK, rfl⟩ := hrel
    cases gk with
    | zero =>
      obtain rfl : k = s.size := by omega
      clear hk
      have HN : Hid (nameN (bytesOf s) = s.size) := Nat.le_antisymm HL.out HK.out
      obtain ⟨k, ek⟩ : ∃ k, k = s.size := ⟨_, rfl⟩
      rw [← ek] at HN
      have hd : ¬ k < s.size := by omega
      have hkle : k ≤ s.size := by omega
      rw [← ek]
      clear ek HK HL
      by_cases h1 : k < 1
      · have i1 : (k : Int) < 1 := by omega
        have HA : Hid (nameA s = (0, 0)) := by show _ = _; unfold nameA; rw [HN.out, if_pos (.inl h1)]
        clear h1 HN
        go_wp2_with fail
        go_ret2
        exact ⟨by rw [HA.out]; rfl, rfl⟩
      have i1 : decide ((k : Int) < 1) = false := by simp; omega
      by_cases h2 : 24 < k
      · have i2 : decide (24 < (k : Int)) = true := by simp; omega
        have HA : Hid (nameA s = (0, 0)) := by show _ = _; unfold nameA; rw [HN.out, if_pos (.inr h2)]
        clear h1 h2 HN
        go_wp2_with fail
        go_ret2
        exact ⟨by rw [HA.out]; rfl, rfl⟩
      have i2 : decide (24 < (k : Int)) = false := by simp; omega
      have HA : Hid (nameA s = if wordB ((bytesOf s).take k) = true then (2, k) else (1, k)) := by show _ = _; unfold nameA; rw [HN.out, if_neg (by omega)]
      have HW := Lib.hid (qword_c (s.extract 0 k) wr)
      rw [strOf_take] at HW
      generalize wordB ((bytesOf s).take k) = bw at *
      clear h1 h2 HN
      go_wp2_with fail
      refine HW.out.mono ?_
      rintro e w1 ⟨rfl, rfl⟩
      cases bw with
      | true =>
        go_wp2_with fail
        go_ret2
        exact ⟨by rw [HA.out]; rfl, rfl⟩
      | false =>
        go_wp2_with fail
        go_ret2
        exact ⟨by rw [HA.out]; rfl, rfl⟩

    | succ gk =>
      have hlt : k < s.size := by omega
      have hc := bytesOf_at hlt
      have hstop := name_stop (bytesOf s) (n := k) HK.out
      rw [hc] at hstop
      have H1 := Lib.hid (qletter_c s[k].toNat wr)
      have H2 := Lib.hid (qdigit_c s[k].toNat wr)
      have HS := Lib.hid hstop
      clear hstop hc
      generalize hl : letterB s[k].toNat = bl at H1
      generalize hd : digitB s[k].toNat = bd at H2
      have HL1 := Lib.hid hl
      have HD1 := Lib.hid hd
      clear hl hd
      have hin : (bl = true ∨ (bd = true ∧ k ≠ 0)) → Hid (k + 1 ≤ nameN (bytesOf s)) := by
        intro h
        refine HS.out.2 ⟨_, rfl, ?_⟩
        rw [HL1.out, HD1.out]
        exact h
      have hout : ¬ (bl = true ∨ (bd = true ∧ k ≠ 0)) → Hid (nameN (bytesOf s) = k) := by
        intro h
        show _ = _
        refine Nat.le_antisymm (Nat.not_lt.1 fun q => ?_) HK.out
        obtain ⟨c, e, h2⟩ := HS.out.1 q
        injection e with e
        subst e
        rw [HL1.out, HD1.out] at h2
        exact h h2
      have HRel : Hid (k + 1 + gk = s.size) := by show _ = _; omega
      have hkle : k ≤ s.size := by omega
      clear HS HL1 HD1 HL HK
      cases bl with
      | true =>
        have HI := hin (.inl rfl)
        clear hin hout H2
        go_wp2_with fail
        refine H1.out.mono ?_
        rintro e w1 ⟨rfl, rfl⟩
        go_wp2_with fail
        go_roundg gk
        case measure => omega
        case rel => exact ⟨k + 1, HRel.out, by push_cast; rfl, HI.out, rfl⟩
      | false =>
        by_cases h0 : k = 0
        · have j0 : ¬ 0 < k := by omega
          have HN := hout (by simp [h0])
          clear hin hout H2 HRel h0
          by_cases h1 : k < 1
          · have i1 : (k : Int) < 1 := by omega
            have HA : Hid (nameA s = (0, 0)) := by show _ = _; unfold nameA; rw [HN.out, if_pos (.inl h1)]
            clear h1 HN
            go_wp2_with fail
            refine H1.out.mono ?_
            rintro e w1 ⟨rfl, rfl⟩
            go_wp2_with fail
            go_ret2
            exact ⟨by rw [HA.out]; rfl, rfl⟩
          have i1 : decide ((k : Int) < 1) = false := by simp; omega
          by_cases h2 : 24 < k
          · have i2 : decide (24 < (k : Int)) = true := by simp; omega
            have HA : Hid (nameA s = (0, 0)) := by show _ = _; unfold nameA; rw [HN.out, if_pos (.inr h2)]
            clear h1 h2 HN
            go_wp2_with fail
            refine H1.out.mono ?_
            rintro e w1 ⟨rfl, rfl⟩
            go_wp2_with fail
            go_ret2
            exact ⟨by rw [HA.out]; rfl, rfl⟩
          have i2 : decide (24 < (k : Int)) = false := by simp; omega
          have HA : Hid (nameA s = if wordB ((bytesOf s).take k) = true then (2, k) else (1, k)) := by show _ = _; unfold nameA; rw [HN.out, if_neg (by omega)]
          have HW := Lib.hid (qword_c (s.extract 0 k) wr)
          rw [strOf_take] at HW
          generalize wordB ((bytesOf s).take k) = bw at *
          clear h1 h2 HN
          go_wp2_with fail
          refine H1.out.mono ?_
          rintro e w1 ⟨rfl, rfl⟩
          go_wp2_with fail
          refine HW.out.mono ?_
          rintro e w1 ⟨rfl, rfl⟩
          cases bw with
          | true =>
            go_wp2_with fail
            go_ret2
            exact ⟨by rw [HA.out]; rfl, rfl⟩
          | false =>
            go_wp2_with fail
            go_ret2
            exact ⟨by rw [HA.out]; rfl, rfl⟩
        have j0 : 0 < k := by omega
        cases bd with
        | true =>
          have HI := hin (.inr ⟨rfl, h0⟩)
          clear hin hout h0
          go_wp2_with fail
          refine H1.out.mono ?_
          rintro e w1 ⟨rfl, rfl⟩
          go_wp2_with fail
          refine H2.out.mono ?_
          rintro e w1 ⟨rfl, rfl⟩
          go_wp2_with fail
          go_roundg gk
          case measure => omega
          case rel => exact ⟨k + 1, HRel.out, by push_cast; rfl, HI.out, rfl⟩
        | false =>
          have HN := hout (by simp)
          clear hin hout h0 HRel
          by_cases h1 : k < 1
          · have i1 : (k : Int) < 1 := by omega
            have HA : Hid (nameA s = (0, 0)) := by show _ = _; unfold nameA; rw [HN.out, if_pos (.inl h1)]
            clear h1 HN
            go_wp2_with fail
            refine H1.out.mono ?_
            rintro e w1 ⟨rfl, rfl⟩
            go_wp2_with fail
            refine H2.out.mono ?_
            rintro e w1 ⟨rfl, rfl⟩
            go_wp2_with fail
            go_ret2
            exact ⟨by rw [HA.out]; rfl, rfl⟩
          have i1 : decide ((k : Int) < 1) = false := by simp; omega
          by_cases h2 : 24 < k
          · have i2 : decide (24 < (k : Int)) = true := by simp; omega
            have HA : Hid (nameA s = (0, 0)) := by show _ = _; unfold nameA; rw [HN.out, if_pos (.inr h2)]
            clear h1 h2 HN
            go_wp2_with fail
            refine H1.out.mono ?_
            rintro e w1 ⟨rfl, rfl⟩
            go_wp2_with fail
            refine H2.out.mono ?_
            rintro e w1 ⟨rfl, rfl⟩
            go_wp2_with fail
            go_ret2
            exact ⟨by rw [HA.out]; rfl, rfl⟩
          have i2 : decide (24 < (k : Int)) = false := by simp; omega
          have HA : Hid (nameA s = if wordB ((bytesOf s).take k) = true then (2, k) else (1, k)) := by show _ = _; unfold nameA; rw [HN.out, if_neg (by omega)]
          have HW := Lib.hid (qword_c (s.extract 0 k) wr)
          rw [strOf_take] at HW
          generalize wordB ((bytesOf s).take k) = bw at *
          clear h1 h2 HN
          go_wp2_with fail
          refine H1.out.mono ?_
          rintro e w1 ⟨rfl, rfl⟩
          go_wp2_with fail
          refine H2.out.mono ?_
          rintro e w1 ⟨rfl, rfl⟩
          go_wp2_with fail
          refine HW.out.mono ?_
          rintro e w1 ⟨rfl, rfl⟩
          cases bw with
          | true =>
            go_wp2_with fail
            go_ret2
            exact ⟨by rw [HA.out]; rfl, rfl⟩
          | false =>
            go_wp2_with fail
            go_ret2
            exact ⟨by rw [HA.out]; rfl, rfl⟩

set_option maxHeartbeats 2000000 in
set_option maxRecDepth 100000 in
theorem qName_c (s : ByteArray) (w : World) (hs : s.size ≤ 281474976710656) : Calls Tryd.prog 68 #[.string s] w fun e w' => e = .returned (.bool (nameK s)) ∧ w' = w := by
  have HE := Lib.hid (name_eq s)
  have H1 := Lib.hid (qname_c s w hs)
  generalize (nameA s).1 = a at *
  generalize (nameA s).2 = n at *
  generalize nameK s = res at *
  go_enter Tryd.func68, Tryd.ntmps68
  go_wp2_with fail
  refine H1.out.mono ?_
  rintro e w1 ⟨rfl, rfl⟩
  clear H1
  by_cases h1 : a = 1
  · have i1 : (a == 1) = true := by simp [h1]
    by_cases h2 : n = s.size
    · have i2 : ((n : Int) == (s.size : Int)) = true := by simp; omega
      obtain rfl : res = true := by rw [← HE.out]; simp [h1, h2]
      clear HE h1 h2
      go_wp2_with fail
      go_ret
      exact ⟨rfl, rfl⟩
    · have i2 : ((n : Int) == (s.size : Int)) = false := by simp; omega
      obtain rfl : res = false := by rw [← HE.out]; simp [h2]
      clear HE h1 h2
      go_wp2_with fail
      go_ret
      exact ⟨rfl, rfl⟩
  · have i1 : (a == 1) = false := by simp [h1]
    obtain rfl : res = false := by rw [← HE.out]; simp [h1]
    clear HE h1
    go_wp2_with fail
    go_ret
    exact ⟨rfl, rfl⟩

theorem qtype_c (t : Int) (w : World) : Calls Tryd.prog 66 #[.int .i64 t] w fun e w' => e = .returned (.bool (typeK t)) ∧ w' = w := by
  unfold typeK
  by_cases h : 1 ≤ t
  · have d1 : decide (1 ≤ t) = true := decide_eq_true h
    rw [d1, Bool.true_and]
    generalize hq : decide (t ≤ 4) = q
    go_enter Tryd.func66, Tryd.ntmps66
    go_wp2_with fail
    go_ret
    exact ⟨rfl, rfl⟩
  · have d1 : decide (1 ≤ t) = false := decide_eq_false h
    rw [d1, Bool.false_and]
    go_enter Tryd.func66, Tryd.ntmps66
    go_wp2_with fail
    go_ret
    exact ⟨rfl, rfl⟩

def valK (g : GlobR) : Bool := if g.size ≠ 0 ∨ g.ty = 4 then g.val == 0 else if g.ty = 3 then (g.val == 0 || g.val == 1) else true

set_option maxRecDepth 100000 in
theorem qvalue_c (g : GlobR) (w : World) : Calls Tryd.prog 67 #[globV g] w fun e w' => e = .returned (.bool (valK g)) ∧ Below w.heap.size w w' := by
  obtain ⟨t, z, v⟩ := g
  have HB := Lib.hid ((Below.refl w.heap.size w).alloc (Nat.le_refl _) (.cells #[.int .i64 t, .int .i64 z, .int .i64 v] 48))
  generalize hres : valK ⟨t, z, v⟩ = res
  unfold valK at hres
  simp only at hres
  by_cases h1 : z = 0
  · have d1 : (z == 0) = true := by simp [h1]
    have d1' : (z != 0) = false := by simp [h1]
    by_cases h2 : t = 4
    · have d2 : (t == 4) = true := by simp [h2]
      rw [if_pos (.inr h2)] at hres
      clear h1 h2
      go_enter Tryd.func67, Tryd.ntmps67
      go_wp2_with fail
      go_ret
      exact ⟨rfl, HB.out⟩
    · have d2 : (t == 4) = false := by simp [h2]
      rw [if_neg (by rintro (h | h); exact h h1; exact h2 h)] at hres
      by_cases h3 : t = 3
      · have d3 : (t == 3) = true := by simp [h3]
        rw [if_pos h3] at hres
        by_cases h4 : v = 0
        · have d4 : (v == 0) = true := by simp [h4]
          obtain rfl : res = true := by rw [← hres, d4]; rfl
          clear h1 h2 h3 h4 hres
          go_enter Tryd.func67, Tryd.ntmps67
          go_wp2_with fail
          go_ret
          exact ⟨rfl, HB.out⟩
        · have d4 : (v == 0) = false := by simp [h4]
          rw [d4, Bool.false_or] at hres
          clear h1 h2 h3 h4
          go_enter Tryd.func67, Tryd.ntmps67
          go_wp2_with fail
          go_ret
          exact ⟨rfl, HB.out⟩
      · have d3 : (t == 3) = false := by simp [h3]
        rw [if_neg h3] at hres
        subst hres
        clear h1 h2 h3
        go_enter Tryd.func67, Tryd.ntmps67
        go_wp2_with fail
        go_ret
        exact ⟨rfl, HB.out⟩
  · have d1 : (z == 0) = false := by simp [h1]
    have d1' : (z != 0) = true := by simp [h1]
    rw [if_pos (.inl h1)] at hres
    clear h1
    go_enter Tryd.func67, Tryd.ntmps67
    go_wp2_with fail
    go_ret
    exact ⟨rfl, HB.out⟩

theorem globK_eq (g : GlobR) : globK g = (typeK g.ty && (decide (0 ≤ g.size) && (decide (g.size ≤ 256) && valK g))) := by
  unfold globK valK
  rw [show (!decide (g.size < 0)) = decide (0 ≤ g.size) by rw [← decide_not]; exact decide_eq_decide.2 (by omega), show (!decide (256 < g.size)) = decide (g.size ≤ 256) by rw [← decide_not]; exact decide_eq_decide.2 (by omega)]
  by_cases h : 0 ≤ g.size
  · by_cases h0 : g.size = 0
    · by_cases q : g.ty = 4
      · rw [if_pos (show 0 < g.size ∨ g.ty = 4 from .inr q), if_pos (show g.size ≠ 0 ∨ g.ty = 4 from .inr q)]
      · rw [if_neg (show ¬ (0 < g.size ∨ g.ty = 4) from fun u => u.elim (fun u => by omega) q), if_neg (show ¬ (g.size ≠ 0 ∨ g.ty = 4) from fun u => u.elim (fun u => u h0) q)]
    · rw [if_pos (show 0 < g.size ∨ g.ty = 4 from .inl (by omega)), if_pos (show g.size ≠ 0 ∨ g.ty = 4 from .inl h0)]
  · rw [decide_eq_false h]; simp

set_option maxRecDepth 100000 in
theorem qglob_c (g : GlobR) (w : World) : Calls Tryd.prog 42 #[globV g] w fun e w' => e = .returned (.bool (globK g)) ∧ Below w.heap.size w w' := by
  have HV := Lib.hid (fun w => qvalue_c g w)
  have HT := Lib.hid (fun w => qtype_c g.ty w)
  have HB0 := Lib.hid ((Below.refl w.heap.size w).alloc (Nat.le_refl _) (.cells #[.int .i64 g.ty, .int .i64 g.size, .int .i64 g.val] 48))
  generalize hres : globK g = res
  rw [globK_eq] at hres
  have HR := Lib.hid hres
  clear hres
  generalize valK g = bv at *
  generalize typeK g.ty = bt at *
  obtain ⟨t, z, v⟩ := g
  simp only at HR HT HV HB0
  go_enter Tryd.func42, Tryd.ntmps42
  go_wp2_with fail
  refine (HT.out _).mono ?_
  rintro e w1 ⟨rfl, rfl⟩
  clear HT
  cases bt with
  | false =>
    obtain rfl : res = false := HR.out.symm
    go_wp2_with fail
    go_ret
    exact ⟨rfl, HB0.out⟩
  | true =>
  by_cases h1 : 0 ≤ z
  · by_cases h2 : z ≤ 256
    · obtain rfl : res = bv := by rw [← HR.out]; simp [h1, h2]
      clear HR
      go_wp2_with fail
      refine (HV.out _).mono ?_
      rintro e w2 ⟨rfl, hb⟩
      have HB := Lib.hid (below_trans HB0.out hb)
      clear hb HV
      go_wp2_with fail
      go_ret
      exact ⟨rfl, HB.out⟩
    · obtain rfl : res = false := by rw [← HR.out]; simp [h2]
      have d2 : decide (z ≤ 256) = false := decide_eq_false h2
      clear HR h2
      go_wp2_with fail
      go_ret
      exact ⟨rfl, HB0.out⟩
  · obtain rfl : res = false := by rw [← HR.out]; simp [h1]
    have d1 : decide (0 ≤ z) = false := decide_eq_false h1
    clear HR h1
    go_wp2_with fail
    go_ret
    exact ⟨rfl, HB0.out⟩

theorem insK_eq (i : InsR) : insK i = (decide (1 ≤ i.op) && (decide (i.op ≤ 33) && (i.b == 0 || typeK i.b))) := by
  unfold insK typeK
  rw [show (!decide (i.op < 1)) = decide (1 ≤ i.op) by rw [← decide_not]; exact decide_eq_decide.2 (by omega), show (!decide (33 < i.op)) = decide (i.op ≤ 33) by rw [← decide_not]; exact decide_eq_decide.2 (by omega)]
  congr 2
  by_cases h : i.b = 0
  · simp [h]
  · rw [show (i.b == 0) = false by simp [h], Bool.false_or, show (!decide (4 < i.b)) = decide (i.b ≤ 4) by rw [← decide_not]; exact decide_eq_decide.2 (by omega)]
    congr 1
    rw [← decide_not]; exact decide_eq_decide.2 (by omega)

set_option maxRecDepth 100000 in
theorem qins_c (i : InsR) (w : World) : Calls Tryd.prog 71 #[insV i] w fun e w' => e = .returned (.bool (insK i)) ∧ Below w.heap.size w w' := by
  have HT := Lib.hid (fun w => qtype_c i.b w)
  have HB0 := Lib.hid ((Below.refl w.heap.size w).alloc (Nat.le_refl _) (.cells #[.int .i64 i.op, .int .i64 i.a, .int .i64 i.b] 50))
  generalize hres : insK i = res
  rw [insK_eq] at hres
  have HR := Lib.hid hres
  clear hres
  generalize typeK i.b = bt at *
  obtain ⟨p, a, b⟩ := i
  simp only at HR HT HB0
  by_cases h1 : 1 ≤ p
  · by_cases h2 : p ≤ 33
    · by_cases h3 : b = 0
      · have d3 : (b == 0) = true := by simp [h3]
        obtain rfl : res = true := by rw [← HR.out]; simp [h1, h2, h3]
        clear HR h3
        go_enter Tryd.func71, Tryd.ntmps71
        go_wp2_with fail
        go_ret
        exact ⟨rfl, HB0.out⟩
      · have d3 : (b == 0) = false := by simp [h3]
        obtain rfl : res = bt := by rw [← HR.out]; simp [h1, h2, h3]
        clear HR h3
        go_enter Tryd.func71, Tryd.ntmps71
        go_wp2_with fail
        refine (HT.out _).mono ?_
        rintro e w1 ⟨rfl, rfl⟩
        clear HT
        go_wp2_with fail
        go_ret
        exact ⟨rfl, HB0.out⟩
    · obtain rfl : res = false := by rw [← HR.out]; simp [h2]
      have d2 : decide (p ≤ 33) = false := decide_eq_false h2
      clear HR h2
      go_enter Tryd.func71, Tryd.ntmps71
      go_wp2_with fail
      go_ret
      exact ⟨rfl, HB0.out⟩
  · obtain rfl : res = false := by rw [← HR.out]; simp [h1]
    have d1 : decide (1 ≤ p) = false := decide_eq_false h1
    clear HR h1
    go_enter Tryd.func71, Tryd.ntmps71
    go_wp2_with fail
    go_ret
    exact ⟨rfl, HB0.out⟩

theorem all_of {α : Type} {l : List α} {f : α → Bool} (h : ∀ i x, i < l.length → l[i]? = some x → f x = true) : l.all f = true := by
  rw [List.all_eq_true]
  intro x hx
  obtain ⟨i, hi, e⟩ := List.getElem_of_mem hx
  exact h i x hi (by rw [List.getElem?_eq_getElem hi, e])
theorem all_not {α : Type} {l : List α} {f : α → Bool} {k : Nat} {x : α} (h : l[k]? = some x) (hf : f x = false) : l.all f = false := by
  rw [← Bool.not_eq_true, List.all_eq_true]
  intro q
  have := q x (List.mem_of_getElem? h)
  rw [hf] at this
  cases this
theorem all_next {α : Type} {l : List α} {f : α → Bool} {k : Nat} {x : α} (h : ∀ i x, i < k → l[i]? = some x → f x = true) (hx : l[k]? = some x) (hf : f x = true) : ∀ i x, i < k + 1 → l[i]? = some x → f x = true := by
  intro i y hi hy
  rcases Nat.lt_or_ge i k with q | q
  · exact h i y q hy
  · obtain rfl : i = k := by omega
    rw [hx] at hy
    injection hy with hy
    rw [← hy]; exact hf

set_option maxRecDepth 100000 in
theorem qall_int_c (v : Value) (l : List Int) (w : World) (hv : Shows w v 1 l.length (intsV l)) (hn : l.length ≤ 281474976710656) : Calls Tryd.prog 92 #[v, .func (.func 66) #[] #[]] w fun e w' => e = .returned (.bool (l.all typeK)) ∧ w' = w := by
  have HV := Lib.hid hv
  obtain ⟨A, c, rfl, hnc⟩ := hv.slice
  clear hv
  go_enter Tryd.func92, Tryd.ntmps92
  go_wp2_with fail
  go_loopg [6, 9, 10, 11, 12, 13, 14, 15, 16, 17] l.length (fun gg _ s9 _ _ _ _ _ _ _ _ wr => ∃ k : Nat, k + gg = l.length ∧ s9 = .int .i64 (k : Int) ∧ Hid (∀ i x, i < k → l[i]? = some x → typeK x = true) ∧ wr = w)
  case atStart => exact ⟨0, by omega, rfl, fun i x hi => absurd hi (by omega), rfl⟩
  case round =>
    obtain ⟨k, hk, rfl, HK, rfl⟩ := hrel
    cases gk with
    | zero =>
      have ek : k = l.length := by omega
      subst ek
      have hd : ¬ l.length < l.length := by omega
      have HA := Lib.hid (all_of HK.out)
      clear hk HK
      go_wp2_with fail
      go_ret
      exact ⟨by rw [HA.out]; rfl, rfl⟩
    | succ gk =>
      have hkn : k < l.length := by omega
      obtain ⟨b, o, c', e0, _, hlt, hcell⟩ := HV.out.int hkn
      injection e0 with e1 _ e2
      subst e1 e2
      have HG : Hid (l[k]? = some l[k]) := List.getElem?_eq_getElem hkn
      have HC := Lib.hid (qtype_c l[k] wr)
      generalize l[k] = x at *
      generalize hq : typeK x = q at *
      have HQ := Lib.hid hq
      clear hq hlt
      go_wp2_with fail
      refine HC.out.mono ?_
      rintro e w1 ⟨rfl, rfl⟩
      cases q with
      | true =>
        go_wp2_with fail
        go_roundg gk
        case measure => omega
        case rel => exact ⟨k + 1, by omega, by push_cast; rfl, all_next HK.out HG.out HQ.out, rfl⟩
      | false =>
        have HA := Lib.hid (all_not HG.out HQ.out)
        go_wp2_with fail
        go_ret
        exact ⟨by rw [HA.out]; rfl, rfl⟩


set_option maxRecDepth 100000 in
theorem qall_glob_c (v : Value) (l : List GlobR) (w : World) (hv : Shows w v 3 l.length (globsV l)) (hn : l.length ≤ 281474976710656) : Calls Tryd.prog 41 #[v, .func (.func 42) #[] #[]] w fun e w' => e = .returned (.bool (l.all globK)) ∧ Below w.heap.size w w' := by
  have HV := Lib.hid hv
  obtain ⟨A, c, rfl, hnc⟩ := hv.slice
  clear hv
  have HB := Lib.hid (Below.refl w.heap.size w)
  go_enter Tryd.func41, Tryd.ntmps41
  go_wp2_with fail
  go_loopg [6, 9, 10, 11, 12, 13, 14, 15, 16, 17] l.length (fun gg _ s9 _ _ _ _ _ _ _ _ wr => ∃ k : Nat, k + gg = l.length ∧ s9 = .int .i64 (k : Int) ∧ Hid (∀ i x, i < k → l[i]? = some x → globK x = true) ∧ Hid (Below w.heap.size w wr))
  case atStart => exact ⟨0, by omega, rfl, fun i x hi => absurd hi (by omega), HB⟩
  case round =>
    clear HB
    obtain ⟨k, hk, rfl, HK, HB⟩ := hrel
    cases gk with
    | zero =>
      have ek : k = l.length := by omega
      subst ek
      have hd : ¬ l.length < l.length := by omega
      have HA := Lib.hid (all_of HK.out)
      clear hk HK
      go_wp2_with fail
      go_ret
      exact ⟨by rw [HA.out]; rfl, HB.out⟩
    | succ gk =>
      have hkn : k < l.length := by omega
      obtain ⟨b, o, c', e0, _, hlt, q1, q2, q3⟩ := (HV.out.below HB.out).glob hkn
      injection e0 with e1 _ e2
      subst e1 e2
      have HG : Hid (l[k]? = some l[k]) := List.getElem?_eq_getElem hkn
      generalize l[k] = x at *
      have HC := Lib.hid (fun w => qglob_c x w)
      have HQ : Hid (globK x = globK x) := rfl
      generalize hq : globK x = q at HC HQ
      have HQ := Lib.hid hq
      obtain ⟨x1, x2, x3⟩ := x
      simp only at q1 q2 q3 HC
      have HB2 := Lib.hid (HB.out.alloc (by have := HB.out.size; omega) (.cells #[.int .i64 x1, .int .i64 x2, .int .i64 x3] 48))
      have HS2 : Hid (wr.heap.size ≤ (wr.alloc (.cells #[.int .i64 x1, .int .i64 x2, .int .i64 x3] 48)).heap.size) := by show _ ≤ _; simp
      have HS1 : Hid (w.heap.size ≤ wr.heap.size) := HB.out.size
      clear hq hlt
      go_wp2_with fail
      refine (HC.out _).mono ?_
      rintro e w1 ⟨rfl, hb⟩
      have HB3 := Lib.hid (below_trans HB2.out hb)
      clear hb HC HB2
      cases q with
      | true =>
        go_wp2_with fail
        go_roundg gk
        case measure => omega
        case rel => exact ⟨k + 1, by omega, by push_cast; rfl, all_next HK.out HG.out HQ.out, HB3⟩
      | false =>
        have HA := Lib.hid (all_not HG.out HQ.out)
        go_wp2_with fail
        go_ret
        exact ⟨by rw [HA.out]; rfl, HB3.out⟩


set_option maxRecDepth 100000 in
theorem qall_ins_c (v : Value) (l : List InsR) (w : World) (hv : Shows w v 3 l.length (codeV l)) (hn : l.length ≤ 281474976710656) : Calls Tryd.prog 70 #[v, .func (.func 71) #[] #[]] w fun e w' => e = .returned (.bool (l.all insK)) ∧ Below w.heap.size w w' := by
  have HV := Lib.hid hv
  obtain ⟨A, c, rfl, hnc⟩ := hv.slice
  clear hv
  have HB := Lib.hid (Below.refl w.heap.size w)
  go_enter Tryd.func70, Tryd.ntmps70
  go_wp2_with fail
  go_loopg [6, 9, 10, 11, 12, 13, 14, 15, 16, 17] l.length (fun gg _ s9 _ _ _ _ _ _ _ _ wr => ∃ k : Nat, k + gg = l.length ∧ s9 = .int .i64 (k : Int) ∧ Hid (∀ i x, i < k → l[i]? = some x → insK x = true) ∧ Hid (Below w.heap.size w wr))
  case atStart => exact ⟨0, by omega, rfl, fun i x hi => absurd hi (by omega), HB⟩
  case round =>
    clear HB
    obtain ⟨k, hk, rfl, HK, HB⟩ := hrel
    cases gk with
    | zero =>
      have ek : k = l.length := by omega
      subst ek
      have hd : ¬ l.length < l.length := by omega
      have HA := Lib.hid (all_of HK.out)
      clear hk HK
      go_wp2_with fail
      go_ret
      exact ⟨by rw [HA.out]; rfl, HB.out⟩
    | succ gk =>
      have hkn : k < l.length := by omega
      obtain ⟨b, o, c', e0, _, hlt, q1, q2, q3⟩ := (HV.out.below HB.out).ins hkn
      injection e0 with e1 _ e2
      subst e1 e2
      have HG : Hid (l[k]? = some l[k]) := List.getElem?_eq_getElem hkn
      generalize l[k] = x at *
      have HC := Lib.hid (fun w => qins_c x w)
      have HQ : Hid (insK x = insK x) := rfl
      generalize hq : insK x = q at HC HQ
      have HQ := Lib.hid hq
      obtain ⟨x1, x2, x3⟩ := x
      simp only at q1 q2 q3 HC
      have HB2 := Lib.hid (HB.out.alloc (by have := HB.out.size; omega) (.cells #[.int .i64 x1, .int .i64 x2, .int .i64 x3] 50))
      have HS2 : Hid (wr.heap.size ≤ (wr.alloc (.cells #[.int .i64 x1, .int .i64 x2, .int .i64 x3] 50)).heap.size) := by show _ ≤ _; simp
      have HS1 : Hid (w.heap.size ≤ wr.heap.size) := HB.out.size
      clear hq hlt
      go_wp2_with fail
      refine (HC.out _).mono ?_
      rintro e w1 ⟨rfl, hb⟩
      have HB3 := Lib.hid (below_trans HB2.out hb)
      clear hb HC HB2
      cases q with
      | true =>
        go_wp2_with fail
        go_roundg gk
        case measure => omega
        case rel => exact ⟨k + 1, by omega, by push_cast; rfl, all_next HK.out HG.out HQ.out, HB3⟩
      | false =>
        have HA := Lib.hid (all_not HG.out HQ.out)
        go_wp2_with fail
        go_ret
        exact ⟨by rw [HA.out]; rfl, HB3.out⟩

theorem elemInts : Tryd.prog.elem 52 = 3 := by kernel_rfl
theorem qsize_int (w : World) : (sizeOf 3).run Tryd.prog w = .ok 1 w := by
  have h : Tryd.t3.size = 1 := by kernel_rfl
  simp [sizeOf, h]

theorem drew_more {w wr : World} (h : ∃ n, wr = w.drewN n) (m : Nat) : ∃ n, wr.drewN m = w.drewN n := by
  obtain ⟨n, rfl⟩ := h
  exact ⟨_, World.drewN_drewN _ _ _⟩

theorem qaddr_add (b o k : Nat) : (Addr.add ⟨b, o, none⟩ k) = ⟨b, o + k, none⟩ := by unfold Addr.add; split <;> simp_all

/-- 'l[:k]' of a row of numbers, as an equation. -/
theorem Shows.upto_ {w : World} {A : Option Addr} {c : Nat} {l : List Int} (h : Shows w (.slice A l.length c) 1 l.length (intsV l)) (k : Nat) (hk : k ≤ l.length) :
    ∃ B d, (∀ w', (Instr.sliceAt 52 (.slice A l.length c) none (some (.int .i64 (k : Int))) none).run Tryd.prog w' = .ok (.slice B k d) w') ∧ Shows w (.slice B k d) 1 k (intsV (l.take k)) := by
  obtain ⟨h1, A', c', e, hc, h2⟩ := h
  injection e with e1 _ e2
  subst e1 e2
  refine ⟨A, c, fun w' => ?_, ?_⟩
  · rw [run_sliceAt_slice w' 52 _ _ _ _ (by rw [elemInts]; exact Tryd.underlying52), run_slice_h w' 52 A _ c (by rw [elemInts]; exact Tryd.underlying52) .i64 (k : Int) (by omega) (by omega), elemInts, qsize_int]
    simp [Result.andThen, sliced]
    intro _
    cases A <;> simp [Addr.add]
  · refine ⟨by rw [intsV_len, List.length_take]; omega, A, c, rfl, by omega, fun hn => ?_⟩
    obtain ⟨b, o, e, hlt, hj⟩ := h2 (by omega)
    refine ⟨b, o, e, hlt, fun j u hu => hj j u ?_⟩
    have hj' := (List.getElem?_eq_some_iff.1 hu).1
    rw [intsV_len, List.length_take] at hj'
    rw [← hu]
    unfold intsV
    rw [List.getElem?_map, List.getElem?_map, List.getElem?_take, if_pos (by omega)]

/-- 'l[k:]' of a row of numbers, as an equation. -/
theorem Shows.from_k {w : World} {A : Option Addr} {c : Nat} {l : List Int} (h : Shows w (.slice A l.length c) 1 l.length (intsV l)) (k : Nat) (hk : k ≤ l.length) :
    ∃ B d, (∀ w', (Instr.sliceAt 52 (.slice A l.length c) (some (.int .i64 (k : Int))) none none).run Tryd.prog w' = .ok (.slice B (l.drop k).length d) w') ∧ Shows w (.slice B (l.drop k).length d) 1 (l.drop k).length (intsV (l.drop k)) := by
  obtain ⟨h1, A', c', e, hc, h2⟩ := h
  injection e with e1 _ e2
  subst e1 e2
  refine ⟨if c = k then A else A.map (·.add k), c - k, fun w' => ?_, ?_⟩
  · rw [run_sliceAt_slice w' 52 _ _ _ _ (by rw [elemInts]; exact Tryd.underlying52), run_slice_l w' 52 A _ c (by rw [elemInts]; exact Tryd.underlying52) .i64 (k : Int) (by omega) (by omega), elemInts, qsize_int]
    simp [Result.andThen, sliced]
  · refine ⟨by rw [intsV_len, Nat.mul_one], _, _, rfl, by rw [List.length_drop]; omega, fun hn => ?_⟩
    rw [List.length_drop] at hn
    obtain ⟨b, o, e, hlt, hj⟩ := h2 (by omega)
    refine ⟨b, o + k, ?_, hlt, fun j u hu => ?_⟩
    · rw [if_neg (by omega), e, Option.map_some, qaddr_add]
    · have := hj (k + j) u (by rw [← hu]; unfold intsV; rw [List.getElem?_map, List.getElem?_map, List.getElem?_drop])
      rw [Nat.add_assoc]; exact this

set_option maxRecDepth 100000 in
theorem qequal_c (v u : Value) (l m : List Int) (w : World) (hv : Shows w v 1 l.length (intsV l)) (hu : Shows w u 1 m.length (intsV m)) (hn : l.length ≤ 281474976710656) :
    Calls Tryd.prog 91 #[v, u] w fun e w' => e = .returned (.bool (decide (l = m))) ∧ ∃ n, w' = w.drewN n := by
  have HV := Lib.hid hv
  have HU := Lib.hid hu
  obtain ⟨A, c, rfl, hnc⟩ := hv.slice
  obtain ⟨B, d, rfl, _⟩ := hu.slice
  clear hv hu
  by_cases hlm : l.length = m.length
  · have i0 : ((l.length : Int) == (m.length : Int)) = true := by simp [hlm]
    have i1 : ((l.length : Int) != (m.length : Int)) = false := by simp [hlm]
    have HLM := Lib.hid hlm
    clear hlm
    go_enter Tryd.func91, Tryd.ntmps91
    go_wp2_with fail
    go_loopg [5, 13, 14, 15, 16, 17, 18, 19, 20, 21, 22, 23, 24, 25] l.length (fun gg _ s13 _ _ _ _ _ _ _ _ _ _ _ _ wr => ∃ k : Nat, k + gg = l.length ∧ s13 = .int .i64 (k : Int) ∧ Hid (∀ i, i < k → l[i]? = m[i]?) ∧ Hid (∃ n, wr = w.drewN n))
    case atStart => exact ⟨0, by omega, rfl, fun i hi => absurd hi (by omega), ⟨0, rfl⟩⟩
    case round =>
      obtain ⟨k, hk, rfl, HK, HW⟩ := hrel
      cases gk with
      | zero =>
        have ek : k = l.length := by omega
        subst ek
        have hd : ¬ l.length < l.length := by omega
        have HA : Hid (decide (l = m) = true) := by
          show _ = _
          rw [decide_eq_true_eq]
          apply List.ext_getElem?
          intro i
          rcases Nat.lt_or_ge i l.length with q | q
          · exact HK.out i q
          · rw [List.getElem?_eq_none q, List.getElem?_eq_none (by have := HLM.out; omega)]
        clear hk HK
        go_wp2_with fail
        go_ret
        exact ⟨by rw [HA.out]; rfl, HW.out⟩
      | succ gk =>
        have hkn : k < l.length := by omega
        have hkm : k < m.length := by have := HLM.out; omega
        obtain ⟨b, o, c', e0, _, hlt, hcell⟩ := HV.out.int hkn
        obtain ⟨b2, o2, c2', e3, _, hlt2, hcell2⟩ := HU.out.int hkm
        injection e0 with e1 _ e2
        injection e3 with e4 _ e5
        subst e1 e2 e4 e5
        have hc3 : wr.cell? ⟨b, o + k, none⟩ = some (.int .i64 l[k]) := by obtain ⟨n0, e⟩ := HW.out; rw [e]; exact hcell
        have hc4 : wr.cell? ⟨b2, o2 + k, none⟩ = some (.int .i64 m[k]) := by obtain ⟨n0, e⟩ := HW.out; rw [e]; exact hcell2
        have HG : Hid (l[k]? = some l[k]) := List.getElem?_eq_getElem hkn
        have HG2 : Hid (m[k]? = some m[k]) := List.getElem?_eq_getElem hkm
        generalize l[k] = x at *
        generalize m[k] = y at *
        clear hlt hlt2 hcell hcell2
        by_cases hxy : x = y
        · have hq : (x != y) = false := by simp [hxy]
          have HX := Lib.hid hxy
          clear hxy
          go_wp2_with fail
          go_quiet (fail)
          go_wp2_with fail
          go_roundg gk
          case measure => omega
          case rel =>
            refine ⟨k + 1, by omega, by push_cast; rfl, fun i hi => ?_, (drew_more HW.out _)⟩
            rcases Nat.lt_or_ge i k with q | q
            · exact HK.out i q
            · obtain rfl : i = k := by omega
              rw [HG.out, HG2.out, HX.out]
        · have hq : (x != y) = true := by simp [hxy]
          have HA : Hid (decide (l = m) = false) := by
            show _ = _
            rw [decide_eq_false_iff_not]
            intro e
            subst e
            have := HG.out.symm.trans HG2.out
            injection this with this
            exact hxy this
          clear hxy
          go_wp2_with fail
          go_quiet (fail)
          go_wp2_with fail
          go_ret
          exact ⟨by rw [HA.out]; rfl, (drew_more HW.out _)⟩
  · have i0 : ((l.length : Int) == (m.length : Int)) = false := by simp; omega
    have i1 : ((l.length : Int) != (m.length : Int)) = true := by simp; omega
    have HA : Hid (decide (l = m) = false) := by
      show _ = _
      rw [decide_eq_false_iff_not]
      intro e
      exact hlm (by rw [e])
    go_enter Tryd.func91, Tryd.ntmps91
    go_wp2_with fail
    go_ret
    exact ⟨by rw [HA.out]; rfl, ⟨0, rfl⟩⟩


/-- What validLocals answers. -/
def locK (f : FnR) : Bool := decide (f.params.length ≤ 8) && (decide (f.params.length ≤ f.locals.length) && (decide (f.locals.length ≤ 32) && (decide (f.params = f.locals.take f.params.length) && f.locals.all typeK)))

set_option maxHeartbeats 4000000 in
set_option maxRecDepth 100000 in
theorem qlocals_c (f : FnR) (t : Trip) (w : World) (h : FnShows w t f) (hs : f.small) : Calls Tryd.prog 69 #[fnV f t] w fun e w' => e = .returned (.bool (locK f)) ∧ Below w.heap.size w w' := by
  have HF := Lib.hid h
  obtain ⟨A1, c1, A2, c2, A3, c3, rfl⟩ := trip_slices h
  clear h
  obtain ⟨np, nl, nc, nn⟩ := hs
  clear nc nn
  have HB0 := Lib.hid (fun (o : Obj) => (Below.refl w.heap.size w).alloc (Nat.le_refl _) o)
  generalize hfk : locK f = res
  have HR := Lib.hid hfk
  clear hfk
  go_enter Tryd.func69, Tryd.ntmps69
  go_upto_region 1 with (fail)
  have HK := Lib.hid (Blk.new w 54 (fnBox f (.slice A1 f.params.length c1, .slice A2 f.locals.length c2, .slice A3 f.code.length c3)))
  have HB := Lib.hid (HB0.out (.cells (fnBox f (.slice A1 f.params.length c1, .slice A2 f.locals.length c2, .slice A3 f.code.length c3)) 54))
  generalize w.alloc (.cells (fnBox f (.slice A1 f.params.length c1, .slice A2 f.locals.length c2, .slice A3 f.code.length c3)) 54) = w0 at *
  have k1 := HK.out.cell 1
  have k3 := HK.out.cell 3
  have HP := Lib.hid (HF.out.params.below HB.out)
  have HL := Lib.hid (HF.out.locals.below HB.out)
  clear HF HB0
  generalize f.name = fnm at *
  generalize f.result = frs at *
  generalize f.code = fcd at *
  unfold locK at HR
  generalize f.params = ps at *
  generalize f.locals = ls at *
  simp only at HP HL
  go_wp2_with fail
  by_cases h1 : ps.length ≤ 8
  · have d1 : (ps.length : Int) ≤ 8 := by omega
    by_cases h2 : ps.length ≤ ls.length
    · by_cases h3 : ls.length ≤ 32
      · have d3 : (ls.length : Int) ≤ 32 := by omega
        obtain ⟨B, d, hsl, hsh⟩ := Shows.upto_ HL.out ps.length h2
        have HQ : Hid (∀ n, Calls Tryd.prog 91 #[.slice A1 ps.length c1, .slice B ps.length d] (w0.drewN n) fun e w' => e = .returned (.bool (decide (ps = ls.take ps.length))) ∧ ∃ m, w' = (w0.drewN n).drewN m) := fun n => by
          have e : (ls.take ps.length).length = ps.length := by rw [List.length_take]; omega
          exact qequal_c _ _ ps (ls.take ps.length) (w0.drewN n) HP.out (by rw [e]; exact hsh) np
        have HT := Lib.hid (fun n => qall_int_c _ ls (w0.drewN n) HL.out nl)
        rw [decide_eq_true h1, decide_eq_true h2, decide_eq_true h3, Bool.true_and, Bool.true_and, Bool.true_and] at HR
        generalize decide (ps = ls.take ps.length) = b1 at *
        generalize ls.all typeK = b2 at *
        clear h1 h3 hsh
        cases b1 with
        | false =>
          obtain rfl : res = false := HR.out.symm
          go_quiet ((go_at_call 91; exact Calls.quiet_of (HQ.out _)))
          go_wp2_with fail
          go_ret
          exact ⟨rfl, below_draw HB.out _⟩
        | true =>
          obtain rfl : res = b2 := HR.out.symm
          go_quiet (first | (go_at_call 91; exact Calls.quiet_of (HQ.out _)) | (go_at_call 92; exact Calls.quiet_of_same (HT.out _)))
          go_wp2_with fail
          go_ret
          exact ⟨rfl, below_draw HB.out _⟩
      · have d3 : decide ((ls.length : Int) ≤ 32) = false := by simp; omega
        obtain rfl : res = false := by rw [← HR.out]; simp [h3]
        clear HR h1 h3
        go_quiet (fail)
        go_wp2_with fail
        go_ret
        exact ⟨rfl, below_draw HB.out _⟩
    · obtain rfl : res = false := by rw [← HR.out]; simp [h2]
      clear HR h1
      go_quiet (fail)
      go_wp2_with fail
      go_ret
      exact ⟨rfl, below_draw HB.out _⟩
  · have d1 : decide ((ps.length : Int) ≤ 8) = false := by simp; omega
    obtain rfl : res = false := by rw [← HR.out]; simp [h1]
    clear HR h1
    go_quiet (fail)
    go_wp2_with fail
    go_ret
    exact ⟨rfl, below_draw HB.out _⟩

theorem fn_eq (f : FnR) : fnK f = (nameK f.name && ((f.result == 0 || typeK f.result) && (locK f && (decide (f.code.length ≤ 32768) && f.code.all insK)))) := by
  rw [Bool.eq_iff_iff]
  unfold fnK headK locK
  simp only [Bool.and_eq_true, Bool.or_eq_true, decide_eq_true_eq, List.all_eq_true, beq_iff_eq]
  constructor
  · rintro ⟨⟨a1, a2, a3, a4, a5, a6, a7, a8⟩, a9, a10⟩
    exact ⟨a1, a4.symm, ⟨a5, a7, a6, a9.symm, a3⟩, a8, a10⟩
  · rintro ⟨a1, a4, ⟨a5, a7, a6, a9, a3⟩, a8, a10⟩
    exact ⟨⟨a1, fun x hx => a3 x (by rw [a9] at hx; exact List.mem_of_mem_take hx), a3, a4.symm, a5, a6, a7, a8⟩, a9.symm, a10⟩

set_option maxHeartbeats 4000000 in
set_option maxRecDepth 100000 in
theorem qfn_c (f : FnR) (t : Trip) (w : World) (h : FnShows w t f) (hs : f.small) : Calls Tryd.prog 44 #[fnV f t] w fun e w' => e = .returned (.bool (fnK f)) ∧ Below w.heap.size w w' := by
  have HF := Lib.hid h
  obtain ⟨A1, c1, A2, c2, A3, c3, rfl⟩ := trip_slices h
  have HLC := Lib.hid (fun w1 (hb : Below w.heap.size w w1) => qlocals_c f _ w1 (h.below hb) hs)
  clear h
  obtain ⟨np, nl, nc, nn⟩ := hs
  have HN := Lib.hid (fun w => qName_c f.name w (by omega))
  have HTR := Lib.hid (fun w => qtype_c f.result w)
  have HIN := Lib.hid (fun w1 (hb : Below w.heap.size w w1) => qall_ins_c _ f.code w1 (HF.out.code.below hb) nc)
  have HB0 := Lib.hid (fun (o : Obj) => (Below.refl w.heap.size w).alloc (Nat.le_refl _) o)
  generalize hfk : fnK f = res
  rw [fn_eq] at hfk
  have HR := Lib.hid hfk
  clear hfk np nl nc nn
  simp only at HIN
  go_enter Tryd.func44, Tryd.ntmps44
  go_upto_region 1 with (fail)
  have HK := Lib.hid (Blk.new w 54 (fnBox f (.slice A1 f.params.length c1, .slice A2 f.locals.length c2, .slice A3 f.code.length c3)))
  have HB := Lib.hid (HB0.out (.cells (fnBox f (.slice A1 f.params.length c1, .slice A2 f.locals.length c2, .slice A3 f.code.length c3)) 54))
  generalize w.alloc (.cells (fnBox f (.slice A1 f.params.length c1, .slice A2 f.locals.length c2, .slice A3 f.code.length c3)) 54) = w0 at *
  have k0 := HK.out.cell 0
  have k1 := HK.out.cell 1
  have k2 := HK.out.cell 2
  have k3 := HK.out.cell 3
  have k4 := HK.out.cell 4
  clear HF HB0
  go_wp2_with fail
  refine (HN.out _).mono ?_
  rintro e w1 ⟨rfl, rfl⟩
  clear HN
  generalize nameK f.name = bn at *
  cases bn with
  | false =>
    obtain rfl : res = false := HR.out.symm
    go_wp2_with fail
    go_ret
    exact ⟨rfl, HB.out⟩
  | true =>
  rw [Bool.true_and] at HR
  -- what follows once the result's type is right
  have rest : ∀ (b : Bool), Hid ((locK f && (decide (f.code.length ≤ 32768) && f.code.all insK)) = b) → True := fun _ _ => trivial
  clear rest
  by_cases hz : f.result = 0
  · have z1 : (f.result == 0) = true := by simp [hz]
    rw [z1, Bool.true_or, Bool.true_and] at HR
    clear hz HTR
    go_wp2_with fail
    refine (HLC.out _ HB.out).mono ?_
    rintro e w3 ⟨rfl, hb⟩
    have HB3 := Lib.hid (below_trans HB.out hb)
    have HK3 := Lib.hid (HK.out.below hb HK.out.lt)
    clear hb HLC k0 k1 k2 k3 k4 HK
    have k4 := HK3.out.cell 4
    generalize locK f = bl at *
    cases bl with
    | false =>
      obtain rfl : res = false := HR.out.symm
      go_wp2_with fail
      go_ret
      exact ⟨rfl, HB3.out⟩
    | true =>
    rw [Bool.true_and] at HR
    by_cases hc : f.code.length ≤ 32768
    · have i1 : (f.code.length : Int) ≤ 32768 := by omega
      rw [decide_eq_true hc, Bool.true_and] at HR
      clear hc
      go_wp2_with fail
      refine (HIN.out _ HB3.out).mono ?_
      rintro e w4 ⟨rfl, hb⟩
      have HB4 := Lib.hid (below_trans HB3.out hb)
      clear hb HIN
      obtain rfl : res = f.code.all insK := HR.out.symm
      go_wp2_with fail
      go_ret
      exact ⟨rfl, HB4.out⟩
    · have i1 : decide ((f.code.length : Int) ≤ 32768) = false := by simp; omega
      obtain rfl : res = false := by rw [← HR.out]; simp [hc]
      clear hc
      go_wp2_with fail
      go_ret
      exact ⟨rfl, HB3.out⟩
  · have z1 : (f.result == 0) = false := by simp [hz]
    rw [z1, Bool.false_or] at HR
    clear hz
    go_wp2_with fail
    refine (HTR.out _).mono ?_
    rintro e w2 ⟨rfl, rfl⟩
    clear HTR
    generalize typeK f.result = bt at *
    cases bt with
    | false =>
      obtain rfl : res = false := HR.out.symm
      go_wp2_with fail
      go_ret
      exact ⟨rfl, HB.out⟩
    | true =>
    rw [Bool.true_and] at HR
    go_wp2_with fail
    refine (HLC.out _ HB.out).mono ?_
    rintro e w3 ⟨rfl, hb⟩
    have HB3 := Lib.hid (below_trans HB.out hb)
    have HK3 := Lib.hid (HK.out.below hb HK.out.lt)
    clear hb HLC k0 k1 k2 k3 k4 HK
    have k4 := HK3.out.cell 4
    generalize locK f = bl at *
    cases bl with
    | false =>
      obtain rfl : res = false := HR.out.symm
      go_wp2_with fail
      go_ret
      exact ⟨rfl, HB3.out⟩
    | true =>
    rw [Bool.true_and] at HR
    by_cases hc : f.code.length ≤ 32768
    · have i1 : (f.code.length : Int) ≤ 32768 := by omega
      rw [decide_eq_true hc, Bool.true_and] at HR
      clear hc
      go_wp2_with fail
      refine (HIN.out _ HB3.out).mono ?_
      rintro e w4 ⟨rfl, hb⟩
      have HB4 := Lib.hid (below_trans HB3.out hb)
      clear hb HIN
      obtain rfl : res = f.code.all insK := HR.out.symm
      go_wp2_with fail
      go_ret
      exact ⟨rfl, HB4.out⟩
    · have i1 : decide ((f.code.length : Int) ≤ 32768) = false := by simp; omega
      obtain rfl : res = false := by rw [← HR.out]; simp [hc]
      clear hc
      go_wp2_with fail
      go_ret
      exact ⟨rfl, HB3.out⟩


structure SmallFns (l : List FnR) : Prop where
  all : ∀ f ∈ l, f.small

set_option maxHeartbeats 4000000 in
set_option maxRecDepth 100000 in
theorem qall_fn_c (gv v : Value) (x : ImgR) (w : World) (hx : ImgShows w gv v x) (hsm : ∀ f ∈ x.fns, f.small) (hnf : x.fns.length ≤ 281474976710656) : Calls Tryd.prog 43 #[v, .func (.func 44) #[] #[]] w fun e w' => e = .returned (.bool (x.fns.all fnK)) ∧ Below w.heap.size w w' := by
  have HX := Lib.hid hx
  have HS := Lib.hid hsm
  obtain ⟨_, ts, _, hf0, _⟩ := hx
  obtain ⟨A, c, rfl, hnc⟩ := hf0.slice
  clear hf0 hsm
  have HB := Lib.hid (Below.refl w.heap.size w)
  go_enter Tryd.func43, Tryd.ntmps43
  go_wp2_with fail
  go_loopg [6, 9, 10, 11, 12, 13, 14, 15, 16, 17] x.fns.length (fun gg _ s9 _ _ _ _ _ _ _ _ wr => ∃ k : Nat, k + gg = x.fns.length ∧ s9 = .int .i64 (k : Int) ∧ Hid (∀ i y, i < k → x.fns[i]? = some y → fnK y = true) ∧ Hid (Below w.heap.size w wr))
  case atStart => exact ⟨0, by omega, rfl, fun i x hi => absurd hi (by omega), HB⟩
  case round =>
    clear HB
    obtain ⟨k, hk, rfl, HK, HB⟩ := hrel
    cases gk with
    | zero =>
      have ek : k = x.fns.length := by omega
      subst ek
      have hd : ¬ x.fns.length < x.fns.length := by omega
      have HA := Lib.hid (all_of HK.out)
      clear hk HK
      go_wp2_with fail
      go_ret
      exact ⟨by rw [HA.out]; rfl, HB.out⟩
    | succ gk =>
      have hkn : k < x.fns.length := by omega
      obtain ⟨b, o, c', t, e0, _, hlt, hsh, q0, q1, q2, q3, q4⟩ := (HX.out.below HB.out).fn hkn
      injection e0 with e1 _ e2
      subst e1 e2
      have HG : Hid (x.fns[k]? = some x.fns[k]) := List.getElem?_eq_getElem hkn
      have hsm : x.fns[k].small := HS.out _ (List.getElem_mem hkn)
      generalize x.fns[k] = f at *
      obtain ⟨A1, d1, A2, d2, A3, d3, rfl⟩ := trip_slices hsh
      simp only at q0 q1 q2 q3 q4
      have HB2 := Lib.hid (HB.out.alloc (by have := HB.out.size; omega) (.cells (fnBox f (.slice A1 f.params.length d1, .slice A2 f.locals.length d2, .slice A3 f.code.length d3)) 54))
      have HC := Lib.hid (qfn_c f _ _ (hsh.below ((Below.refl wr.heap.size wr).alloc (Nat.le_refl _) (.cells (fnBox f (.slice A1 f.params.length d1, .slice A2 f.locals.length d2, .slice A3 f.code.length d3)) 54))) hsm)
      generalize hq : fnK f = q at HC
      have HQ := Lib.hid hq
      clear hq hlt hsh hsm
      go_wp2_with fail
      refine HC.out.mono ?_
      rintro e w1 ⟨rfl, hb⟩
      have HB3 := Lib.hid (below_trans HB2.out hb)
      clear hb HC HB2
      cases q with
      | true =>
        go_wp2_with fail
        go_roundg gk
        case measure => omega
        case rel => exact ⟨k + 1, by omega, by push_cast; rfl, all_next HK.out HG.out HQ.out, HB3⟩
      | false =>
        have HA := Lib.hid (all_not HG.out HQ.out)
        go_wp2_with fail
        go_ret
        exact ⟨by rw [HA.out]; rfl, HB3.out⟩

set_option maxHeartbeats 4000000 in
set_option maxRecDepth 100000 in
theorem qvalid_c (gv fv : Value) (x : ImgR) (w : World) (h : ImgShows w gv fv x) (hs : x.small) : Calls Tryd.prog 22 #[imgV gv fv] w fun e w' => e = .returned (.bool (imgK x)) ∧ Below w.heap.size w w' := by
  have HX := Lib.hid h
  have HG := Lib.hid (fun w1 (hb : Below w.heap.size w w1) => qall_glob_c gv x.globs w1 (h.globs.below hb) hs.ng)
  have HF := Lib.hid (fun w1 (hb : Below w.heap.size w w1) => qall_fn_c gv fv x w1 (h.below hb) hs.fns hs.nf)
  obtain ⟨A1, c1, rfl, _⟩ := h.globs.slice
  obtain ⟨_, _, _, hf0, _⟩ := h
  obtain ⟨A2, c2, rfl, _⟩ := hf0.slice
  clear hf0
  have HB := Lib.hid ((Below.refl w.heap.size w).alloc (Nat.le_refl _) (.cells #[.slice A1 x.globs.length c1, .slice A2 x.fns.length c2] 25))
  have HK := Lib.hid (Blk.new w 25 #[.slice A1 x.globs.length c1, .slice A2 x.fns.length c2])
  generalize hres : imgK x = res
  unfold imgK at hres
  have HR := Lib.hid hres
  clear hres hs
  go_enter Tryd.func22, Tryd.ntmps22
  go_upto_region 1 with (fail)
  generalize w.alloc (.cells #[.slice A1 x.globs.length c1, .slice A2 x.fns.length c2] 25) = w0 at *
  have k0 := HK.out.cell 0
  have k1 := HK.out.cell 1
  by_cases h1 : x.globs.length ≤ 64
  · have i1 : (x.globs.length : Int) ≤ 64 := by omega
    rw [decide_eq_true h1, Bool.true_and] at HR
    clear h1
    go_wp2_with fail
    refine (HG.out _ HB.out).mono ?_
    rintro e w1 ⟨rfl, hb⟩
    have HB1 := Lib.hid (below_trans HB.out hb)
    have HK1 := Lib.hid (HK.out.below hb HK.out.lt)
    clear hb HG k0 k1 HK
    have k1 := HK1.out.cell 1
    generalize x.globs.all globK = b1 at *
    cases b1 with
    | false =>
      obtain rfl : res = false := by rw [← HR.out]; simp
      go_wp2_with fail
      go_ret
      exact ⟨rfl, HB1.out⟩
    | true =>
    by_cases h2 : x.fns.length ≤ 64
    · have i2 : (x.fns.length : Int) ≤ 64 := by omega
      rw [decide_eq_true h2, Bool.true_and, Bool.true_and] at HR
      clear h2
      go_wp2_with fail
      refine (HF.out _ HB1.out).mono ?_
      rintro e w2 ⟨rfl, hb⟩
      have HB2 := Lib.hid (below_trans HB1.out hb)
      clear hb HF
      obtain rfl : res = x.fns.all fnK := HR.out.symm
      go_wp2_with fail
      go_ret
      exact ⟨rfl, HB2.out⟩
    · have i2 : decide ((x.fns.length : Int) ≤ 64) = false := by simp; omega
      obtain rfl : res = false := by rw [← HR.out]; simp [h2]
      clear h2
      go_wp2_with fail
      go_ret
      exact ⟨rfl, HB1.out⟩
  · have i1 : decide ((x.globs.length : Int) ≤ 64) = false := by simp; omega
    obtain rfl : res = false := by rw [← HR.out]; simp [h1]
    clear h1
    go_wp2_with fail
    go_ret
    exact ⟨rfl, HB.out⟩

end Go.Proofs.YtebdjahcahgafaaDoor

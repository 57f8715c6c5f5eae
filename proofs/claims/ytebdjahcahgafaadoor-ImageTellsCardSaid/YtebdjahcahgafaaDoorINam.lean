/- The document's own look at names: letter, digit, letters, in, Words, Word, Name. -/
import Derived.Test.YtebdjahcahgafaaDoorIMem
import Derived.Test.YtebdjahcahgafaaDoorStrCells
import Derived.Deep.LoopGhost
namespace Go.Proofs.YtebdjahcahgafaaDoor
open Go.RowKit

theorem rdigit_c (x : Nat) (w : World) : Calls Tryd.prog 111 #[.int .u8 (x : Int)] w fun e w' => e = .returned (.bool (digitB x)) ∧ w' = w := by
  by_cases h1 : 48 ≤ x
  · by_cases h2 : x ≤ 57
    · have e0 : digitB x = true := by unfold digitB; simp [h1, h2]
      rw [e0]
      have i1 : (48 : Int) ≤ (x : Int) := by omega
      have i2 : (x : Int) ≤ 57 := by omega
      clear h1 h2 e0
      go_enter Tryd.func111, Tryd.ntmps111
      go_wp2_with fail
      go_ret
      exact ⟨rfl, rfl⟩
    · have e0 : digitB x = false := by unfold digitB; simp [h2]
      rw [e0]
      have i1 : (48 : Int) ≤ (x : Int) := by omega
      have i2 : decide ((x : Int) ≤ 57) = false := by simp; omega
      clear h1 h2 e0
      go_enter Tryd.func111, Tryd.ntmps111
      go_wp2_with fail
      go_ret
      exact ⟨rfl, rfl⟩
  · have e0 : digitB x = false := by unfold digitB; simp [h1]
    rw [e0]
    have i1 : (x : Int) < 48 := by omega
    clear h1 e0
    go_enter Tryd.func111, Tryd.ntmps111
    go_wp2_with fail
    go_ret
    exact ⟨rfl, rfl⟩

theorem rletter_c (x : Nat) (w : World) : Calls Tryd.prog 110 #[.int .u8 (x : Int)] w fun e w' => e = .returned (.bool (letterB x)) ∧ w' = w := by
  by_cases h1 : 97 ≤ x
  · by_cases h2 : x ≤ 122
    · have e0 : letterB x = true := by unfold letterB; simp [h1, h2]
      rw [e0]
      have i1 : (97 : Int) ≤ (x : Int) := by omega
      have i2 : (x : Int) ≤ 122 := by omega
      clear h1 h2 e0
      go_enter Tryd.func110, Tryd.ntmps110
      go_wp2_with fail
      go_ret
      exact ⟨rfl, rfl⟩
    · have e0 : letterB x = false := by unfold letterB; simp [h2]; omega
      rw [e0]
      have i1 : (97 : Int) ≤ (x : Int) := by omega
      have i2 : decide ((x : Int) ≤ 122) = false := by simp; omega
      have i3 : ((x : Int) == 95) = false := by simp; omega
      clear h1 h2 e0
      go_enter Tryd.func110, Tryd.ntmps110
      go_wp2_with fail
      go_ret
      exact ⟨rfl, rfl⟩
  · have i1 : (x : Int) < 97 := by omega
    by_cases h3 : x = 95
    · have e0 : letterB x = true := by unfold letterB; simp [h3]
      rw [e0]
      have i3 : ((x : Int) == 95) = true := by simp; omega
      clear h1 h3 e0
      go_enter Tryd.func110, Tryd.ntmps110
      go_wp2_with fail
      go_ret
      exact ⟨rfl, rfl⟩
    · have e0 : letterB x = false := by unfold letterB; simp [h1, h3]
      rw [e0]
      have i3 : ((x : Int) == 95) = false := by simp; omega
      clear h1 h3 e0
      go_enter Tryd.func110, Tryd.ntmps110
      go_wp2_with fail
      go_ret
      exact ⟨rfl, rfl⟩

theorem bytesOf_at {s : ByteArray} {k : Nat} (h : k < s.size) : (bytesOf s)[k]? = some s[k].toNat := by
  unfold bytesOf
  rw [List.getElem?_map]
  have : k < s.data.size := h
  rw [Array.getElem?_toList, Array.getElem?_eq_getElem this]
  rfl

set_option maxRecDepth 100000 in
theorem rletters_c (s : ByteArray) (w : World) (hs : s.size ≤ maxLen) : Calls Tryd.prog 97 #[.string s, .int .i64 0] w fun e w' => e = .returned (.int .i64 (nameN (bytesOf s) : Int)) ∧ w' = w := by
  unfold maxLen at hs
  have hle := name_le (bytesOf s)
  rw [bytesOf_length] at hle
  have HL := Lib.hid hle
  clear hle
  go_enter Tryd.func97, Tryd.ntmps97
  go_wp2_with fail
  go_loopg [5, 6, 7] s.size (fun gg s5 _ _ wr => ∃ k : Nat, k + gg = s.size ∧ s5 = .int .i64 (k : Int) ∧ Hid (k ≤ nameN (bytesOf s)) ∧ wr = w)
  case atStart => exact ⟨0, by omega, rfl, Nat.zero_le _, rfl⟩
  case round =>
    obtain ⟨k, hk, rfl, HK, rfl⟩ := hrel
    cases gk with
    | zero =>
      obtain rfl : k = s.size := by omega
      clear hk
      have hd : decide ((s.size : Int) < (s.size : Int)) = false := by simp
      go_wp2_with fail
      go_ret
      refine ⟨?_, rfl⟩
      have : nameN (bytesOf s) = s.size := Nat.le_antisymm HL.out HK.out
      rw [this]
      rfl
    | succ gk =>
      have hlt : k < s.size := by omega
      have hc := bytesOf_at hlt
      have hstop := name_stop (bytesOf s) (n := k) HK.out
      rw [hc] at hstop
      have H1 := Lib.hid (rletter_c s[k].toNat wr)
      have H2 := Lib.hid (rdigit_c s[k].toNat wr)
      have HS := Lib.hid hstop
      clear hstop hc
      generalize hl : letterB s[k].toNat = bl at H1
      generalize hd : digitB s[k].toNat = bd at H2
      have HL1 := Lib.hid hl
      have HD1 := Lib.hid hd
      clear hl hd
      go_wp2_with fail
      refine H1.out.mono ?_
      rintro e w1 ⟨rfl, rfl⟩
      go_wp2_with fail
      refine H2.out.mono ?_
      rintro e w1 ⟨rfl, rfl⟩
      clear H1 H2
      have hin : ∀ n : Nat, Hid (n = k) → (bl = true ∨ (bd = true ∧ k ≠ 0)) → n < nameN (bytesOf s) := by
        rintro n hn h
        have hn : n = k := hn
        subst hn
        refine HS.out.2 ⟨_, rfl, ?_⟩
        rw [HL1.out, HD1.out]
        exact h
      have hout : ¬ (bl = true ∨ (bd = true ∧ k ≠ 0)) → Hid (nameN (bytesOf s) = k) := by
        intro h
        show _ = _
        refine Nat.le_antisymm (Nat.not_lt.1 fun q => ?_) HK.out
        obtain ⟨c, e, h2⟩ := HS.out.1 q
        injection e with e
        subst e
        rw [HL1.out, HD1.out] at h2
        exact h h2
      clear HS HL1 HD1
      by_cases h0 : k = 0
      · subst h0
        cases bl with
        | true =>
          have HI := Lib.hid (hin 0 rfl (.inl rfl))
          clear hin hout
          go_wp2_with fail
          go_roundg gk
          case measure => omega
          case rel => exact ⟨1, by omega, rfl, HI.out, rfl⟩
        | false =>
          have HO := hout (by simp)
          clear hin hout
          cases bd
          all_goals
            go_wp2_with fail
            go_ret
            refine ⟨?_, rfl⟩
            rw [HO.out]
            rfl
      · have hz : ((k : Int) == 0) = false := by simp; omega
        cases bl with
        | true =>
          have HI := Lib.hid (hin k rfl (.inl rfl))
          clear hin hout h0
          go_wp2_with fail
          go_roundg gk
          case measure => omega
          case rel => exact ⟨k + 1, by omega, by push_cast; rfl, HI.out, rfl⟩
        | false =>
          cases bd with
          | true =>
            have HI := Lib.hid (hin k rfl (.inr ⟨rfl, h0⟩))
            clear hin hout h0
            go_wp2_with fail
            go_roundg gk
            case measure => omega
            case rel => exact ⟨k + 1, by omega, by push_cast; rfl, HI.out, rfl⟩
          | false =>
            have HO := hout (by simp)
            clear hin hout h0
            go_wp2_with fail
            go_ret
            refine ⟨?_, rfl⟩
            rw [HO.out]
            rfl

theorem bytesOf_inj {a b : ByteArray} (h : bytesOf a = bytesOf b) : a = b := by rw [← strOf_bytesOf a, h, strOf_bytesOf]

/-- How the model holds two texts against each other. -/
theorem str_ne {a b : ByteArray} (h : a ≠ b) : (a.toList == b.toList) = false := by
  rw [beq_eq_false_iff_ne]
  intro e
  rw [ByteArray.toList_eq, ByteArray.toList_eq] at e
  apply h
  cases a; cases b
  congr 1
  exact Array.ext' e

/-- Is the text one of them? -/
def inS (ss : List ByteArray) (s : ByteArray) : Bool := (ss.map bytesOf).contains (bytesOf s)
theorem inS_iff {ss : List ByteArray} {s : ByteArray} : inS ss s = true ↔ s ∈ ss := by
  unfold inS
  rw [List.contains_iff_mem, List.mem_map]
  constructor
  · rintro ⟨t, ht, e⟩
    rw [← bytesOf_inj e]; exact ht
  · intro h
    exact ⟨s, h, rfl⟩

set_option maxRecDepth 100000 in
theorem rin_c (A : Option Addr) (n c : Nat) (ss : List ByteArray) (s : ByteArray) (w : World) (hr : Reads w w.heap.size A n (Strs ss)) (hn : n ≤ 1000) : Calls Tryd.prog 108 #[.slice A n c, .string s] w fun e w' => e = .returned (.bool (inS ss s)) ∧ w' = w := by
  have HR := Lib.hid hr
  have hlen : n = ss.length := by have := hr.1; simpa [Strs] using this.symm
  clear hr
  go_enter Tryd.func108, Tryd.ntmps108
  go_wp2_with fail
  go_loopg [5] n (fun gg s5 wr => ∃ k : Nat, k + gg = n ∧ s5 = .int .i64 (k : Int) ∧ Hid (∀ i, i < k → ss[i]? ≠ some s) ∧ wr = w)
  case atStart => exact ⟨0, by omega, rfl, fun i hi => absurd hi (by omega), rfl⟩
  case round =>
    obtain ⟨k, hk, rfl, HK, rfl⟩ := hrel
    cases gk with
    | zero =>
      obtain rfl : k = n := by omega
      have hd : decide ((k : Int) < (k : Int)) = false := by simp
      have HL := Lib.hid hlen
      clear hk hlen
      go_wp2_with fail
      go_ret
      refine ⟨?_, rfl⟩
      have : inS ss s = false := by
        rw [← Bool.not_eq_true, inS_iff]
        intro hm
        obtain ⟨i, hi, e⟩ := List.getElem_of_mem hm
        exact HK.out i (by rw [HL.out]; exact hi) (by rw [List.getElem?_eq_getElem hi, e])
      rw [this]
      rfl
    | succ gk =>
      have hkn : k < n := by omega
      have hkl : k < ss.length := by omega
      obtain ⟨b, o, rfl, hlt, hcell⟩ := Strs_at HR.out hkn
      have e1 : ss.getD k ⟨#[]⟩ = ss[k] := by simp [List.getD, List.getElem?_eq_getElem hkl]
      rw [e1] at hcell
      have hget : ss[k]? = some ss[k] := List.getElem?_eq_getElem hkl
      have HG := Lib.hid hget
      have HL := Lib.hid hlen
      clear hget hlt e1 hlen
      by_cases he : ss[k] = s
      · have HE : Hid (inS ss s = true) := by
          show _ = _
          rw [inS_iff, ← he]
          exact List.getElem_mem hkl
        rw [he] at hcell
        have hb : (s.toList == s.toList) = true := by simp
        clear hkl he HG
        go_wp2_with fail
        go_ret
        exact ⟨by rw [HE.out]; rfl, rfl⟩
      · have hb : (ss[k].toList == s.toList) = false := str_ne he
        have HN := Lib.hid he
        clear he
        generalize ss[k] = t at hcell hb HG HN
        clear hkl
        go_wp2_with fail
        go_roundg gk
        case measure => omega
        case rel =>
          refine ⟨k + 1, by omega, by push_cast; rfl, fun i hi => ?_, rfl⟩
          rcases Nat.lt_or_ge i k with h | h
          · exact HK.out i h
          · obtain rfl : i = k := by omega
            rw [HG.out]
            intro q
            injection q with q
            exact HN.out q

/-- The keywords. -/
def wordS : List ByteArray := wordL.map strOf
theorem word_in (s : ByteArray) : inS wordS s = wordB (bytesOf s) := by
  unfold inS wordB wordS
  rw [List.map_map]
  have : wordL.map (bytesOf ∘ strOf) = wordL := by kernel_rfl
  rw [this]

set_option maxRecDepth 100000 in
theorem rword_c (s : ByteArray) (w : World) : Calls Tryd.prog 96 #[.string s] w fun e w' => e = .returned (.bool (wordB (bytesOf s))) ∧ Below w.heap.size w w' := by
  go_enter Tryd.func96, Tryd.ntmps96
  go_wp2_with fail
  have hw : Calls Tryd.prog 109 #[] w fun e w' => e = .returned (.slice (some ⟨w.heap.size, 0, none⟩) 14 14) ∧ w' = w.alloc (.cells (Strs wordS).toArray 9) := by
    go_enter Tryd.func109, Tryd.ntmps109
    go_wp2_with fail
    go_ret
    exact ⟨rfl, rfl⟩
  refine hw.mono ?_
  rintro e w1 ⟨rfl, rfl⟩
  have hr : Reads (w.alloc (.cells (Strs wordS).toArray 9)) (w.alloc (.cells (Strs wordS).toArray 9)).heap.size (some ⟨w.heap.size, 0, none⟩) 14 (Strs wordS) := by
    have := Reads.blk (Blk.new w 9 (Strs wordS).toArray)
    have e : (Strs wordS).length = 14 := by kernel_rfl
    rw [e] at this
    exact this.more (by simp)
  have hB : Hid (Below w.heap.size w (w.alloc (.cells (Strs wordS).toArray 9))) := (Below.refl _ _).alloc (Nat.le_refl _) _
  generalize w.alloc (.cells (Strs wordS).toArray 9) = w0 at *
  have HC := Lib.hid (rin_c _ 14 14 wordS s w0 hr (by omega))
  clear hr hw
  go_wp2_with fail
  refine HC.out.mono ?_
  rintro e w1 ⟨rfl, rfl⟩
  go_wp2_with fail
  go_ret
  exact ⟨by rw [word_in]; rfl, hB.out⟩

set_option maxRecDepth 100000 in
theorem rname_c (s : ByteArray) (w : World) (hs : s.size ≤ maxLen) : Calls Tryd.prog 79 #[.string s] w fun e w' => e = .returned (.bool (nameK s)) ∧ Below w.heap.size w w' := by
  have hle := name_le (bytesOf s)
  rw [bytesOf_length] at hle
  unfold maxLen at hs
  have H1 := Lib.hid (rword_c s w)
  have H2 := Lib.hid (fun w => rletters_c s w hs)
  unfold nameK
  generalize wordB (bytesOf s) = bw at *
  generalize nameN (bytesOf s) = nn at *
  generalize hres : (!bw && (decide (nn = s.size) && (decide (1 ≤ s.size) && decide (s.size ≤ 24)))) = res
  have HR := Lib.hid hres
  clear hres hle
  go_enter Tryd.func79, Tryd.ntmps79
  go_wp2_with fail
  refine H1.out.mono ?_
  rintro e w1 ⟨rfl, hb⟩
  have HB := Lib.hid hb
  clear hb H1
  go_wp2_with fail
  refine (H2.out _).mono ?_
  rintro e w2 ⟨rfl, rfl⟩
  clear H2
  cases bw with
  | true =>
    obtain rfl : res = false := HR.out.symm
    go_wp2_with fail
    go_ret
    exact ⟨rfl, HB.out⟩
  | false =>
    by_cases h1 : nn = s.size
    · subst h1
      have d0 : ((s.size : Int) == (s.size : Int)) = true := by simp
      by_cases h2 : 1 ≤ s.size
      · have d1 : decide ((1 : Int) ≤ (s.size : Int)) = true := by simp; omega
        have d2 : decide ((s.size : Int) ≤ 24) = res := by
          rw [← HR.out]
          simp [h2]
          omega
        clear h2 HR
        go_wp2_with fail
        go_ret
        exact ⟨rfl, HB.out⟩
      · have d1 : decide ((1 : Int) ≤ (s.size : Int)) = false := by simp; omega
        obtain rfl : res = false := by rw [← HR.out]; simp [h2]
        clear h2 HR
        go_wp2_with fail
        go_ret
        exact ⟨rfl, HB.out⟩
    · have d0 : ((nn : Int) == (s.size : Int)) = false := by simp; omega
      obtain rfl : res = false := by rw [← HR.out]; simp [h1]
      clear h1 HR
      go_wp2_with fail
      go_ret
      exact ⟨rfl, HB.out⟩

end Go.Proofs.YtebdjahcahgafaaDoor

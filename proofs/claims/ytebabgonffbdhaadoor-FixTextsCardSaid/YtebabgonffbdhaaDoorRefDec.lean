/- The reference's decimal. -/
import Derived.Test.YtebabgonffbdhaaDoorPP
import Derived.Deep.DeepCutAuto
import Derived.Deep.RegionHeld3
namespace Go.Proofs.YtebabgonffbdhaaDoor
open Go.RowKit

theorem strOf_size (l : List Nat) : (strOf l).size = l.length := by simp [strOf, ByteArray.size]
theorem strOf_append (a b : List Nat) : strOf a ++ strOf b = strOf (a ++ b) := by
  apply ByteArray.ext
  simp [strOf, ByteArray.data_append]

theorem conv_one (r : Nat) (W W' : World) (hb : Below (W.heap.size + 1) (W.alloc (.cells #[.int .u8 (48 + (r : Int))] 5)) W') :
    (convert 56 9 (.slice (some ⟨W.heap.size, 0, none⟩) 1 1)).run Tryd.prog W' = .ok (.string (strOf [48 + r])) W' := by
  have e : (U8s [48 + r]).toArray = #[.int .u8 (48 + (r : Int))] := by simp [U8s]
  have hk : Blk (W.alloc (.cells #[.int .u8 (48 + (r : Int))] 5)) W.heap.size 5 (U8s [48 + r]).toArray := by rw [e]; exact Blk.new W 5 _
  exact conv_eq W' W.heap.size 1 [48 + r] (hk.below hb (by omega))

theorem conv_after (r : Nat) {W W' : World} (hb : Below (W.alloc (.cells #[.int .u8 (48 + (r : Int))] 5)).heap.size (W.alloc (.cells #[.int .u8 (48 + (r : Int))] 5)) W') :
    (convert 56 9 (.slice (some ⟨W.heap.size, 0, none⟩) 1 1)).run Tryd.prog W' = .ok (.string (strOf [48 + r])) W' := conv_one r W W' (by simpa using hb)
theorem conv_drew (r : Nat) {W W' : World} (hb : Below (W.alloc (.cells #[.int .u8 (48 + (r : Int))] 5)).drew.heap.size (W.alloc (.cells #[.int .u8 (48 + (r : Int))] 5)).drew W') :
    (convert 56 9 (.slice (some ⟨W.heap.size, 0, none⟩) 1 1)).run Tryd.prog W' = .ok (.string (strOf [48 + r])) W' :=
  conv_one r W W' (((Below.refl _ _).drew).trans (hb.mono (by show _ ≤ (W.alloc _).heap.size; simp)))

set_option maxRecDepth 100000 in
set_option maxHeartbeats 2000000 in
theorem dec_c (u : Nat) : ∀ w : World, u < 4294967296 → Calls Tryd.prog 47 #[.int .u64 (u : Int)] w fun e w' => e = .returned (.string (strOf (dd u))) ∧ Below w.heap.size w w' := by
  induction u using Nat.strongRecOn with
  | _ u ih =>
    intro w hu
    by_cases h10 : u < 10
    · have hi : (u : Int) < 10 := by omega
      have hk := Blk.new w 5 (U8s [48 + u]).toArray
      have hcv := conv_eq (w.alloc (.cells (U8s [48 + u]).toArray 5)) w.heap.size 1 [48 + u] hk
      have HD := Lib.hid (dd_small h10)
      have hcv2 : (convert 56 9 (.slice (some ⟨w.heap.size, 0, none⟩) 1 1)).run Tryd.prog (w.alloc (.cells #[.int .u8 (48 + (u : Int))] 5)) = .ok (.string (strOf [48 + u])) (w.alloc (.cells #[.int .u8 (48 + (u : Int))] 5)) := by
        have e : (U8s [48 + u]).toArray = #[.int .u8 (48 + (u : Int))] := by simp [U8s]
        rw [e] at hcv
        exact hcv
      clear hk hcv ih h10 hu
      go_enter Tryd.func47, Tryd.ntmps47
      go_wp2_with fail
      go_ret
      exact ⟨by rw [HD.out]; rfl, (Below.refl _ _).alloc (Nat.le_refl _) _⟩
    · have hi : (10 : Int) ≤ (u : Int) := by omega
      have IH := Lib.hid (ih (u / 10) (by omega))
      have HD := Lib.hid (dd_big h10)
      clear ih
      go_enter Tryd.func47, Tryd.ntmps47
      go_wp2_with fail
      have e1 : (u : Int) / 10 = ((u / 10 : Nat) : Int) := by omega
      have e2 : (u : Int) % 10 = ((u % 10 : Nat) : Int) := by omega
      generalize hq : u / 10 = q at *
      generalize hr : u % 10 = r at *
      have hr10 : r < 10 := by omega
      have hql : q < 4294967296 := by omega
      clear hq hr
      have g1 : IntKind.u64.wrap (q : Int) = (q : Int) := by rw [IntKind.wrap_u64]; omega
      have g2 : (u : Int).tdiv 10 = (q : Int) := by rw [Int.tdiv_eq_ediv_of_nonneg (by omega)]; exact e1
      have g3 : (u : Int).tmod 10 = (r : Int) := by rw [Int.tmod_eq_emod_of_nonneg (by omega)]; exact e2
      have g4 : IntKind.u64.wrap (48 + (r : Int)) = 48 + (r : Int) := by rw [IntKind.wrap_u64]; omega
      have g5 : IntKind.u8.wrap (48 + (r : Int)) = 48 + (r : Int) := by rw [IntKind.wrap_u8]; omega
      have hcv : ∀ W : World, (convert 56 9 (.slice (some ⟨W.heap.size, 0, none⟩) 1 1)).run Tryd.prog (W.alloc (.cells #[.int .u8 (48 + (r : Int))] 5)) = .ok (.string (strOf [48 + r])) (W.alloc (.cells #[.int .u8 (48 + (r : Int))] 5)) := fun W => conv_one r W _ (Below.refl _ _)
      have hcw : (convert 56 9 (.slice (some ⟨w.heap.size, 0, none⟩) 1 1)).run Tryd.prog (w.alloc (.cells #[.int .u8 (48 + (r : Int))] 5)).drew = .ok (.string (strOf [48 + r])) (w.alloc (.cells #[.int .u8 (48 + (r : Int))] 5)).drew := conv_one r w _ (Below.refl _ _).drew
      have hlen : (dd q).length ≤ 20 := by rw [dd_len]; exact Nat.le_trans (nDigits_le 9 q (by omega)) (by omega)
      have hsz : (9223372036854775807 < (strOf (dd q)).size + (strOf [48 + r]).size) = False := by rw [strOf_size, strOf_size]; simp; omega
      have HSA := Lib.hid (strOf_append (dd q) [48 + r])
      clear hlen
      go_region_with (go_at_call 47; (with_reducible refine (IH.out _ hql).mono ?_); rintro e w' ⟨rfl, hb⟩; first | (have hc2 := conv_drew r hb) | (have hc2 := conv_after r hb) | skip)
      all_goals
        have HBq := Lib.hid hb
        clear hb
        go_wp2_with fail
        go_ret
      · refine ⟨by rw [HD.out, ← HSA.out]; rfl, ?_⟩
        have h1 : Below w.heap.size w w' := (Below.refl _ _).drew.trans HBq.out
        exact h1.alloc h1.size _
      · refine ⟨by rw [HD.out, ← HSA.out]; rfl, ?_⟩
        exact ((Below.refl _ _).alloc (Nat.le_refl _) _).drew.trans (HBq.out.mono (by show _ ≤ (w.alloc _).heap.size; simp))
      · refine ⟨by rw [HD.out, ← HSA.out]; rfl, ?_⟩
        exact ((Below.refl _ _).alloc (Nat.le_refl _) _).drew.trans (HBq.out.mono (by show _ ≤ (w.alloc _).heap.size; simp))
end Go.Proofs.YtebabgonffbdhaaDoor

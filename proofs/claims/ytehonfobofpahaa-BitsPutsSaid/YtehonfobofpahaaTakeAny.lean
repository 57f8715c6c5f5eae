/- The contract of Take at whatever count: refused, at the end, or taken. -/
import Derived.Test.YtehonfobofpahaaTake
namespace Go.Proofs.Ytehonfobofpahaa
open Go.RowKit

theorem take_arg (q : Nat) (n : Int) (w : World) (h : n < 0 ∨ 63 < n) :
    Calls Try.prog 21 #[.pointer (some ⟨q, 0, none⟩), .int .i64 n] w fun e w' => e = .returned (.tuple #[.int .i64 0, .int .i64 1]) ∧ w = w' := by
  have H := Lib.hid h
  clear h
  go_enter Try.func21, Try.ntmps21
  go_wp2_with fail
  go_step3
  go_wp2_with fail
  refine (width_no _ H.out _).mono ?_
  rintro e w' ⟨rfl, rfl⟩
  go_wp2_with fail
  rw [Exit.noGoto_ret]
  go_ret2
  exact ⟨rfl, rfl⟩

theorem take_end (q g k n : Nat) (bs : List Nat) (w : World) (h : Rd w q g bs k) (hl : bs.length ≤ 281474976710656) (hn : n ≤ 63) (hk : k ≤ 8 * bs.length) (hkn : 8 * bs.length < k + n) :
    Calls Try.prog 21 #[.pointer (some ⟨q, 0, none⟩), .int .i64 (n : Int)] w fun e w' => e = .returned (.tuple #[.int .i64 0, .int .i64 3]) ∧ ∃ j, w' = w.drewN j := by
  have hd : decide (8 * (bs.length : Int) - (k : Int) < (n : Int)) = true := by simp; omega
  have H := Lib.hid h
  clear h
  go_enter Try.func21, Try.ntmps21
  go_wp2_with fail
  go_step3
  go_wp2_with fail
  refine (width_yes _ (by omega) (by omega) _).mono ?_
  rintro e w' ⟨rfl, rfl⟩
  go_wp2_with fail
  refine (rest_c q _ _ _ _ _ H.out.blk (by omega) (by omega) hl).mono ?_
  rintro e w' ⟨rfl, nq, rfl⟩
  go_wp2_with fail
  rw [Exit.noGoto_ret]
  go_ret2
  exact ⟨rfl, _, rfl⟩

/-- What a Take leaves, whatever its count. -/
def TakeRes (w : World) (q g : Nat) (bs : List Nat) (k : Nat) (n : Int) (e : Ending) (w' : World) : Prop :=
  ∃ k' val er : Nat, e = .returned (.tuple #[.int .i64 (val : Int), .int .i64 (er : Int)]) ∧ Rd w' q g bs k' ∧ k' ≤ 8 * bs.length ∧ Fr (fun i => i = q) w w' ∧ w'.heap.size = w.heap.size ∧
    (((n < 0 ∨ 63 < n) ∧ k' = k ∧ val = 0 ∧ er = 1) ∨ (0 ≤ n ∧ n ≤ 63 ∧ 8 * bs.length < k + n.toNat ∧ k' = k ∧ val = 0 ∧ er = 3) ∨ (0 ≤ n ∧ n ≤ 63 ∧ k + n.toNat ≤ 8 * bs.length ∧ k' = k + n.toNat ∧ val = tk bs k 0 n.toNat ∧ er = 0))

theorem take_any (q g k : Nat) (n : Int) (bs : List Nat) (w : World) (h : Rd w q g bs k) (hby : ∀ i, bs.getD i 0 < 256) (hl : bs.length ≤ 281474976710656) (hk : k ≤ 8 * bs.length) :
    Calls Try.prog 21 #[.pointer (some ⟨q, 0, none⟩), .int .i64 n] w (TakeRes w q g bs k n) := by
  by_cases hn : 0 ≤ n ∧ n ≤ 63
  · obtain ⟨h1, h2⟩ := hn
    obtain ⟨m, rfl⟩ := Int.eq_ofNat_of_zero_le h1
    by_cases hkn : k + m ≤ 8 * bs.length
    · exact (take_yes q g k m bs w h hby hl (by omega) hkn).mono fun e w' ⟨q1, q2, q3, q4⟩ => ⟨k + m, _, 0, q1, q2, hkn, q3, q4, .inr (.inr ⟨h1, h2, by simpa using hkn, by simp, by simp, rfl⟩)⟩
    · exact (take_end q g k m bs w h hl (by omega) hk (by omega)).mono fun e w' ⟨q1, j, q2⟩ => ⟨k, 0, 3, q1, by subst q2; exact ⟨h.blk, h.row⟩, hk, by subst q2; exact Fr.drewN _ _, by subst q2; rfl, .inr (.inl ⟨h1, h2, by simp; omega, rfl, rfl, rfl⟩)⟩
  · exact (take_arg q n w (by omega)).mono fun e w' ⟨q1, q2⟩ => ⟨k, 0, 1, q1, by subst q2; exact h, hk, by subst q2; exact Fr.refl _ _, by subst q2; rfl, .inl ⟨by omega, rfl, rfl, rfl⟩⟩

end Go.Proofs.Ytehonfobofpahaa

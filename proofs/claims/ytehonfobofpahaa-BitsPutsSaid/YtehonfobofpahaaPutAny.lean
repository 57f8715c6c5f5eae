/- The contract of Put at whatever arguments: refused, too long, or put. -/
import Derived.Test.YtehonfobofpahaaPut
namespace Go.Proofs.Ytehonfobofpahaa
open Go.RowKit

/-- The number x may be put into sz bits. -/
def Good (x sz : Int) : Prop := 0 ≤ sz ∧ sz ≤ 63 ∧ 0 ≤ x ∧ x < 2 ^ sz.toNat

set_option maxHeartbeats 400000 in
theorem put_arg (p : Nat) (x sz : Int) (w : World) (h : ¬ Good x sz) :
    Calls Try.prog 11 #[.pointer (some ⟨p, 0, none⟩), .int .i64 x, .int .i64 sz] w fun e w' => e = .returned (.int .i64 1) ∧ w = w' := by
  by_cases h1 : 0 ≤ sz ∧ sz ≤ 63
  · obtain ⟨h1, h2⟩ := h1
    by_cases h3 : 0 ≤ x
    · obtain ⟨s, rfl⟩ := Int.eq_ofNat_of_zero_le h1
      have h4 : (2 : Int) ^ s ≤ x := by
        refine Int.not_lt.1 fun hlt => h ⟨h1, h2, h3, ?_⟩
        simpa using hlt
      have hq : (x / 2 ^ s != 0) = true := by
        have : 1 ≤ x / 2 ^ s := (Int.le_ediv_iff_mul_le (Int.pow_pos (by omega))).2 (by omega)
        simp; omega
      have hd : decide (x < 0) = false := by simp; omega
      clear h h4
      go_enter Try.func11, Try.ntmps11
      go_wp2_with fail
      go_step3
      go_wp2_with fail
      refine (width_yes _ (by omega) (by omega) _).mono ?_
      rintro e w' ⟨rfl, rfl⟩
      go_wp2_with fail
      rw [Exit.noGoto_ret]
      go_ret
      exact ⟨rfl, rfl⟩
    · have hd : decide (x < 0) = true := by simp; omega
      clear h
      go_enter Try.func11, Try.ntmps11
      go_wp2_with fail
      go_step3
      go_wp2_with fail
      refine (width_yes _ (by omega) (by omega) _).mono ?_
      rintro e w' ⟨rfl, rfl⟩
      go_wp2_with fail
      rw [Exit.noGoto_ret]
      go_ret
      exact ⟨rfl, rfl⟩
  · have h2 : sz < 0 ∨ 63 < sz := by omega
    clear h h1
    have H := Lib.hid h2
    clear h2
    go_enter Try.func11, Try.ntmps11
    go_wp2_with fail
    go_step3
    go_wp2_with fail
    refine (width_no _ H.out _).mono ?_
    rintro e w' ⟨rfl, rfl⟩
    go_wp2_with fail
    rw [Exit.noGoto_ret]
    go_ret
    exact ⟨rfl, rfl⟩

set_option maxHeartbeats 400000 in
theorem put_long (p n x s : Nat) (v : Value) (bs : List Nat) (w : World) (h : Wr w p v n bs) (hs : s ≤ 63) (hx : x < 2 ^ s) (h0 : n ≤ 1048576) (hn : 1048576 < n + s) :
    Calls Try.prog 11 #[.pointer (some ⟨p, 0, none⟩), .int .i64 (x : Int), .int .i64 (s : Int)] w fun e w' => e = .returned (.int .i64 2) ∧ w = w' := by
  have c1 : w.cell? ⟨p, 1, none⟩ = some (.int .i64 (n : Int)) := by rw [h.blk.cell]; rfl
  have hq : ((x : Int) / 2 ^ s != 0) = false := by
    have : (x : Int) / 2 ^ s = 0 := Int.ediv_eq_zero_of_lt (by omega) (by exact_mod_cast hx)
    rw [this]; rfl
  have hd1 : decide ((x : Int) < 0) = false := by simp
  have hd2 : decide (1048576 - (n : Int) < (s : Int)) = true := by simp; omega
  clear h hx
  go_enter Try.func11, Try.ntmps11
  go_wp2_with fail
  go_step3
  go_wp2_with fail
  refine (width_yes _ (by omega) (by omega) _).mono ?_
  rintro e w' ⟨rfl, rfl⟩
  go_wp2_with fail
  rw [Exit.noGoto_ret]
  go_ret
  exact ⟨rfl, rfl⟩

/-- What a Put leaves, whatever its arguments. -/
def PutRes (w : World) (p : Nat) (v : Value) (n : Nat) (bs : List Nat) (x sz : Int) (e : Ending) (w' : World) : Prop :=
  (¬ Good x sz ∧ e = .returned (.int .i64 1) ∧ w = w') ∨ (∃ a s : Nat, x = a ∧ sz = s ∧ s ≤ 63 ∧ a < 2 ^ s ∧ 1048576 < n + s ∧ e = .returned (.int .i64 2) ∧ w = w') ∨
    (∃ a s : Nat, x = a ∧ sz = s ∧ s ≤ 63 ∧ a < 2 ^ s ∧ n + s ≤ 1048576 ∧ PutTo w p v (n + s) (putN bs n a s) e w')

theorem put_any (p n : Nat) (v : Value) (bs : List Nat) (x sz : Int) (w : World) (h : Wr w p v n bs) (hrow : Row bs n) (hn : n ≤ 1048576) :
    Calls Try.prog 11 #[.pointer (some ⟨p, 0, none⟩), .int .i64 x, .int .i64 sz] w (PutRes w p v n bs x sz) := by
  by_cases hg : Good x sz
  · obtain ⟨h1, h2, h3, h4⟩ := hg
    obtain ⟨a, rfl⟩ := Int.eq_ofNat_of_zero_le h3
    obtain ⟨s, rfl⟩ := Int.eq_ofNat_of_zero_le h1
    have h5 : a < 2 ^ s := by rw [Int.toNat_natCast] at h4; exact_mod_cast h4
    by_cases hl : n + s ≤ 1048576
    · exact (put_yes p n a s v bs w h hrow (by omega) h5 hl).mono fun e w' q => .inr (.inr ⟨a, s, rfl, rfl, by omega, h5, hl, q⟩)
    · exact (put_long p n a s v bs w h (by omega) h5 hn (by omega)).mono fun e w' q => .inr (.inl ⟨a, s, rfl, rfl, by omega, h5, by omega, q.1, q.2⟩)
  · exact (put_arg p x sz w hg).mono fun e w' q => .inl ⟨hg, q.1, q.2⟩

end Go.Proofs.Ytehonfobofpahaa

/- The document's own ReadNum, ReadInt and ReadText: they answer as the program's do. -/
import Derived.Test.YtmddhlpkanjffaaDoorRefRead
namespace Go.Proofs.YtmddhlpkanjffaaDoor
open Go.RowKit

set_option maxHeartbeats 1000000 in
set_option maxRecDepth 100000 in
theorem rreadnum_c (v : Value) (bs : List Nat) (at_ : Int) (w : World) (hv : SlB w v bs) (hn : bs.length ≤ 281474976710656) (h1 : -9223372036854775808 ≤ at_) (h2 : at_ < 9223372036854775808) (hby : ∀ x ∈ bs, x < 256) :
    Calls Tryd.prog 29 #[v, .int .i64 at_] w fun e w' => e = .returned (numVal (rdAns bs at_ 9)) ∧ w' = w := by
  have HV := Lib.hid hv
  have HBy := Lib.hid hby
  clear hv hby
  go_enter Tryd.func29, Tryd.ntmps29
  go_wp2_with fail
  refine (rread_c v bs at_ 9 w HV.out (by omega) hn h1 h2 HBy.out).mono ?_
  rintro e w1 ⟨rfl, rfl⟩
  cases hr : rdAns bs at_ 9 with
  | error e =>
    have HR := Lib.hid hr
    clear hr
    simp only [rdVal]
    go_wp2_with fail
    go_ret3
    exact ⟨by rw [HR.out]; rfl, rfl⟩
  | ok q =>
    obtain ⟨z, p⟩ := q
    have hz := (rdAns_lt (by omega) hr).2 (by omega)
    have HR := Lib.hid hr
    clear hr
    simp only [rdVal]
    go_wp2_with fail
    go_ret3
    exact ⟨by rw [HR.out]; rfl, rfl⟩

set_option maxHeartbeats 1000000 in
set_option maxRecDepth 100000 in
theorem rreadint_c (v : Value) (bs : List Nat) (at_ : Int) (w : World) (hv : SlB w v bs) (hn : bs.length ≤ 281474976710656) (h1 : -9223372036854775808 ≤ at_) (h2 : at_ < 9223372036854775808) (hby : ∀ x ∈ bs, x < 256) :
    Calls Tryd.prog 30 #[v, .int .i64 at_] w fun e w' => e = .returned (intVal (rdAns bs at_ 10)) ∧ w' = w := by
  have HV := Lib.hid hv
  have HBy := Lib.hid hby
  clear hv hby
  go_enter Tryd.func30, Tryd.ntmps30
  go_wp2_with fail
  refine (rread_c v bs at_ 10 w HV.out (by omega) hn h1 h2 HBy.out).mono ?_
  rintro e w1 ⟨rfl, rfl⟩
  cases hr : rdAns bs at_ 10 with
  | error e =>
    have HR := Lib.hid hr
    have he : e = 20 ∨ e = 3 ∨ e = 1 := by
      unfold rdAns at hr
      split at hr
      · injection hr with hr; omega
      · split at hr
        · cases hr
        · rename_i e' hh
          injection hr with hr
          have := rd_errs _ _ _ _ _ hh
          omega
    have hne : ((e : Int) != 0) = true := by rw [bne_iff_ne]; omega
    clear hr he
    simp only [rdVal]
    go_wp2_with fail
    go_ret3
    exact ⟨by rw [HR.out]; rfl, rfl⟩
  | ok q =>
    obtain ⟨z, p⟩ := q
    have hz := (rdAns_lt (by omega) hr).1
    have hz2 : z / 2 < 9223372036854775808 := by omega
    have HR := Lib.hid hr
    clear hr
    simp only [rdVal]
    by_cases hodd : z % 2 = 1
    · have hb : ((z : Int) % 2 == 1) = true := by simp; omega
      have HU : Hid (uz z = -((z : Int) / 2) - 1) := by show uz z = _; unfold uz; rw [if_neg (by omega)]; omega
      clear hodd
      go_wp2_with fail
      go_ret3
      exact ⟨by rw [HR.out]; simp only [intVal, HU.out]; rfl, rfl⟩
    · have hb : ((z : Int) % 2 == 1) = false := by simp; omega
      have HU : Hid (uz z = (z : Int) / 2) := by show uz z = _; unfold uz; rw [if_pos (by omega)]; omega
      clear hodd
      go_wp2_with fail
      go_ret3
      exact ⟨by rw [HR.out]; simp only [intVal, HU.out]; rfl, rfl⟩

set_option maxHeartbeats 1000000 in
set_option maxRecDepth 100000 in
theorem rreadtext_c (v : Value) (bs : List Nat) (at_ : Int) (w : World) (hv : SlB w v bs) (hn : bs.length ≤ 281474976710656) (h1 : -9223372036854775808 ≤ at_) (h2 : at_ < 9223372036854775808) (hby : ∀ x ∈ bs, x < 256) :
    Calls Tryd.prog 31 #[v, .int .i64 at_] w fun e w' => e = .returned (txVal (txAns bs at_)) ∧ w' = w := by
  have HV := Lib.hid hv
  have HBy := Lib.hid hby
  obtain ⟨A, c, rfl, hc, hA, hr0⟩ := hv
  clear hby hr0
  go_enter Tryd.func31, Tryd.ntmps31
  go_wp2_with fail
  refine (rreadnum_c _ bs at_ w HV.out hn h1 h2 HBy.out).mono ?_
  rintro e w1 ⟨rfl, rfl⟩
  cases hr : rdAns bs at_ 9 with
  | error e =>
    have HA : Hid (txAns bs at_ = .error e) := by unfold txAns; rw [hr]; exact rfl
    have he : e = 20 ∨ e = 3 ∨ e = 1 := by
      unfold rdAns at hr
      split at hr
      · injection hr with hr; omega
      · split at hr
        · cases hr
        · rename_i e' hh
          injection hr with hr
          have := rd_errs _ _ _ _ _ hh
          omega
    have hne : ((e : Int) != 0) = true := by rw [bne_iff_ne]; omega
    clear hr he
    simp only [numVal]
    go_wp2_with fail
    go_ret3
    exact ⟨by rw [HA.out]; rfl, rfl⟩
  | ok q =>
    obtain ⟨n, p⟩ := q
    have hz := (rdAns_lt (by omega) hr).2 (by omega)
    have hp := rdAns_end HBy.out hr
    simp only [numVal]
    by_cases hl : 65536 < n
    · have HA : Hid (txAns bs at_ = .error 2) := by unfold txAns; rw [hr]; show (if 65536 < n then _ else _) = _; rw [if_pos hl]
      have hd : decide (65536 < (n : Int)) = true := by simp; omega
      clear hr
      go_wp2_with fail
      go_ret3
      exact ⟨by rw [HA.out]; rfl, rfl⟩
    · have hd : decide (65536 < (n : Int)) = false := by simp; omega
      by_cases he : bs.length < p + n
      · have HA : Hid (txAns bs at_ = .error 3) := by unfold txAns; rw [hr]; show (if 65536 < n then _ else _) = _; rw [if_neg hl, if_pos he]
        have hd2 : decide ((bs.length : Int) - (p : Int) < (n : Int)) = true := by simp; omega
        clear hr
        go_wp2_with fail
        go_ret3
        exact ⟨by rw [HA.out]; rfl, rfl⟩
      · have HA : Hid (txAns bs at_ = .ok ((bs.drop p).take n, p + n)) := by unfold txAns; rw [hr]; show (if 65536 < n then _ else _) = _; rw [if_neg hl, if_neg he]
        have hd2 : decide ((bs.length : Int) - (p : Int) < (n : Int)) = false := by simp; omega
        obtain ⟨B, d, hsub, hsl⟩ := (HV.out).sub_ p n (p : Int) ((p : Int) + (n : Int)) rfl (by omega) (by omega)
        have hcv := hsl.conv
        clear hr hsl
        go_wp2_with fail
        go_ret3
        exact ⟨by rw [HA.out]; simp only [txVal]; rfl, rfl⟩

end Go.Proofs.YtmddhlpkanjffaaDoor

/- The contract of Done. -/
import Derived.Test.YtehonfobofpahaaBase
import Derived.Test.YtehonfobofpahaaBits
import Derived.Test.YtehonfobofpahaaOps
import Derived.Deep.LoopGhost
import Derived.Deep.DeepCutAuto
import Derived.ScopeJumps
namespace Go.Proofs.Ytehonfobofpahaa
open Go.RowKit

/-- Nothing is left but what fills a byte. -/
def DoneB (bs : List Nat) (k : Nat) : Prop := 8 * bs.length < k + 8 ∧ ∀ i, i < 8 * bs.length - k → bs.getD (bs.length - 1) 0 / 2 ^ i % 2 = 0

/-- What Done leaves. -/
def DoneRes (w : World) (bs : List Nat) (k : Nat) (e : Ending) (w' : World) : Prop :=
  ∃ b : Bool, e = .returned (.bool b) ∧ (b = true ↔ DoneB bs k) ∧ ∃ j, w' = w.drewN j

/-- Where a goto leads: the answer is no. -/
def Jumped (w : World) (bs : List Nat) (k : Nat) (a' : Act) (w' : World) : Prop :=
  ¬ DoneB bs k ∧ (∃ j, w' = w.drewN j) ∧ ∃ u0 u1 u2 u3 u4 u5 u6 u7 u8 u9 u10 u11 u12 u13 u14 u15 u16 u17 u18 u19 u20 u21 u22 u23 u24 u25 u26 u27 u28 u29 : Value, a' = { tmps := #[u0, u1, u2, u3, u4, u5, u6, u7, u8, u9, u10, u11, u12, u13, u14, u15, u16, u17, u18, u19, u20, u21, u22, u23, u24, u25, u26, u27, u28, u29], defers := [] }

set_option maxHeartbeats 1000000 in
set_option maxRecDepth 100000 in
theorem done_c (q g k : Nat) (bs : List Nat) (w : World) (h : Rd w q g bs k) (hby : ∀ i, bs.getD i 0 < 256) (hl : bs.length ≤ 281474976710656) (hk : k ≤ 8 * bs.length) :
    Calls Try.prog 25 #[.pointer (some ⟨q, 0, none⟩)] w (DoneRes w bs k) := by
  have H := Lib.hid h
  have HB := Lib.hid hby
  clear h hby
  go_enter Try.func25, Try.ntmps25
  go_wp2_with fail
  refine wp_scope_jumps 0 (Jumped w bs k) (fun _ _ => 0) rfl ?_ ?_
  · go_wp2_with fail
    refine (rest_c q _ _ _ _ _ H.out.blk (by omega) (by omega) hl).mono ?_
    rintro e w' ⟨rfl, nq, rfl⟩
    by_cases hfar : k + 8 ≤ 8 * bs.length
    · have hd : decide (8 ≤ 8 * (bs.length : Int) - (k : Int)) = true := by simp; omega
      go_wp2_with fail
      go_step3
      refine ⟨rfl, fun hn => by have := hn.1; omega, ⟨_, rfl⟩, _, _, _, _, _, _, _, _, _, _, _, _, _, _, _, _, _, _, _, _, _, _, _, _, _, _, _, _, _, _, rfl⟩
    · have hd : decide (8 ≤ 8 * (bs.length : Int) - (k : Int)) = false := by simp; omega
      go_wp2_with fail
      clear hd
      go_loopg [4, 10] (8 * bs.length - k) (fun gg _ s10 wr => ∃ i : Nat, i + gg = 8 * bs.length - k ∧ s10 = .int .i64 (i : Int) ∧ (∀ t, t < i → bs.getD (bs.length - 1) 0 / 2 ^ t % 2 = 0) ∧ ∃ j, wr = w.drewN j)
      case atStart => exact ⟨0, by omega, rfl, fun t ht => by omega, _, rfl⟩
      case round =>
        obtain ⟨i, hi, rfl, hall, j, rfl⟩ := hrel
        have HA := Lib.hid hall
        clear hall
        cases gk with
        | zero =>
          have hge : decide ((i : Int) < 8 * (bs.length : Int) - (k : Int)) = false := by simp; omega
          have hsum : i = 8 * bs.length - k := by omega
          have HS := Lib.hid hsum
          clear hsum hi
          go_wp2_with fail
          simp only [Exit.jump]
          go_ret
          refine ⟨true, rfl, ?_, j, rfl⟩
          simp only [true_iff]
          exact ⟨by omega, fun t ht => HA.out t (by rw [HS.out]; exact ht)⟩
        | succ gk =>
          have hlt : decide ((i : Int) < 8 * (bs.length : Int) - (k : Int)) = true := by simp; omega
          obtain ⟨m, hm⟩ : ∃ m, bs.length = m + 1 := ⟨bs.length - 1, by omega⟩
          obtain ⟨b, hb⟩ : ∃ b, b = bs.getD m 0 := ⟨_, rfl⟩
          have c0 : w.cell? ⟨q, 0, none⟩ = some (.slice (some ⟨g, 0, none⟩) bs.length bs.length) := by rw [H.out.blk.cell]; rfl
          have cb : w.cell? ⟨g, m, none⟩ = some (.int .u8 (b : Int)) := by rw [H.out.row.cell]; have := U8s_get bs m (by omega); rw [← hb] at this; simpa using this
          have hb8 : b < 256 := by rw [hb]; exact HB.out m
          have hi8 : i ≤ 7 := by omega
          have HS : Hid (i + (gk + 1) = 8 * bs.length - k ∧ bs.length = m + 1 ∧ b = bs.getD m 0) := ⟨hi, hm, hb⟩
          have hm2 : m ≤ 281474976710656 := by omega
          rw [hm] at c0
          have hw1 : IntKind.i64.wrap (m : Int) = (m : Int) := IntWalk.i64_in _ (by omega)
          clear hb hm hi
          by_cases hbit : b / 2 ^ i % 2 = 0
          · have hv : (bits BinOp.and IntKind.u8 ((b : Int) / 2 ^ i) 1 != 0) = false := by rw [u8_bit b i hb8, hbit]; rfl
            have HBit := Lib.hid hbit
            clear hbit
            go_wp2_with fail
            go_quiet (fail)
            go_wp2_with fail
            go_roundg gk
            case measure => omega
            case rel =>
              obtain ⟨h1, h2, h3⟩ := HS.out
              refine ⟨i + 1, by omega, rfl, fun t ht => ?_, _, rfl⟩
              by_cases e : t = i
              · subst e; rw [h2]; have := HBit.out; rw [h3] at this; exact this
              · exact HA.out t (by omega)
          · have hv : (bits BinOp.and IntKind.u8 ((b : Int) / 2 ^ i) 1 != 0) = true := by rw [u8_bit b i hb8]; generalize b / 2 ^ i % 2 = y at hbit; rw [bne_iff_ne]; omega
            have HBit := Lib.hid hbit
            clear hbit
            go_wp2_with fail
            go_quiet (fail)
            go_wp2_with fail
            go_step3
            simp only [Exit.inBlock, Exit.then, Exit.jump]
            obtain ⟨h1, h2, h3⟩ := HS.out
            refine ⟨trivial, fun hn => ?_, ⟨_, World.drewN_drewN _ _ _⟩, _, _, _, _, _, _, _, _, _, _, _, _, _, _, _, _, _, _, _, _, _, _, _, _, _, _, _, _, _, _, rfl⟩
            have := hn.2 i (by omega)
            rw [h2] at this
            exact HBit.out (by rw [h3]; exact this)
  · rintro a' w' ⟨hn, ⟨j, rfl⟩, u0, u1, u2, u3, u4, u5, u6, u7, u8, u9, u10, u11, u12, u13, u14, u15, u16, u17, u18, u19, u20, u21, u22, u23, u24, u25, u26, u27, u28, u29, rfl⟩
    go_wp2
    simp only [Exit.jump]
    go_ret
    exact ⟨false, rfl, by simp [hn], j, rfl⟩

end Go.Proofs.Ytehonfobofpahaa

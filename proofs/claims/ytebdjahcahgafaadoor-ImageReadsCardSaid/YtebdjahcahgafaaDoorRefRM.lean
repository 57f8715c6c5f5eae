/- The contract of the document's own read, and its three callers: they answer as the program's do. The document's own ReadNum, ReadInt and ReadText: they answer as the program's do. -/
import Derived.Test.YtebdjahcahgafaaDoorTexts
namespace Go.Proofs.YtebdjahcahgafaaDoor
open Go.RowKit

/-- What bytes say, the lowest first. -/
def hval : List Nat → Nat
  | [] => 0
  | x :: r => x % 128 + 128 * hval r

theorem hval_snoc (l : List Nat) (x : Nat) : hval (l ++ [x]) = hval l + x % 128 * 128 ^ l.length := by
  induction l with
  | nil => simp [hval]
  | cons y r ih =>
    rw [List.cons_append, hval, hval, ih, List.length_cons, Nat.pow_succ, Nat.mul_add]
    have : 128 * (x % 128 * 128 ^ r.length) = x % 128 * (128 ^ r.length * 128) := by rw [Nat.mul_comm 128, Nat.mul_assoc]
    omega

theorem hval_drop (l : List Nat) (i : Nat) : hval (l.drop i) ≤ hval l := by
  induction i generalizing l with
  | zero => simp
  | succ i ih =>
    cases l with
    | nil => simp
    | cons x r =>
      rw [List.drop_succ_cons, hval]
      have := ih r
      omega

theorem rd_lead (most : Nat) (pre rest : List Nat) : ∀ i acc, (∀ x ∈ pre, 128 ≤ x) → i + pre.length ≤ most → rd most i acc (pre ++ rest) = rd most (i + pre.length) (acc + hval pre * 128 ^ i) rest := by
  induction pre with
  | nil => intro i acc _ _; simp [hval]
  | cons x r ih =>
    intro i acc h hm
    simp only [List.length_cons] at hm
    rw [List.cons_append, rd_cons, if_neg (by omega), if_pos (h x List.mem_cons_self), ih (i + 1) _ (fun y hy => h y (List.mem_cons_of_mem _ hy)) (by omega)]
    have e : acc + x % 128 * 128 ^ i + hval r * 128 ^ (i + 1) = acc + hval (x :: r) * 128 ^ i := by
      rw [hval, Nat.pow_succ, Nat.add_mul, Nat.mul_comm 128 (hval r), Nat.mul_assoc, Nat.mul_comm 128 (128 ^ i)]
      omega
    rw [e, List.length_cons]
    congr 1
    omega

/-- n bytes stand ahead that another one follows. -/
def Lead (l : List Nat) (most n : Nat) : Prop := n ≤ most ∧ n ≤ l.length ∧ ∀ x ∈ l.take n, 128 ≤ x

theorem Lead.next {l : List Nat} {most n : Nat} (h : Lead l most n) (h1 : n < most) (h2 : n < l.length) (h3 : 128 ≤ l.getD n 0) : Lead l most (n + 1) := by
  refine ⟨by omega, by omega, fun x hx => ?_⟩
  rw [List.take_add_one, List.getElem?_eq_getElem h2] at hx
  rcases List.mem_append.1 hx with hx | hx
  · exact h.2.2 x hx
  · rw [List.getD_eq_getElem?_getD, List.getElem?_eq_getElem h2] at h3
    simp at hx
    subst hx
    exact h3

theorem Lead.run {l : List Nat} {most n : Nat} (h : Lead l most n) : rd most 0 0 l = rd most n (hval (l.take n)) (l.drop n) := by
  have hl : (l.take n).length = n := by rw [List.length_take]; have := h.2.1; omega
  have := rd_lead most (l.take n) (l.drop n) 0 0 h.2.2 (by rw [hl]; have := h.1; omega)
  rw [List.take_append_drop, hl] at this
  simpa using this

theorem Lead.most {l : List Nat} {n : Nat} (h : Lead l n n) : rd n 0 0 l = .error 20 := by
  rw [h.run]
  cases l.drop n with
  | nil => rw [rd_nil, if_pos rfl]
  | cons x r => rw [rd_cons, if_pos rfl]

theorem Lead.short {l : List Nat} {most n : Nat} (h : Lead l most n) (h1 : n ≠ most) (h2 : n = l.length) : rd most 0 0 l = .error 3 := by
  rw [h.run, List.drop_of_length_le (by omega), rd_nil, if_neg h1]

theorem Lead.last {l : List Nat} {most n x : Nat} (h : Lead l most n) (h1 : n ≠ most) (h2 : n < l.length) (hx : x = l.getD n 0) (h7 : ¬ 128 ≤ x) :
    ((x = 0 ∧ 0 < n) ∨ (n = 9 ∧ 1 < x) → rd most 0 0 l = .error 20) ∧
    (¬ ((x = 0 ∧ 0 < n) ∨ (n = 9 ∧ 1 < x)) → rd most 0 0 l = .ok (hval (l.take (n + 1)), n + 1)) := by
  have e := h.run
  rw [drop_at h2, ← hx, rd_cons, if_neg h1, if_neg h7] at e
  refine ⟨fun hh => by rw [e, if_pos hh], fun hh => ?_⟩
  rw [e, if_neg hh]
  congr 2
  have hl : (l.take n).length = n := by rw [List.length_take]; omega
  have e2 : l.take (n + 1) = l.take n ++ [x] := by
    rw [List.take_add_one, List.getElem?_eq_getElem h2, hx, List.getD_eq_getElem?_getD, List.getElem?_eq_getElem h2]
    rfl
  rw [e2, hval_snoc, hl, Nat.mod_eq_of_lt (by omega)]

set_option maxHeartbeats 2000000 in
set_option maxRecDepth 100000 in
theorem rread_c (v : Value) (bs : List Nat) (at_ : Int) (most : Nat) (w : World) (hv : SlB w v bs) (hm : most ≤ 10) (hn : bs.length ≤ 281474976710656) (h1 : -9223372036854775808 ≤ at_) (h2 : at_ < 9223372036854775808) (hby : ∀ x ∈ bs, x < 256) :
    Calls Tryd.prog 89 #[v, .int .i64 at_, .int .i64 (most : Int)] w fun e w' => e = .returned (rdVal (rdAns bs at_ most)) ∧ w' = w := by
  obtain ⟨A, c, rfl, hc, hA, hr⟩ := hv
  have HR := Lib.hid hr
  have HBy := Lib.hid hby
  clear hr hby
  go_enter Tryd.func89, Tryd.ntmps89
  by_cases hneg : at_ < 0 ∨ (bs.length : Int) < at_
  · have hans : rdAns bs at_ most = .error 1 := by unfold rdAns; rw [if_pos hneg]
    have HA := Lib.hid hans
    clear hans
    rcases hneg with hneg | hneg
    · have hd : decide (at_ < 0) = true := by simpa using hneg
      go_wp2_with fail
      go_ret3
      exact ⟨by rw [HA.out]; rfl, rfl⟩
    · have hd : decide (at_ < 0) = false := by simp; omega
      have hd2 : decide ((bs.length : Int) < at_) = true := by simpa using hneg
      go_wp2_with fail
      go_ret3
      exact ⟨by rw [HA.out]; rfl, rfl⟩
  · obtain ⟨k, rfl⟩ : ∃ k : Nat, at_ = (k : Int) := ⟨at_.toNat, by omega⟩
    have hk : k ≤ bs.length := by omega
    have hd2 : decide (bs.length < k) = false := by simp; omega
    clear hneg h1 h2
    obtain ⟨l, hl⟩ : ∃ l, l = bs.drop k := ⟨_, rfl⟩
    have hlen : l.length + k = bs.length := by rw [hl, List.length_drop]; omega
    have HBl : Hid (∀ x ∈ l, x < 256) := fun x hx => HBy.out x (by rw [hl] at hx; exact List.mem_of_mem_drop hx)
    have HL := Lib.hid hl
    clear hl
    go_wp2_with fail
    go_loopg [9] (most + l.length) (fun gg s9 wr => ∃ n : Nat, s9 = .int .i64 (n : Int) ∧ Lead l most n ∧ n + gg = most + l.length ∧ wr = w)
    case atStart => exact ⟨0, rfl, ⟨by omega, by omega, by simp⟩, by omega, rfl⟩
    case round =>
      obtain ⟨n, rfl, hlead, hng, rfl⟩ := hrel
      have HLead := Lib.hid hlead
      have hnm := hlead.1
      have hnl := hlead.2.1
      clear hlead
      by_cases e1 : n = most
      · subst e1
        have HE : Hid (rdAns bs (k : Int) n = .error 20) := rdAns_err hk (by rw [← HL.out]; exact HLead.out.most)
        have hd3 : decide (n < n) = false := by simp
        have hb1 : ((n : Int) == (n : Int)) = true := by simp
        by_cases e2 : n = l.length
        · have hd4 : decide ((k : Int) + (n : Int) < (bs.length : Int)) = false := by simp; omega
          clear e2
          go_wp2_with fail
          go_ret3
          exact ⟨by rw [HE.out]; rfl, rfl⟩
        · have hd4 : decide ((k : Int) + (n : Int) < (bs.length : Int)) = true := by simp; omega
          go_wp2_with fail
          go_ret3
          exact ⟨by rw [HE.out]; rfl, rfl⟩
      · have hb1 : ((n : Int) == (most : Int)) = false := by simp; omega
        have hd3 : decide (n < most) = true := by simp; omega
        by_cases e2 : n = l.length
        · have HE : Hid (rdAns bs (k : Int) most = .error 3) := rdAns_err hk (by rw [← HL.out]; exact HLead.out.short e1 e2)
          have hd4 : decide ((k : Int) + (n : Int) < (bs.length : Int)) = false := by simp; omega
          have hb2 : ((k : Int) + (n : Int) == (bs.length : Int)) = true := by simp; omega
          clear e2
          go_wp2_with fail
          go_ret3
          exact ⟨by rw [HE.out]; rfl, rfl⟩
        · have hd4 : decide ((k : Int) + (n : Int) < (bs.length : Int)) = true := by simp; omega
          have hii : (k : Int) + (n : Int) < (bs.length : Int) := by omega
          have hb2 : ((k : Int) + (n : Int) == (bs.length : Int)) = false := by simp; omega
          have hil : n < l.length := by omega
          obtain ⟨b, o, rfl, hbl, hcell⟩ := HR.out.spot (k := k + n) (by omega)
          obtain ⟨x, hx⟩ : ∃ x, x = l.getD n 0 := ⟨_, rfl⟩
          have hc1 : wr.cell? ⟨b, o + (k + n), none⟩ = some (.int .u8 (x : Int)) := by
            rw [hcell, U8s_get bs (k + n) (by omega), hx, HL.out]
            simp [List.getD]
          have hx8 : x < 256 := by rw [hx, List.getD_eq_getElem?_getD, List.getElem?_eq_getElem hil]; exact HBl.out _ (List.getElem_mem hil)
          clear hcell
          by_cases h7 : 128 ≤ x
          · have hd7 : decide (128 ≤ (x : Int)) = true := by simp; omega
            have HN := Lib.hid (HLead.out.next (by omega) hil (by rw [← hx]; exact h7))
            clear hx
            go_wp2_with fail
            go_roundg (gk - 1)
            case measure => omega
            case rel => exact ⟨n + 1, rfl, HN.out, by omega, rfl⟩
          · have hd7 : decide (128 ≤ (x : Int)) = false := by simp; omega
            obtain ⟨hbad, hgood⟩ := HLead.out.last e1 hil hx h7
            have HX := Lib.hid hx
            clear hx
            by_cases hz : x = 0 ∧ 0 < n
            · have HE : Hid (rdAns bs (k : Int) most = .error 20) := rdAns_err hk (by rw [← HL.out]; exact hbad (.inl hz))
              have hx0 : ((x : Int) == 0) = true := by simp; omega
              have hdn : decide (0 < n) = true := by simp; omega
              clear hbad hgood hz
              go_wp2_with fail
              go_ret3
              exact ⟨by rw [HE.out]; rfl, rfl⟩
            · by_cases h9 : n = 9 ∧ 1 < x
              · have HE : Hid (rdAns bs (k : Int) most = .error 20) := rdAns_err hk (by rw [← HL.out]; exact hbad (.inr h9))
                have hx0 : ((x : Int) == 0) = false := by simp; omega
                have hn9 : ((n : Int) == 9) = true := by simp; omega
                have hd1 : decide (1 < (x : Int)) = true := by simp; omega
                clear hbad hgood hz h9
                go_wp2_with fail
                go_ret3
                exact ⟨by rw [HE.out]; rfl, rfl⟩
              · have hok := hgood (by rintro (h | h); exact hz h; exact h9 h)
                have hzb := (rd_lt most l 0 0 _ _ hm (by omega) (by decide) (by omega) hok).1
                have HE : Hid (rdAns bs (k : Int) most = .ok (hval (l.take (n + 1)), k + (n + 1))) := rdAns_ok hk (by rw [← HL.out]; exact hok)
                have HZB := Lib.hid hzb
                clear hbad hgood hok hzb
                by_cases hx0 : x = 0
                · have hx0' : ((x : Int) == 0) = true := by simp; omega
                  have hdn : decide (0 < n) = false := by simp; omega
                  have hn9 : ((n : Int) == 9) = false := by simp; omega
                  clear hz h9 hx0
                  go_wp2_with fail
                  go_loopg [10, 11] (n + 1) (fun gg s10 s11 wx => ∃ z : Nat, gg ≤ n + 1 ∧ s10 = .int .u64 (z : Int) ∧ ((gg = 0 ∧ s11 = .int .i64 (-1)) ∨ ∃ g : Nat, gg = g + 1 ∧ s11 = .int .i64 (g : Int)) ∧ z = hval ((l.take (n + 1)).drop gg) ∧ wx = wr)
                  case atStart => exact ⟨0, by omega, rfl, .inr ⟨n, rfl, rfl⟩, by rw [List.drop_of_length_le (by rw [List.length_take]; omega)]; rfl, rfl⟩
                  case round =>
                    obtain ⟨z, hgn, rfl, hs11, hz, rfl⟩ := hrel
                    rcases hs11 with ⟨rfl, rfl⟩ | ⟨g, rfl, rfl⟩
                    · have HZ2 : Hid (z = hval (l.take (n + 1))) := hz
                      clear hz
                      go_wp2_with fail
                      go_ret3
                      refine ⟨?_, rfl⟩
                      rw [HE.out]
                      simp only [rdVal, ← HZ2.out]
                      rfl
                    · obtain ⟨y, hy⟩ : ∃ y, y = l.getD g 0 := ⟨_, rfl⟩
                      obtain ⟨b', o', e', _, hcell'⟩ := HR.out.spot (k := k + g) (by omega)
                      injection e' with e'
                      injection e' with e1' e2'
                      subst e1' e2'
                      have hc2 : wr.cell? ⟨b, o + (k + g), none⟩ = some (.int .u8 (y : Int)) := by
                        rw [hcell', U8s_get bs (k + g) (by omega), hy, HL.out]
                        simp [List.getD]
                      have hy8 : y < 256 := by rw [hy, List.getD_eq_getElem?_getD, List.getElem?_eq_getElem (by omega)]; exact HBl.out _ (List.getElem_mem _)
                      have hnx : hval ((l.take (n + 1)).drop g) = y % 128 + 128 * z := by
                        have hg : g < (l.take (n + 1)).length := by rw [List.length_take]; omega
                        rw [drop_at hg, hval, hz, hy]
                        congr 2
                        rw [List.getD_eq_getElem?_getD, List.getElem?_take, if_pos (by omega), List.getD_eq_getElem?_getD]
                      have hle := Nat.lt_of_le_of_lt (hval_drop (l.take (n + 1)) g) HZB.out
                      rw [hnx] at hle
                      have HNX : Hid (y % 128 + 128 * z = hval ((l.take (n + 1)).drop g)) := hnx.symm
                      have hw1 : IntKind.u64.wrap ((z : Int) * 128) = (z : Int) * 128 := by rw [IntKind.wrap_u64]; omega
                      have hw2 : IntKind.u64.wrap ((z : Int) * 128 + (y : Int) % 128) = ((y % 128 + 128 * z : Nat) : Int) := by rw [IntKind.wrap_u64]; omega
                      have hgl : (k : Int) + (g : Int) < (bs.length : Int) := by omega
                      clear hcell' hy hz hnx hle
                      go_wp2_with fail
                      go_roundg g
                      case measure => omega
                      case rel =>
                        refine ⟨y % 128 + 128 * z, by omega, ?_, ?_, HNX.out, rfl⟩
                        · first | rfl | (congr 1; omega)
                        · cases g with
                          | zero => exact .inl ⟨rfl, by simp⟩
                          | succ g => exact .inr ⟨g, rfl, by simp⟩
                · have hx0' : ((x : Int) == 0) = false := by simp; omega
                  by_cases hi9 : n = 9
                  · have hn9 : ((n : Int) == 9) = true := by simp; omega
                    have hd1 : decide (1 < (x : Int)) = false := by simp; omega
                    clear hz h9 hx0 hi9
                    go_wp2_with fail
                    go_loopg [10, 11] (n + 1) (fun gg s10 s11 wx => ∃ z : Nat, gg ≤ n + 1 ∧ s10 = .int .u64 (z : Int) ∧ ((gg = 0 ∧ s11 = .int .i64 (-1)) ∨ ∃ g : Nat, gg = g + 1 ∧ s11 = .int .i64 (g : Int)) ∧ z = hval ((l.take (n + 1)).drop gg) ∧ wx = wr)
                    case atStart => exact ⟨0, by omega, rfl, .inr ⟨n, rfl, rfl⟩, by rw [List.drop_of_length_le (by rw [List.length_take]; omega)]; rfl, rfl⟩
                    case round =>
                      obtain ⟨z, hgn, rfl, hs11, hz, rfl⟩ := hrel
                      rcases hs11 with ⟨rfl, rfl⟩ | ⟨g, rfl, rfl⟩
                      · have HZ2 : Hid (z = hval (l.take (n + 1))) := hz
                        clear hz
                        go_wp2_with fail
                        go_ret3
                        refine ⟨?_, rfl⟩
                        rw [HE.out]
                        simp only [rdVal, ← HZ2.out]
                        rfl
                      · obtain ⟨y, hy⟩ : ∃ y, y = l.getD g 0 := ⟨_, rfl⟩
                        obtain ⟨b', o', e', _, hcell'⟩ := HR.out.spot (k := k + g) (by omega)
                        injection e' with e'
                        injection e' with e1' e2'
                        subst e1' e2'
                        have hc2 : wr.cell? ⟨b, o + (k + g), none⟩ = some (.int .u8 (y : Int)) := by
                          rw [hcell', U8s_get bs (k + g) (by omega), hy, HL.out]
                          simp [List.getD]
                        have hy8 : y < 256 := by rw [hy, List.getD_eq_getElem?_getD, List.getElem?_eq_getElem (by omega)]; exact HBl.out _ (List.getElem_mem _)
                        have hnx : hval ((l.take (n + 1)).drop g) = y % 128 + 128 * z := by
                          have hg : g < (l.take (n + 1)).length := by rw [List.length_take]; omega
                          rw [drop_at hg, hval, hz, hy]
                          congr 2
                          rw [List.getD_eq_getElem?_getD, List.getElem?_take, if_pos (by omega), List.getD_eq_getElem?_getD]
                        have hle := Nat.lt_of_le_of_lt (hval_drop (l.take (n + 1)) g) HZB.out
                        rw [hnx] at hle
                        have HNX : Hid (y % 128 + 128 * z = hval ((l.take (n + 1)).drop g)) := hnx.symm
                        have hw1 : IntKind.u64.wrap ((z : Int) * 128) = (z : Int) * 128 := by rw [IntKind.wrap_u64]; omega
                        have hw2 : IntKind.u64.wrap ((z : Int) * 128 + (y : Int) % 128) = ((y % 128 + 128 * z : Nat) : Int) := by rw [IntKind.wrap_u64]; omega
                        have hgl : (k : Int) + (g : Int) < (bs.length : Int) := by omega
                        clear hcell' hy hz hnx hle
                        go_wp2_with fail
                        go_roundg g
                        case measure => omega
                        case rel =>
                          refine ⟨y % 128 + 128 * z, by omega, ?_, ?_, HNX.out, rfl⟩
                          · first | rfl | (congr 1; omega)
                          · cases g with
                            | zero => exact .inl ⟨rfl, by simp⟩
                            | succ g => exact .inr ⟨g, rfl, by simp⟩
                  · have hn9 : ((n : Int) == 9) = false := by simp; omega
                    clear hz h9 hx0
                    go_wp2_with fail
                    go_loopg [10, 11] (n + 1) (fun gg s10 s11 wx => ∃ z : Nat, gg ≤ n + 1 ∧ s10 = .int .u64 (z : Int) ∧ ((gg = 0 ∧ s11 = .int .i64 (-1)) ∨ ∃ g : Nat, gg = g + 1 ∧ s11 = .int .i64 (g : Int)) ∧ z = hval ((l.take (n + 1)).drop gg) ∧ wx = wr)
                    case atStart => exact ⟨0, by omega, rfl, .inr ⟨n, rfl, rfl⟩, by rw [List.drop_of_length_le (by rw [List.length_take]; omega)]; rfl, rfl⟩
                    case round =>
                      obtain ⟨z, hgn, rfl, hs11, hz, rfl⟩ := hrel
                      rcases hs11 with ⟨rfl, rfl⟩ | ⟨g, rfl, rfl⟩
                      · have HZ2 : Hid (z = hval (l.take (n + 1))) := hz
                        clear hz
                        go_wp2_with fail
                        go_ret3
                        refine ⟨?_, rfl⟩
                        rw [HE.out]
                        simp only [rdVal, ← HZ2.out]
                        rfl
                      · obtain ⟨y, hy⟩ : ∃ y, y = l.getD g 0 := ⟨_, rfl⟩
                        obtain ⟨b', o', e', _, hcell'⟩ := HR.out.spot (k := k + g) (by omega)
                        injection e' with e'
                        injection e' with e1' e2'
                        subst e1' e2'
                        have hc2 : wr.cell? ⟨b, o + (k + g), none⟩ = some (.int .u8 (y : Int)) := by
                          rw [hcell', U8s_get bs (k + g) (by omega), hy, HL.out]
                          simp [List.getD]
                        have hy8 : y < 256 := by rw [hy, List.getD_eq_getElem?_getD, List.getElem?_eq_getElem (by omega)]; exact HBl.out _ (List.getElem_mem _)
                        have hnx : hval ((l.take (n + 1)).drop g) = y % 128 + 128 * z := by
                          have hg : g < (l.take (n + 1)).length := by rw [List.length_take]; omega
                          rw [drop_at hg, hval, hz, hy]
                          congr 2
                          rw [List.getD_eq_getElem?_getD, List.getElem?_take, if_pos (by omega), List.getD_eq_getElem?_getD]
                        have hle := Nat.lt_of_le_of_lt (hval_drop (l.take (n + 1)) g) HZB.out
                        rw [hnx] at hle
                        have HNX : Hid (y % 128 + 128 * z = hval ((l.take (n + 1)).drop g)) := hnx.symm
                        have hw1 : IntKind.u64.wrap ((z : Int) * 128) = (z : Int) * 128 := by rw [IntKind.wrap_u64]; omega
                        have hw2 : IntKind.u64.wrap ((z : Int) * 128 + (y : Int) % 128) = ((y % 128 + 128 * z : Nat) : Int) := by rw [IntKind.wrap_u64]; omega
                        have hgl : (k : Int) + (g : Int) < (bs.length : Int) := by omega
                        clear hcell' hy hz hnx hle
                        go_wp2_with fail
                        go_roundg g
                        case measure => omega
                        case rel =>
                          refine ⟨y % 128 + 128 * z, by omega, ?_, ?_, HNX.out, rfl⟩
                          · first | rfl | (congr 1; omega)
                          · cases g with
                            | zero => exact .inl ⟨rfl, by simp⟩
                            | succ g => exact .inr ⟨g, rfl, by simp⟩

set_option maxHeartbeats 1000000 in
set_option maxRecDepth 100000 in
theorem rreadnum_c (v : Value) (bs : List Nat) (at_ : Int) (w : World) (hv : SlB w v bs) (hn : bs.length ≤ 281474976710656) (h1 : -9223372036854775808 ≤ at_) (h2 : at_ < 9223372036854775808) (hby : ∀ x ∈ bs, x < 256) :
    Calls Tryd.prog 62 #[v, .int .i64 at_] w fun e w' => e = .returned (numVal (rdAns bs at_ 9)) ∧ w' = w := by
  have HV := Lib.hid hv
  have HBy := Lib.hid hby
  clear hv hby
  go_enter Tryd.func62, Tryd.ntmps62
  go_wp2_with fail
  refine (rread_c v bs at_ 9 w HV.out (by omega) hn h1 h2 HBy.out).mono ?_
  rintro e w1 ⟨rfl, rfl⟩
  cases hr : rdAns bs at_ 9 with
  | error e =>
    have HR := Lib.hid hr
    clear hr
    simp only [rdVal]
    go_wp2_with fail
    go_ret3
    exact ⟨by rw [HR.out]; rfl, rfl⟩
  | ok q =>
    obtain ⟨z, p⟩ := q
    have hz := (rdAns_lt (by omega) hr).2 (by omega)
    have HR := Lib.hid hr
    clear hr
    simp only [rdVal]
    go_wp2_with fail
    go_ret3
    exact ⟨by rw [HR.out]; rfl, rfl⟩

set_option maxHeartbeats 1000000 in
set_option maxRecDepth 100000 in
theorem rreadint_c (v : Value) (bs : List Nat) (at_ : Int) (w : World) (hv : SlB w v bs) (hn : bs.length ≤ 281474976710656) (h1 : -9223372036854775808 ≤ at_) (h2 : at_ < 9223372036854775808) (hby : ∀ x ∈ bs, x < 256) :
    Calls Tryd.prog 63 #[v, .int .i64 at_] w fun e w' => e = .returned (intVal (rdAns bs at_ 10)) ∧ w' = w := by
  have HV := Lib.hid hv
  have HBy := Lib.hid hby
  clear hv hby
  go_enter Tryd.func63, Tryd.ntmps63
  go_wp2_with fail
  refine (rread_c v bs at_ 10 w HV.out (by omega) hn h1 h2 HBy.out).mono ?_
  rintro e w1 ⟨rfl, rfl⟩
  cases hr : rdAns bs at_ 10 with
  | error e =>
    have HR := Lib.hid hr
    have he : e = 20 ∨ e = 3 ∨ e = 1 := by
      unfold rdAns at hr
      split at hr
      · injection hr with hr; omega
      · split at hr
        · cases hr
        · rename_i e' hh
          injection hr with hr
          have := rd_errs _ _ _ _ _ hh
          omega
    have hne : ((e : Int) != 0) = true := by rw [bne_iff_ne]; omega
    clear hr he
    simp only [rdVal]
    go_wp2_with fail
    go_ret3
    exact ⟨by rw [HR.out]; rfl, rfl⟩
  | ok q =>
    obtain ⟨z, p⟩ := q
    have hz := (rdAns_lt (by omega) hr).1
    have hz2 : z / 2 < 9223372036854775808 := by omega
    have HR := Lib.hid hr
    clear hr
    simp only [rdVal]
    by_cases hodd : z % 2 = 1
    · have hb : ((z : Int) % 2 == 1) = true := by simp; omega
      have HU : Hid (uz z = -((z : Int) / 2) - 1) := by show uz z = _; unfold uz; rw [if_neg (by omega)]; omega
      clear hodd
      go_wp2_with fail
      go_ret3
      exact ⟨by rw [HR.out]; simp only [intVal, HU.out]; rfl, rfl⟩
    · have hb : ((z : Int) % 2 == 1) = false := by simp; omega
      have HU : Hid (uz z = (z : Int) / 2) := by show uz z = _; unfold uz; rw [if_pos (by omega)]; omega
      clear hodd
      go_wp2_with fail
      go_ret3
      exact ⟨by rw [HR.out]; simp only [intVal, HU.out]; rfl, rfl⟩

set_option maxHeartbeats 1000000 in
set_option maxRecDepth 100000 in
theorem rreadtext_c (v : Value) (bs : List Nat) (at_ : Int) (w : World) (hv : SlB w v bs) (hn : bs.length ≤ 281474976710656) (h1 : -9223372036854775808 ≤ at_) (h2 : at_ < 9223372036854775808) (hby : ∀ x ∈ bs, x < 256) :
    Calls Tryd.prog 64 #[v, .int .i64 at_] w fun e w' => e = .returned (txVal (txAns bs at_)) ∧ w' = w := by
  have HV := Lib.hid hv
  have HBy := Lib.hid hby
  obtain ⟨A, c, rfl, hc, hA, hr0⟩ := hv
  clear hby hr0
  go_enter Tryd.func64, Tryd.ntmps64
  go_wp2_with fail
  refine (rreadnum_c _ bs at_ w HV.out hn h1 h2 HBy.out).mono ?_
  rintro e w1 ⟨rfl, rfl⟩
  cases hr : rdAns bs at_ 9 with
  | error e =>
    have HA : Hid (txAns bs at_ = .error e) := by unfold txAns; rw [hr]; exact rfl
    have he : e = 20 ∨ e = 3 ∨ e = 1 := by
      unfold rdAns at hr
      split at hr
      · injection hr with hr; omega
      · split at hr
        · cases hr
        · rename_i e' hh
          injection hr with hr
          have := rd_errs _ _ _ _ _ hh
          omega
    have hne : ((e : Int) != 0) = true := by rw [bne_iff_ne]; omega
    clear hr he
    simp only [numVal]
    go_wp2_with fail
    go_ret3
    exact ⟨by rw [HA.out]; rfl, rfl⟩
  | ok q =>
    obtain ⟨n, p⟩ := q
    have hz := (rdAns_lt (by omega) hr).2 (by omega)
    have hp := rdAns_end HBy.out hr
    simp only [numVal]
    by_cases hl : 65536 < n
    · have HA : Hid (txAns bs at_ = .error 2) := by unfold txAns; rw [hr]; show (if 65536 < n then _ else _) = _; rw [if_pos hl]
      have hd : decide (65536 < (n : Int)) = true := by simp; omega
      clear hr
      go_wp2_with fail
      go_ret3
      exact ⟨by rw [HA.out]; rfl, rfl⟩
    · have hd : decide (65536 < (n : Int)) = false := by simp; omega
      by_cases he : bs.length < p + n
      · have HA : Hid (txAns bs at_ = .error 3) := by unfold txAns; rw [hr]; show (if 65536 < n then _ else _) = _; rw [if_neg hl, if_pos he]
        have hd2 : decide ((bs.length : Int) - (p : Int) < (n : Int)) = true := by simp; omega
        clear hr
        go_wp2_with fail
        go_ret3
        exact ⟨by rw [HA.out]; rfl, rfl⟩
      · have HA : Hid (txAns bs at_ = .ok ((bs.drop p).take n, p + n)) := by unfold txAns; rw [hr]; show (if 65536 < n then _ else _) = _; rw [if_neg hl, if_neg he]
        have hd2 : decide ((bs.length : Int) - (p : Int) < (n : Int)) = false := by simp; omega
        obtain ⟨B, d, hsub, hsl⟩ := (HV.out).sub_ p n (p : Int) ((p : Int) + (n : Int)) rfl (by omega) (by omega)
        have hcv := hsl.conv
        clear hr hsl
        go_wp2_with fail
        go_ret3
        exact ⟨by rw [HA.out]; simp only [txVal]; rfl, rfl⟩

end Go.Proofs.YtebdjahcahgafaaDoor

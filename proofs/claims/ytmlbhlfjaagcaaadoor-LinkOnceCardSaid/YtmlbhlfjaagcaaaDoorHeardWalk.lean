/- The contract of LinkHeard. -/
import Derived.Test.YtmlbhlfjaagcaaaDoorNewerWalk
import Derived.Test.YtmlbhlfjaagcaaaDoorLFr
namespace Go.Proofs.YtmlbhlfjaagcaaaDoor
open Go.RowKit

/-- The numbers of the first k messages of an end. -/
def numsL (p k : Nat) : List Nat := (List.range k).map fun j => (p + j) % 65536
theorem numsL_len (p k : Nat) : (numsL p k).length = k := by simp [numsL]
theorem numsL_succ (p k : Nat) : numsL p (k + 1) = numsL p k ++ [(p + k) % 65536] := by simp [numsL, List.range_succ]
theorem numsL_get (p k i : Nat) (h : i < k) : (numsL p k)[i]? = some ((p + i) % 65536) := by simp [numsL, h]

/-- k messages were sent, from number p on. -/
structure Ran (p k : Nat) (s : LS) : Prop where
  next : s.next = (p + k) % 65536
  sent : s.sent = min k 64

theorem Ran.new {p : Nat} (h : p < 65536) : Ran p 0 (LS.new p) := ⟨by show p = _; omega, rfl⟩
theorem Ran.send {p k : Nat} {s : LS} (h : Ran p k s) : Ran p (k + 1) s.sendS :=
  ⟨by show (s.next + 1) % 65536 = _; rw [h.next]; omega, by show min (s.sent + 1) 64 = _; rw [h.sent]; omega⟩
theorem ack_keep (s : LS) (n : Nat) : (s.ack n).next = s.next ∧ (s.ack n).sent = s.sent := by unfold LS.ack; split <;> exact ⟨rfl, rfl⟩
theorem recTo_keep (s : LS) (la bi : Nat) : ∀ k, (recTo s la bi k).next = s.next ∧ (recTo s la bi k).sent = s.sent
  | 0 => ack_keep s la
  | k + 1 => by
    unfold recTo
    split
    · rw [(ack_keep _ _).1, (ack_keep _ _).2]; exact recTo_keep s la bi k
    · exact recTo_keep s la bi k
theorem recd_keep (s : LS) (so : Bool) (la bi : Nat) : (s.recd so la bi).next = s.next ∧ (s.recd so la bi).sent = s.sent := by
  unfold LS.recd; split
  · exact recTo_keep s la bi 32
  · exact ⟨rfl, rfl⟩
theorem same_keep (s : LS) (g : DG) : (s.same g).st.next = s.next ∧ (s.same g).st.sent = s.sent := by
  unfold LS.same LS.put
  split
  · exact ⟨rfl, rfl⟩
  · split
    · exact ⟨rfl, rfl⟩
    · split <;> exact ⟨rfl, rfl⟩
theorem come_keep (s : LS) (g : DG) : (s.come g).st.next = s.next ∧ (s.come g).st.sent = s.sent := by
  unfold LS.come
  split
  · exact ⟨rfl, rfl⟩
  · split
    · split
      · exact ⟨rfl, rfl⟩
      · exact same_keep { s with ps := [] } g
    · exact same_keep s g
theorem recv_keep (s : LS) (d : List Nat) : (s.recv d).st.next = s.next ∧ (s.recv d).st.sent = s.sent := by
  unfold LS.recv
  split
  · exact ⟨rfl, rfl⟩
  · rw [(come_keep _ _).1, (come_keep _ _).2]; exact recd_keep s _ _ _
theorem Ran.recv {p k : Nat} {s : LS} (h : Ran p k s) (d : List Nat) : Ran p k (s.recv d).st :=
  ⟨by rw [(recv_keep s d).1]; exact h.next, by rw [(recv_keep s d).2]; exact h.sent⟩

theorem Ran.acked {p k : Nat} {s : LS} (h : Ran p k s) : s.acked.Sublist ((numsL p k).drop (k - 64)) := by
  have e : (List.range s.sent).map s.num = (numsL p k).drop (k - 64) := by
    apply List.ext_getElem?
    intro i
    rw [List.getElem?_drop]
    by_cases hi : i < s.sent
    · have hs := h.sent
      rw [numsL_get p k _ (by omega)]
      simp only [List.getElem?_map, List.getElem?_range hi, Option.map_some]
      congr 1
      unfold LS.num aheadN
      rw [h.next, hs]
      omega
    · have hs := h.sent
      rw [List.getElem?_eq_none (by simp; omega), List.getElem?_eq_none (by rw [numsL_len]; omega)]
  unfold LS.acked ackTo
  rw [← e]
  exact List.filter_sublist

theorem sub_ne {x y : Nat} {l m : List Nat} (h : (x :: l).Sublist (y :: m)) (hne : y ≠ x) : (x :: l).Sublist m := by
  cases h with
  | cons _ h => exact h
  | cons_cons _ h => exact absurd rfl hne
theorem sub_eq {x y : Nat} {l m : List Nat} (h : (x :: l).Sublist (y :: m)) : l.Sublist m := by
  cases h with
  | cons _ h => exact (List.sublist_cons_self x l).trans h
  | cons_cons _ h => exact h

structure HdSt (w : World) (x : Lk) (p k : Nat) (s : LS) (v : Value) (wr : World) : Prop where
  one : One w wr x s
  ran : Ran p k s
  own : wr.ownsRow w.heap.size 3 1 v k (I64s (numsL p k))
theorem HdSt.draw {w wr : World} {x : Lk} {p k : Nat} {s : LS} {v : Value} (h : HdSt w x p k s v wr) (n : Nat) : HdSt w x p k s v (wr.drewN n) :=
  ⟨h.one.draw n, h.ran, h.own⟩
theorem HdSt.go {w wr w' : World} {x : Lk} {p k : Nat} {s : LS} {v : Value} (h : HdSt w x p k s v wr) (hb : Below wr.heap.size wr w') : HdSt w x p k s v w' :=
  ⟨h.one.go hb, h.ran, ownsRow_fr (S := fun _ => False) h.own (Fr.of_below hb) (fun _ _ h => h)⟩

theorem row_cell {w : World} {base n : Nat} {v : Value} {l : List Nat} (h : w.ownsRow base 3 1 v n (I64s l)) {j x : Nat} (hj : l[j]? = some x) : ∃ r c, v = .slice (some ⟨r, 0, none⟩) n c ∧ w.cell? ⟨r, j, none⟩ = some (.int .i64 (x : Int)) := by
  have hl : j < l.length := (List.getElem?_eq_some_iff.1 hj).1
  have hn := h.1
  rw [I64s_length] at hn
  obtain ⟨r, c, hv, _, _⟩ := h.form (by omega)
  refine ⟨r, c, hv, ?_⟩
  have hc := h.cells (g := r) (by rw [hv]; rfl) j (.int .i64 (x : Int)) (by simp [I64s, hj])
  rw [addr0] at hc
  exact hc

theorem int64_eq {a b : Int} (h : a = b) : Value.int .i64 a = .int .i64 b := by rw [h]

theorem one_fr {w w' : World} {x : Lk} {s : LS} {base n sz : Nat} {e : TypeId} {v : Value} {xs : List Value} (h : At1 w x s) (ho : w.ownsRow base e sz v n xs) (hf : Fr (fun q => v.ownBlock = some q) w w') (h64 : e ≠ 64 := by decide) (h5 : e ≠ 5 := by decide) : At1 w' x s := by
  obtain ⟨m, hm, _⟩ := h.pm
  have hb : ∀ q, v.ownBlock = some q → ∃ cs, Blk w q e cs := by
    intro q hq
    rcases ho.2 with ⟨rfl, _⟩ | ⟨g', cap, cur, rfl, _, hh, _⟩
    · simp [Value.ownBlock] at hq
    · have : g' = q := by simpa [Value.ownBlock] using hq
      subst this
      exact ⟨cur, hh⟩
  refine h.fr hf (fun hq => ?_) (fun hq => ?_) (fun hq => ?_) (fun k cs _ hk hq => ?_)
  · obtain ⟨cs, hc⟩ := hb _ hq; exact hc.ne_ h.blk h64 rfl
  · obtain ⟨cs, hc⟩ := hb _ hq; exact h.am.ne_blk hc rfl
  · obtain ⟨cs, hc⟩ := hb _ hq; exact hm.ne_blk hc rfl
  · obtain ⟨cs', hc⟩ := hb _ hq; exact hc.ne_ hk h5 rfl

set_option maxHeartbeats 8000000 in
set_option maxRecDepth 100000 in
theorem heard_c (f : Int) (a : Option Addr) (len cap : Nat) (L : List ActL) (w : World) (ht : Tab w) (hr : ActsArg w a len L) (hl : len ≤ 140737488351232) :
    Calls Tryd.prog 8 #[.int .i64 f, .slice a len cap] w fun e w' => e = .returned (.bool true) ∧ Below w.heap.size w w' := by
  have HT := Lib.hid ht
  have HR := Lib.hid hr
  clear ht hr
  obtain ⟨i0, hi0, hz0, hz1, hz2⟩ := info_parts infoI64
  obtain ⟨p, hp⟩ : ∃ p : Nat, p = (f % 65536).toNat := ⟨_, rfl⟩
  have hpl : p < 65536 := by omega
  have HPL := Lib.hid hpl
  have HP := Lib.hid hp
  clear hp hpl
  go_enter Tryd.func8, Tryd.ntmps8
  go_wp2_with fail
  refine (awake_c w HT.out).mono ?_
  rintro e w1 ⟨rfl, hb1⟩
  have HB1 := Lib.hid hb1
  clear hb1
  go_wp2_with fail
  refine (new1_c w w1 f HB1.out).mono ?_
  rintro e w2 ⟨x, rfl, hx, _, _⟩
  rw [← HP.out] at hx
  have S0 : HdSt w x p 0 (LS.new p) (.slice none 0 0) w2 := ⟨hx, Ran.new HPL.out, World.ownsRow_nil _ _ _ _⟩
  clear hx
  go_wp2_with fail
  go_loopg [7, 8] 200 (fun gg s7 s8 wr => ∃ (i k : Nat) (s : LS), i + gg = 200 ∧ i ≤ len ∧ k ≤ i ∧ s8 = .int .i64 (i : Int) ∧ HdSt w x p k s s7 wr)
  case atStart => exact ⟨0, 0, LS.new p, rfl, Nat.zero_le _, Nat.le_refl _, rfl, S0⟩
  case round =>
    obtain ⟨i, k, s, hig, hil, hki, rfl, hx⟩ := hrel
    have HX := Lib.hid hx
    clear hx S0
    rcases Nat.lt_or_ge i len with hlt | hge
    · cases gk with
      | zero =>
        obtain rfl : i = 200 := by omega
        have hd1 : decide (((200 : Nat) : Int) < (len : Int)) = true := by simp; omega
        have hd2 : decide (((200 : Nat) : Int) < 200) = false := by decide
        have hd3 : decide (200 < len) = true := by simp; omega
        go_wp2_with fail
        go_ret
        exact ⟨rfl, HX.out.one.below⟩
      | succ gk =>
        have hd1 : decide (i < len) = true := by simp; omega
        have hd2 : decide ((i : Int) < 200) = true := by simp; omega
        obtain ⟨bb, oo, rfl, hbb, hat⟩ := HR.out.at_ (by omega)
        have hib : i < L.length := by rw [HR.out.size]; exact hlt
        obtain ⟨A, c, hc0, hc1, hc2, hc3, hsl⟩ := hat i L[i] (List.getElem?_eq_getElem hib)
        have hok := HR.out.okA L[i] (List.getElem_mem hib)
        generalize L[i] = t at *
        have q0 : wr.cell? ⟨bb, oo + i * 4, none⟩ = some (.int .i64 t.do_) := (HX.out.one.below.cell (p := ⟨bb, oo + i * 4, none⟩) hbb).trans hc0
        have q3 : wr.cell? ⟨bb, oo + (i * 4 + 3), none⟩ = some (.slice A t.b.length c) := (HX.out.one.below.cell (p := ⟨bb, oo + (i * 4 + 3), none⟩) hbb).trans hc3
        have q3' : wr.cell? ⟨bb, oo + i * 4 + 3, none⟩ = some (.slice A t.b.length c) := by rw [Nat.add_assoc]; exact q3
        have HSl := Lib.hid (hsl.below HX.out.one.below)
        have HOk := Lib.hid hok
        have hi1 : (0 : Int) ≤ (i : Int) := by omega
        have hi2 : (i : Int) < (len : Int) := by omega
        have hi3 : (i : Int) < 200 := by omega
        clear hat hsl hc0 hc1 hc2 hc3 hbb hib hok
        go_upto_if 39 with (fail)
        go_cut [7] (fun s7 wx => ∃ (k2 : Nat) (s2 : LS), k2 ≤ i + 1 ∧ HdSt w x p k2 s2 s7 wx)
        case first =>
          cases hdo : (t.do_ == 0) with
          | true =>
            go_wp2_with fail
            refine (send1_c _ t.b HX.out.one HSl.out (HT.out.below HX.out.one.below) HOk.out.byte).mono ?_
            rintro e w3 (⟨h1, rfl, rfl⟩ | ⟨h1, v3, gs, rfl, h2, h3, h4, h5⟩)
            · go_wp2_with fail
              go_meet
              exact ⟨k, s, by omega, HX.out⟩
            · have hown3 := keep_row HX.out.one.at_ h5 (fun i h => h.elim .inl (fun e => .inr (.inl e))) HX.out.own (by decide)
              have HO3 := Lib.hid hown3
              have H4 := Lib.hid h4
              have hnx : s.next = (p + k) % 65536 := HX.out.ran.next
              have HNx := Lib.hid hnx
              have HRan := Lib.hid HX.out.ran.send
              clear h1 h2 h3 h4 h5 hown3 hnx HX HSl q0 q3 q3'
              go_wp2_with (at_builtin; refine wpList_append_own_at _ rfl (.tmp 53) (.tmp 55) 43 rfl w.heap.size 3 i0 (.int .i64 0) 1 8 Tryd.underlying43 hi0 hz0 hz1 hz2 rfl (by decide) _ _ _ rfl (HO3.out.alloc _) ⟨w3.heap.size, 0, none⟩ 1 1 [.int .i64 (s.next : Int)] rfl rfl (cell_one_new _ _ _) ?c2 ?c3 ?c4 ?c5 ?_)
              case c2 => intro u hu; simp at hu; subst hu; rfl
              case c3 => unfold maxLen; omega
              case c4 => omega
              case c5 => have := H4.out.below.size; simp; omega
              intro v9 w9 hown9 hgr9 _ _
              have hfr9 : Fr (fun q => u7.ownBlock = some q) w3 w9 := (Fr.alloc (S := fun q => u7.ownBlock = some q) w3 _).trans (Fr.of_grown hgr9 fun _ _ he => he) (fun _ _ h => h)
              have S9 : Hid (HdSt w x p (k + 1) s.sendS v9 w9) := by
                refine ⟨⟨?_, H4.out.ok, H4.out.zero, H4.out.fr, below_kept H4.out.below H4.out.below.size hgr9 (fun q hq => (HO3.out.lt q hq).1)⟩, HRan.out, ?_⟩
                · exact one_fr H4.out.at_ HO3.out hfr9
                · rw [numsL_succ, I64s_append, ← HNx.out]; exact hown9
              clear hown9 hgr9 hfr9 HO3 H4
              go_wp2_with fail
              go_meet
              exact ⟨k + 1, s.sendS, by omega, S9.out⟩
          | false =>
            go_wp2_with fail
            refine (recv1_c _ t.b HX.out.one HSl.out (HT.out.below HX.out.one.below) (by have := HOk.out.len; omega) HOk.out.byte).mono ?_
            rintro e w3 ⟨h1, h2, h3⟩
            have S3 : Hid (HdSt w x p k (s.recv t.b).st u7 w3) := ⟨h1, HX.out.ran.recv t.b, keep_row HX.out.one.at_ h2 (fun _ h => h) HX.out.own (by decide)⟩
            rcases h3 with ⟨m, v, _, _, rfl, _⟩ | ⟨_, rfl⟩
            all_goals
              clear h1 h2 HX HSl q0 q3 q3'
              go_wp2_with fail
              go_meet
              exact ⟨k, _, by omega, S3.out⟩
        case rest =>
          obtain ⟨k2, s2, hk2, S2⟩ := hcut
          have HS2 := Lib.hid S2
          clear S2 HX HSl q0 q3 q3' HOk
          go_wp2_with fail
          refine (acked_c HS2.out.one.at_ HS2.out.one.ok).mono ?_
          rintro e w5 ⟨vl, rfl, ho5, hb5⟩
          have hsub := HS2.out.ran.acked
          have HD5 := HS2.out.go hb5
          have hll : s2.acked.length ≤ 64 := by have := ackTo_len s2 s2.sent; have := HS2.out.one.ok.sent; unfold LS.acked; omega
          generalize s2.acked = l at *
          obtain ⟨vA, vc, rfl⟩ : ∃ A c, u7 = .slice A k2 c := own_slice HD5.own
          obtain ⟨lA, lc, rfl⟩ : ∃ A c, vl = .slice A l.length c := own_slice ho5
          have HD := Lib.hid HD5
          have HL := Lib.hid ho5
          have HSub := Lib.hid hsub
          clear hsub HD5 ho5 hb5 HS2
          have hk200 : k2 ≤ 200 := by omega
          go_wp2_with fail
          all_goals
            go_loopg [13, 14] l.length (fun gg s13 s14 wz => ∃ j kk : Nat, j + gg = l.length ∧ kk ≤ k2 ∧ s14 = .int .i64 (j : Int) ∧ s13 = .int .i64 (kk : Int) ∧ HdSt w x p k2 s2 (.slice vA k2 vc) wz ∧ wz.ownsRow wc.heap.size 3 1 (.slice lA l.length lc) l.length (I64s l) ∧ (l.drop j).Sublist ((numsL p k2).drop kk))
            case atStart => exact ⟨0, k2 - 64, by omega, by omega, rfl, int64_eq (by omega), HD.out, HL.out, HSub.out⟩
            case round =>
              obtain ⟨j, kk, hjg, hkk, rfl, rfl, hD, hL, hS⟩ := hrel
              have HD2 := Lib.hid hD
              have HL2 := Lib.hid hL
              have HS2 := Lib.hid hS
              clear hD hL hS
              cases gk with
              | zero =>
                obtain rfl : j = l.length := by omega
                have hdj : decide (l.length < l.length) = false := by simp
                go_wp2_with fail
                go_roundg gk
                case measure => omega
                case rel => exact ⟨i + 1, k2, s2, by omega, by omega, by omega, by go_num, HD2.out⟩
              | succ gk2 =>
                have hjl : j < l.length := by omega
                have hdj : decide (j < l.length) = true := by simpa using hjl
                go_wp2_with fail
                go_loopg [13] (k2 - kk) (fun gg s13 wz => ∃ kz : Nat, kz + gg = k2 ∧ s13 = .int .i64 (kz : Int) ∧ HdSt w x p k2 s2 (.slice vA k2 vc) wz ∧ wz.ownsRow wc.heap.size 3 1 (.slice lA l.length lc) l.length (I64s l) ∧ (l.drop j).Sublist ((numsL p k2).drop kz))
                case atStart => exact ⟨kk, by omega, rfl, HD2.out, HL2.out, HS2.out⟩
                case round =>
                  obtain ⟨kz, hkz, rfl, hD, hL, hS⟩ := hrel
                  have hdl : l.drop j = l[j] :: l.drop (j + 1) := List.drop_eq_getElem_cons hjl
                  rw [hdl] at hS
                  have hlt : kz < k2 := by
                    rcases Nat.lt_or_ge kz k2 with h | h
                    · exact h
                    · have h0 : (numsL p k2).drop kz = [] := List.drop_of_length_le (by rw [numsL_len]; exact h)
                      rw [h0] at hS
                      cases hS
                  have hnl : kz < (numsL p k2).length := by rw [numsL_len]; exact hlt
                  have hdn : (numsL p k2).drop kz = (numsL p k2)[kz] :: (numsL p k2).drop (kz + 1) := List.drop_eq_getElem_cons hnl
                  rw [hdn] at hS
                  obtain ⟨r1, c1, e1, hc1⟩ := row_cell hD.own (j := kz) (x := (numsL p k2)[kz]) (List.getElem?_eq_getElem hnl)
                  obtain ⟨r2, c2, e2, hc2⟩ := row_cell hL (j := j) (x := l[j]) (List.getElem?_eq_getElem hjl)
                  injection e1 with e1 _ e1c
                  injection e2 with e2 _ e2c
                  subst e1 e1c e2 e2c
                  generalize (numsL p k2)[kz] = y at *
                  generalize hy2 : l[j] = z at *
                  have HD3 := Lib.hid hD
                  have HL3 := Lib.hid hL
                  have HS3 := Lib.hid hS
                  have HY2 := Lib.hid hy2
                  have hdk : decide (kz < k2) = true := by simpa using hlt
                  have hk0 : (0 : Int) ≤ (kz : Int) := by omega
                  have hk1 : (kz : Int) < (k2 : Int) := by omega
                  have hj0 : (0 : Int) ≤ (j : Int) := by omega
                  have hj1 : (j : Int) < (l.length : Int) := by omega
                  clear hD hL hS hdl hdn hnl hy2 HD2 HL2 HS2
                  by_cases heq : y = z
                  · have hne : ((y : Int) != (z : Int)) = false := by simp [heq]
                    have hkz2 : ((kz : Int) == (k2 : Int)) = false := by simp; omega
                    have HSx : Hid ((l.drop (j + 1)).Sublist ((numsL p k2).drop (kz + 1))) := sub_eq HS3.out
                    clear heq
                    go_wp2_with fail
                    go_quiet (fail)
                    go_wp2_with fail
                    go_roundg gk2
                    case measure => omega
                    case rel => exact ⟨j + 1, kz + 1, by omega, by omega, by go_num, by go_num, HD3.out.draw nq, HL3.out, HSx.out⟩
                  · have hne : ((y : Int) != (z : Int)) = true := by simp; omega
                    have HSx : Hid ((z :: l.drop (j + 1)).Sublist ((numsL p k2).drop (kz + 1))) := sub_ne HS3.out heq
                    have HSy : Hid ((l.drop j).Sublist ((numsL p k2).drop (kz + 1))) := by
                      show (l.drop j).Sublist _
                      rw [List.drop_eq_getElem_cons hjl, HY2.out]; exact HSx.out
                    clear heq HSx
                    go_wp2_with fail
                    go_quiet (fail)
                    go_wp2_with fail
                    go_roundg (gk - 1)
                    case measure => omega
                    case rel => exact ⟨kz + 1, by omega, by go_num, HD3.out.draw nq, HL3.out, HSy.out⟩
    · obtain rfl : i = len := by omega
      have hd1 : decide (i < i) = false := by simp
      go_wp2_with fail
      go_ret
      exact ⟨rfl, HX.out.one.below⟩

end Go.Proofs.YtmlbhlfjaagcaaaDoor

/- The walk of BoxStops. (By tools/genstops.py.) -/
import Derived.Test.YtnffflcfncffpaaFullWalk
namespace Go.Proofs.Ytnffflcfncffpaa
open Go.RowKit

/-- What stays through the rounds: the box, and how far it goes along both axes. -/
structure SQ (w wr : World) (gq : Nat) (x y r gx gy : Int) : Prop where
  a : Blk wr w.heap.size 25 (boxR x y r)
  c : Blk wr gq 23 #[.int .i64 gx, .int .i64 gy]
  bel : Below w.heap.size w wr
theorem SQ.below {w wr w2 : World} {gq : Nat} {x y r gx gy : Int} (h : SQ w wr gq x y r gx gy) (hb : Below wr.heap.size wr w2) : SQ w w2 gq x y r gx gy :=
  ⟨h.a.below hb h.a.lt, h.c.below hb h.c.lt, vbt h.bel hb⟩

/-- What a region that calls Meet reads: a box of its own block, a box of the slice; and what stays. -/
abbrev SS (w : World) (b i gq gb : Nat) (x y r gx gy u v s p q z : Int) (w1 : World) : Prop := w1.cell? ⟨gb, 0, none⟩ = some (.int .i64 p) ∧ w1.cell? ⟨gb, 1, none⟩ = some (.int .i64 q) ∧ w1.cell? ⟨gb, 2, none⟩ = some (.int .i64 z) ∧ w1.cell? ⟨b, i, none⟩ = some (.int .i64 u) ∧ w1.cell? ⟨b, i + 1, none⟩ = some (.int .i64 v) ∧ w1.cell? ⟨b, i + 2, none⟩ = some (.int .i64 s) ∧ Blk w1 gb 25 (boxR p q z) ∧ SQ w w1 gq x y r gx gy ∧ b < w.heap.size
section
variable {w w1 w2 : World} {b i gq gb : Nat} {x y r gx gy u v s p q z : Int}
theorem SS.make {u v s : Int} (hc : w.cell? ⟨b, i, none⟩ = some (.int .i64 u) ∧ w.cell? ⟨b, i + 1, none⟩ = some (.int .i64 v) ∧ w.cell? ⟨b, i + 2, none⟩ = some (.int .i64 s)) (hb : b < w.heap.size) (k : Blk w1 gb 25 (boxR p q z)) (h : SQ w w1 gq x y r gx gy) : SS w b i gq gb x y r gx gy u v s p q z w1 :=
  ⟨k.cell 0, k.cell 1, k.cell 2, (h.bel.cell hb).trans hc.1, (h.bel.cell hb).trans hc.2.1, (h.bel.cell hb).trans hc.2.2, k, h, hb⟩
theorem SS.keep (h : SS w b i gq gb x y r gx gy u v s p q z w1) (hb : Below w1.heap.size w1 w2) : SS w b i gq gb x y r gx gy u v s p q z w2 := by
  obtain ⟨_, _, _, e0, e1, e2, h1, h2, h3⟩ := h
  have k := h1.below hb h1.lt
  have hl : b < w1.heap.size := Nat.lt_of_lt_of_le h3 h2.bel.size
  exact ⟨k.cell 0, k.cell 1, k.cell 2, (hb.cell hl).trans e0, (hb.cell hl).trans e1, (hb.cell hl).trans e2, k, h2.below hb, h3⟩
theorem SS.sq (h : SS w b i gq gb x y r gx gy u v s p q z w1) : SQ w w1 gq x y r gx gy := h.2.2.2.2.2.2.2.1
end

theorem go_facts {a : Bx} {bx b2 : Int} {L : List Bx} (h : errG a bx b2 L = 0) : allB L = true ∧ a.right = true ∧ inB bx = true ∧ inB b2 = true := by
  unfold errG at h
  cases q1 : allB L <;> cases q2 : a.right <;> cases q3 : inB bx <;> cases q4 : inB b2 <;> simp [q1, q2, q3, q4] at h ⊢

set_option maxRecDepth 100000 in
set_option maxHeartbeats 2000000 in
theorem stops_walk0 (a : Bx) (n1 bx b2 : Int) (A : Option Addr) (n c : Nat) (L : List Bx) (w : World) (hx : I64 a.x) (hy : I64 a.y) (hbx : I64 bx) (hb2 : I64 b2) (hn : n ≤ 281474976710656) (hL : RBox w w.heap.size A n L) (hax : bits .and .i64 n1 1 = 0) :
    Calls Try.prog 6 #[boxV a.x a.y a.r, .int .i64 n1, vecV bx b2, .slice A n c] w fun e w' => e = .returned (.bool true) ∧ Below w.heap.size w w' := by
  have HA := Lib.hid (fun w => awake_c w)
  have HP := Lib.hid (fun w hL => Push_c a 0 bx A n c L w hx hy hbx hn hL)
  have HG := Lib.hid (fun w hL => Go_c a bx b2 A n c L w hx hy hbx hb2 hn hL)
  have HL := Lib.hid hL
  have hlen := hL.1
  have hn' : n < 9223372036854775808 := by omega
  have E1 : errP 0 a bx L = 0 → I64 (a.x + pWay 0 a bx L) ∧ wrap64 (a.x + pWay 0 a bx L) = a.x + pWay 0 a bx L ∧ (pWay 0 a bx L = 0 ∨ (0 < pWay 0 a bx L ↔ 0 < bx)) ∧ ∀ i, i < n → meetX a (Bx.at L i) = false → meetX (a.go 0 (pWay 0 a bx L)) (Bx.at L i) = false := by
    intro h
    obtain ⟨hall, har, hin, e1, _⟩ := push_facts h
    have z : Int.toNat 0 = 0 := rfl
    rw [e1, z]
    have g := wayF_in 0 a bx L
    have s1 := rightB_spec.1 har
    have s2 := inB_spec.1 hin
    exact ⟨by unfold I64; omega, IntWalk.wrap64_in _ (by omega), way_sign 0 a bx L, fun i hi hm => stops0 har hall (by omega) hm⟩
  have E2 : errG a bx b2 L = 0 → (I64 (a.x + onG (errG a bx b2 L) (wayF 0 a bx L)) ∧ I64 (a.y + onG (errG a bx b2 L) (goY a bx b2 L))) ∧ (wrap64 (a.x + onG (errG a bx b2 L) (wayF 0 a bx L)) = a.x + onG (errG a bx b2 L) (wayF 0 a bx L) ∧ wrap64 (a.y + onG (errG a bx b2 L) (goY a bx b2 L)) = a.y + onG (errG a bx b2 L) (goY a bx b2 L)) ∧ ∀ i, i < n → meetX a (Bx.at L i) = false → meetX ⟨a.x + onG (errG a bx b2 L) (wayF 0 a bx L), a.y + onG (errG a bx b2 L) (goY a bx b2 L), a.r⟩ (Bx.at L i) = false := by
    intro h
    obtain ⟨hall, har, hi1, hi2⟩ := go_facts h
    have o1 : ∀ v, onG (errG a bx b2 L) v = v := fun v => if_pos h
    rw [o1, o1]
    have g1 := wayF_in 0 a bx L
    have g2 : -(b2.natAbs : Int) ≤ goY a bx b2 L ∧ goY a bx b2 L ≤ (b2.natAbs : Int) := wayF_in 1 (goA a bx L) b2 L
    have s1 := rightB_spec.1 har
    have s2 := inB_spec.1 hi1
    have s3 := inB_spec.1 hi2
    exact ⟨⟨by unfold I64; omega, by unfold I64; omega⟩, ⟨IntWalk.wrap64_in _ (by omega), IntWalk.wrap64_in _ (by omega)⟩, fun i hi hm => stops2 har hall (by omega) hm⟩
  have HX := Lib.hid hx
  have HY := Lib.hid hy
  unfold goV at HG
  generalize onG (errG a bx b2 L) (wayF 0 a bx L) = gx at *
  generalize onG (errG a bx b2 L) (goY a bx b2 L) = gy at *
  generalize onG (errG a bx b2 L) (whoF 0 a bx L) = ox at *
  generalize onG (errG a bx b2 L) (whoF 1 (goA a bx L) b2 L) = oy at *
  generalize errG a bx b2 L = f0 at *
  generalize pWay 0 a bx L = D at *
  generalize pWho 0 a bx L = who at *
  generalize errP 0 a bx L = e0 at *
  have F1 := Lib.hid E1
  have F2 := Lib.hid E2
  clear hx hy hbx hb2 hn hL hlen E1 E2
  go_enter Try.func6, Try.ntmps6
  go_wp2_with fail
  refine (HA.out _).mono ?_
  rintro e w1 ⟨rfl, hb⟩
  obtain ⟨k1, k2, hb⟩ := two_blk hb
  have K1 := Lib.hid k1
  have K2 := Lib.hid k2
  have HB := Lib.hid hb
  clear k1 k2 hb HA
  have c0 := K1.out.cell 0
  have c1 := K1.out.cell 1
  have c2 := K1.out.cell 2
  have c3 := K2.out.cell 0
  have c4 := K2.out.cell 1
  go_wp2_with fail
  refine (HP.out _ (HL.out.since HB.out)).mono ?_
  rintro e w2 ⟨rfl, hb⟩
  have K1 := Lib.hid (K1.out.below hb K1.out.lt)
  have K2 := Lib.hid (K2.out.below hb K2.out.lt)
  have HB := Lib.hid (vbt HB.out hb)
  clear hb c0 c1 c2 c3 c4 HP
  have c0 := K1.out.cell 0
  have c1 := K1.out.cell 1
  have c2 := K1.out.cell 2
  have c3 := K2.out.cell 0
  have c4 := K2.out.cell 1
  go_wp2_with fail
  refine (HG.out _ (HL.out.since HB.out)).mono ?_
  rintro e w3 ⟨rfl, hb⟩
  have K1 := Lib.hid (K1.out.below hb K1.out.lt)
  have K2 := Lib.hid (K2.out.below hb K2.out.lt)
  have HB := Lib.hid (vbt HB.out hb)
  clear hb c0 c1 c2 c3 c4 HG
  go_upto_region 4 with (fail)
  have K1 := Lib.hid ((K1.out.alloc (.cells #[.int .i64 gx, .int .i64 gy] 23)).alloc (.cells #[.int .i64 ox, .int .i64 oy] 39))
  have K2 := Lib.hid ((K2.out.alloc (.cells #[.int .i64 gx, .int .i64 gy] 23)).alloc (.cells #[.int .i64 ox, .int .i64 oy] 39))
  have K3 := Lib.hid ((Blk.new w3 23 #[.int .i64 gx, .int .i64 gy]).alloc (.cells #[.int .i64 ox, .int .i64 oy] 39))
  have HS := Lib.hid (SQ.mk K1.out K3.out (vbt HB.out (bel2 w3 (.cells #[.int .i64 gx, .int .i64 gy] 23) (.cells #[.int .i64 ox, .int .i64 oy] 39))))
  generalize (w3.alloc (.cells #[.int .i64 gx, .int .i64 gy] 23)).alloc (.cells #[.int .i64 ox, .int .i64 oy] 39) = w4 at *
  generalize w3.heap.size = gq at *
  have c3 := K2.out.cell 0
  clear K1 K3 HB
  go_cut [62] from 45 to 61 (fun s62 wx => s62 = .bool false ∧ wx = w4)
  case first =>
    by_cases he : e0 = 0
    · have sg := (F1.out he).2.2.1
      have he' : (e0 == 0) = true := by simpa using he
      subst he
      by_cases hz : D = 0
      · subst hz
        by_cases hp : 0 < bx
        · have dp : decide (0 < bx) = true := decide_eq_true hp
          clear hp sg
          go_wp2_with fail
          go_meet
          exact ⟨rfl, rfl⟩
        · have dp : decide (0 < bx) = false := decide_eq_false hp
          clear hp sg
          go_wp2_with fail
          go_meet
          exact ⟨rfl, rfl⟩
      · have sg2 := sg.resolve_left hz
        have dq : decide (0 < D) = decide (0 < bx) := decide_eq_decide.2 sg2
        have hz' : (D == 0) = false := by simpa using hz
        clear sg sg2 hz
        go_wp2_with fail
        go_meet
        exact ⟨rfl, rfl⟩
    · have he' : (e0 == 0) = false := by simpa using he
      go_wp2_with fail
      go_meet
      exact ⟨rfl, rfl⟩
  case rest =>
    obtain ⟨rfl, rfl⟩ := hcut
    clear c3 K2
    go_wp2_with fail
    go_loopg [16] n (fun gg s16 wr => ∃ k : Nat, k + gg = n ∧ s16 = .int .i64 (k : Int) ∧ SQ w wr gq a.x a.y a.r gx gy)
    case atStart => exact ⟨0, by omega, rfl, HS.out⟩
    case round =>
      obtain ⟨k, hk, rfl, hs⟩ := hrel
      clear HS wc
      have HS := Lib.hid hs
      clear hs
      cases gk with
      | zero =>
        obtain rfl : k = n := by omega
        clear hk
        go_wp2_with fail
        go_ret
        exact ⟨rfl, HS.out.bel⟩
      | succ gk =>
        have hkn : k < n := by omega
        have hkI : (k : Int) < (n : Int) := by omega
        have hk0 : (0 : Int) ≤ (k : Int) := by omega
        obtain ⟨b, o, rfl, hlt, hc⟩ := HL.out.2.2 (by omega)
        have hc := hc k hkn
        have iw := HL.out.2.1 k hkn
        have HC := Lib.hid hc
        have HLT := Lib.hid hlt
        have HGQ := Lib.hid (show gq < wr.heap.size from HS.out.c.lt)
        have M1 := Lib.hid (fun h => (F1.out h).2.2.2 k hkn)
        have M2 := Lib.hid (fun h => (F2.out h).2.2 k hkn)
        have W1 := Lib.hid (fun h => (F1.out h).2.1)
        have W2 := Lib.hid (fun h => (F2.out h).2.1)
        unfold meetX at M1 M2
        clear hlt hc
        have H9 := Lib.hid (fun w => meet_c a.x a.y a.r (Bx.at L k).x (Bx.at L k).y (Bx.at L k).r w HX.out HY.out iw.1 iw.2.1)
        have H15p := Lib.hid (fun h w => meet_c (a.x + D) a.y a.r (Bx.at L k).x (Bx.at L k).y (Bx.at L k).r w (F1.out h).1 HY.out iw.1 iw.2.1)
        have H20p := Lib.hid (fun h w => meet_c (a.x + gx) (a.y + gy) a.r (Bx.at L k).x (Bx.at L k).y (Bx.at L k).r w (F2.out h).1.1 (F2.out h).1.2 iw.1 iw.2.1)
        clear iw
        generalize Bx.at L k = bb at *
        obtain ⟨u, v, s⟩ := bb
        dsimp only at *
        go_upto_region 9 with (fail)
        have HX1 := Lib.hid (SS.make HC.out HLT.out HS.out.a HS.out)
        have HX0 := Lib.hid (HX1.out.keep (below_draw (Below.refl _ _) 1))
        go_region_held3 (SS w b (o + k * 3) gq w.heap.size a.x a.y a.r gx gy u v s a.x a.y a.r) (first | exact HX0.out | assumption) (first | (go_at_call 14; refine (H9.out _).mono ?_; rintro e w6 ⟨rfl, hb⟩; have hS6 := SS.keep (by assumption) hb; clear hb))
        have HS := Lib.hid hS6.sq
        clear hS6 HX0 HX1
        have HA6 := Lib.hid (show w.heap.size < w6.heap.size from HS.out.a.lt)
        have HGQ := Lib.hid (show gq < w6.heap.size from HS.out.c.lt)
        generalize errB (okB a.x a.y a.r u v s) = e9 at *
        cases hM : meetB a.x a.y a.r u v s with
        | true =>
          clear hM
          cases he' : (e0 == 0) <;> cases hf' : (f0 == 0)
          all_goals
            go_wp2_with fail
            go_roundg gk
            case measure => omega
            case rel => exact ⟨k + 1, by omega, by push_cast; rfl, HS.out⟩
        | false =>
          have M1 := Lib.hid (fun h => M1.out h hM)
          have M2 := Lib.hid (fun h => M2.out h hM)
          clear hM
          have H20p : Hid (f0 = 0 → ∀ w, Calls Try.prog 14 #[boxV (a.x + gx) (a.y + gy) a.r, boxV u v s] w fun e w' => e = .returned (.tuple #[.bool false, .int .i64 (errB (okB (a.x + gx) (a.y + gy) a.r u v s))]) ∧ Below w.heap.size w w') := Lib.hid (fun h w => by have := H20p.out h w; rwa [M2.out h] at this)
          by_cases he : e0 = 0
          · subst he
            have H15 := Lib.hid (H15p.out rfl)
            rw [show meetB (a.x + D) a.y a.r u v s = false from M1.out rfl] at H15
            clear M1 M2 H15p
            have c0 := HS.out.a.cell 0
            have c1 := HS.out.a.cell 1
            have c2 := HS.out.a.cell 2
            go_upto_region 12 with (fail)
            have K1 := Lib.hid (Blk.new w6 25 (boxR a.x a.y a.r))
            have HS := Lib.hid (HS.out.below (bel1 w6 (.cells (boxR a.x a.y a.r) 25)))
            have HSZ := Lib.hid (show w.heap.size < w6.heap.size from HA6.out)
            clear c0 c1 c2
            generalize w6.alloc (.cells (boxR a.x a.y a.r) 25) = w7 at *
            generalize w6.heap.size = gb at *
            have k0 := K1.out.cell 0
            have z0 := K1.out.frozen 0
            have j0 := W1.out rfl
            go_upto_region 15 with (fail)
            have K1 := Lib.hid (K1.out.set_ 0 (.int .i64 (a.x + D)))
            have HS : Hid (SQ w (w7.setCell ⟨gb, 0, none⟩ (.int .i64 (a.x + D))) gq a.x a.y a.r gx gy) := Lib.hid ⟨HS.out.a.far (by have := HSZ.out; simp; omega) _, HS.out.c.far (by have := HGQ.out; simp; omega) _, HS.out.bel.setCell (by have := HSZ.out; simp; omega) _⟩
            clear k0 z0 j0
            generalize w7.setCell ⟨gb, 0, none⟩ (.int .i64 (a.x + D)) = w8 at *
            have HX1 := Lib.hid (SS.make HC.out HLT.out (show Blk w8 gb 25 (boxR (a.x + D) a.y a.r) from K1.out) HS.out)
            have HX0 := Lib.hid (HX1.out.keep (below_draw (Below.refl _ _) 1))
            clear HS K1
            go_region_held3 (SS w b (o + k * 3) gq gb a.x a.y a.r gx gy u v s (a.x + D) a.y a.r) (first | exact HX0.out | assumption) (first | (go_at_call 14; refine (H15.out _).mono ?_; rintro e w6 ⟨rfl, hb⟩; have hS6 := SS.keep (by assumption) hb; clear hb))
            have HS := Lib.hid hS6.sq
            clear hS6 HX0 HX1
            have HGQ2 := HGQ
            go_upto_region 18 with (fail)
            by_cases hf : f0 = 0
            · subst hf
              have H20 := Lib.hid (H20p.out rfl)
              have c0 := HS.out.a.cell 0
              have c1 := HS.out.a.cell 1
              have c2 := HS.out.a.cell 2
              have c3 := HS.out.c.cell 0
              have c4 := HS.out.c.cell 1
              obtain ⟨j1, j2⟩ := W2.out rfl
              go_upto_region 20 with (fail)
              have HX1 := Lib.hid (SS.make HC.out HLT.out (Blk.new w6 25 (boxR (a.x + gx) (a.y + gy) a.r)) (HS.out.below (bel1 w6 (.cells (boxR (a.x + gx) (a.y + gy) a.r) 25))))
              clear c0 c1 c2 c3 c4 j1 j2 HS
              generalize w6.alloc (.cells (boxR (a.x + gx) (a.y + gy) a.r) 25) = w9 at *
              generalize w6.heap.size = gb2 at *
              have HX0 := Lib.hid (HX1.out.keep (below_draw (Below.refl _ _) 1))
              go_region_held3 (SS w b (o + k * 3) gq gb2 a.x a.y a.r gx gy u v s (a.x + gx) (a.y + gy) a.r) (first | exact HX0.out | assumption) (first | (go_at_call 14; refine (H20.out _).mono ?_; rintro e w6 ⟨rfl, hb⟩; have hS6 := SS.keep (by assumption) hb; clear hb))
              have HS := Lib.hid hS6.sq
              clear hS6 HX0 HX1
              go_wp2_with fail
              go_roundg gk
              case measure => omega
              case rel => exact ⟨k + 1, by omega, by push_cast; rfl, HS.out⟩
            · have hf' : (f0 == 0) = false := by simpa using hf
              go_wp2_with fail
              go_roundg gk
              case measure => omega
              case rel => exact ⟨k + 1, by omega, by push_cast; rfl, HS.out⟩
          · have he' : (e0 == 0) = false := by simpa using he
            clear M1 M2 H15p
            go_upto_region 18 with (fail)
            by_cases hf : f0 = 0
            · subst hf
              have H20 := Lib.hid (H20p.out rfl)
              have c0 := HS.out.a.cell 0
              have c1 := HS.out.a.cell 1
              have c2 := HS.out.a.cell 2
              have c3 := HS.out.c.cell 0
              have c4 := HS.out.c.cell 1
              obtain ⟨j1, j2⟩ := W2.out rfl
              go_upto_region 20 with (fail)
              have HX1 := Lib.hid (SS.make HC.out HLT.out (Blk.new w6 25 (boxR (a.x + gx) (a.y + gy) a.r)) (HS.out.below (bel1 w6 (.cells (boxR (a.x + gx) (a.y + gy) a.r) 25))))
              clear c0 c1 c2 c3 c4 j1 j2 HS
              generalize w6.alloc (.cells (boxR (a.x + gx) (a.y + gy) a.r) 25) = w9 at *
              generalize w6.heap.size = gb2 at *
              have HX0 := Lib.hid (HX1.out.keep (below_draw (Below.refl _ _) 1))
              go_region_held3 (SS w b (o + k * 3) gq gb2 a.x a.y a.r gx gy u v s (a.x + gx) (a.y + gy) a.r) (first | exact HX0.out | assumption) (first | (go_at_call 14; refine (H20.out _).mono ?_; rintro e w6 ⟨rfl, hb⟩; have hS6 := SS.keep (by assumption) hb; clear hb))
              have HS := Lib.hid hS6.sq
              clear hS6 HX0 HX1
              go_wp2_with fail
              go_roundg gk
              case measure => omega
              case rel => exact ⟨k + 1, by omega, by push_cast; rfl, HS.out⟩
            · have hf' : (f0 == 0) = false := by simpa using hf
              go_wp2_with fail
              go_roundg gk
              case measure => omega
              case rel => exact ⟨k + 1, by omega, by push_cast; rfl, HS.out⟩

set_option maxRecDepth 100000 in
set_option maxHeartbeats 2000000 in
theorem stops_walk1 (a : Bx) (n1 bx b2 : Int) (A : Option Addr) (n c : Nat) (L : List Bx) (w : World) (hx : I64 a.x) (hy : I64 a.y) (hbx : I64 bx) (hb2 : I64 b2) (hn : n ≤ 281474976710656) (hL : RBox w w.heap.size A n L) (hax : bits .and .i64 n1 1 = 1) :
    Calls Try.prog 6 #[boxV a.x a.y a.r, .int .i64 n1, vecV bx b2, .slice A n c] w fun e w' => e = .returned (.bool true) ∧ Below w.heap.size w w' := by
  have HA := Lib.hid (fun w => awake_c w)
  have HP := Lib.hid (fun w hL => Push_c a 1 bx A n c L w hx hy hbx hn hL)
  have HG := Lib.hid (fun w hL => Go_c a bx b2 A n c L w hx hy hbx hb2 hn hL)
  have HL := Lib.hid hL
  have hlen := hL.1
  have hn' : n < 9223372036854775808 := by omega
  have E1 : errP 1 a bx L = 0 → I64 (a.y + pWay 1 a bx L) ∧ wrap64 (a.y + pWay 1 a bx L) = a.y + pWay 1 a bx L ∧ (pWay 1 a bx L = 0 ∨ (0 < pWay 1 a bx L ↔ 0 < bx)) ∧ ∀ i, i < n → meetX a (Bx.at L i) = false → meetX (a.go 1 (pWay 1 a bx L)) (Bx.at L i) = false := by
    intro h
    obtain ⟨hall, har, hin, e1, _⟩ := push_facts h
    have z : Int.toNat 1 = 1 := rfl
    rw [e1, z]
    have g := wayF_in 1 a bx L
    have s1 := rightB_spec.1 har
    have s2 := inB_spec.1 hin
    exact ⟨by unfold I64; omega, IntWalk.wrap64_in _ (by omega), way_sign 1 a bx L, fun i hi hm => stops1 har hall (by omega) hm⟩
  have E2 : errG a bx b2 L = 0 → (I64 (a.x + onG (errG a bx b2 L) (wayF 0 a bx L)) ∧ I64 (a.y + onG (errG a bx b2 L) (goY a bx b2 L))) ∧ (wrap64 (a.x + onG (errG a bx b2 L) (wayF 0 a bx L)) = a.x + onG (errG a bx b2 L) (wayF 0 a bx L) ∧ wrap64 (a.y + onG (errG a bx b2 L) (goY a bx b2 L)) = a.y + onG (errG a bx b2 L) (goY a bx b2 L)) ∧ ∀ i, i < n → meetX a (Bx.at L i) = false → meetX ⟨a.x + onG (errG a bx b2 L) (wayF 0 a bx L), a.y + onG (errG a bx b2 L) (goY a bx b2 L), a.r⟩ (Bx.at L i) = false := by
    intro h
    obtain ⟨hall, har, hi1, hi2⟩ := go_facts h
    have o1 : ∀ v, onG (errG a bx b2 L) v = v := fun v => if_pos h
    rw [o1, o1]
    have g1 := wayF_in 0 a bx L
    have g2 : -(b2.natAbs : Int) ≤ goY a bx b2 L ∧ goY a bx b2 L ≤ (b2.natAbs : Int) := wayF_in 1 (goA a bx L) b2 L
    have s1 := rightB_spec.1 har
    have s2 := inB_spec.1 hi1
    have s3 := inB_spec.1 hi2
    exact ⟨⟨by unfold I64; omega, by unfold I64; omega⟩, ⟨IntWalk.wrap64_in _ (by omega), IntWalk.wrap64_in _ (by omega)⟩, fun i hi hm => stops2 har hall (by omega) hm⟩
  have HX := Lib.hid hx
  have HY := Lib.hid hy
  unfold goV at HG
  generalize onG (errG a bx b2 L) (wayF 0 a bx L) = gx at *
  generalize onG (errG a bx b2 L) (goY a bx b2 L) = gy at *
  generalize onG (errG a bx b2 L) (whoF 0 a bx L) = ox at *
  generalize onG (errG a bx b2 L) (whoF 1 (goA a bx L) b2 L) = oy at *
  generalize errG a bx b2 L = f0 at *
  generalize pWay 1 a bx L = D at *
  generalize pWho 1 a bx L = who at *
  generalize errP 1 a bx L = e0 at *
  have F1 := Lib.hid E1
  have F2 := Lib.hid E2
  clear hx hy hbx hb2 hn hL hlen E1 E2
  go_enter Try.func6, Try.ntmps6
  go_wp2_with fail
  refine (HA.out _).mono ?_
  rintro e w1 ⟨rfl, hb⟩
  obtain ⟨k1, k2, hb⟩ := two_blk hb
  have K1 := Lib.hid k1
  have K2 := Lib.hid k2
  have HB := Lib.hid hb
  clear k1 k2 hb HA
  have c0 := K1.out.cell 0
  have c1 := K1.out.cell 1
  have c2 := K1.out.cell 2
  have c3 := K2.out.cell 0
  have c4 := K2.out.cell 1
  go_wp2_with fail
  refine (HP.out _ (HL.out.since HB.out)).mono ?_
  rintro e w2 ⟨rfl, hb⟩
  have K1 := Lib.hid (K1.out.below hb K1.out.lt)
  have K2 := Lib.hid (K2.out.below hb K2.out.lt)
  have HB := Lib.hid (vbt HB.out hb)
  clear hb c0 c1 c2 c3 c4 HP
  have c0 := K1.out.cell 0
  have c1 := K1.out.cell 1
  have c2 := K1.out.cell 2
  have c3 := K2.out.cell 0
  have c4 := K2.out.cell 1
  go_wp2_with fail
  refine (HG.out _ (HL.out.since HB.out)).mono ?_
  rintro e w3 ⟨rfl, hb⟩
  have K1 := Lib.hid (K1.out.below hb K1.out.lt)
  have K2 := Lib.hid (K2.out.below hb K2.out.lt)
  have HB := Lib.hid (vbt HB.out hb)
  clear hb c0 c1 c2 c3 c4 HG
  go_upto_region 4 with (fail)
  have K1 := Lib.hid ((K1.out.alloc (.cells #[.int .i64 gx, .int .i64 gy] 23)).alloc (.cells #[.int .i64 ox, .int .i64 oy] 39))
  have K2 := Lib.hid ((K2.out.alloc (.cells #[.int .i64 gx, .int .i64 gy] 23)).alloc (.cells #[.int .i64 ox, .int .i64 oy] 39))
  have K3 := Lib.hid ((Blk.new w3 23 #[.int .i64 gx, .int .i64 gy]).alloc (.cells #[.int .i64 ox, .int .i64 oy] 39))
  have HS := Lib.hid (SQ.mk K1.out K3.out (vbt HB.out (bel2 w3 (.cells #[.int .i64 gx, .int .i64 gy] 23) (.cells #[.int .i64 ox, .int .i64 oy] 39))))
  generalize (w3.alloc (.cells #[.int .i64 gx, .int .i64 gy] 23)).alloc (.cells #[.int .i64 ox, .int .i64 oy] 39) = w4 at *
  generalize w3.heap.size = gq at *
  have c3 := K2.out.cell 0
  clear K1 K3 HB
  go_cut [62] from 45 to 61 (fun s62 wx => s62 = .bool false ∧ wx = w4)
  case first =>
    by_cases he : e0 = 0
    · have sg := (F1.out he).2.2.1
      have he' : (e0 == 0) = true := by simpa using he
      subst he
      by_cases hz : D = 0
      · subst hz
        by_cases hp : 0 < bx
        · have dp : decide (0 < bx) = true := decide_eq_true hp
          clear hp sg
          go_wp2_with fail
          go_meet
          exact ⟨rfl, rfl⟩
        · have dp : decide (0 < bx) = false := decide_eq_false hp
          clear hp sg
          go_wp2_with fail
          go_meet
          exact ⟨rfl, rfl⟩
      · have sg2 := sg.resolve_left hz
        have dq : decide (0 < D) = decide (0 < bx) := decide_eq_decide.2 sg2
        have hz' : (D == 0) = false := by simpa using hz
        clear sg sg2 hz
        go_wp2_with fail
        go_meet
        exact ⟨rfl, rfl⟩
    · have he' : (e0 == 0) = false := by simpa using he
      go_wp2_with fail
      go_meet
      exact ⟨rfl, rfl⟩
  case rest =>
    obtain ⟨rfl, rfl⟩ := hcut
    clear c3 K2
    go_wp2_with fail
    go_loopg [16] n (fun gg s16 wr => ∃ k : Nat, k + gg = n ∧ s16 = .int .i64 (k : Int) ∧ SQ w wr gq a.x a.y a.r gx gy)
    case atStart => exact ⟨0, by omega, rfl, HS.out⟩
    case round =>
      obtain ⟨k, hk, rfl, hs⟩ := hrel
      clear HS wc
      have HS := Lib.hid hs
      clear hs
      cases gk with
      | zero =>
        obtain rfl : k = n := by omega
        clear hk
        go_wp2_with fail
        go_ret
        exact ⟨rfl, HS.out.bel⟩
      | succ gk =>
        have hkn : k < n := by omega
        have hkI : (k : Int) < (n : Int) := by omega
        have hk0 : (0 : Int) ≤ (k : Int) := by omega
        obtain ⟨b, o, rfl, hlt, hc⟩ := HL.out.2.2 (by omega)
        have hc := hc k hkn
        have iw := HL.out.2.1 k hkn
        have HC := Lib.hid hc
        have HLT := Lib.hid hlt
        have HGQ := Lib.hid (show gq < wr.heap.size from HS.out.c.lt)
        have M1 := Lib.hid (fun h => (F1.out h).2.2.2 k hkn)
        have M2 := Lib.hid (fun h => (F2.out h).2.2 k hkn)
        have W1 := Lib.hid (fun h => (F1.out h).2.1)
        have W2 := Lib.hid (fun h => (F2.out h).2.1)
        unfold meetX at M1 M2
        clear hlt hc
        have H9 := Lib.hid (fun w => meet_c a.x a.y a.r (Bx.at L k).x (Bx.at L k).y (Bx.at L k).r w HX.out HY.out iw.1 iw.2.1)
        have H15p := Lib.hid (fun h w => meet_c a.x (a.y + D) a.r (Bx.at L k).x (Bx.at L k).y (Bx.at L k).r w HX.out (F1.out h).1 iw.1 iw.2.1)
        have H20p := Lib.hid (fun h w => meet_c (a.x + gx) (a.y + gy) a.r (Bx.at L k).x (Bx.at L k).y (Bx.at L k).r w (F2.out h).1.1 (F2.out h).1.2 iw.1 iw.2.1)
        clear iw
        generalize Bx.at L k = bb at *
        obtain ⟨u, v, s⟩ := bb
        dsimp only at *
        go_upto_region 9 with (fail)
        have HX1 := Lib.hid (SS.make HC.out HLT.out HS.out.a HS.out)
        have HX0 := Lib.hid (HX1.out.keep (below_draw (Below.refl _ _) 1))
        go_region_held3 (SS w b (o + k * 3) gq w.heap.size a.x a.y a.r gx gy u v s a.x a.y a.r) (first | exact HX0.out | assumption) (first | (go_at_call 14; refine (H9.out _).mono ?_; rintro e w6 ⟨rfl, hb⟩; have hS6 := SS.keep (by assumption) hb; clear hb))
        have HS := Lib.hid hS6.sq
        clear hS6 HX0 HX1
        have HA6 := Lib.hid (show w.heap.size < w6.heap.size from HS.out.a.lt)
        have HGQ := Lib.hid (show gq < w6.heap.size from HS.out.c.lt)
        generalize errB (okB a.x a.y a.r u v s) = e9 at *
        cases hM : meetB a.x a.y a.r u v s with
        | true =>
          clear hM
          cases he' : (e0 == 0) <;> cases hf' : (f0 == 0)
          all_goals
            go_wp2_with fail
            go_roundg gk
            case measure => omega
            case rel => exact ⟨k + 1, by omega, by push_cast; rfl, HS.out⟩
        | false =>
          have M1 := Lib.hid (fun h => M1.out h hM)
          have M2 := Lib.hid (fun h => M2.out h hM)
          clear hM
          have H20p : Hid (f0 = 0 → ∀ w, Calls Try.prog 14 #[boxV (a.x + gx) (a.y + gy) a.r, boxV u v s] w fun e w' => e = .returned (.tuple #[.bool false, .int .i64 (errB (okB (a.x + gx) (a.y + gy) a.r u v s))]) ∧ Below w.heap.size w w') := Lib.hid (fun h w => by have := H20p.out h w; rwa [M2.out h] at this)
          by_cases he : e0 = 0
          · subst he
            have H15 := Lib.hid (H15p.out rfl)
            rw [show meetB a.x (a.y + D) a.r u v s = false from M1.out rfl] at H15
            clear M1 M2 H15p
            have c0 := HS.out.a.cell 0
            have c1 := HS.out.a.cell 1
            have c2 := HS.out.a.cell 2
            go_upto_region 12 with (fail)
            have K1 := Lib.hid (Blk.new w6 25 (boxR a.x a.y a.r))
            have HS := Lib.hid (HS.out.below (bel1 w6 (.cells (boxR a.x a.y a.r) 25)))
            have HSZ := Lib.hid (show w.heap.size < w6.heap.size from HA6.out)
            clear c0 c1 c2
            generalize w6.alloc (.cells (boxR a.x a.y a.r) 25) = w7 at *
            generalize w6.heap.size = gb at *
            have k0 := K1.out.cell 1
            have z0 := K1.out.frozen 1
            have j0 := W1.out rfl
            go_upto_region 15 with (fail)
            have K1 := Lib.hid (K1.out.set_ 1 (.int .i64 (a.y + D)))
            have HS : Hid (SQ w (w7.setCell ⟨gb, 1, none⟩ (.int .i64 (a.y + D))) gq a.x a.y a.r gx gy) := Lib.hid ⟨HS.out.a.far (by have := HSZ.out; simp; omega) _, HS.out.c.far (by have := HGQ.out; simp; omega) _, HS.out.bel.setCell (by have := HSZ.out; simp; omega) _⟩
            clear k0 z0 j0
            generalize w7.setCell ⟨gb, 1, none⟩ (.int .i64 (a.y + D)) = w8 at *
            have HX1 := Lib.hid (SS.make HC.out HLT.out (show Blk w8 gb 25 (boxR a.x (a.y + D) a.r) from K1.out) HS.out)
            have HX0 := Lib.hid (HX1.out.keep (below_draw (Below.refl _ _) 1))
            clear HS K1
            go_region_held3 (SS w b (o + k * 3) gq gb a.x a.y a.r gx gy u v s a.x (a.y + D) a.r) (first | exact HX0.out | assumption) (first | (go_at_call 14; refine (H15.out _).mono ?_; rintro e w6 ⟨rfl, hb⟩; have hS6 := SS.keep (by assumption) hb; clear hb))
            have HS := Lib.hid hS6.sq
            clear hS6 HX0 HX1
            have HGQ2 := HGQ
            go_upto_region 18 with (fail)
            by_cases hf : f0 = 0
            · subst hf
              have H20 := Lib.hid (H20p.out rfl)
              have c0 := HS.out.a.cell 0
              have c1 := HS.out.a.cell 1
              have c2 := HS.out.a.cell 2
              have c3 := HS.out.c.cell 0
              have c4 := HS.out.c.cell 1
              obtain ⟨j1, j2⟩ := W2.out rfl
              go_upto_region 20 with (fail)
              have HX1 := Lib.hid (SS.make HC.out HLT.out (Blk.new w6 25 (boxR (a.x + gx) (a.y + gy) a.r)) (HS.out.below (bel1 w6 (.cells (boxR (a.x + gx) (a.y + gy) a.r) 25))))
              clear c0 c1 c2 c3 c4 j1 j2 HS
              generalize w6.alloc (.cells (boxR (a.x + gx) (a.y + gy) a.r) 25) = w9 at *
              generalize w6.heap.size = gb2 at *
              have HX0 := Lib.hid (HX1.out.keep (below_draw (Below.refl _ _) 1))
              go_region_held3 (SS w b (o + k * 3) gq gb2 a.x a.y a.r gx gy u v s (a.x + gx) (a.y + gy) a.r) (first | exact HX0.out | assumption) (first | (go_at_call 14; refine (H20.out _).mono ?_; rintro e w6 ⟨rfl, hb⟩; have hS6 := SS.keep (by assumption) hb; clear hb))
              have HS := Lib.hid hS6.sq
              clear hS6 HX0 HX1
              go_wp2_with fail
              go_roundg gk
              case measure => omega
              case rel => exact ⟨k + 1, by omega, by push_cast; rfl, HS.out⟩
            · have hf' : (f0 == 0) = false := by simpa using hf
              go_wp2_with fail
              go_roundg gk
              case measure => omega
              case rel => exact ⟨k + 1, by omega, by push_cast; rfl, HS.out⟩
          · have he' : (e0 == 0) = false := by simpa using he
            clear M1 M2 H15p
            go_upto_region 18 with (fail)
            by_cases hf : f0 = 0
            · subst hf
              have H20 := Lib.hid (H20p.out rfl)
              have c0 := HS.out.a.cell 0
              have c1 := HS.out.a.cell 1
              have c2 := HS.out.a.cell 2
              have c3 := HS.out.c.cell 0
              have c4 := HS.out.c.cell 1
              obtain ⟨j1, j2⟩ := W2.out rfl
              go_upto_region 20 with (fail)
              have HX1 := Lib.hid (SS.make HC.out HLT.out (Blk.new w6 25 (boxR (a.x + gx) (a.y + gy) a.r)) (HS.out.below (bel1 w6 (.cells (boxR (a.x + gx) (a.y + gy) a.r) 25))))
              clear c0 c1 c2 c3 c4 j1 j2 HS
              generalize w6.alloc (.cells (boxR (a.x + gx) (a.y + gy) a.r) 25) = w9 at *
              generalize w6.heap.size = gb2 at *
              have HX0 := Lib.hid (HX1.out.keep (below_draw (Below.refl _ _) 1))
              go_region_held3 (SS w b (o + k * 3) gq gb2 a.x a.y a.r gx gy u v s (a.x + gx) (a.y + gy) a.r) (first | exact HX0.out | assumption) (first | (go_at_call 14; refine (H20.out _).mono ?_; rintro e w6 ⟨rfl, hb⟩; have hS6 := SS.keep (by assumption) hb; clear hb))
              have HS := Lib.hid hS6.sq
              clear hS6 HX0 HX1
              go_wp2_with fail
              go_roundg gk
              case measure => omega
              case rel => exact ⟨k + 1, by omega, by push_cast; rfl, HS.out⟩
            · have hf' : (f0 == 0) = false := by simpa using hf
              go_wp2_with fail
              go_roundg gk
              case measure => omega
              case rel => exact ⟨k + 1, by omega, by push_cast; rfl, HS.out⟩

theorem stops_walk (a : Bx) (n1 bx b2 : Int) (A : Option Addr) (n c : Nat) (L : List Bx) (w : World) (hx : I64 a.x) (hy : I64 a.y) (hbx : I64 bx) (hb2 : I64 b2) (hn : n * 24 ≤ 140737488351232) (hL : RBox w w.heap.size A n L) :
    Calls Try.prog 6 #[boxV a.x a.y a.r, .int .i64 n1, vecV bx b2, .slice A n c] w fun e w' => e = .returned (.bool true) ∧ Below w.heap.size w w' := by
  have h := and_one n1
  have h2 : n1 % 2 = 0 ∨ n1 % 2 = 1 := by omega
  rcases h2 with h2 | h2
  · exact stops_walk0 a n1 bx b2 A n c L w hx hy hbx hb2 (by omega) hL (h.trans h2)
  · exact stops_walk1 a n1 bx b2 A n c L w hx hy hbx hb2 (by omega) hL (h.trans h2)
end Go.Proofs.Ytnffflcfncffpaa

/- Three slices of bytes that share no memory: the contract of Owned. -/
import Derived.Test.YtehonfobofpahaaBackWalk
namespace Go.Proofs.Ytehonfobofpahaa
open Go.RowKit

theorem Try.info9 : (Try.prog.info? 9).map (fun i => (i.zero, i.size, i.bytes)) = some (some (.string ByteArray.empty), 1, 16) := by kernel_rfl

/-- A row that is f up to k, and g from k on. -/
def mixed (f g : Nat → Nat) (k n : Nat) : List Nat := (List.range n).map fun t => if t < k then f t else g t
theorem mixed_length (f g : Nat → Nat) (k n : Nat) : (mixed f g k n).length = n := by simp [mixed]
theorem mixed_get (f g : Nat → Nat) (k n t : Nat) (h : t < n) : (mixed f g k n).getD t 0 = if t < k then f t else g t := by
  simp [mixed, List.getD, h]
theorem mixed_set (f g : Nat → Nat) (k n : Nat) : (mixed f g k n).set k (f k) = mixed f g (k + 1) n := by
  apply List.ext_getElem (by simp [mixed])
  intro t h1 h2
  have ht : t < n := by simpa [mixed] using h2
  rw [List.getElem_set]
  simp only [mixed, List.getElem_map, List.getElem_range]
  by_cases e : k = t
  · subst e; rw [if_pos rfl, if_pos (by omega)]
  · rw [if_neg e]
    by_cases e2 : t < k
    · rw [if_pos e2, if_pos (by omega)]
    · rw [if_neg e2, if_neg (by omega)]
theorem mixed_zero (bs : List Nat) (f : Nat → Nat) : mixed f (fun t => bs.getD t 0) 0 bs.length = bs := by
  apply List.ext_getElem (by simp [mixed])
  intro t h1 h2
  simp [mixed, List.getD, List.getElem?_eq_getElem h2]
theorem mixed_all (bs : List Nat) (g : Nat → Nat) : mixed (fun t => bs.getD t 0) g bs.length bs.length = bs := by
  apply List.ext_getElem (by simp [mixed])
  intro t h1 h2
  simp only [mixed, List.getElem_map, List.getElem_range, if_pos h2]
  simp [List.getD, List.getElem?_eq_getElem h2]
theorem mixed_turn (f g : Nat → Nat) (n : Nat) : mixed f g n n = mixed g f 0 n := by
  apply List.ext_getElem (by simp [mixed])
  intro t h1 h2
  have ht : t < n := by simpa [mixed] using h2
  simp [mixed, ht]

/-- The three slices. -/
def sl (G : Nat → Nat) (n j : Nat) : Value := .slice (some ⟨G j, 0, none⟩) n n

/-- In the midst of Owned: block G i holds cs, the others bs; the texts are kept at v. -/
structure OwIn (w : World) (h : Nat) (G : Nat → Nat) (bs : List Nat) (v : Value) (i : Nat) (cs : List Nat) (wr : World) : Prop where
  own : wr.ownsRow w.heap.size 9 1 v 3 (List.replicate 3 (.string (strOf bs)))
  hd : Blk wr h 32 #[sl G bs.length 0, sl G bs.length 1, sl G bs.length 2]
  me : Blk wr (G i) 5 (U8s cs).toArray
  others : ∀ j, j < 3 → j ≠ i → Blk wr (G j) 5 (U8s bs).toArray
  fr : Fr (fun k => ∃ j, j < 3 ∧ k = G j) w wr

theorem OwIn.cell {w wr : World} {h : Nat} {G : Nat → Nat} {bs cs : List Nat} {v : Value} {i : Nat} (S : OwIn w h G bs v i cs wr) (j : Nat) (hj : j < 3) : wr.cell? ⟨h, j, none⟩ = some (.slice (some ⟨G j, 0, none⟩) bs.length bs.length) := by
  rw [S.hd.cell]
  match j, hj with
  | 0, _ => rfl
  | 1, _ => rfl
  | 2, _ => rfl

theorem OwIn.draw {w wr : World} {h : Nat} {G : Nat → Nat} {bs cs : List Nat} {v : Value} {i : Nat} (S : OwIn w h G bs v i cs wr) (n : Nat) : OwIn w h G bs v i cs (wr.drewN n) :=
  ⟨S.own, S.hd, S.me, S.others, S.fr.trans (Fr.drewN (S := fun _ => False) wr n) (fun _ _ h => h.elim)⟩

theorem OwIn.store {w wr : World} {h : Nat} {G : Nat → Nat} {bs cs : List Nat} {v : Value} {i : Nat} (S : OwIn w h G bs v i cs wr) (hi : i < 3) (hG : ∀ a b, a < 3 → b < 3 → a ≠ b → G a ≠ G b) (k y : Nat) : OwIn w h G bs v i (cs.set k y) (wr.setCell ⟨G i, k, none⟩ (.int .u8 (y : Int))) := by
  refine ⟨?_, S.hd.far (p := ⟨G i, k, none⟩) (S.hd.ne_ S.me (by decide)) _, ?_, fun j hj hne => (S.others j hj hne).far (p := ⟨G i, k, none⟩) (hG j i hj hi hne) _, S.fr.trans (Fr.set (S := fun k => k = G i) wr (p := ⟨G i, k, none⟩) rfl _) (fun t _ e => ⟨i, hi, e⟩)⟩
  · exact ownsRow_fr (S := fun t => t = G i) S.own (Fr.set (S := fun t => t = G i) wr (p := ⟨G i, k, none⟩) rfl _) (fun t ht e => own_ne_blk S.own S.me (by decide) (e ▸ ht))
  · have := S.me.set_ k (.int .u8 (y : Int))
    rw [U8s_set]
    simp only [List.setIfInBounds_toArray] at this
    exact this

theorem OwIn.turn {w wr : World} {h : Nat} {G : Nat → Nat} {bs : List Nat} {v : Value} {i : Nat} (S : OwIn w h G bs v i bs wr) {j : Nat} (hj : j < 3) : OwIn w h G bs v j bs wr :=
  ⟨S.own, S.hd, by
    by_cases e : j = i
    · subst e; exact S.me
    · exact S.others j hj e, fun t ht _ => by
    by_cases e : t = i
    · subst e; exact S.me
    · exact S.others t ht e, S.fr⟩

theorem xor_val (y : Nat) (hy : y < 256) : bits BinOp.xor IntKind.u8 (y : Int) 255 = ((y ^^^ 255 : Nat) : Int) := u8_xor_nat y 255 hy (by omega)
theorem xor_lt (y : Nat) (hy : y < 256) : y ^^^ 255 < 256 := Nat.xor_lt_two_pow (n := 8) hy (by decide)
theorem xor_back (y : Nat) : (y ^^^ 255) ^^^ 255 = y := by rw [Nat.xor_assoc, Nat.xor_self, Nat.xor_zero]

set_option maxHeartbeats 2000000 in
set_option maxRecDepth 100000 in
theorem owned_c (h : Nat) (G : Nat → Nat) (bs : List Nat) (w : World) (hh : Blk w h 32 #[sl G bs.length 0, sl G bs.length 1, sl G bs.length 2]) (hG : ∀ a b, a < 3 → b < 3 → a ≠ b → G a ≠ G b)
    (hb : ∀ j, j < 3 → Blk w (G j) 5 (U8s bs).toArray) (hby : ∀ i, bs.getD i 0 < 256) (hl : bs.length ≤ 1048576) :
    Calls Try.prog 16 #[.slice (some ⟨h, 0, none⟩) 3 3] w fun e w' => e = .returned (.bool true) ∧ Fr (fun k => ∃ j, j < 3 ∧ k = G j) w w' := by
  obtain ⟨i0, hi, hz0, hz1, hz2⟩ := info_parts Try.info9
  have HH := Lib.hid hh
  have HB := Lib.hid hb
  have HBy := Lib.hid hby
  have HG := Lib.hid hG
  clear hh hb hby hG
  go_enter Try.func16, Try.ntmps16
  go_wp2_with fail
  go_loopg [3, 4] 3 (fun gg s3 s4 wr => ∃ i : Nat, i + gg = 3 ∧ s4 = .int .i64 (i : Int) ∧ wr.ownsRow w.heap.size 9 1 s3 i (List.replicate i (.string (strOf bs))) ∧ Below w.heap.size w wr)
  case atStart => exact ⟨0, rfl, rfl, World.ownsRow_nil _ _ _ _, Below.refl _ _⟩
  case round =>
    obtain ⟨i, hig, rfl, hown, hbel⟩ := hrel
    have HO := Lib.hid hown
    have HBe := Lib.hid hbel
    clear hown hbel
    cases gk with
    | zero =>
      have ei : i = 3 := by omega
      subst ei
      obtain ⟨A3, c3, rfl⟩ := own_slice HO.out
      have S0 : OwIn w h G bs (.slice A3 3 c3) 0 bs wr := ⟨HO.out, HH.out.below HBe.out HH.out.lt, (HB.out 0 (by omega)).below HBe.out (HB.out 0 (by omega)).lt, fun j hj _ => (HB.out j hj).below HBe.out (HB.out j hj).lt, Fr.of_below HBe.out⟩
      clear HO HBe HB HH
      have hb3 : ((3 : Nat) : Int) = 3 := rfl
      rw [hb3]
      clear hb3
      go_wp2_with fail
      go_loopg [5, 6, 7, 8, 9] 3 (fun gg s5 _ _ _ _ wr => ∃ i : Nat, i + gg = 3 ∧ s5 = .int .i64 (i : Int) ∧ OwIn w h G bs (.slice A3 3 c3) 0 bs wr)
      case atStart => exact ⟨0, rfl, rfl, S0⟩
      case round =>
        obtain ⟨i, hig, rfl, S⟩ := hrel
        clear S0
        cases gk with
        | zero =>
          have hd : decide ((i : Int) < 3) = false := by simp; omega
          have HS := Lib.hid S.fr
          clear S
          go_wp2_with fail
          go_ret
          exact ⟨rfl, HS.out⟩
        | succ g1 =>
          have hlt : i < 3 := by omega
          have hd : decide ((i : Int) < 3) = true := by simp; omega
          have hii : (i : Int) < 3 := by omega
          have SI := S.turn hlt
          have hcell := SI.cell i hlt
          clear S
          go_wp2_with fail
          go_quiet (fail)
          go_wp2_with fail
          have SA : OwIn w h G bs (.slice A3 3 c3) i (mixed (fun t => bs.getD t 0 ^^^ 255) (fun t => bs.getD t 0) 0 bs.length) (wr.drewN nq) := by rw [mixed_zero]; exact SI.draw nq
          clear SI hcell
          go_loopg [7] bs.length (fun gg s7 wx => ∃ k : Nat, k + gg = bs.length ∧ s7 = .int .i64 (k : Int) ∧ OwIn w h G bs (.slice A3 3 c3) i (mixed (fun t => bs.getD t 0 ^^^ 255) (fun t => bs.getD t 0) k bs.length) wx)
          case atStart => exact ⟨0, by omega, rfl, SA⟩
          case round =>
            obtain ⟨k, hkg, rfl, SK⟩ := hrel
            clear SA
            cases gk with
            | zero =>
              have ek : k = bs.length := by omega
              subst ek
              have hdk : decide (bs.length < bs.length) = false := by simp
              go_wp2_with fail
              go_loopg [8] 3 (fun gg s8 wx => ∃ t : Nat, t + gg = 3 ∧ s8 = .int .i64 (t : Int) ∧ OwIn w h G bs (.slice A3 3 c3) i (mixed (fun t => bs.getD t 0 ^^^ 255) (fun t => bs.getD t 0) bs.length bs.length) wx)
              case atStart => exact ⟨0, rfl, rfl, SK⟩
              case round =>
                obtain ⟨t, htg, rfl, ST⟩ := hrel
                clear SK
                cases gk with
                | zero =>
                  have hdt : decide ((t : Int) < 3) = false := by simp; omega
                  rw [mixed_turn] at ST
                  go_wp2_with fail
                  go_loopg [9] bs.length (fun gg s9 wx => ∃ k : Nat, k + gg = bs.length ∧ s9 = .int .i64 (k : Int) ∧ OwIn w h G bs (.slice A3 3 c3) i (mixed (fun t => bs.getD t 0) (fun t => bs.getD t 0 ^^^ 255) k bs.length) wx)
                  case atStart => exact ⟨0, by omega, rfl, ST⟩
                  case round =>
                    obtain ⟨k, hkg3, rfl, SC⟩ := hrel
                    clear ST
                    cases gk with
                    | zero =>
                      have ek : k = bs.length := by omega
                      subst ek
                      rw [mixed_all] at SC
                      have SD := SC.turn (j := 0) (by omega)
                      clear SC
                      have hdk3 : decide (bs.length < bs.length) = false := by simp
                      go_wp2_with fail
                      go_roundg g1
                      case measure => omega
                      case rel => exact ⟨i + 1, by omega, rfl, SD⟩
                    | succ g4 =>
                      have hkl : k < bs.length := by omega
                      have hdk3 : decide (k < bs.length) = true := by simpa using hkl
                      have hki : (k : Int) < (bs.length : Int) := by omega
                      have hml := mixed_length (fun t => bs.getD t 0) (fun t => bs.getD t 0 ^^^ 255) k bs.length
                      have ck : wr.cell? ⟨G i, k, none⟩ = some (.int .u8 ((bs.getD k 0 ^^^ 255 : Nat) : Int)) := by
                        rw [SC.me.cell]
                        have := U8s_get (mixed (fun t => bs.getD t 0) (fun t => bs.getD t 0 ^^^ 255) k bs.length) k (by omega)
                        rw [mixed_get _ _ _ _ _ hkl, if_neg (by omega)] at this
                        simpa using this
                      have fk : wr.frozen? ⟨G i, k, none⟩ = false := SC.me.frozen k
                      have hx := xor_val (bs.getD k 0 ^^^ 255) (xor_lt _ (HBy.out k))
                      rw [xor_back] at hx
                      have SN := SC.store hlt HG.out k (bs.getD k 0)
                      rw [mixed_set (fun t => bs.getD t 0)] at SN
                      have HSN := Lib.hid SN
                      clear SN SC hml
                      generalize hyy : bs.getD k 0 ^^^ 255 = y at ck hx
                      clear hyy
                      generalize bs.getD k 0 = z at hx HSN
                      go_wp2_with fail
                      go_roundg g4
                      case measure => omega
                      case rel => exact ⟨k + 1, by omega, rfl, HSN.out⟩
                | succ g3 =>
                  have hlt3 : t < 3 := by omega
                  have hdt : decide ((t : Int) < 3) = true := by simp; omega
                  have hti : (t : Int) < 3 := by omega
                  by_cases hti2 : t = i
                  · subst hti2
                    have hg : ((t : Int) != (t : Int)) = false := by simp
                    go_wp2_with fail
                    go_quiet (fail)
                    go_wp2_with fail
                    go_roundg g3
                    case measure => omega
                    case rel => exact ⟨t + 1, by omega, rfl, ST.draw nq⟩
                  · have hg : ((t : Int) != (i : Int)) = true := by rw [bne_iff_ne]; omega
                    have hct := ST.cell t hlt3
                    have hcv := fun n => conv_eq (wr.drewN n) (G t) bs.length bs (ST.others t hlt3 hti2)
                    obtain ⟨gw, cw, ew, _, _⟩ := ST.own.form (by omega)
                    injection ew with ew1 _ ew2
                    subst ew1 ew2
                    have hcw : wr.cell? ⟨gw, t, none⟩ = some (.string (strOf bs)) := by
                      rw [ST.own.cellAt t (by omega), List.getElem?_replicate, if_pos hlt3]
                    go_wp2_with fail
                    go_quiet (fail)
                    go_wp2_with fail
                    go_roundg g3
                    case measure => omega
                    case rel => exact ⟨t + 1, by omega, rfl, ST.draw nq⟩
            | succ g2 =>
              have hkl : k < bs.length := by omega
              have hdk : decide (k < bs.length) = true := by simpa using hkl
              have hki : (k : Int) < (bs.length : Int) := by omega
              have hml := mixed_length (fun t => bs.getD t 0 ^^^ 255) (fun t => bs.getD t 0) k bs.length
              have ck : wr.cell? ⟨G i, k, none⟩ = some (.int .u8 ((bs.getD k 0 : Nat) : Int)) := by
                rw [SK.me.cell]
                have := U8s_get (mixed (fun t => bs.getD t 0 ^^^ 255) (fun t => bs.getD t 0) k bs.length) k (by omega)
                rw [mixed_get _ _ _ _ _ hkl, if_neg (by omega)] at this
                simpa using this
              have fk : wr.frozen? ⟨G i, k, none⟩ = false := SK.me.frozen k
              have hx := xor_val (bs.getD k 0) (HBy.out k)
              have SN := SK.store hlt HG.out k (bs.getD k 0 ^^^ 255)
              rw [mixed_set (fun t => bs.getD t 0 ^^^ 255)] at SN
              have HSN := Lib.hid SN
              clear SN SK hml
              generalize bs.getD k 0 = y at ck hx HSN
              go_wp2_with fail
              go_roundg g2
              case measure => omega
              case rel => exact ⟨k + 1, by omega, rfl, HSN.out⟩
    | succ gk =>
      have hlt : i < 3 := by omega
      have hd : decide ((i : Int) < 3) = true := by simp; omega
      have hii : (i : Int) < 3 := by omega
      have hcell : wr.cell? ⟨h, i, none⟩ = some (.slice (some ⟨G i, 0, none⟩) bs.length bs.length) := by
        rw [HBe.out.cell (p := ⟨h, i, none⟩) HH.out.lt, HH.out.cell]
        match i, hlt with
        | 0, _ => rfl
        | 1, _ => rfl
        | 2, _ => rfl
      have hcv := conv_eq wr (G i) bs.length bs ((HBe.out.block _ (HB.out i hlt).lt).trans (HB.out i hlt))
      go_wp2_with (at_builtin; refine wpList_append_own_at _ rfl (.tmp 16) (.tmp 22) 54 rfl w.heap.size 9 i0 (.string ByteArray.empty) 1 16 Try.underlying54 hi hz0 hz1 hz2 rfl (by decide) _ _ _ rfl (HO.out.alloc _) ⟨wr.heap.size, 0, none⟩ 1 1 [.string (strOf bs)] rfl rfl (cell_one_new _ _ _) ?c2 ?c3 ?c4 ?c5 ?_)
      case c2 => intro u hu; simp at hu; subst hu; rfl
      case c3 => unfold maxLen; omega
      case c4 => omega
      case c5 => have := HBe.out.size; simp; omega
      intro v4 w4 hown4 hgrow4 _ _
      have HO4 : Hid (w4.ownsRow w.heap.size 9 1 v4 (i + 1) (List.replicate (i + 1) (.string (strOf bs)))) := by rw [List.replicate_succ']; exact hown4
      have HB4 := Lib.hid ((HBe.out.alloc HBe.out.size (.cells #[.string (strOf bs)] 9)).grown hgrow4 (by have := HBe.out.size; simp; omega) (fun k hk => (HO.out.lt k hk).1))
      clear hown4 hgrow4 hcell hcv
      go_wp2_with fail
      go_roundg gk
      case measure => omega
      case rel => exact ⟨i + 1, by omega, rfl, HO4.out, HB4.out⟩

end Go.Proofs.Ytehonfobofpahaa

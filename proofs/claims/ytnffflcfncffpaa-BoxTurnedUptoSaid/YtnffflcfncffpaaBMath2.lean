/- Plain facts on pushes: two steps are one; the order of the boxes does not matter. -/
import Derived.Test.YtnffflcfncffpaaBMath
namespace Go.Proofs.Ytnffflcfncffpaa

/-- W is how far a goes along an axis when it should go by d. -/
def IsW (ax : Nat) (a : Bx) (d : Int) (L : List Bx) (W : Int) : Prop :=
  W ≤ (d.natAbs : Int) ∧ (∀ i, i < L.length → inW ax a d (Bx.at L i) = true → W ≤ gapA ax a (Bx.at L i)) ∧ (W = (d.natAbs : Int) ∨ ∃ i, i < L.length ∧ inW ax a d (Bx.at L i) = true ∧ gapA ax a (Bx.at L i) = W)
theorem IsW.uniq {ax : Nat} {a : Bx} {d : Int} {L : List Bx} {W V : Int} (h : IsW ax a d L W) (k : IsW ax a d L V) : W = V := by
  obtain ⟨h1, h2, h3⟩ := h
  obtain ⟨k1, k2, k3⟩ := k
  have a1 : W ≤ V := by
    rcases k3 with k3 | ⟨i, hi, hw, hg⟩
    · omega
    · have := h2 i hi hw; omega
  have a2 : V ≤ W := by
    rcases h3 with h3 | ⟨i, hi, hw, hg⟩
    · omega
    · have := k2 i hi hw; omega
  omega
theorem stF_isW (ax : Nat) (a : Bx) (d : Int) (L : List Bx) : IsW ax a d L (stF ax a d L L.length).1 := by
  have h := stF_spec ax a d L L.length
  refine ⟨(stF_in ax a d L L.length).2, h.1, ?_⟩
  rcases h.2 with h2 | ⟨i, hi, _, hw, hg, _⟩
  · exact .inl h2.1
  · exact .inr ⟨i, hi, hw, hg⟩
theorem who_iff (ax : Nat) (a : Bx) (d : Int) (L : List Bx) : whoF ax a d L = -1 ↔ (stF ax a d L L.length).1 = (d.natAbs : Int) := by
  unfold whoF
  rcases (stF_spec ax a d L L.length).2 with h | ⟨i, _, h2, _, _, h5⟩
  · exact ⟨fun _ => h.1, fun _ => h.2⟩
  · exact ⟨fun h => by omega, fun h => by omega⟩
theorem inW_sign {ax : Nat} {a : Bx} {d e : Int} {b : Bx} (h : 0 < d ↔ 0 < e) : inW ax a d b = inW ax a e b := by
  unfold inW
  rw [decide_eq_decide.2 h]

/-- Stopped is stopped: a longer way is no other. -/
theorem step_same {ax : Nat} {a : Bx} {d m : Int} {L : List Bx} (hs : d < 0 ↔ m < 0) (h : wayF ax a d L ≠ d) : wayF ax a (d + m) L = wayF ax a d L := by
  have h1 := stF_isW ax a d L
  have h2 := stF_in ax a d L L.length
  have hlt : (stF ax a d L L.length).1 ≠ (d.natAbs : Int) := by
    intro e
    apply h
    unfold wayF
    rw [e]
    split <;> omega
  have hd : d ≠ 0 := by
    intro e
    subst e
    simp at h2 hlt
    omega
  have hsg : 0 < d + m ↔ 0 < d := by omega
  have h3 : IsW ax a (d + m) L (stF ax a d L L.length).1 := by
    refine ⟨by omega, fun i hi hw => h1.2.1 i hi (by rwa [inW_sign hsg] at hw), .inr ?_⟩
    rcases h1.2.2 with h4 | ⟨i, hi, hw, hg⟩
    · exact absurd h4 hlt
    · exact ⟨i, hi, by rwa [inW_sign hsg], hg⟩
  have h4 := (stF_isW ax a (d + m) L).uniq h3
  unfold wayF
  rw [h4]
  by_cases hn : d < 0
  · rw [if_pos hn, if_pos (by omega)]
  · rw [if_neg hn, if_neg (by omega)]

/-- The gap behind a step along the axis. -/
theorem gap_step {x u r s d D : Int} (hr : 1 ≤ r) (hs : 1 ≤ s) (hD : d < 0 ↔ D < 0) (h0 : D = 0 → d = 0) (hp : 0 ≤ gapF x u r s) (hi : x < u ↔ 0 < D) (hg : (d.natAbs : Int) ≤ gapF x u r s) :
    gapF (x + d) u r s = gapF x u r s - (d.natAbs : Int) ∧ (x + d < u ↔ 0 < D) := by
  unfold gapF at *
  by_cases h : 0 < D
  · have := hi.2 h; omega
  · have : ¬ x < u := fun k => h (hi.1 k)
    omega
theorem gap_back {x u r s d m : Int} (hr : 1 ≤ r) (hs : 1 ≤ s) (hD : d < 0 ↔ m < 0) (hm : m ≠ 0) (hp : 0 ≤ gapF (x + d) u r s) (hi : x + d < u ↔ 0 < m) :
    gapF x u r s = gapF (x + d) u r s + (d.natAbs : Int) ∧ (x < u ↔ 0 < d + m) := by
  unfold gapF at *
  by_cases h : 0 < m
  · have := hi.2 h; omega
  · have : ¬ x + d < u := fun k => h (hi.1 k)
    omega

theorem step_two {ax : Nat} {a : Bx} {d m : Int} {L : List Bx} (hax : ax = 0 ∨ ax = 1) (ha : 1 ≤ a.r) (hL : ∀ i, i < L.length → 1 ≤ (Bx.at L i).r) (hs : d < 0 ↔ m < 0) (h : wayF ax a d L = d) : wayF ax a (d + m) L = d + wayF ax (a.go ax d) m L := by
  have hW : (stF ax a d L L.length).1 = (d.natAbs : Int) := by
    have h2 := stF_in ax a d L L.length
    unfold wayF at h
    split at h <;> omega
  have h1 := stF_isW ax a d L
  rw [hW] at h1
  have hb := stF_isW ax (a.go ax d) m L
  have hb2 := stF_in ax (a.go ax d) m L L.length
  generalize hV : (stF ax (a.go ax d) m L L.length).1 = V at *
  have hpc : (a.go ax d).pc ax = a.pc ax + d ∧ (a.go ax d).r = a.r ∧ (∀ b, gapA (1 - ax) (a.go ax d) b = gapA (1 - ax) a b) := by
    rcases hax with rfl | rfl
    · exact ⟨rfl, rfl, fun _ => rfl⟩
    · exact ⟨rfl, rfl, fun _ => rfl⟩
  obtain ⟨p1, p2, p3⟩ := hpc
  have hgb : ∀ b, gapA ax (a.go ax d) b = gapF (a.pc ax + d) (b.pc ax) a.r b.r := by intro b; unfold gapA; rw [p1, p2]
  have key : IsW ax a (d + m) L ((d.natAbs : Int) + V) := by
    refine ⟨by omega, fun i hi hw => ?_, ?_⟩
    · obtain ⟨w1, w2, w3⟩ := inW_iff.1 hw
      have hg : (d.natAbs : Int) ≤ gapA ax a (Bx.at L i) := by
        by_cases hd : d = 0
        · subst hd; simpa using w1
        · exact h1.2.1 i hi (inW_iff.2 ⟨w1, w2, by rw [w3]; omega⟩)
      have hgs := gap_step ha (hL i hi) (d := d) (D := d + m) (by omega) (by omega) w1 w3 hg
      by_cases hm : m = 0
      · subst hm
        have : V = 0 := by simp at hb2; omega
        omega
      · have hin : inW ax (a.go ax d) m (Bx.at L i) = true := inW_iff.2 ⟨by rw [hgb]; unfold gapA at hg; omega, by rw [p3]; exact w2, by rw [p1, hgs.2]; omega⟩
        have := hb.2.1 i hi hin
        rw [hgb] at this
        unfold gapA at hg ⊢
        omega
    · rcases hb.2.2 with h4 | ⟨i, hi, hw, hg⟩
      · exact .inl (by omega)
      · by_cases hVm : V = (m.natAbs : Int)
        · exact .inl (by omega)
        · obtain ⟨w1, w2, w3⟩ := inW_iff.1 hw
          rw [hgb] at w1 hg
          rw [p1] at w3
          have hm : m ≠ 0 := by intro e; subst e; simp at hb2 hVm; omega
          have hgs := gap_back ha (hL i hi) hs hm w1 w3
          refine .inr ⟨i, hi, inW_iff.2 ⟨by unfold gapA; omega, by rw [← p3]; exact w2, hgs.2⟩, by unfold gapA; omega⟩
  have h4 := (stF_isW ax a (d + m) L).uniq key
  unfold wayF
  rw [h4, hV]
  by_cases hn : d < 0
  · rw [if_pos (by omega), if_pos (by omega)]; omega
  · rw [if_neg (by omega), if_neg (by omega)]; omega

/-- Both lists hold the same boxes. -/
def Same (L M : List Bx) : Prop := (∀ i, i < L.length → ∃ j, j < M.length ∧ Bx.at M j = Bx.at L i) ∧ (∀ j, j < M.length → ∃ i, i < L.length ∧ Bx.at L i = Bx.at M j)
theorem Same.isW {L M : List Bx} (h : Same L M) {ax : Nat} {a : Bx} {d W : Int} (k : IsW ax a d L W) : IsW ax a d M W := by
  obtain ⟨k1, k2, k3⟩ := k
  refine ⟨k1, fun j hj hw => ?_, ?_⟩
  · obtain ⟨i, hi, e⟩ := h.2 j hj
    rw [← e] at hw ⊢
    exact k2 i hi hw
  · rcases k3 with k3 | ⟨i, hi, hw, hg⟩
    · exact .inl k3
    · obtain ⟨j, hj, e⟩ := h.1 i hi
      exact .inr ⟨j, hj, by rw [e]; exact hw, by rw [e]; exact hg⟩
theorem Same.st {L M : List Bx} (h : Same L M) (ax : Nat) (a : Bx) (d : Int) : (stF ax a d L L.length).1 = (stF ax a d M M.length).1 := (h.isW (stF_isW ax a d L)).uniq (stF_isW ax a d M)
theorem Same.way {L M : List Bx} (h : Same L M) (ax : Nat) (a : Bx) (d : Int) : wayF ax a d L = wayF ax a d M := by unfold wayF; rw [h.st]
theorem Same.who {L M : List Bx} (h : Same L M) (ax : Nat) (a : Bx) (d : Int) : whoF ax a d L = -1 ↔ whoF ax a d M = -1 := by rw [who_iff, who_iff, h.st]
theorem Same.all {L M : List Bx} (h : Same L M) : allB L = allB M := by
  rw [Bool.eq_iff_iff, allB_iff, allB_iff]
  constructor
  · intro k j hj
    obtain ⟨i, hi, e⟩ := h.2 j hj
    rw [← e]; exact k i hi
  · intro k i hi
    obtain ⟨j, hj, e⟩ := h.1 i hi
    rw [← e]; exact k j hj
theorem Same.err {L M : List Bx} (h : Same L M) (ax : Int) (a : Bx) (d : Int) : errP ax a d L = errP ax a d M := by unfold errP; rw [h.all]
theorem Same.pway {L M : List Bx} (h : Same L M) (ax : Int) (a : Bx) (d : Int) : pWay ax a d L = pWay ax a d M := by unfold pWay; rw [h.err, h.way]
theorem Same.pwho {L M : List Bx} (h : Same L M) (ax : Int) (a : Bx) (d : Int) : pWho ax a d L = -1 ↔ pWho ax a d M = -1 := by
  unfold pWho
  rw [h.err]
  split
  · exact h.who _ a d
  · exact Iff.rfl
end Go.Proofs.Ytnffflcfncffpaa

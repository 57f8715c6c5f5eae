/- What the bound on the arguments' bulk gives: the length of each slice. -/
import Derived.Test.YtebdjahcahgafaaDoorFrame
import Derived.JoinedCond
namespace Go.Proofs.YtebdjahcahgafaaDoor

theorem bulk_one {H : Type} (d : DataW H) : 1 ≤ Rows.uptoBulk d := by
  cases d with
  | lit l => cases l <;> simp [Rows.uptoBulk]
  | nil => simp [Rows.uptoBulk]
  | ptr d => simp [Rows.uptoBulk]
  | slice elems spare => simp [Rows.uptoBulk]
  | agg parts => simp [Rows.uptoBulk]
  | iface t d => simp [Rows.uptoBulk]
  | map entries => simp [Rows.uptoBulk]
  | held h => simp [Rows.uptoBulk]

theorem bulk_part {H : Type} {d : DataW H} {l : List (DataW H)} (h : d ∈ l) : Rows.uptoBulk d ≤ Rows.uptoBulkAll l := by
  induction l with
  | nil => cases h
  | cons x r ih =>
    simp only [Rows.uptoBulkAll]
    cases List.mem_cons.1 h with
    | inl e => subst e; omega
    | inr e => have := ih e; omega

theorem bulk_count {H : Type} (l : List (DataW H)) : l.length ≤ Rows.uptoBulkAll l := by
  induction l with
  | nil => simp [Rows.uptoBulkAll]
  | cons x r ih => have := bulk_one x; simp only [Rows.uptoBulkAll, List.length_cons]; omega

theorem bulk_len {H : Type} {l : List (DataW H)} {d : DataW H} {len : Nat} (hk : Rows.uptoSmall H l = true) (hd : d ∈ l) (hl : LenOf d len) : len ≤ 1048576 := by
  have h : Rows.uptoBulkAll l ≤ 1048576 := of_decide_eq_true hk
  have h1 := bulk_part hd
  rcases hl with rfl | ⟨elems, spare, rfl, rfl⟩
  · omega
  · have h2 := bulk_count elems
    simp only [Rows.uptoBulk] at h1
    omega

end Go.Proofs.YtebdjahcahgafaaDoor

/- What the bound on the arguments' bulk gives: the length of each text. -/
import Derived.Test.YtmddhlpkanjffaaDoorBulk
namespace Go.Proofs.YtmddhlpkanjffaaDoor

theorem bulk_str {H : Type} {l : List (DataW H)} {s : ByteArray} (hk : Rows.uptoSmall H l = true) (hd : (DataW.lit (.string s.data.toList) : DataW H) ∈ l) : s.size ≤ 1048576 := by
  have h : Rows.uptoBulkAll l ≤ 1048576 := of_decide_eq_true hk
  have h1 := bulk_part hd
  simp only [Rows.uptoBulk, Array.length_toList] at h1
  have e : s.size = s.data.size := rfl
  omega

end Go.Proofs.YtmddhlpkanjffaaDoor

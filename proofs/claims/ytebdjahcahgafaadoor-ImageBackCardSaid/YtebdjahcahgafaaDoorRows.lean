/-
  NARROWER THAN 'FOR EVERY INPUT', by the rows' own cells (each row's printed sentence says how): ImageWrites: laid · ImageReads: laid · ImageBack: laid · ImageTells: laid · ImageCut: laid.
  DERIVED. THE GIVEN ROWS OF THIS SEAT. 5 by the template 'for every input the law returns true; each argument reads behind the call as it read before'; 0 by the template 'total and deterministic' (their statements: YtebdjahcahgafaaDoorTotals.lean).
  GIVEN WITH THE SEED: the statements are not yours to turn. If you find one false, say at which input.
  Laid BY PROGRAM, IN A SANDBOX (cutbox-rows.mjs): the forced cells as the released guide's own fill.sh prints them over the translation 790d003036dfdb14… (all of the seat's roots in one cut). By AI agents, Wed Nov 11 2026. No macro, syntax, notation, axiom, sorry.
-/
import Derived.Test.YtebdjahcahgafaaDoorChecked
import GoSem.Claim
import GoSem.ClaimJoined
import GoSem.ClaimMapViews
import Derived.JoinedTies
import Derived.KernelRfl
namespace Go.Proofs.YtebdjahcahgafaaDoor
/- THE CELL 'sum', in the pinned program and in every row, IS THE sha256 OF THE DUMP (.gsa) THAT YtebdjahcahgafaaDoorProg.lean LOADS. Nothing in Lean hashes anything: it is a label: what it is worth is what the hold of that sum in a sandbox is worth. -/
noncomputable def Tryd.pinned : Pinned := { name := "ytebdjahcahgafaadoor", sum := "790d003036dfdb1428014ea024e2efe25decae3fb07c743ef8bedfecd7005e66", checked := Tryd.checked }
namespace Rows
def none {H : Type} : Left H := { results := [], args := [] }

/- WHAT THE LISTED PACKAGE-LEVEL VARIABLES READ AS WHEN THE CALL BEGINS. Each datum BY PROGRAM (the guide's laid-datum.mjs) off the statement by which the dump's own 'gosem.cut.vars' lays the variable. In a bare row this is a premise. The card (YtebdjahcahgafaaDoorCards.lean) ties it to the program's text. -/
def laid_tiltyard_wire_nibbles {H : Type} : DataW H := .agg [.lit (.int .u32 0), .lit (.int .u32 498536548), .lit (.int .u32 997073096), .lit (.int .u32 651767980), .lit (.int .u32 1994146192), .lit (.int .u32 1802195444), .lit (.int .u32 1303535960), .lit (.int .u32 1342533948), .lit (.int .u32 3988292384), .lit (.int .u32 4027552580), .lit (.int .u32 3604390888), .lit (.int .u32 3412177804), .lit (.int .u32 2607071920), .lit (.int .u32 2262029012), .lit (.int .u32 2685067896), .lit (.int .u32 3183342108)]

/-- 'tiltyardlaw15.ImageWrites': WHATEVER THE INPUT: true; the input reads as it did. -/
def imageWritesSpec : ChangeSpec := { name := "imageWrites", fn := fun _ => fun
  | [d] => { results := [.lit (.bool true)], args := [d] }
  | _ => none }
def imageWritesRow : OpenClaim := { program := "ytebdjahcahgafaadoor", sum := "790d003036dfdb1428014ea024e2efe25decae3fb07c743ef8bedfecd7005e66", func := "tiltyard/tiltyardlaw15.ImageWrites", spec := "imageWrites", unfollowed := true, recurses := true, named := ["tiltyard/wire.nibbles"], apart := false, laid := [("tiltyard/wire.nibbles", laid_tiltyard_wire_nibbles)] }
def ImageWritesSaid : Prop := imageWritesRow.holds Tryd.pinned (OpenSpec.ofChange imageWritesSpec)

/-- ITS FALSE NEIGHBOUR: 'it returns false'. Refute it at one input. -/
def imageWritesWrong : ChangeSpec := { name := "imageWrites", fn := fun _ => fun
  | [d] => { results := [.lit (.bool false)], args := [d] }
  | _ => none }
def ImageWritesWrongFalsely : Prop := imageWritesRow.holds Tryd.pinned (OpenSpec.ofChange imageWritesWrong)

/-- 'tiltyardlaw15.ImageReads': WHATEVER THE INPUT: true; the input reads as it did. -/
def imageReadsSpec : ChangeSpec := { name := "imageReads", fn := fun _ => fun
  | [d] => { results := [.lit (.bool true)], args := [d] }
  | _ => none }
def imageReadsRow : OpenClaim := { program := "ytebdjahcahgafaadoor", sum := "790d003036dfdb1428014ea024e2efe25decae3fb07c743ef8bedfecd7005e66", func := "tiltyard/tiltyardlaw15.ImageReads", spec := "imageReads", unfollowed := true, recurses := true, named := ["tiltyard/wire.nibbles"], apart := false, laid := [("tiltyard/wire.nibbles", laid_tiltyard_wire_nibbles)] }
def ImageReadsSaid : Prop := imageReadsRow.holds Tryd.pinned (OpenSpec.ofChange imageReadsSpec)

/-- ITS FALSE NEIGHBOUR: 'it returns false'. Refute it at one input. -/
def imageReadsWrong : ChangeSpec := { name := "imageReads", fn := fun _ => fun
  | [d] => { results := [.lit (.bool false)], args := [d] }
  | _ => none }
def ImageReadsWrongFalsely : Prop := imageReadsRow.holds Tryd.pinned (OpenSpec.ofChange imageReadsWrong)

/-- 'tiltyardlaw15.ImageBack': WHATEVER THE INPUT: true; the input reads as it did. -/
def imageBackSpec : ChangeSpec := { name := "imageBack", fn := fun _ => fun
  | [d1, d2] => { results := [.lit (.bool true)], args := [d1, d2] }
  | _ => none }
def imageBackRow : OpenClaim := { program := "ytebdjahcahgafaadoor", sum := "790d003036dfdb1428014ea024e2efe25decae3fb07c743ef8bedfecd7005e66", func := "tiltyard/tiltyardlaw15.ImageBack", spec := "imageBack", unfollowed := true, recurses := true, named := ["tiltyard/wire.nibbles"], apart := false, laid := [("tiltyard/wire.nibbles", laid_tiltyard_wire_nibbles)] }
def ImageBackSaid : Prop := imageBackRow.holds Tryd.pinned (OpenSpec.ofChange imageBackSpec)

/-- ITS FALSE NEIGHBOUR: 'it returns false'. Refute it at one input. -/
def imageBackWrong : ChangeSpec := { name := "imageBack", fn := fun _ => fun
  | [d1, d2] => { results := [.lit (.bool false)], args := [d1, d2] }
  | _ => none }
def ImageBackWrongFalsely : Prop := imageBackRow.holds Tryd.pinned (OpenSpec.ofChange imageBackWrong)

/-- 'tiltyardlaw15.ImageTells': WHATEVER THE INPUT: true; the input reads as it did. -/
def imageTellsSpec : ChangeSpec := { name := "imageTells", fn := fun _ => fun
  | [d1, d2, d3] => { results := [.lit (.bool true)], args := [d1, d2, d3] }
  | _ => none }
def imageTellsRow : OpenClaim := { program := "ytebdjahcahgafaadoor", sum := "790d003036dfdb1428014ea024e2efe25decae3fb07c743ef8bedfecd7005e66", func := "tiltyard/tiltyardlaw15.ImageTells", spec := "imageTells", unfollowed := true, recurses := true, named := ["tiltyard/wire.nibbles"], apart := false, laid := [("tiltyard/wire.nibbles", laid_tiltyard_wire_nibbles)] }
def ImageTellsSaid : Prop := imageTellsRow.holds Tryd.pinned (OpenSpec.ofChange imageTellsSpec)

/-- ITS FALSE NEIGHBOUR: 'it returns false'. Refute it at one input. -/
def imageTellsWrong : ChangeSpec := { name := "imageTells", fn := fun _ => fun
  | [d1, d2, d3] => { results := [.lit (.bool false)], args := [d1, d2, d3] }
  | _ => none }
def ImageTellsWrongFalsely : Prop := imageTellsRow.holds Tryd.pinned (OpenSpec.ofChange imageTellsWrong)

/-- 'tiltyardlaw15.ImageCut': WHATEVER THE INPUT: true; the input reads as it did. -/
def imageCutSpec : ChangeSpec := { name := "imageCut", fn := fun _ => fun
  | [d1, d2] => { results := [.lit (.bool true)], args := [d1, d2] }
  | _ => none }
def imageCutRow : OpenClaim := { program := "ytebdjahcahgafaadoor", sum := "790d003036dfdb1428014ea024e2efe25decae3fb07c743ef8bedfecd7005e66", func := "tiltyard/tiltyardlaw15.ImageCut", spec := "imageCut", unfollowed := true, recurses := true, named := ["tiltyard/wire.nibbles"], apart := false, laid := [("tiltyard/wire.nibbles", laid_tiltyard_wire_nibbles)] }
def ImageCutSaid : Prop := imageCutRow.holds Tryd.pinned (OpenSpec.ofChange imageCutSpec)

/-- ITS FALSE NEIGHBOUR: 'it returns false'. Refute it at one input. -/
def imageCutWrong : ChangeSpec := { name := "imageCut", fn := fun _ => fun
  | [d1, d2] => { results := [.lit (.bool false)], args := [d1, d2] }
  | _ => none }
def ImageCutWrongFalsely : Prop := imageCutRow.holds Tryd.pinned (OpenSpec.ofChange imageCutWrong)

/- THE SECOND FORM. 'bulk': how many values and letters a reading holds, each counted each time it is reached (what is shared counts as often as it is met; a slice's spare places count too). A statement '..UptoSaid' is the law's where the arguments, and the package variables that the reading takes, are together of bulk at most 1048576: NARROWER than '..Said'. Prove '..Said' where nothing that the law and all that it calls make is longer than what came in: it says more and counts as full. Else prove '..UptoSaid'. A law counts once. -/
mutual
def uptoBulk {H : Type} : DataW H → Nat
  | .lit (.string bytes) => bytes.length + 1
  | .lit _ => 1
  | .nil => 1
  | .ptr d => uptoBulk d + 1
  | .slice elems spare => uptoBulkAll elems + uptoBulkAll spare + 1
  | .agg parts => uptoBulkAll parts + 1
  | .iface _ d => uptoBulk d + 1
  | .map entries => uptoBulkEntries entries + 1
  | .held _ => 1
def uptoBulkAll {H : Type} : List (DataW H) → Nat
  | [] => 0
  | d :: r => uptoBulk d + uptoBulkAll r
def uptoBulkEntries {H : Type} : List (Lit × DataW H) → Nat
  | [] => 0
  | x :: r => uptoBulkEntry x + uptoBulkEntries r
def uptoBulkEntry {H : Type} : Lit × DataW H → Nat
  | (.string bytes, d) => bytes.length + uptoBulk d + 1
  | (_, d) => uptoBulk d + 1
 end
def uptoSmall : (H : Type) → List (DataW H) → Bool := fun _ ds => decide (uptoBulkAll ds ≤ 1048576)
def OpenSpec.upto (s : _root_.Go.ChangeSpec) : _root_.Go.OpenSpec := { _root_.Go.OpenSpec.ofChange s with cond := some uptoSmall }

/-- 'tiltyardlaw15.ImageWrites', WHERE WHAT IT READS IS OF BULK AT MOST 1048576: true; the input reads as it did. -/
def imageWritesUptoRow : OpenClaim := { program := "ytebdjahcahgafaadoor", sum := "790d003036dfdb1428014ea024e2efe25decae3fb07c743ef8bedfecd7005e66", func := "tiltyard/tiltyardlaw15.ImageWrites", spec := "imageWrites", unfollowed := true, recurses := true, named := ["tiltyard/wire.nibbles"], apart := false, laid := [("tiltyard/wire.nibbles", laid_tiltyard_wire_nibbles)], narrowed := true }
def ImageWritesUptoSaid : Prop := imageWritesUptoRow.holds Tryd.pinned (OpenSpec.upto imageWritesSpec)

/-- 'tiltyardlaw15.ImageReads', WHERE WHAT IT READS IS OF BULK AT MOST 1048576: true; the input reads as it did. -/
def imageReadsUptoRow : OpenClaim := { program := "ytebdjahcahgafaadoor", sum := "790d003036dfdb1428014ea024e2efe25decae3fb07c743ef8bedfecd7005e66", func := "tiltyard/tiltyardlaw15.ImageReads", spec := "imageReads", unfollowed := true, recurses := true, named := ["tiltyard/wire.nibbles"], apart := false, laid := [("tiltyard/wire.nibbles", laid_tiltyard_wire_nibbles)], narrowed := true }
def ImageReadsUptoSaid : Prop := imageReadsUptoRow.holds Tryd.pinned (OpenSpec.upto imageReadsSpec)

/-- 'tiltyardlaw15.ImageBack', WHERE WHAT IT READS IS OF BULK AT MOST 1048576: true; the input reads as it did. -/
def imageBackUptoRow : OpenClaim := { program := "ytebdjahcahgafaadoor", sum := "790d003036dfdb1428014ea024e2efe25decae3fb07c743ef8bedfecd7005e66", func := "tiltyard/tiltyardlaw15.ImageBack", spec := "imageBack", unfollowed := true, recurses := true, named := ["tiltyard/wire.nibbles"], apart := false, laid := [("tiltyard/wire.nibbles", laid_tiltyard_wire_nibbles)], narrowed := true }
def ImageBackUptoSaid : Prop := imageBackUptoRow.holds Tryd.pinned (OpenSpec.upto imageBackSpec)

/-- 'tiltyardlaw15.ImageTells', WHERE WHAT IT READS IS OF BULK AT MOST 1048576: true; the input reads as it did. -/
def imageTellsUptoRow : OpenClaim := { program := "ytebdjahcahgafaadoor", sum := "790d003036dfdb1428014ea024e2efe25decae3fb07c743ef8bedfecd7005e66", func := "tiltyard/tiltyardlaw15.ImageTells", spec := "imageTells", unfollowed := true, recurses := true, named := ["tiltyard/wire.nibbles"], apart := false, laid := [("tiltyard/wire.nibbles", laid_tiltyard_wire_nibbles)], narrowed := true }
def ImageTellsUptoSaid : Prop := imageTellsUptoRow.holds Tryd.pinned (OpenSpec.upto imageTellsSpec)

/-- 'tiltyardlaw15.ImageCut', WHERE WHAT IT READS IS OF BULK AT MOST 1048576: true; the input reads as it did. -/
def imageCutUptoRow : OpenClaim := { program := "ytebdjahcahgafaadoor", sum := "790d003036dfdb1428014ea024e2efe25decae3fb07c743ef8bedfecd7005e66", func := "tiltyard/tiltyardlaw15.ImageCut", spec := "imageCut", unfollowed := true, recurses := true, named := ["tiltyard/wire.nibbles"], apart := false, laid := [("tiltyard/wire.nibbles", laid_tiltyard_wire_nibbles)], narrowed := true }
def ImageCutUptoSaid : Prop := imageCutUptoRow.holds Tryd.pinned (OpenSpec.upto imageCutSpec)

end Rows
end Go.Proofs.YtebdjahcahgafaaDoor

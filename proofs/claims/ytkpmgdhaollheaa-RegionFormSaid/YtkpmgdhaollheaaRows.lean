/-
  No cell of these rows narrows 'for every input' (looked for: loops, veiled, ifaces, maps, wideKeys, modest, calm, conditions, laid).
  DERIVED. THE GIVEN ROWS OF THIS SEAT. 10 by the template 'for every input the law returns true; each argument reads behind the call as it read before'; 0 by the template 'total and deterministic' (their statements: YtkpmgdhaollheaaTotals.lean).
  GIVEN WITH THE SEED: the statements are not yours to turn. If you find one false, say at which input.
  Laid BY PROGRAM, IN A SANDBOX (cutbox-rows.mjs): the forced cells as the released guide's own fill.sh prints them over the translation 207907b8cb24e7c7… (all of the seat's roots in one cut). By AI agents, Wed Nov 11 2026. No macro, syntax, notation, axiom, sorry.
-/
import Derived.Test.YtkpmgdhaollheaaChecked
import GoSem.Claim
import GoSem.ClaimJoined
import GoSem.ClaimMapViews
import Derived.JoinedTies
import Derived.KernelRfl
namespace Go.Proofs.Ytkpmgdhaollheaa
/- THE CELL 'sum', in the pinned program and in every row, IS THE sha256 OF THE DUMP (.gsa) THAT YtkpmgdhaollheaaProg.lean LOADS. Nothing in Lean hashes anything: it is a label: what it is worth is what the hold of that sum in a sandbox is worth. -/
noncomputable def Try.pinned : Pinned := { name := "ytkpmgdhaollheaa", sum := "207907b8cb24e7c70e3eda623d710ddc2baef32631987adb9f90ae47adb40e4d", checked := Try.checked }
namespace Rows
def none {H : Type} : Left H := { results := [], args := [] }

/-- 'landaidlaw04.RegionSquares': WHATEVER THE INPUT: true; the input reads as it did. -/
def regionSquaresSpec : ChangeSpec := { name := "regionSquares", fn := fun _ => fun
  | [d] => { results := [.lit (.bool true)], args := [d] }
  | _ => none }
def regionSquaresRow : OpenClaim := { program := "ytkpmgdhaollheaa", sum := "207907b8cb24e7c70e3eda623d710ddc2baef32631987adb9f90ae47adb40e4d", func := "landaid/landaidlaw04.RegionSquares", spec := "regionSquares", unfollowed := true, recurses := true, apart := false }
def RegionSquaresSaid : Prop := regionSquaresRow.holds Try.pinned (OpenSpec.ofChange regionSquaresSpec)

/-- ITS FALSE NEIGHBOUR: 'it returns false'. Refute it at one input. -/
def regionSquaresWrong : ChangeSpec := { name := "regionSquares", fn := fun _ => fun
  | [d] => { results := [.lit (.bool false)], args := [d] }
  | _ => none }
def RegionSquaresWrongFalsely : Prop := regionSquaresRow.holds Try.pinned (OpenSpec.ofChange regionSquaresWrong)

/-- 'landaidlaw04.RegionSets': WHATEVER THE INPUT: true; the input reads as it did. -/
def regionSetsSpec : ChangeSpec := { name := "regionSets", fn := fun _ => fun
  | [d] => { results := [.lit (.bool true)], args := [d] }
  | _ => none }
def regionSetsRow : OpenClaim := { program := "ytkpmgdhaollheaa", sum := "207907b8cb24e7c70e3eda623d710ddc2baef32631987adb9f90ae47adb40e4d", func := "landaid/landaidlaw04.RegionSets", spec := "regionSets", unfollowed := true, recurses := true, apart := false }
def RegionSetsSaid : Prop := regionSetsRow.holds Try.pinned (OpenSpec.ofChange regionSetsSpec)

/-- ITS FALSE NEIGHBOUR: 'it returns false'. Refute it at one input. -/
def regionSetsWrong : ChangeSpec := { name := "regionSets", fn := fun _ => fun
  | [d] => { results := [.lit (.bool false)], args := [d] }
  | _ => none }
def RegionSetsWrongFalsely : Prop := regionSetsRow.holds Try.pinned (OpenSpec.ofChange regionSetsWrong)

/-- 'landaidlaw04.RegionForm': WHATEVER THE INPUT: true; the input reads as it did. -/
def regionFormSpec : ChangeSpec := { name := "regionForm", fn := fun _ => fun
  | [d1, d2] => { results := [.lit (.bool true)], args := [d1, d2] }
  | _ => none }
def regionFormRow : OpenClaim := { program := "ytkpmgdhaollheaa", sum := "207907b8cb24e7c70e3eda623d710ddc2baef32631987adb9f90ae47adb40e4d", func := "landaid/landaidlaw04.RegionForm", spec := "regionForm", unfollowed := true, recurses := true, apart := false }
def RegionFormSaid : Prop := regionFormRow.holds Try.pinned (OpenSpec.ofChange regionFormSpec)

/-- ITS FALSE NEIGHBOUR: 'it returns false'. Refute it at one input. -/
def regionFormWrong : ChangeSpec := { name := "regionForm", fn := fun _ => fun
  | [d1, d2] => { results := [.lit (.bool false)], args := [d1, d2] }
  | _ => none }
def RegionFormWrongFalsely : Prop := regionFormRow.holds Try.pinned (OpenSpec.ofChange regionFormWrong)

/-- 'landaidlaw04.RegionWithin': WHATEVER THE INPUT: true; the input reads as it did. -/
def regionWithinSpec : ChangeSpec := { name := "regionWithin", fn := fun _ => fun
  | [d] => { results := [.lit (.bool true)], args := [d] }
  | _ => none }
def regionWithinRow : OpenClaim := { program := "ytkpmgdhaollheaa", sum := "207907b8cb24e7c70e3eda623d710ddc2baef32631987adb9f90ae47adb40e4d", func := "landaid/landaidlaw04.RegionWithin", spec := "regionWithin", unfollowed := true, recurses := true, apart := false }
def RegionWithinSaid : Prop := regionWithinRow.holds Try.pinned (OpenSpec.ofChange regionWithinSpec)

/-- ITS FALSE NEIGHBOUR: 'it returns false'. Refute it at one input. -/
def regionWithinWrong : ChangeSpec := { name := "regionWithin", fn := fun _ => fun
  | [d] => { results := [.lit (.bool false)], args := [d] }
  | _ => none }
def RegionWithinWrongFalsely : Prop := regionWithinRow.holds Try.pinned (OpenSpec.ofChange regionWithinWrong)

/-- 'landaidlaw06.ShapeParts': WHATEVER THE INPUT: true; the input reads as it did. -/
def shapePartsSpec : ChangeSpec := { name := "shapeParts", fn := fun _ => fun
  | [d] => { results := [.lit (.bool true)], args := [d] }
  | _ => none }
def shapePartsRow : OpenClaim := { program := "ytkpmgdhaollheaa", sum := "207907b8cb24e7c70e3eda623d710ddc2baef32631987adb9f90ae47adb40e4d", func := "landaid/landaidlaw06.ShapeParts", spec := "shapeParts", unfollowed := true, recurses := true, apart := false }
def ShapePartsSaid : Prop := shapePartsRow.holds Try.pinned (OpenSpec.ofChange shapePartsSpec)

/-- ITS FALSE NEIGHBOUR: 'it returns false'. Refute it at one input. -/
def shapePartsWrong : ChangeSpec := { name := "shapeParts", fn := fun _ => fun
  | [d] => { results := [.lit (.bool false)], args := [d] }
  | _ => none }
def ShapePartsWrongFalsely : Prop := shapePartsRow.holds Try.pinned (OpenSpec.ofChange shapePartsWrong)

/-- 'landaidlaw06.ShapeGrows': WHATEVER THE INPUT: true; the input reads as it did. -/
def shapeGrowsSpec : ChangeSpec := { name := "shapeGrows", fn := fun _ => fun
  | [d1, d2] => { results := [.lit (.bool true)], args := [d1, d2] }
  | _ => none }
def shapeGrowsRow : OpenClaim := { program := "ytkpmgdhaollheaa", sum := "207907b8cb24e7c70e3eda623d710ddc2baef32631987adb9f90ae47adb40e4d", func := "landaid/landaidlaw06.ShapeGrows", spec := "shapeGrows", unfollowed := true, recurses := true, apart := false }
def ShapeGrowsSaid : Prop := shapeGrowsRow.holds Try.pinned (OpenSpec.ofChange shapeGrowsSpec)

/-- ITS FALSE NEIGHBOUR: 'it returns false'. Refute it at one input. -/
def shapeGrowsWrong : ChangeSpec := { name := "shapeGrows", fn := fun _ => fun
  | [d1, d2] => { results := [.lit (.bool false)], args := [d1, d2] }
  | _ => none }
def ShapeGrowsWrongFalsely : Prop := shapeGrowsRow.holds Try.pinned (OpenSpec.ofChange shapeGrowsWrong)

/-- 'landaidlaw06.ShapeOpens': WHATEVER THE INPUT: true; the input reads as it did. -/
def shapeOpensSpec : ChangeSpec := { name := "shapeOpens", fn := fun _ => fun
  | [d1, d2, d3] => { results := [.lit (.bool true)], args := [d1, d2, d3] }
  | _ => none }
def shapeOpensRow : OpenClaim := { program := "ytkpmgdhaollheaa", sum := "207907b8cb24e7c70e3eda623d710ddc2baef32631987adb9f90ae47adb40e4d", func := "landaid/landaidlaw06.ShapeOpens", spec := "shapeOpens", unfollowed := true, recurses := true, apart := false }
def ShapeOpensSaid : Prop := shapeOpensRow.holds Try.pinned (OpenSpec.ofChange shapeOpensSpec)

/-- ITS FALSE NEIGHBOUR: 'it returns false'. Refute it at one input. -/
def shapeOpensWrong : ChangeSpec := { name := "shapeOpens", fn := fun _ => fun
  | [d1, d2, d3] => { results := [.lit (.bool false)], args := [d1, d2, d3] }
  | _ => none }
def ShapeOpensWrongFalsely : Prop := shapeOpensRow.holds Try.pinned (OpenSpec.ofChange shapeOpensWrong)

/-- 'landaidlaw07.OverlaySquares': WHATEVER THE INPUT: true; the input reads as it did. -/
def overlaySquaresSpec : ChangeSpec := { name := "overlaySquares", fn := fun _ => fun
  | [d] => { results := [.lit (.bool true)], args := [d] }
  | _ => none }
def overlaySquaresRow : OpenClaim := { program := "ytkpmgdhaollheaa", sum := "207907b8cb24e7c70e3eda623d710ddc2baef32631987adb9f90ae47adb40e4d", func := "landaid/landaidlaw07.OverlaySquares", spec := "overlaySquares", unfollowed := true, recurses := true, apart := false }
def OverlaySquaresSaid : Prop := overlaySquaresRow.holds Try.pinned (OpenSpec.ofChange overlaySquaresSpec)

/-- ITS FALSE NEIGHBOUR: 'it returns false'. Refute it at one input. -/
def overlaySquaresWrong : ChangeSpec := { name := "overlaySquares", fn := fun _ => fun
  | [d] => { results := [.lit (.bool false)], args := [d] }
  | _ => none }
def OverlaySquaresWrongFalsely : Prop := overlaySquaresRow.holds Try.pinned (OpenSpec.ofChange overlaySquaresWrong)

/-- 'landaidlaw07.OverlayAreas': WHATEVER THE INPUT: true; the input reads as it did. -/
def overlayAreasSpec : ChangeSpec := { name := "overlayAreas", fn := fun _ => fun
  | [d] => { results := [.lit (.bool true)], args := [d] }
  | _ => none }
def overlayAreasRow : OpenClaim := { program := "ytkpmgdhaollheaa", sum := "207907b8cb24e7c70e3eda623d710ddc2baef32631987adb9f90ae47adb40e4d", func := "landaid/landaidlaw07.OverlayAreas", spec := "overlayAreas", unfollowed := true, recurses := true, apart := false }
def OverlayAreasSaid : Prop := overlayAreasRow.holds Try.pinned (OpenSpec.ofChange overlayAreasSpec)

/-- ITS FALSE NEIGHBOUR: 'it returns false'. Refute it at one input. -/
def overlayAreasWrong : ChangeSpec := { name := "overlayAreas", fn := fun _ => fun
  | [d] => { results := [.lit (.bool false)], args := [d] }
  | _ => none }
def OverlayAreasWrongFalsely : Prop := overlayAreasRow.holds Try.pinned (OpenSpec.ofChange overlayAreasWrong)

/-- 'landaidlaw07.OverlayTurns': WHATEVER THE INPUT: true; the input reads as it did. -/
def overlayTurnsSpec : ChangeSpec := { name := "overlayTurns", fn := fun _ => fun
  | [d1, d2, d3] => { results := [.lit (.bool true)], args := [d1, d2, d3] }
  | _ => none }
def overlayTurnsRow : OpenClaim := { program := "ytkpmgdhaollheaa", sum := "207907b8cb24e7c70e3eda623d710ddc2baef32631987adb9f90ae47adb40e4d", func := "landaid/landaidlaw07.OverlayTurns", spec := "overlayTurns", unfollowed := true, recurses := true, apart := false }
def OverlayTurnsSaid : Prop := overlayTurnsRow.holds Try.pinned (OpenSpec.ofChange overlayTurnsSpec)

/-- ITS FALSE NEIGHBOUR: 'it returns false'. Refute it at one input. -/
def overlayTurnsWrong : ChangeSpec := { name := "overlayTurns", fn := fun _ => fun
  | [d1, d2, d3] => { results := [.lit (.bool false)], args := [d1, d2, d3] }
  | _ => none }
def OverlayTurnsWrongFalsely : Prop := overlayTurnsRow.holds Try.pinned (OpenSpec.ofChange overlayTurnsWrong)

/- THE SECOND FORM. 'bulk': how many values and letters a reading holds, each counted each time it is reached (what is shared counts as often as it is met; a slice's spare places count too). A statement '..UptoSaid' is the law's where the arguments, and the package variables that the reading takes, are together of bulk at most 1048576: NARROWER than '..Said'. Prove '..Said' where nothing that the law and all that it calls make is longer than what came in: it says more and counts as full. Else prove '..UptoSaid'. A law counts once. -/
mutual
def uptoBulk {H : Type} : DataW H → Nat
  | .lit (.string bytes) => bytes.length + 1
  | .lit _ => 1
  | .nil => 1
  | .ptr d => uptoBulk d + 1
  | .slice elems spare => uptoBulkAll elems + uptoBulkAll spare + 1
  | .agg parts => uptoBulkAll parts + 1
  | .iface _ d => uptoBulk d + 1
  | .map entries => uptoBulkEntries entries + 1
  | .held _ => 1
def uptoBulkAll {H : Type} : List (DataW H) → Nat
  | [] => 0
  | d :: r => uptoBulk d + uptoBulkAll r
def uptoBulkEntries {H : Type} : List (Lit × DataW H) → Nat
  | [] => 0
  | x :: r => uptoBulkEntry x + uptoBulkEntries r
def uptoBulkEntry {H : Type} : Lit × DataW H → Nat
  | (.string bytes, d) => bytes.length + uptoBulk d + 1
  | (_, d) => uptoBulk d + 1
 end
def uptoSmall : (H : Type) → List (DataW H) → Bool := fun _ ds => decide (uptoBulkAll ds ≤ 1048576)
def OpenSpec.upto (s : _root_.Go.ChangeSpec) : _root_.Go.OpenSpec := { _root_.Go.OpenSpec.ofChange s with cond := some uptoSmall }

/-- 'landaidlaw04.RegionSquares', WHERE WHAT IT READS IS OF BULK AT MOST 1048576: true; the input reads as it did. -/
def regionSquaresUptoRow : OpenClaim := { program := "ytkpmgdhaollheaa", sum := "207907b8cb24e7c70e3eda623d710ddc2baef32631987adb9f90ae47adb40e4d", func := "landaid/landaidlaw04.RegionSquares", spec := "regionSquares", unfollowed := true, recurses := true, apart := false, narrowed := true }
def RegionSquaresUptoSaid : Prop := regionSquaresUptoRow.holds Try.pinned (OpenSpec.upto regionSquaresSpec)

/-- 'landaidlaw04.RegionSets', WHERE WHAT IT READS IS OF BULK AT MOST 1048576: true; the input reads as it did. -/
def regionSetsUptoRow : OpenClaim := { program := "ytkpmgdhaollheaa", sum := "207907b8cb24e7c70e3eda623d710ddc2baef32631987adb9f90ae47adb40e4d", func := "landaid/landaidlaw04.RegionSets", spec := "regionSets", unfollowed := true, recurses := true, apart := false, narrowed := true }
def RegionSetsUptoSaid : Prop := regionSetsUptoRow.holds Try.pinned (OpenSpec.upto regionSetsSpec)

/-- 'landaidlaw04.RegionForm', WHERE WHAT IT READS IS OF BULK AT MOST 1048576: true; the input reads as it did. -/
def regionFormUptoRow : OpenClaim := { program := "ytkpmgdhaollheaa", sum := "207907b8cb24e7c70e3eda623d710ddc2baef32631987adb9f90ae47adb40e4d", func := "landaid/landaidlaw04.RegionForm", spec := "regionForm", unfollowed := true, recurses := true, apart := false, narrowed := true }
def RegionFormUptoSaid : Prop := regionFormUptoRow.holds Try.pinned (OpenSpec.upto regionFormSpec)

/-- 'landaidlaw04.RegionWithin', WHERE WHAT IT READS IS OF BULK AT MOST 1048576: true; the input reads as it did. -/
def regionWithinUptoRow : OpenClaim := { program := "ytkpmgdhaollheaa", sum := "207907b8cb24e7c70e3eda623d710ddc2baef32631987adb9f90ae47adb40e4d", func := "landaid/landaidlaw04.RegionWithin", spec := "regionWithin", unfollowed := true, recurses := true, apart := false, narrowed := true }
def RegionWithinUptoSaid : Prop := regionWithinUptoRow.holds Try.pinned (OpenSpec.upto regionWithinSpec)

/-- 'landaidlaw06.ShapeParts', WHERE WHAT IT READS IS OF BULK AT MOST 1048576: true; the input reads as it did. -/
def shapePartsUptoRow : OpenClaim := { program := "ytkpmgdhaollheaa", sum := "207907b8cb24e7c70e3eda623d710ddc2baef32631987adb9f90ae47adb40e4d", func := "landaid/landaidlaw06.ShapeParts", spec := "shapeParts", unfollowed := true, recurses := true, apart := false, narrowed := true }
def ShapePartsUptoSaid : Prop := shapePartsUptoRow.holds Try.pinned (OpenSpec.upto shapePartsSpec)

/-- 'landaidlaw06.ShapeGrows', WHERE WHAT IT READS IS OF BULK AT MOST 1048576: true; the input reads as it did. -/
def shapeGrowsUptoRow : OpenClaim := { program := "ytkpmgdhaollheaa", sum := "207907b8cb24e7c70e3eda623d710ddc2baef32631987adb9f90ae47adb40e4d", func := "landaid/landaidlaw06.ShapeGrows", spec := "shapeGrows", unfollowed := true, recurses := true, apart := false, narrowed := true }
def ShapeGrowsUptoSaid : Prop := shapeGrowsUptoRow.holds Try.pinned (OpenSpec.upto shapeGrowsSpec)

/-- 'landaidlaw06.ShapeOpens', WHERE WHAT IT READS IS OF BULK AT MOST 1048576: true; the input reads as it did. -/
def shapeOpensUptoRow : OpenClaim := { program := "ytkpmgdhaollheaa", sum := "207907b8cb24e7c70e3eda623d710ddc2baef32631987adb9f90ae47adb40e4d", func := "landaid/landaidlaw06.ShapeOpens", spec := "shapeOpens", unfollowed := true, recurses := true, apart := false, narrowed := true }
def ShapeOpensUptoSaid : Prop := shapeOpensUptoRow.holds Try.pinned (OpenSpec.upto shapeOpensSpec)

/-- 'landaidlaw07.OverlaySquares', WHERE WHAT IT READS IS OF BULK AT MOST 1048576: true; the input reads as it did. -/
def overlaySquaresUptoRow : OpenClaim := { program := "ytkpmgdhaollheaa", sum := "207907b8cb24e7c70e3eda623d710ddc2baef32631987adb9f90ae47adb40e4d", func := "landaid/landaidlaw07.OverlaySquares", spec := "overlaySquares", unfollowed := true, recurses := true, apart := false, narrowed := true }
def OverlaySquaresUptoSaid : Prop := overlaySquaresUptoRow.holds Try.pinned (OpenSpec.upto overlaySquaresSpec)

/-- 'landaidlaw07.OverlayAreas', WHERE WHAT IT READS IS OF BULK AT MOST 1048576: true; the input reads as it did. -/
def overlayAreasUptoRow : OpenClaim := { program := "ytkpmgdhaollheaa", sum := "207907b8cb24e7c70e3eda623d710ddc2baef32631987adb9f90ae47adb40e4d", func := "landaid/landaidlaw07.OverlayAreas", spec := "overlayAreas", unfollowed := true, recurses := true, apart := false, narrowed := true }
def OverlayAreasUptoSaid : Prop := overlayAreasUptoRow.holds Try.pinned (OpenSpec.upto overlayAreasSpec)

/-- 'landaidlaw07.OverlayTurns', WHERE WHAT IT READS IS OF BULK AT MOST 1048576: true; the input reads as it did. -/
def overlayTurnsUptoRow : OpenClaim := { program := "ytkpmgdhaollheaa", sum := "207907b8cb24e7c70e3eda623d710ddc2baef32631987adb9f90ae47adb40e4d", func := "landaid/landaidlaw07.OverlayTurns", spec := "overlayTurns", unfollowed := true, recurses := true, apart := false, narrowed := true }
def OverlayTurnsUptoSaid : Prop := overlayTurnsUptoRow.holds Try.pinned (OpenSpec.upto overlayTurnsSpec)

end Rows
end Go.Proofs.Ytkpmgdhaollheaa

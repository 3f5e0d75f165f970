/-
  No cell of these rows narrows 'for every input' (looked for: loops, veiled, ifaces, maps, wideKeys, modest, calm, conditions, laid).
  DERIVED. THE GIVEN ROWS OF THIS SEAT. 9 by the template 'for every input the law returns true; each argument reads behind the call as it read before'; 0 by the template 'total and deterministic' (their statements: YtdpnkbbphfcngaaTotals.lean).
  GIVEN WITH THE SEED: the statements are not yours to turn. If you find one false, say at which input.
  Laid BY PROGRAM, IN A SANDBOX (cutbox-rows.mjs): the forced cells as the released guide's own fill.sh prints them over the translation e0c460b6101cabdd… (all of the seat's roots in one cut). By AI agents, Wed Nov 11 2026. No macro, syntax, notation, axiom, sorry.
-/
import Derived.Test.YtdpnkbbphfcngaaChecked
import GoSem.Claim
import GoSem.ClaimJoined
import GoSem.ClaimMapViews
import Derived.JoinedTies
import Derived.KernelRfl
namespace Go.Proofs.Ytdpnkbbphfcngaa
/- THE CELL 'sum', in the pinned program and in every row, IS THE sha256 OF THE DUMP (.gsa) THAT YtdpnkbbphfcngaaProg.lean LOADS. Nothing in Lean hashes anything: it is a label: what it is worth is what the hold of that sum in a sandbox is worth. -/
noncomputable def Try.pinned : Pinned := { name := "ytdpnkbbphfcngaa", sum := "e0c460b6101cabddc87cab47573cb8b34cd24dfea532d4172f6b92b4e3c77319", checked := Try.checked }
namespace Rows
def none {H : Type} : Left H := { results := [], args := [] }

/-- 'landaidlaw04.RegionAnswers': WHATEVER THE INPUT: true; the input reads as it did. -/
def regionAnswersSpec : ChangeSpec := { name := "regionAnswers", fn := fun _ => fun
  | [d1, d2, d3, d4, d5] => { results := [.lit (.bool true)], args := [d1, d2, d3, d4, d5] }
  | _ => none }
def regionAnswersRow : OpenClaim := { program := "ytdpnkbbphfcngaa", sum := "e0c460b6101cabddc87cab47573cb8b34cd24dfea532d4172f6b92b4e3c77319", func := "landaid/landaidlaw04.RegionAnswers", spec := "regionAnswers", unfollowed := true, recurses := true, plainKeys := false, apart := false }
def RegionAnswersSaid : Prop := regionAnswersRow.holds Try.pinned (OpenSpec.ofChange regionAnswersSpec)

/-- ITS FALSE NEIGHBOUR: 'it returns false'. Refute it at one input. -/
def regionAnswersWrong : ChangeSpec := { name := "regionAnswers", fn := fun _ => fun
  | [d1, d2, d3, d4, d5] => { results := [.lit (.bool false)], args := [d1, d2, d3, d4, d5] }
  | _ => none }
def RegionAnswersWrongFalsely : Prop := regionAnswersRow.holds Try.pinned (OpenSpec.ofChange regionAnswersWrong)

/-- 'landaidlaw04.RegionSquares': WHATEVER THE INPUT: true; the input reads as it did. -/
def regionSquaresSpec : ChangeSpec := { name := "regionSquares", fn := fun _ => fun
  | [d] => { results := [.lit (.bool true)], args := [d] }
  | _ => none }
def regionSquaresRow : OpenClaim := { program := "ytdpnkbbphfcngaa", sum := "e0c460b6101cabddc87cab47573cb8b34cd24dfea532d4172f6b92b4e3c77319", func := "landaid/landaidlaw04.RegionSquares", spec := "regionSquares", unfollowed := true, recurses := true, plainKeys := false, apart := false }
def RegionSquaresSaid : Prop := regionSquaresRow.holds Try.pinned (OpenSpec.ofChange regionSquaresSpec)

/-- ITS FALSE NEIGHBOUR: 'it returns false'. Refute it at one input. -/
def regionSquaresWrong : ChangeSpec := { name := "regionSquares", fn := fun _ => fun
  | [d] => { results := [.lit (.bool false)], args := [d] }
  | _ => none }
def RegionSquaresWrongFalsely : Prop := regionSquaresRow.holds Try.pinned (OpenSpec.ofChange regionSquaresWrong)

/-- 'landaidlaw04.RegionSets': WHATEVER THE INPUT: true; the input reads as it did. -/
def regionSetsSpec : ChangeSpec := { name := "regionSets", fn := fun _ => fun
  | [d] => { results := [.lit (.bool true)], args := [d] }
  | _ => none }
def regionSetsRow : OpenClaim := { program := "ytdpnkbbphfcngaa", sum := "e0c460b6101cabddc87cab47573cb8b34cd24dfea532d4172f6b92b4e3c77319", func := "landaid/landaidlaw04.RegionSets", spec := "regionSets", unfollowed := true, recurses := true, plainKeys := false, apart := false }
def RegionSetsSaid : Prop := regionSetsRow.holds Try.pinned (OpenSpec.ofChange regionSetsSpec)

/-- ITS FALSE NEIGHBOUR: 'it returns false'. Refute it at one input. -/
def regionSetsWrong : ChangeSpec := { name := "regionSets", fn := fun _ => fun
  | [d] => { results := [.lit (.bool false)], args := [d] }
  | _ => none }
def RegionSetsWrongFalsely : Prop := regionSetsRow.holds Try.pinned (OpenSpec.ofChange regionSetsWrong)

/-- 'landaidlaw04.RegionForm': WHATEVER THE INPUT: true; the input reads as it did. -/
def regionFormSpec : ChangeSpec := { name := "regionForm", fn := fun _ => fun
  | [d1, d2] => { results := [.lit (.bool true)], args := [d1, d2] }
  | _ => none }
def regionFormRow : OpenClaim := { program := "ytdpnkbbphfcngaa", sum := "e0c460b6101cabddc87cab47573cb8b34cd24dfea532d4172f6b92b4e3c77319", func := "landaid/landaidlaw04.RegionForm", spec := "regionForm", unfollowed := true, recurses := true, plainKeys := false, apart := false }
def RegionFormSaid : Prop := regionFormRow.holds Try.pinned (OpenSpec.ofChange regionFormSpec)

/-- ITS FALSE NEIGHBOUR: 'it returns false'. Refute it at one input. -/
def regionFormWrong : ChangeSpec := { name := "regionForm", fn := fun _ => fun
  | [d1, d2] => { results := [.lit (.bool false)], args := [d1, d2] }
  | _ => none }
def RegionFormWrongFalsely : Prop := regionFormRow.holds Try.pinned (OpenSpec.ofChange regionFormWrong)

/-- 'landaidlaw04.RegionWithin': WHATEVER THE INPUT: true; the input reads as it did. -/
def regionWithinSpec : ChangeSpec := { name := "regionWithin", fn := fun _ => fun
  | [d] => { results := [.lit (.bool true)], args := [d] }
  | _ => none }
def regionWithinRow : OpenClaim := { program := "ytdpnkbbphfcngaa", sum := "e0c460b6101cabddc87cab47573cb8b34cd24dfea532d4172f6b92b4e3c77319", func := "landaid/landaidlaw04.RegionWithin", spec := "regionWithin", unfollowed := true, recurses := true, plainKeys := false, apart := false }
def RegionWithinSaid : Prop := regionWithinRow.holds Try.pinned (OpenSpec.ofChange regionWithinSpec)

/-- ITS FALSE NEIGHBOUR: 'it returns false'. Refute it at one input. -/
def regionWithinWrong : ChangeSpec := { name := "regionWithin", fn := fun _ => fun
  | [d] => { results := [.lit (.bool false)], args := [d] }
  | _ => none }
def RegionWithinWrongFalsely : Prop := regionWithinRow.holds Try.pinned (OpenSpec.ofChange regionWithinWrong)

/-- 'landaidlaw05.OutlineBorder': WHATEVER THE INPUT: true; the input reads as it did. -/
def outlineBorderSpec : ChangeSpec := { name := "outlineBorder", fn := fun _ => fun
  | [d] => { results := [.lit (.bool true)], args := [d] }
  | _ => none }
def outlineBorderRow : OpenClaim := { program := "ytdpnkbbphfcngaa", sum := "e0c460b6101cabddc87cab47573cb8b34cd24dfea532d4172f6b92b4e3c77319", func := "landaid/landaidlaw05.OutlineBorder", spec := "outlineBorder", unfollowed := true, recurses := true, plainKeys := false, apart := false }
def OutlineBorderSaid : Prop := outlineBorderRow.holds Try.pinned (OpenSpec.ofChange outlineBorderSpec)

/-- ITS FALSE NEIGHBOUR: 'it returns false'. Refute it at one input. -/
def outlineBorderWrong : ChangeSpec := { name := "outlineBorder", fn := fun _ => fun
  | [d] => { results := [.lit (.bool false)], args := [d] }
  | _ => none }
def OutlineBorderWrongFalsely : Prop := outlineBorderRow.holds Try.pinned (OpenSpec.ofChange outlineBorderWrong)

/-- 'landaidlaw05.OutlineOrder': WHATEVER THE INPUT: true; the input reads as it did. -/
def outlineOrderSpec : ChangeSpec := { name := "outlineOrder", fn := fun _ => fun
  | [d] => { results := [.lit (.bool true)], args := [d] }
  | _ => none }
def outlineOrderRow : OpenClaim := { program := "ytdpnkbbphfcngaa", sum := "e0c460b6101cabddc87cab47573cb8b34cd24dfea532d4172f6b92b4e3c77319", func := "landaid/landaidlaw05.OutlineOrder", spec := "outlineOrder", unfollowed := true, recurses := true, plainKeys := false, apart := false }
def OutlineOrderSaid : Prop := outlineOrderRow.holds Try.pinned (OpenSpec.ofChange outlineOrderSpec)

/-- ITS FALSE NEIGHBOUR: 'it returns false'. Refute it at one input. -/
def outlineOrderWrong : ChangeSpec := { name := "outlineOrder", fn := fun _ => fun
  | [d] => { results := [.lit (.bool false)], args := [d] }
  | _ => none }
def OutlineOrderWrongFalsely : Prop := outlineOrderRow.holds Try.pinned (OpenSpec.ofChange outlineOrderWrong)

/-- 'landaidlaw05.OutlineTurns': WHATEVER THE INPUT: true; the input reads as it did. -/
def outlineTurnsSpec : ChangeSpec := { name := "outlineTurns", fn := fun _ => fun
  | [d] => { results := [.lit (.bool true)], args := [d] }
  | _ => none }
def outlineTurnsRow : OpenClaim := { program := "ytdpnkbbphfcngaa", sum := "e0c460b6101cabddc87cab47573cb8b34cd24dfea532d4172f6b92b4e3c77319", func := "landaid/landaidlaw05.OutlineTurns", spec := "outlineTurns", inPlace := ["slices.overlaps[int]"], unfollowed := true, recurses := true, plainKeys := false, apart := false }
def OutlineTurnsSaid : Prop := outlineTurnsRow.holds Try.pinned (OpenSpec.ofChange outlineTurnsSpec)

/-- ITS FALSE NEIGHBOUR: 'it returns false'. Refute it at one input. -/
def outlineTurnsWrong : ChangeSpec := { name := "outlineTurns", fn := fun _ => fun
  | [d] => { results := [.lit (.bool false)], args := [d] }
  | _ => none }
def OutlineTurnsWrongFalsely : Prop := outlineTurnsRow.holds Try.pinned (OpenSpec.ofChange outlineTurnsWrong)

/-- 'landaidlaw06.ShapeParts': WHATEVER THE INPUT: true; the input reads as it did. -/
def shapePartsSpec : ChangeSpec := { name := "shapeParts", fn := fun _ => fun
  | [d] => { results := [.lit (.bool true)], args := [d] }
  | _ => none }
def shapePartsRow : OpenClaim := { program := "ytdpnkbbphfcngaa", sum := "e0c460b6101cabddc87cab47573cb8b34cd24dfea532d4172f6b92b4e3c77319", func := "landaid/landaidlaw06.ShapeParts", spec := "shapeParts", unfollowed := true, recurses := true, plainKeys := false, apart := false }
def ShapePartsSaid : Prop := shapePartsRow.holds Try.pinned (OpenSpec.ofChange shapePartsSpec)

/-- ITS FALSE NEIGHBOUR: 'it returns false'. Refute it at one input. -/
def shapePartsWrong : ChangeSpec := { name := "shapeParts", fn := fun _ => fun
  | [d] => { results := [.lit (.bool false)], args := [d] }
  | _ => none }
def ShapePartsWrongFalsely : Prop := shapePartsRow.holds Try.pinned (OpenSpec.ofChange shapePartsWrong)

/- THE SECOND FORM. 'bulk': how many values and letters a reading holds, each counted each time it is reached (what is shared counts as often as it is met; a slice's spare places count too). A statement '..UptoSaid' is the law's where the arguments, and the package variables that the reading takes, are together of bulk at most 1048576: NARROWER than '..Said'. Prove '..Said' where nothing that the law and all that it calls make is longer than what came in: it says more and counts as full. Else prove '..UptoSaid'. A law counts once. -/
mutual
def uptoBulk {H : Type} : DataW H → Nat
  | .lit (.string bytes) => bytes.length + 1
  | .lit _ => 1
  | .nil => 1
  | .ptr d => uptoBulk d + 1
  | .slice elems spare => uptoBulkAll elems + uptoBulkAll spare + 1
  | .agg parts => uptoBulkAll parts + 1
  | .iface _ d => uptoBulk d + 1
  | .map entries => uptoBulkEntries entries + 1
  | .held _ => 1
def uptoBulkAll {H : Type} : List (DataW H) → Nat
  | [] => 0
  | d :: r => uptoBulk d + uptoBulkAll r
def uptoBulkEntries {H : Type} : List (Lit × DataW H) → Nat
  | [] => 0
  | x :: r => uptoBulkEntry x + uptoBulkEntries r
def uptoBulkEntry {H : Type} : Lit × DataW H → Nat
  | (.string bytes, d) => bytes.length + uptoBulk d + 1
  | (_, d) => uptoBulk d + 1
 end
def uptoSmall : (H : Type) → List (DataW H) → Bool := fun _ ds => decide (uptoBulkAll ds ≤ 1048576)
def OpenSpec.upto (s : _root_.Go.ChangeSpec) : _root_.Go.OpenSpec := { _root_.Go.OpenSpec.ofChange s with cond := some uptoSmall }

/-- 'landaidlaw04.RegionAnswers', WHERE WHAT IT READS IS OF BULK AT MOST 1048576: true; the input reads as it did. -/
def regionAnswersUptoRow : OpenClaim := { program := "ytdpnkbbphfcngaa", sum := "e0c460b6101cabddc87cab47573cb8b34cd24dfea532d4172f6b92b4e3c77319", func := "landaid/landaidlaw04.RegionAnswers", spec := "regionAnswers", unfollowed := true, recurses := true, plainKeys := false, apart := false, narrowed := true }
def RegionAnswersUptoSaid : Prop := regionAnswersUptoRow.holds Try.pinned (OpenSpec.upto regionAnswersSpec)

/-- 'landaidlaw04.RegionSquares', WHERE WHAT IT READS IS OF BULK AT MOST 1048576: true; the input reads as it did. -/
def regionSquaresUptoRow : OpenClaim := { program := "ytdpnkbbphfcngaa", sum := "e0c460b6101cabddc87cab47573cb8b34cd24dfea532d4172f6b92b4e3c77319", func := "landaid/landaidlaw04.RegionSquares", spec := "regionSquares", unfollowed := true, recurses := true, plainKeys := false, apart := false, narrowed := true }
def RegionSquaresUptoSaid : Prop := regionSquaresUptoRow.holds Try.pinned (OpenSpec.upto regionSquaresSpec)

/-- 'landaidlaw04.RegionSets', WHERE WHAT IT READS IS OF BULK AT MOST 1048576: true; the input reads as it did. -/
def regionSetsUptoRow : OpenClaim := { program := "ytdpnkbbphfcngaa", sum := "e0c460b6101cabddc87cab47573cb8b34cd24dfea532d4172f6b92b4e3c77319", func := "landaid/landaidlaw04.RegionSets", spec := "regionSets", unfollowed := true, recurses := true, plainKeys := false, apart := false, narrowed := true }
def RegionSetsUptoSaid : Prop := regionSetsUptoRow.holds Try.pinned (OpenSpec.upto regionSetsSpec)

/-- 'landaidlaw04.RegionForm', WHERE WHAT IT READS IS OF BULK AT MOST 1048576: true; the input reads as it did. -/
def regionFormUptoRow : OpenClaim := { program := "ytdpnkbbphfcngaa", sum := "e0c460b6101cabddc87cab47573cb8b34cd24dfea532d4172f6b92b4e3c77319", func := "landaid/landaidlaw04.RegionForm", spec := "regionForm", unfollowed := true, recurses := true, plainKeys := false, apart := false, narrowed := true }
def RegionFormUptoSaid : Prop := regionFormUptoRow.holds Try.pinned (OpenSpec.upto regionFormSpec)

/-- 'landaidlaw04.RegionWithin', WHERE WHAT IT READS IS OF BULK AT MOST 1048576: true; the input reads as it did. -/
def regionWithinUptoRow : OpenClaim := { program := "ytdpnkbbphfcngaa", sum := "e0c460b6101cabddc87cab47573cb8b34cd24dfea532d4172f6b92b4e3c77319", func := "landaid/landaidlaw04.RegionWithin", spec := "regionWithin", unfollowed := true, recurses := true, plainKeys := false, apart := false, narrowed := true }
def RegionWithinUptoSaid : Prop := regionWithinUptoRow.holds Try.pinned (OpenSpec.upto regionWithinSpec)

/-- 'landaidlaw05.OutlineBorder', WHERE WHAT IT READS IS OF BULK AT MOST 1048576: true; the input reads as it did. -/
def outlineBorderUptoRow : OpenClaim := { program := "ytdpnkbbphfcngaa", sum := "e0c460b6101cabddc87cab47573cb8b34cd24dfea532d4172f6b92b4e3c77319", func := "landaid/landaidlaw05.OutlineBorder", spec := "outlineBorder", unfollowed := true, recurses := true, plainKeys := false, apart := false, narrowed := true }
def OutlineBorderUptoSaid : Prop := outlineBorderUptoRow.holds Try.pinned (OpenSpec.upto outlineBorderSpec)

/-- 'landaidlaw05.OutlineOrder', WHERE WHAT IT READS IS OF BULK AT MOST 1048576: true; the input reads as it did. -/
def outlineOrderUptoRow : OpenClaim := { program := "ytdpnkbbphfcngaa", sum := "e0c460b6101cabddc87cab47573cb8b34cd24dfea532d4172f6b92b4e3c77319", func := "landaid/landaidlaw05.OutlineOrder", spec := "outlineOrder", unfollowed := true, recurses := true, plainKeys := false, apart := false, narrowed := true }
def OutlineOrderUptoSaid : Prop := outlineOrderUptoRow.holds Try.pinned (OpenSpec.upto outlineOrderSpec)

/-- 'landaidlaw05.OutlineTurns', WHERE WHAT IT READS IS OF BULK AT MOST 1048576: true; the input reads as it did. -/
def outlineTurnsUptoRow : OpenClaim := { program := "ytdpnkbbphfcngaa", sum := "e0c460b6101cabddc87cab47573cb8b34cd24dfea532d4172f6b92b4e3c77319", func := "landaid/landaidlaw05.OutlineTurns", spec := "outlineTurns", inPlace := ["slices.overlaps[int]"], unfollowed := true, recurses := true, plainKeys := false, apart := false, narrowed := true }
def OutlineTurnsUptoSaid : Prop := outlineTurnsUptoRow.holds Try.pinned (OpenSpec.upto outlineTurnsSpec)

/-- 'landaidlaw06.ShapeParts', WHERE WHAT IT READS IS OF BULK AT MOST 1048576: true; the input reads as it did. -/
def shapePartsUptoRow : OpenClaim := { program := "ytdpnkbbphfcngaa", sum := "e0c460b6101cabddc87cab47573cb8b34cd24dfea532d4172f6b92b4e3c77319", func := "landaid/landaidlaw06.ShapeParts", spec := "shapeParts", unfollowed := true, recurses := true, plainKeys := false, apart := false, narrowed := true }
def ShapePartsUptoSaid : Prop := shapePartsUptoRow.holds Try.pinned (OpenSpec.upto shapePartsSpec)

end Rows
end Go.Proofs.Ytdpnkbbphfcngaa

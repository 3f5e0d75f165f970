/-
  No cell of these rows narrows 'for every input' (looked for: loops, veiled, ifaces, maps, wideKeys, modest, calm, conditions, laid).
  DERIVED. THE GIVEN ROWS OF THIS SEAT. 4 by the template 'for every input the law returns true; each argument reads behind the call as it read before'; 0 by the template 'total and deterministic' (their statements: YtcgeflblcpdnkaaTotals.lean).
  GIVEN WITH THE SEED: the statements are not yours to turn. If you find one false, say at which input.
  Laid BY PROGRAM, IN A SANDBOX (cutbox-rows.mjs): the forced cells as the released guide's own fill.sh prints them over the translation d206f4e4e6e1a67e… (all of the seat's roots in one cut). By AI agents, Wed Nov 11 2026. No macro, syntax, notation, axiom, sorry.
-/
import Derived.Test.YtcgeflblcpdnkaaChecked
import GoSem.Claim
import GoSem.ClaimJoined
import GoSem.ClaimMapViews
import Derived.JoinedTies
import Derived.KernelRfl
namespace Go.Proofs.Ytcgeflblcpdnkaa
/- THE CELL 'sum', in the pinned program and in every row, IS THE sha256 OF THE DUMP (.gsa) THAT YtcgeflblcpdnkaaProg.lean LOADS. Nothing in Lean hashes anything: it is a label: what it is worth is what the hold of that sum in a sandbox is worth. -/
noncomputable def Try.pinned : Pinned := { name := "ytcgeflblcpdnkaa", sum := "d206f4e4e6e1a67e2edaab60b7cb7132f8846e4884d038ad127ef99b686bf753", checked := Try.checked }
namespace Rows
def none {H : Type} : Left H := { results := [], args := [] }

/-- 'landaidlaw03.CalendarAnswers': WHATEVER THE INPUT: true; the input reads as it did. -/
def calendarAnswersSpec : ChangeSpec := { name := "calendarAnswers", fn := fun _ => fun
  | [d1, d2, d3, d4, d5] => { results := [.lit (.bool true)], args := [d1, d2, d3, d4, d5] }
  | _ => none }
def calendarAnswersRow : OpenClaim := { program := "ytcgeflblcpdnkaa", sum := "d206f4e4e6e1a67e2edaab60b7cb7132f8846e4884d038ad127ef99b686bf753", func := "landaid/landaidlaw03.CalendarAnswers", spec := "calendarAnswers", recurses := true, apart := false }
def CalendarAnswersSaid : Prop := calendarAnswersRow.holds Try.pinned (OpenSpec.ofChange calendarAnswersSpec)

/-- ITS FALSE NEIGHBOUR: 'it returns false'. Refute it at one input. -/
def calendarAnswersWrong : ChangeSpec := { name := "calendarAnswers", fn := fun _ => fun
  | [d1, d2, d3, d4, d5] => { results := [.lit (.bool false)], args := [d1, d2, d3, d4, d5] }
  | _ => none }
def CalendarAnswersWrongFalsely : Prop := calendarAnswersRow.holds Try.pinned (OpenSpec.ofChange calendarAnswersWrong)

/-- 'landaidlaw03.CalendarBack': WHATEVER THE INPUT: true; the input reads as it did. -/
def calendarBackSpec : ChangeSpec := { name := "calendarBack", fn := fun _ => fun
  | [d] => { results := [.lit (.bool true)], args := [d] }
  | _ => none }
def calendarBackRow : OpenClaim := { program := "ytcgeflblcpdnkaa", sum := "d206f4e4e6e1a67e2edaab60b7cb7132f8846e4884d038ad127ef99b686bf753", func := "landaid/landaidlaw03.CalendarBack", spec := "calendarBack", recurses := true, apart := false }
def CalendarBackSaid : Prop := calendarBackRow.holds Try.pinned (OpenSpec.ofChange calendarBackSpec)

/-- ITS FALSE NEIGHBOUR: 'it returns false'. Refute it at one input. -/
def calendarBackWrong : ChangeSpec := { name := "calendarBack", fn := fun _ => fun
  | [d] => { results := [.lit (.bool false)], args := [d] }
  | _ => none }
def CalendarBackWrongFalsely : Prop := calendarBackRow.holds Try.pinned (OpenSpec.ofChange calendarBackWrong)

/-- 'landaidlaw03.CalendarWindows': WHATEVER THE INPUT: true; the input reads as it did. -/
def calendarWindowsSpec : ChangeSpec := { name := "calendarWindows", fn := fun _ => fun
  | [d1, d2, d3] => { results := [.lit (.bool true)], args := [d1, d2, d3] }
  | _ => none }
def calendarWindowsRow : OpenClaim := { program := "ytcgeflblcpdnkaa", sum := "d206f4e4e6e1a67e2edaab60b7cb7132f8846e4884d038ad127ef99b686bf753", func := "landaid/landaidlaw03.CalendarWindows", spec := "calendarWindows", recurses := true, apart := false }
def CalendarWindowsSaid : Prop := calendarWindowsRow.holds Try.pinned (OpenSpec.ofChange calendarWindowsSpec)

/-- ITS FALSE NEIGHBOUR: 'it returns false'. Refute it at one input. -/
def calendarWindowsWrong : ChangeSpec := { name := "calendarWindows", fn := fun _ => fun
  | [d1, d2, d3] => { results := [.lit (.bool false)], args := [d1, d2, d3] }
  | _ => none }
def CalendarWindowsWrongFalsely : Prop := calendarWindowsRow.holds Try.pinned (OpenSpec.ofChange calendarWindowsWrong)

/-- 'landaidlaw03.CalendarWorking': WHATEVER THE INPUT: true; the input reads as it did. -/
def calendarWorkingSpec : ChangeSpec := { name := "calendarWorking", fn := fun _ => fun
  | [d1, d2, d3, d4] => { results := [.lit (.bool true)], args := [d1, d2, d3, d4] }
  | _ => none }
def calendarWorkingRow : OpenClaim := { program := "ytcgeflblcpdnkaa", sum := "d206f4e4e6e1a67e2edaab60b7cb7132f8846e4884d038ad127ef99b686bf753", func := "landaid/landaidlaw03.CalendarWorking", spec := "calendarWorking", recurses := true, apart := false }
def CalendarWorkingSaid : Prop := calendarWorkingRow.holds Try.pinned (OpenSpec.ofChange calendarWorkingSpec)

/-- ITS FALSE NEIGHBOUR: 'it returns false'. Refute it at one input. -/
def calendarWorkingWrong : ChangeSpec := { name := "calendarWorking", fn := fun _ => fun
  | [d1, d2, d3, d4] => { results := [.lit (.bool false)], args := [d1, d2, d3, d4] }
  | _ => none }
def CalendarWorkingWrongFalsely : Prop := calendarWorkingRow.holds Try.pinned (OpenSpec.ofChange calendarWorkingWrong)

/- THE SECOND FORM. 'bulk': how many values and letters a reading holds, each counted each time it is reached (what is shared counts as often as it is met; a slice's spare places count too). A statement '..UptoSaid' is the law's where the arguments, and the package variables that the reading takes, are together of bulk at most 1048576: NARROWER than '..Said'. Prove '..Said' where nothing that the law and all that it calls make is longer than what came in: it says more and counts as full. Else prove '..UptoSaid'. A law counts once. -/
mutual
def uptoBulk {H : Type} : DataW H → Nat
  | .lit (.string bytes) => bytes.length + 1
  | .lit _ => 1
  | .nil => 1
  | .ptr d => uptoBulk d + 1
  | .slice elems spare => uptoBulkAll elems + uptoBulkAll spare + 1
  | .agg parts => uptoBulkAll parts + 1
  | .iface _ d => uptoBulk d + 1
  | .map entries => uptoBulkEntries entries + 1
  | .held _ => 1
def uptoBulkAll {H : Type} : List (DataW H) → Nat
  | [] => 0
  | d :: r => uptoBulk d + uptoBulkAll r
def uptoBulkEntries {H : Type} : List (Lit × DataW H) → Nat
  | [] => 0
  | x :: r => uptoBulkEntry x + uptoBulkEntries r
def uptoBulkEntry {H : Type} : Lit × DataW H → Nat
  | (.string bytes, d) => bytes.length + uptoBulk d + 1
  | (_, d) => uptoBulk d + 1
 end
def uptoSmall : (H : Type) → List (DataW H) → Bool := fun _ ds => decide (uptoBulkAll ds ≤ 1048576)
def OpenSpec.upto (s : _root_.Go.ChangeSpec) : _root_.Go.OpenSpec := { _root_.Go.OpenSpec.ofChange s with cond := some uptoSmall }

/-- 'landaidlaw03.CalendarAnswers', WHERE WHAT IT READS IS OF BULK AT MOST 1048576: true; the input reads as it did. -/
def calendarAnswersUptoRow : OpenClaim := { program := "ytcgeflblcpdnkaa", sum := "d206f4e4e6e1a67e2edaab60b7cb7132f8846e4884d038ad127ef99b686bf753", func := "landaid/landaidlaw03.CalendarAnswers", spec := "calendarAnswers", recurses := true, apart := false, narrowed := true }
def CalendarAnswersUptoSaid : Prop := calendarAnswersUptoRow.holds Try.pinned (OpenSpec.upto calendarAnswersSpec)

/-- 'landaidlaw03.CalendarBack', WHERE WHAT IT READS IS OF BULK AT MOST 1048576: true; the input reads as it did. -/
def calendarBackUptoRow : OpenClaim := { program := "ytcgeflblcpdnkaa", sum := "d206f4e4e6e1a67e2edaab60b7cb7132f8846e4884d038ad127ef99b686bf753", func := "landaid/landaidlaw03.CalendarBack", spec := "calendarBack", recurses := true, apart := false, narrowed := true }
def CalendarBackUptoSaid : Prop := calendarBackUptoRow.holds Try.pinned (OpenSpec.upto calendarBackSpec)

/-- 'landaidlaw03.CalendarWindows', WHERE WHAT IT READS IS OF BULK AT MOST 1048576: true; the input reads as it did. -/
def calendarWindowsUptoRow : OpenClaim := { program := "ytcgeflblcpdnkaa", sum := "d206f4e4e6e1a67e2edaab60b7cb7132f8846e4884d038ad127ef99b686bf753", func := "landaid/landaidlaw03.CalendarWindows", spec := "calendarWindows", recurses := true, apart := false, narrowed := true }
def CalendarWindowsUptoSaid : Prop := calendarWindowsUptoRow.holds Try.pinned (OpenSpec.upto calendarWindowsSpec)

/-- 'landaidlaw03.CalendarWorking', WHERE WHAT IT READS IS OF BULK AT MOST 1048576: true; the input reads as it did. -/
def calendarWorkingUptoRow : OpenClaim := { program := "ytcgeflblcpdnkaa", sum := "d206f4e4e6e1a67e2edaab60b7cb7132f8846e4884d038ad127ef99b686bf753", func := "landaid/landaidlaw03.CalendarWorking", spec := "calendarWorking", recurses := true, apart := false, narrowed := true }
def CalendarWorkingUptoSaid : Prop := calendarWorkingUptoRow.holds Try.pinned (OpenSpec.upto calendarWorkingSpec)

end Rows
end Go.Proofs.Ytcgeflblcpdnkaa

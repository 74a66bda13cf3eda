/-
  No cell of these rows narrows 'for every input' (looked for: loops, veiled, ifaces, maps, wideKeys, modest, calm, conditions, laid).
  DERIVED. THE GIVEN ROWS OF THIS SEAT. 4 by the template 'for every input the law returns true; each argument reads behind the call as it read before'; 0 by the template 'total and deterministic' (their statements: YthklpecigkdkiaaTotals.lean).
  GIVEN WITH THE SEED: the statements are not yours to turn. If you find one false, say at which input.
  Laid BY PROGRAM, IN A SANDBOX (cutbox-rows.mjs): the forced cells as the released guide's own fill.sh prints them over the translation 2fe38e08f058deb8… (all of the seat's roots in one cut). By AI agents, Wed Nov 11 2026. No macro, syntax, notation, axiom, sorry.
-/
import Derived.Test.YthklpecigkdkiaaChecked
import GoSem.Claim
import GoSem.ClaimJoined
import GoSem.ClaimMapViews
import Derived.JoinedTies
import Derived.KernelRfl
namespace Go.Proofs.Ythklpecigkdkiaa
/- THE CELL 'sum', in the pinned program and in every row, IS THE sha256 OF THE DUMP (.gsa) THAT YthklpecigkdkiaaProg.lean LOADS. Nothing in Lean hashes anything: it is a label: what it is worth is what the hold of that sum in a sandbox is worth. -/
noncomputable def Try.pinned : Pinned := { name := "ythklpecigkdkiaa", sum := "2fe38e08f058deb882acf969ef13dfe04752ff3112009ef9e1568a0f95208eef", checked := Try.checked }
namespace Rows
def none {H : Type} : Left H := { results := [], args := [] }

/-- 'undergrowthlaw4.PositMeans': WHATEVER THE INPUT: true; the input reads as it did. -/
def positMeansSpec : ChangeSpec := { name := "positMeans", fn := fun _ => fun
  | [d1, d2] => { results := [.lit (.bool true)], args := [d1, d2] }
  | _ => none }
def positMeansRow : OpenClaim := { program := "ythklpecigkdkiaa", sum := "2fe38e08f058deb882acf969ef13dfe04752ff3112009ef9e1568a0f95208eef", func := "undergrowth/undergrowthlaw4.PositMeans", spec := "positMeans", unfollowed := true, recurses := true, apart := false }
def PositMeansSaid : Prop := positMeansRow.holds Try.pinned (OpenSpec.ofChange positMeansSpec)

/-- ITS FALSE NEIGHBOUR: 'it returns false'. Refute it at one input. -/
def positMeansWrong : ChangeSpec := { name := "positMeans", fn := fun _ => fun
  | [d1, d2] => { results := [.lit (.bool false)], args := [d1, d2] }
  | _ => none }
def PositMeansWrongFalsely : Prop := positMeansRow.holds Try.pinned (OpenSpec.ofChange positMeansWrong)

/-- 'undergrowthlaw4.PositRows': WHATEVER THE INPUT: true; the input reads as it did. -/
def positRowsSpec : ChangeSpec := { name := "positRows", fn := fun _ => fun
  | [d] => { results := [.lit (.bool true)], args := [d] }
  | _ => none }
def positRowsRow : OpenClaim := { program := "ythklpecigkdkiaa", sum := "2fe38e08f058deb882acf969ef13dfe04752ff3112009ef9e1568a0f95208eef", func := "undergrowth/undergrowthlaw4.PositRows", spec := "positRows", unfollowed := true, recurses := true, apart := false }
def PositRowsSaid : Prop := positRowsRow.holds Try.pinned (OpenSpec.ofChange positRowsSpec)

/-- ITS FALSE NEIGHBOUR: 'it returns false'. Refute it at one input. -/
def positRowsWrong : ChangeSpec := { name := "positRows", fn := fun _ => fun
  | [d] => { results := [.lit (.bool false)], args := [d] }
  | _ => none }
def PositRowsWrongFalsely : Prop := positRowsRow.holds Try.pinned (OpenSpec.ofChange positRowsWrong)

/-- 'undergrowthlaw4.PositLimits': WHATEVER THE INPUT: true; the input reads as it did. -/
def positLimitsSpec : ChangeSpec := { name := "positLimits", fn := fun _ => fun
  | [d1, d2] => { results := [.lit (.bool true)], args := [d1, d2] }
  | _ => none }
def positLimitsRow : OpenClaim := { program := "ythklpecigkdkiaa", sum := "2fe38e08f058deb882acf969ef13dfe04752ff3112009ef9e1568a0f95208eef", func := "undergrowth/undergrowthlaw4.PositLimits", spec := "positLimits", unfollowed := true, recurses := true, apart := false }
def PositLimitsSaid : Prop := positLimitsRow.holds Try.pinned (OpenSpec.ofChange positLimitsSpec)

/-- ITS FALSE NEIGHBOUR: 'it returns false'. Refute it at one input. -/
def positLimitsWrong : ChangeSpec := { name := "positLimits", fn := fun _ => fun
  | [d1, d2] => { results := [.lit (.bool false)], args := [d1, d2] }
  | _ => none }
def PositLimitsWrongFalsely : Prop := positLimitsRow.holds Try.pinned (OpenSpec.ofChange positLimitsWrong)

/-- 'undergrowthlaw6.ScanLongest': WHATEVER THE INPUT: true; the input reads as it did. -/
def scanLongestSpec : ChangeSpec := { name := "scanLongest", fn := fun _ => fun
  | [d1, d2, d3, d4] => { results := [.lit (.bool true)], args := [d1, d2, d3, d4] }
  | _ => none }
def scanLongestRow : OpenClaim := { program := "ythklpecigkdkiaa", sum := "2fe38e08f058deb882acf969ef13dfe04752ff3112009ef9e1568a0f95208eef", func := "undergrowth/undergrowthlaw6.ScanLongest", spec := "scanLongest", recurses := true, apart := false }
def ScanLongestSaid : Prop := scanLongestRow.holds Try.pinned (OpenSpec.ofChange scanLongestSpec)

/-- ITS FALSE NEIGHBOUR: 'it returns false'. Refute it at one input. -/
def scanLongestWrong : ChangeSpec := { name := "scanLongest", fn := fun _ => fun
  | [d1, d2, d3, d4] => { results := [.lit (.bool false)], args := [d1, d2, d3, d4] }
  | _ => none }
def ScanLongestWrongFalsely : Prop := scanLongestRow.holds Try.pinned (OpenSpec.ofChange scanLongestWrong)

/- THE SECOND FORM. 'bulk': how many values and letters a reading holds, each counted each time it is reached (what is shared counts as often as it is met; a slice's spare places count too). A statement '..UptoSaid' is the law's where the arguments, and the package variables that the reading takes, are together of bulk at most 1048576: NARROWER than '..Said'. Prove '..Said' where nothing that the law and all that it calls make is longer than what came in: it says more and counts as full. Else prove '..UptoSaid'. A law counts once. -/
mutual
def uptoBulk {H : Type} : DataW H → Nat
  | .lit (.string bytes) => bytes.length + 1
  | .lit _ => 1
  | .nil => 1
  | .ptr d => uptoBulk d + 1
  | .slice elems spare => uptoBulkAll elems + uptoBulkAll spare + 1
  | .agg parts => uptoBulkAll parts + 1
  | .iface _ d => uptoBulk d + 1
  | .map entries => uptoBulkEntries entries + 1
  | .held _ => 1
def uptoBulkAll {H : Type} : List (DataW H) → Nat
  | [] => 0
  | d :: r => uptoBulk d + uptoBulkAll r
def uptoBulkEntries {H : Type} : List (Lit × DataW H) → Nat
  | [] => 0
  | x :: r => uptoBulkEntry x + uptoBulkEntries r
def uptoBulkEntry {H : Type} : Lit × DataW H → Nat
  | (.string bytes, d) => bytes.length + uptoBulk d + 1
  | (_, d) => uptoBulk d + 1
 end
def uptoSmall : (H : Type) → List (DataW H) → Bool := fun _ ds => decide (uptoBulkAll ds ≤ 1048576)
def OpenSpec.upto (s : _root_.Go.ChangeSpec) : _root_.Go.OpenSpec := { _root_.Go.OpenSpec.ofChange s with cond := some uptoSmall }

/-- 'undergrowthlaw4.PositMeans', WHERE WHAT IT READS IS OF BULK AT MOST 1048576: true; the input reads as it did. -/
def positMeansUptoRow : OpenClaim := { program := "ythklpecigkdkiaa", sum := "2fe38e08f058deb882acf969ef13dfe04752ff3112009ef9e1568a0f95208eef", func := "undergrowth/undergrowthlaw4.PositMeans", spec := "positMeans", unfollowed := true, recurses := true, apart := false, narrowed := true }
def PositMeansUptoSaid : Prop := positMeansUptoRow.holds Try.pinned (OpenSpec.upto positMeansSpec)

/-- 'undergrowthlaw4.PositRows', WHERE WHAT IT READS IS OF BULK AT MOST 1048576: true; the input reads as it did. -/
def positRowsUptoRow : OpenClaim := { program := "ythklpecigkdkiaa", sum := "2fe38e08f058deb882acf969ef13dfe04752ff3112009ef9e1568a0f95208eef", func := "undergrowth/undergrowthlaw4.PositRows", spec := "positRows", unfollowed := true, recurses := true, apart := false, narrowed := true }
def PositRowsUptoSaid : Prop := positRowsUptoRow.holds Try.pinned (OpenSpec.upto positRowsSpec)

/-- 'undergrowthlaw4.PositLimits', WHERE WHAT IT READS IS OF BULK AT MOST 1048576: true; the input reads as it did. -/
def positLimitsUptoRow : OpenClaim := { program := "ythklpecigkdkiaa", sum := "2fe38e08f058deb882acf969ef13dfe04752ff3112009ef9e1568a0f95208eef", func := "undergrowth/undergrowthlaw4.PositLimits", spec := "positLimits", unfollowed := true, recurses := true, apart := false, narrowed := true }
def PositLimitsUptoSaid : Prop := positLimitsUptoRow.holds Try.pinned (OpenSpec.upto positLimitsSpec)

/-- 'undergrowthlaw6.ScanLongest', WHERE WHAT IT READS IS OF BULK AT MOST 1048576: true; the input reads as it did. -/
def scanLongestUptoRow : OpenClaim := { program := "ythklpecigkdkiaa", sum := "2fe38e08f058deb882acf969ef13dfe04752ff3112009ef9e1568a0f95208eef", func := "undergrowth/undergrowthlaw6.ScanLongest", spec := "scanLongest", recurses := true, apart := false, narrowed := true }
def ScanLongestUptoSaid : Prop := scanLongestUptoRow.holds Try.pinned (OpenSpec.upto scanLongestSpec)

end Rows
end Go.Proofs.Ythklpecigkdkiaa

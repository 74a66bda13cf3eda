/-
  No cell of these rows narrows 'for every input' (looked for: loops, veiled, ifaces, maps, wideKeys, modest, calm, conditions, laid).
  DERIVED. THE GIVEN ROWS OF THIS SEAT. 4 by the template 'for every input the law returns true; each argument reads behind the call as it read before'; 0 by the template 'total and deterministic' (their statements: YtbpgbelfgigogaaTotals.lean).
  GIVEN WITH THE SEED: the statements are not yours to turn. If you find one false, say at which input.
  Laid BY PROGRAM, IN A SANDBOX (cutbox-rows.mjs): the forced cells as the released guide's own fill.sh prints them over the translation 157c2c5447fc484a… (all of the seat's roots in one cut). By AI agents, Wed Nov 11 2026. No macro, syntax, notation, axiom, sorry.
-/
import Derived.Test.YtbpgbelfgigogaaChecked
import GoSem.Claim
import GoSem.ClaimJoined
import GoSem.ClaimMapViews
import Derived.JoinedTies
import Derived.KernelRfl
namespace Go.Proofs.Ytbpgbelfgigogaa
/- THE CELL 'sum', in the pinned program and in every row, IS THE sha256 OF THE DUMP (.gsa) THAT YtbpgbelfgigogaaProg.lean LOADS. Nothing in Lean hashes anything: it is a label: what it is worth is what the hold of that sum in a sandbox is worth. -/
noncomputable def Try.pinned : Pinned := { name := "ytbpgbelfgigogaa", sum := "157c2c5447fc484a8cdb4a99e0c6aaadcc8a994a94a7c500f33c33ba87d093db", checked := Try.checked }
namespace Rows
def none {H : Type} : Left H := { results := [], args := [] }

/-- 'undergrowthlaw1.SpliceTells': WHATEVER THE INPUT: true; the input reads as it did. -/
def spliceTellsSpec : ChangeSpec := { name := "spliceTells", fn := fun _ => fun
  | [d1, d2, d3, d4] => { results := [.lit (.bool true)], args := [d1, d2, d3, d4] }
  | _ => none }
def spliceTellsRow : OpenClaim := { program := "ytbpgbelfgigogaa", sum := "157c2c5447fc484a8cdb4a99e0c6aaadcc8a994a94a7c500f33c33ba87d093db", func := "undergrowth/undergrowthlaw1.SpliceTells", spec := "spliceTells", apart := false }
def SpliceTellsSaid : Prop := spliceTellsRow.holds Try.pinned (OpenSpec.ofChange spliceTellsSpec)

/-- ITS FALSE NEIGHBOUR: 'it returns false'. Refute it at one input. -/
def spliceTellsWrong : ChangeSpec := { name := "spliceTells", fn := fun _ => fun
  | [d1, d2, d3, d4] => { results := [.lit (.bool false)], args := [d1, d2, d3, d4] }
  | _ => none }
def SpliceTellsWrongFalsely : Prop := spliceTellsRow.holds Try.pinned (OpenSpec.ofChange spliceTellsWrong)

/-- 'undergrowthlaw1.SpliceBack': WHATEVER THE INPUT: true; the input reads as it did. -/
def spliceBackSpec : ChangeSpec := { name := "spliceBack", fn := fun _ => fun
  | [d1, d2] => { results := [.lit (.bool true)], args := [d1, d2] }
  | _ => none }
def spliceBackRow : OpenClaim := { program := "ytbpgbelfgigogaa", sum := "157c2c5447fc484a8cdb4a99e0c6aaadcc8a994a94a7c500f33c33ba87d093db", func := "undergrowth/undergrowthlaw1.SpliceBack", spec := "spliceBack", apart := false }
def SpliceBackSaid : Prop := spliceBackRow.holds Try.pinned (OpenSpec.ofChange spliceBackSpec)

/-- ITS FALSE NEIGHBOUR: 'it returns false'. Refute it at one input. -/
def spliceBackWrong : ChangeSpec := { name := "spliceBack", fn := fun _ => fun
  | [d1, d2] => { results := [.lit (.bool false)], args := [d1, d2] }
  | _ => none }
def SpliceBackWrongFalsely : Prop := spliceBackRow.holds Try.pinned (OpenSpec.ofChange spliceBackWrong)

/-- 'undergrowthlaw1.SpliceMaps': WHATEVER THE INPUT: true; the input reads as it did. -/
def spliceMapsSpec : ChangeSpec := { name := "spliceMaps", fn := fun _ => fun
  | [d1, d2, d3] => { results := [.lit (.bool true)], args := [d1, d2, d3] }
  | _ => none }
def spliceMapsRow : OpenClaim := { program := "ytbpgbelfgigogaa", sum := "157c2c5447fc484a8cdb4a99e0c6aaadcc8a994a94a7c500f33c33ba87d093db", func := "undergrowth/undergrowthlaw1.SpliceMaps", spec := "spliceMaps", apart := false }
def SpliceMapsSaid : Prop := spliceMapsRow.holds Try.pinned (OpenSpec.ofChange spliceMapsSpec)

/-- ITS FALSE NEIGHBOUR: 'it returns false'. Refute it at one input. -/
def spliceMapsWrong : ChangeSpec := { name := "spliceMaps", fn := fun _ => fun
  | [d1, d2, d3] => { results := [.lit (.bool false)], args := [d1, d2, d3] }
  | _ => none }
def SpliceMapsWrongFalsely : Prop := spliceMapsRow.holds Try.pinned (OpenSpec.ofChange spliceMapsWrong)

/-- 'undergrowthlaw1.SpliceCuts': WHATEVER THE INPUT: true; the input reads as it did. -/
def spliceCutsSpec : ChangeSpec := { name := "spliceCuts", fn := fun _ => fun
  | [d1, d2] => { results := [.lit (.bool true)], args := [d1, d2] }
  | _ => none }
def spliceCutsRow : OpenClaim := { program := "ytbpgbelfgigogaa", sum := "157c2c5447fc484a8cdb4a99e0c6aaadcc8a994a94a7c500f33c33ba87d093db", func := "undergrowth/undergrowthlaw1.SpliceCuts", spec := "spliceCuts", apart := false }
def SpliceCutsSaid : Prop := spliceCutsRow.holds Try.pinned (OpenSpec.ofChange spliceCutsSpec)

/-- ITS FALSE NEIGHBOUR: 'it returns false'. Refute it at one input. -/
def spliceCutsWrong : ChangeSpec := { name := "spliceCuts", fn := fun _ => fun
  | [d1, d2] => { results := [.lit (.bool false)], args := [d1, d2] }
  | _ => none }
def SpliceCutsWrongFalsely : Prop := spliceCutsRow.holds Try.pinned (OpenSpec.ofChange spliceCutsWrong)

/- THE SECOND FORM. 'bulk': how many values and letters a reading holds, each counted each time it is reached (what is shared counts as often as it is met; a slice's spare places count too). A statement '..UptoSaid' is the law's where the arguments, and the package variables that the reading takes, are together of bulk at most 1048576: NARROWER than '..Said'. Prove '..Said' where nothing that the law and all that it calls make is longer than what came in: it says more and counts as full. Else prove '..UptoSaid'. A law counts once. -/
mutual
def uptoBulk {H : Type} : DataW H → Nat
  | .lit (.string bytes) => bytes.length + 1
  | .lit _ => 1
  | .nil => 1
  | .ptr d => uptoBulk d + 1
  | .slice elems spare => uptoBulkAll elems + uptoBulkAll spare + 1
  | .agg parts => uptoBulkAll parts + 1
  | .iface _ d => uptoBulk d + 1
  | .map entries => uptoBulkEntries entries + 1
  | .held _ => 1
def uptoBulkAll {H : Type} : List (DataW H) → Nat
  | [] => 0
  | d :: r => uptoBulk d + uptoBulkAll r
def uptoBulkEntries {H : Type} : List (Lit × DataW H) → Nat
  | [] => 0
  | x :: r => uptoBulkEntry x + uptoBulkEntries r
def uptoBulkEntry {H : Type} : Lit × DataW H → Nat
  | (.string bytes, d) => bytes.length + uptoBulk d + 1
  | (_, d) => uptoBulk d + 1
 end
def uptoSmall : (H : Type) → List (DataW H) → Bool := fun _ ds => decide (uptoBulkAll ds ≤ 1048576)
def OpenSpec.upto (s : _root_.Go.ChangeSpec) : _root_.Go.OpenSpec := { _root_.Go.OpenSpec.ofChange s with cond := some uptoSmall }

/-- 'undergrowthlaw1.SpliceTells', WHERE WHAT IT READS IS OF BULK AT MOST 1048576: true; the input reads as it did. -/
def spliceTellsUptoRow : OpenClaim := { program := "ytbpgbelfgigogaa", sum := "157c2c5447fc484a8cdb4a99e0c6aaadcc8a994a94a7c500f33c33ba87d093db", func := "undergrowth/undergrowthlaw1.SpliceTells", spec := "spliceTells", apart := false, narrowed := true }
def SpliceTellsUptoSaid : Prop := spliceTellsUptoRow.holds Try.pinned (OpenSpec.upto spliceTellsSpec)

/-- 'undergrowthlaw1.SpliceBack', WHERE WHAT IT READS IS OF BULK AT MOST 1048576: true; the input reads as it did. -/
def spliceBackUptoRow : OpenClaim := { program := "ytbpgbelfgigogaa", sum := "157c2c5447fc484a8cdb4a99e0c6aaadcc8a994a94a7c500f33c33ba87d093db", func := "undergrowth/undergrowthlaw1.SpliceBack", spec := "spliceBack", apart := false, narrowed := true }
def SpliceBackUptoSaid : Prop := spliceBackUptoRow.holds Try.pinned (OpenSpec.upto spliceBackSpec)

/-- 'undergrowthlaw1.SpliceMaps', WHERE WHAT IT READS IS OF BULK AT MOST 1048576: true; the input reads as it did. -/
def spliceMapsUptoRow : OpenClaim := { program := "ytbpgbelfgigogaa", sum := "157c2c5447fc484a8cdb4a99e0c6aaadcc8a994a94a7c500f33c33ba87d093db", func := "undergrowth/undergrowthlaw1.SpliceMaps", spec := "spliceMaps", apart := false, narrowed := true }
def SpliceMapsUptoSaid : Prop := spliceMapsUptoRow.holds Try.pinned (OpenSpec.upto spliceMapsSpec)

/-- 'undergrowthlaw1.SpliceCuts', WHERE WHAT IT READS IS OF BULK AT MOST 1048576: true; the input reads as it did. -/
def spliceCutsUptoRow : OpenClaim := { program := "ytbpgbelfgigogaa", sum := "157c2c5447fc484a8cdb4a99e0c6aaadcc8a994a94a7c500f33c33ba87d093db", func := "undergrowth/undergrowthlaw1.SpliceCuts", spec := "spliceCuts", apart := false, narrowed := true }
def SpliceCutsUptoSaid : Prop := spliceCutsUptoRow.holds Try.pinned (OpenSpec.upto spliceCutsSpec)

end Rows
end Go.Proofs.Ytbpgbelfgigogaa

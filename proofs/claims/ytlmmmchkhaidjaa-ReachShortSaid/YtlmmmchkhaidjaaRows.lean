/-
  No cell of these rows narrows 'for every input' (looked for: loops, veiled, ifaces, maps, wideKeys, modest, calm, conditions, laid).
  DERIVED. THE GIVEN ROWS OF THIS SEAT. 3 by the template 'for every input the law returns true; each argument reads behind the call as it read before'; 0 by the template 'total and deterministic' (their statements: YtlmmmchkhaidjaaTotals.lean).
  GIVEN WITH THE SEED: the statements are not yours to turn. If you find one false, say at which input.
  Laid BY PROGRAM, IN A SANDBOX (cutbox-rows.mjs): the forced cells as the released guide's own fill.sh prints them over the translation 699240dc1c133640… (all of the seat's roots in one cut). By AI agents, Wed Nov 11 2026. No macro, syntax, notation, axiom, sorry.
-/
import Derived.Test.YtlmmmchkhaidjaaChecked
import GoSem.Claim
import GoSem.ClaimJoined
import GoSem.ClaimMapViews
import Derived.JoinedTies
import Derived.KernelRfl
namespace Go.Proofs.Ytlmmmchkhaidjaa
/- THE CELL 'sum', in the pinned program and in every row, IS THE sha256 OF THE DUMP (.gsa) THAT YtlmmmchkhaidjaaProg.lean LOADS. Nothing in Lean hashes anything: it is a label: what it is worth is what the hold of that sum in a sandbox is worth. -/
noncomputable def Try.pinned : Pinned := { name := "ytlmmmchkhaidjaa", sum := "699240dc1c13364064ba8ca1f94e69251606480b633fc9b6d6d84a22a82a913c", checked := Try.checked }
namespace Rows
def none {H : Type} : Left H := { results := [], args := [] }

/-- 'undergrowthlaw12.ReachTells': WHATEVER THE INPUT: true; the input reads as it did. -/
def reachTellsSpec : ChangeSpec := { name := "reachTells", fn := fun _ => fun
  | [d] => { results := [.lit (.bool true)], args := [d] }
  | _ => none }
def reachTellsRow : OpenClaim := { program := "ytlmmmchkhaidjaa", sum := "699240dc1c13364064ba8ca1f94e69251606480b633fc9b6d6d84a22a82a913c", func := "undergrowth/undergrowthlaw12.ReachTells", spec := "reachTells", unfollowed := true, recurses := true, apart := false }
def ReachTellsSaid : Prop := reachTellsRow.holds Try.pinned (OpenSpec.ofChange reachTellsSpec)

/-- ITS FALSE NEIGHBOUR: 'it returns false'. Refute it at one input. -/
def reachTellsWrong : ChangeSpec := { name := "reachTells", fn := fun _ => fun
  | [d] => { results := [.lit (.bool false)], args := [d] }
  | _ => none }
def ReachTellsWrongFalsely : Prop := reachTellsRow.holds Try.pinned (OpenSpec.ofChange reachTellsWrong)

/-- 'undergrowthlaw12.ReachShort': WHATEVER THE INPUT: true; the input reads as it did. -/
def reachShortSpec : ChangeSpec := { name := "reachShort", fn := fun _ => fun
  | [d] => { results := [.lit (.bool true)], args := [d] }
  | _ => none }
def reachShortRow : OpenClaim := { program := "ytlmmmchkhaidjaa", sum := "699240dc1c13364064ba8ca1f94e69251606480b633fc9b6d6d84a22a82a913c", func := "undergrowth/undergrowthlaw12.ReachShort", spec := "reachShort", unfollowed := true, recurses := true, apart := false }
def ReachShortSaid : Prop := reachShortRow.holds Try.pinned (OpenSpec.ofChange reachShortSpec)

/-- ITS FALSE NEIGHBOUR: 'it returns false'. Refute it at one input. -/
def reachShortWrong : ChangeSpec := { name := "reachShort", fn := fun _ => fun
  | [d] => { results := [.lit (.bool false)], args := [d] }
  | _ => none }
def ReachShortWrongFalsely : Prop := reachShortRow.holds Try.pinned (OpenSpec.ofChange reachShortWrong)

/-- 'undergrowthlaw12.ReachDoubles': WHATEVER THE INPUT: true; the input reads as it did. -/
def reachDoublesSpec : ChangeSpec := { name := "reachDoubles", fn := fun _ => fun
  | [d] => { results := [.lit (.bool true)], args := [d] }
  | _ => none }
def reachDoublesRow : OpenClaim := { program := "ytlmmmchkhaidjaa", sum := "699240dc1c13364064ba8ca1f94e69251606480b633fc9b6d6d84a22a82a913c", func := "undergrowth/undergrowthlaw12.ReachDoubles", spec := "reachDoubles", unfollowed := true, recurses := true, apart := false }
def ReachDoublesSaid : Prop := reachDoublesRow.holds Try.pinned (OpenSpec.ofChange reachDoublesSpec)

/-- ITS FALSE NEIGHBOUR: 'it returns false'. Refute it at one input. -/
def reachDoublesWrong : ChangeSpec := { name := "reachDoubles", fn := fun _ => fun
  | [d] => { results := [.lit (.bool false)], args := [d] }
  | _ => none }
def ReachDoublesWrongFalsely : Prop := reachDoublesRow.holds Try.pinned (OpenSpec.ofChange reachDoublesWrong)

/- THE SECOND FORM. 'bulk': how many values and letters a reading holds, each counted each time it is reached (what is shared counts as often as it is met; a slice's spare places count too). A statement '..UptoSaid' is the law's where the arguments, and the package variables that the reading takes, are together of bulk at most 1048576: NARROWER than '..Said'. Prove '..Said' where nothing that the law and all that it calls make is longer than what came in: it says more and counts as full. Else prove '..UptoSaid'. A law counts once. -/
mutual
def uptoBulk {H : Type} : DataW H → Nat
  | .lit (.string bytes) => bytes.length + 1
  | .lit _ => 1
  | .nil => 1
  | .ptr d => uptoBulk d + 1
  | .slice elems spare => uptoBulkAll elems + uptoBulkAll spare + 1
  | .agg parts => uptoBulkAll parts + 1
  | .iface _ d => uptoBulk d + 1
  | .map entries => uptoBulkEntries entries + 1
  | .held _ => 1
def uptoBulkAll {H : Type} : List (DataW H) → Nat
  | [] => 0
  | d :: r => uptoBulk d + uptoBulkAll r
def uptoBulkEntries {H : Type} : List (Lit × DataW H) → Nat
  | [] => 0
  | x :: r => uptoBulkEntry x + uptoBulkEntries r
def uptoBulkEntry {H : Type} : Lit × DataW H → Nat
  | (.string bytes, d) => bytes.length + uptoBulk d + 1
  | (_, d) => uptoBulk d + 1
 end
def uptoSmall : (H : Type) → List (DataW H) → Bool := fun _ ds => decide (uptoBulkAll ds ≤ 1048576)
def OpenSpec.upto (s : _root_.Go.ChangeSpec) : _root_.Go.OpenSpec := { _root_.Go.OpenSpec.ofChange s with cond := some uptoSmall }

/-- 'undergrowthlaw12.ReachTells', WHERE WHAT IT READS IS OF BULK AT MOST 1048576: true; the input reads as it did. -/
def reachTellsUptoRow : OpenClaim := { program := "ytlmmmchkhaidjaa", sum := "699240dc1c13364064ba8ca1f94e69251606480b633fc9b6d6d84a22a82a913c", func := "undergrowth/undergrowthlaw12.ReachTells", spec := "reachTells", unfollowed := true, recurses := true, apart := false, narrowed := true }
def ReachTellsUptoSaid : Prop := reachTellsUptoRow.holds Try.pinned (OpenSpec.upto reachTellsSpec)

/-- 'undergrowthlaw12.ReachShort', WHERE WHAT IT READS IS OF BULK AT MOST 1048576: true; the input reads as it did. -/
def reachShortUptoRow : OpenClaim := { program := "ytlmmmchkhaidjaa", sum := "699240dc1c13364064ba8ca1f94e69251606480b633fc9b6d6d84a22a82a913c", func := "undergrowth/undergrowthlaw12.ReachShort", spec := "reachShort", unfollowed := true, recurses := true, apart := false, narrowed := true }
def ReachShortUptoSaid : Prop := reachShortUptoRow.holds Try.pinned (OpenSpec.upto reachShortSpec)

/-- 'undergrowthlaw12.ReachDoubles', WHERE WHAT IT READS IS OF BULK AT MOST 1048576: true; the input reads as it did. -/
def reachDoublesUptoRow : OpenClaim := { program := "ytlmmmchkhaidjaa", sum := "699240dc1c13364064ba8ca1f94e69251606480b633fc9b6d6d84a22a82a913c", func := "undergrowth/undergrowthlaw12.ReachDoubles", spec := "reachDoubles", unfollowed := true, recurses := true, apart := false, narrowed := true }
def ReachDoublesUptoSaid : Prop := reachDoublesUptoRow.holds Try.pinned (OpenSpec.upto reachDoublesSpec)

end Rows
end Go.Proofs.Ytlmmmchkhaidjaa

/-
  No cell of these rows narrows 'for every input' (looked for: loops, veiled, ifaces, maps, wideKeys, modest, calm, conditions, laid).
  DERIVED. THE GIVEN ROWS OF THIS SEAT. 4 by the template 'for every input the law returns true; each argument reads behind the call as it read before'; 0 by the template 'total and deterministic' (their statements: YtddaggodpmhmpaaTotals.lean).
  GIVEN WITH THE SEED: the statements are not yours to turn. If you find one false, say at which input.
  Laid BY PROGRAM, IN A SANDBOX (cutbox-rows.mjs): the forced cells as the released guide's own fill.sh prints them over the translation 5ae5587c421eb28d… (all of the seat's roots in one cut). By AI agents, Wed Nov 11 2026. No macro, syntax, notation, axiom, sorry.
-/
import Derived.Test.YtddaggodpmhmpaaChecked
import GoSem.Claim
import GoSem.ClaimJoined
import GoSem.ClaimMapViews
import Derived.JoinedTies
import Derived.KernelRfl
namespace Go.Proofs.Ytddaggodpmhmpaa
/- THE CELL 'sum', in the pinned program and in every row, IS THE sha256 OF THE DUMP (.gsa) THAT YtddaggodpmhmpaaProg.lean LOADS. Nothing in Lean hashes anything: it is a label: what it is worth is what the hold of that sum in a sandbox is worth. -/
noncomputable def Try.pinned : Pinned := { name := "ytddaggodpmhmpaa", sum := "5ae5587c421eb28d015cfa31bb74cb4cc33e8c68d0012bc3e346eb77215ad8c0", checked := Try.checked }
namespace Rows
def none {H : Type} : Left H := { results := [], args := [] }

/-- 'undergrowthlaw13.CycleTells': WHATEVER THE INPUT: true; the input reads as it did. -/
def cycleTellsSpec : ChangeSpec := { name := "cycleTells", fn := fun _ => fun
  | [d] => { results := [.lit (.bool true)], args := [d] }
  | _ => none }
def cycleTellsRow : OpenClaim := { program := "ytddaggodpmhmpaa", sum := "5ae5587c421eb28d015cfa31bb74cb4cc33e8c68d0012bc3e346eb77215ad8c0", func := "undergrowth/undergrowthlaw13.CycleTells", spec := "cycleTells", unfollowed := true, recurses := true, apart := false }
def CycleTellsSaid : Prop := cycleTellsRow.holds Try.pinned (OpenSpec.ofChange cycleTellsSpec)

/-- ITS FALSE NEIGHBOUR: 'it returns false'. Refute it at one input. -/
def cycleTellsWrong : ChangeSpec := { name := "cycleTells", fn := fun _ => fun
  | [d] => { results := [.lit (.bool false)], args := [d] }
  | _ => none }
def CycleTellsWrongFalsely : Prop := cycleTellsRow.holds Try.pinned (OpenSpec.ofChange cycleTellsWrong)

/-- 'undergrowthlaw13.CycleRings': WHATEVER THE INPUT: true; the input reads as it did. -/
def cycleRingsSpec : ChangeSpec := { name := "cycleRings", fn := fun _ => fun
  | [d1, d2, d3, d4] => { results := [.lit (.bool true)], args := [d1, d2, d3, d4] }
  | _ => none }
def cycleRingsRow : OpenClaim := { program := "ytddaggodpmhmpaa", sum := "5ae5587c421eb28d015cfa31bb74cb4cc33e8c68d0012bc3e346eb77215ad8c0", func := "undergrowth/undergrowthlaw13.CycleRings", spec := "cycleRings", unfollowed := true, recurses := true, apart := false }
def CycleRingsSaid : Prop := cycleRingsRow.holds Try.pinned (OpenSpec.ofChange cycleRingsSpec)

/-- ITS FALSE NEIGHBOUR: 'it returns false'. Refute it at one input. -/
def cycleRingsWrong : ChangeSpec := { name := "cycleRings", fn := fun _ => fun
  | [d1, d2, d3, d4] => { results := [.lit (.bool false)], args := [d1, d2, d3, d4] }
  | _ => none }
def CycleRingsWrongFalsely : Prop := cycleRingsRow.holds Try.pinned (OpenSpec.ofChange cycleRingsWrong)

/-- 'undergrowthlaw13.CycleUseless': WHATEVER THE INPUT: true; the input reads as it did. -/
def cycleUselessSpec : ChangeSpec := { name := "cycleUseless", fn := fun _ => fun
  | [d1, d2, d3] => { results := [.lit (.bool true)], args := [d1, d2, d3] }
  | _ => none }
def cycleUselessRow : OpenClaim := { program := "ytddaggodpmhmpaa", sum := "5ae5587c421eb28d015cfa31bb74cb4cc33e8c68d0012bc3e346eb77215ad8c0", func := "undergrowth/undergrowthlaw13.CycleUseless", spec := "cycleUseless", unfollowed := true, recurses := true, apart := false }
def CycleUselessSaid : Prop := cycleUselessRow.holds Try.pinned (OpenSpec.ofChange cycleUselessSpec)

/-- ITS FALSE NEIGHBOUR: 'it returns false'. Refute it at one input. -/
def cycleUselessWrong : ChangeSpec := { name := "cycleUseless", fn := fun _ => fun
  | [d1, d2, d3] => { results := [.lit (.bool false)], args := [d1, d2, d3] }
  | _ => none }
def CycleUselessWrongFalsely : Prop := cycleUselessRow.holds Try.pinned (OpenSpec.ofChange cycleUselessWrong)

/-- 'undergrowthlaw13.CycleHidden': WHATEVER THE INPUT: true; the input reads as it did. -/
def cycleHiddenSpec : ChangeSpec := { name := "cycleHidden", fn := fun _ => fun
  | [d1, d2, d3] => { results := [.lit (.bool true)], args := [d1, d2, d3] }
  | _ => none }
def cycleHiddenRow : OpenClaim := { program := "ytddaggodpmhmpaa", sum := "5ae5587c421eb28d015cfa31bb74cb4cc33e8c68d0012bc3e346eb77215ad8c0", func := "undergrowth/undergrowthlaw13.CycleHidden", spec := "cycleHidden", unfollowed := true, recurses := true, apart := false }
def CycleHiddenSaid : Prop := cycleHiddenRow.holds Try.pinned (OpenSpec.ofChange cycleHiddenSpec)

/-- ITS FALSE NEIGHBOUR: 'it returns false'. Refute it at one input. -/
def cycleHiddenWrong : ChangeSpec := { name := "cycleHidden", fn := fun _ => fun
  | [d1, d2, d3] => { results := [.lit (.bool false)], args := [d1, d2, d3] }
  | _ => none }
def CycleHiddenWrongFalsely : Prop := cycleHiddenRow.holds Try.pinned (OpenSpec.ofChange cycleHiddenWrong)

/- THE SECOND FORM. 'bulk': how many values and letters a reading holds, each counted each time it is reached (what is shared counts as often as it is met; a slice's spare places count too). A statement '..UptoSaid' is the law's where the arguments, and the package variables that the reading takes, are together of bulk at most 1048576: NARROWER than '..Said'. Prove '..Said' where nothing that the law and all that it calls make is longer than what came in: it says more and counts as full. Else prove '..UptoSaid'. A law counts once. -/
mutual
def uptoBulk {H : Type} : DataW H → Nat
  | .lit (.string bytes) => bytes.length + 1
  | .lit _ => 1
  | .nil => 1
  | .ptr d => uptoBulk d + 1
  | .slice elems spare => uptoBulkAll elems + uptoBulkAll spare + 1
  | .agg parts => uptoBulkAll parts + 1
  | .iface _ d => uptoBulk d + 1
  | .map entries => uptoBulkEntries entries + 1
  | .held _ => 1
def uptoBulkAll {H : Type} : List (DataW H) → Nat
  | [] => 0
  | d :: r => uptoBulk d + uptoBulkAll r
def uptoBulkEntries {H : Type} : List (Lit × DataW H) → Nat
  | [] => 0
  | x :: r => uptoBulkEntry x + uptoBulkEntries r
def uptoBulkEntry {H : Type} : Lit × DataW H → Nat
  | (.string bytes, d) => bytes.length + uptoBulk d + 1
  | (_, d) => uptoBulk d + 1
 end
def uptoSmall : (H : Type) → List (DataW H) → Bool := fun _ ds => decide (uptoBulkAll ds ≤ 1048576)
def OpenSpec.upto (s : _root_.Go.ChangeSpec) : _root_.Go.OpenSpec := { _root_.Go.OpenSpec.ofChange s with cond := some uptoSmall }

/-- 'undergrowthlaw13.CycleTells', WHERE WHAT IT READS IS OF BULK AT MOST 1048576: true; the input reads as it did. -/
def cycleTellsUptoRow : OpenClaim := { program := "ytddaggodpmhmpaa", sum := "5ae5587c421eb28d015cfa31bb74cb4cc33e8c68d0012bc3e346eb77215ad8c0", func := "undergrowth/undergrowthlaw13.CycleTells", spec := "cycleTells", unfollowed := true, recurses := true, apart := false, narrowed := true }
def CycleTellsUptoSaid : Prop := cycleTellsUptoRow.holds Try.pinned (OpenSpec.upto cycleTellsSpec)

/-- 'undergrowthlaw13.CycleRings', WHERE WHAT IT READS IS OF BULK AT MOST 1048576: true; the input reads as it did. -/
def cycleRingsUptoRow : OpenClaim := { program := "ytddaggodpmhmpaa", sum := "5ae5587c421eb28d015cfa31bb74cb4cc33e8c68d0012bc3e346eb77215ad8c0", func := "undergrowth/undergrowthlaw13.CycleRings", spec := "cycleRings", unfollowed := true, recurses := true, apart := false, narrowed := true }
def CycleRingsUptoSaid : Prop := cycleRingsUptoRow.holds Try.pinned (OpenSpec.upto cycleRingsSpec)

/-- 'undergrowthlaw13.CycleUseless', WHERE WHAT IT READS IS OF BULK AT MOST 1048576: true; the input reads as it did. -/
def cycleUselessUptoRow : OpenClaim := { program := "ytddaggodpmhmpaa", sum := "5ae5587c421eb28d015cfa31bb74cb4cc33e8c68d0012bc3e346eb77215ad8c0", func := "undergrowth/undergrowthlaw13.CycleUseless", spec := "cycleUseless", unfollowed := true, recurses := true, apart := false, narrowed := true }
def CycleUselessUptoSaid : Prop := cycleUselessUptoRow.holds Try.pinned (OpenSpec.upto cycleUselessSpec)

/-- 'undergrowthlaw13.CycleHidden', WHERE WHAT IT READS IS OF BULK AT MOST 1048576: true; the input reads as it did. -/
def cycleHiddenUptoRow : OpenClaim := { program := "ytddaggodpmhmpaa", sum := "5ae5587c421eb28d015cfa31bb74cb4cc33e8c68d0012bc3e346eb77215ad8c0", func := "undergrowth/undergrowthlaw13.CycleHidden", spec := "cycleHidden", unfollowed := true, recurses := true, apart := false, narrowed := true }
def CycleHiddenUptoSaid : Prop := cycleHiddenUptoRow.holds Try.pinned (OpenSpec.upto cycleHiddenSpec)

end Rows
end Go.Proofs.Ytddaggodpmhmpaa

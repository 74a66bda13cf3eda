/-
  DERIVED. GIVEN WITH THE SEED: THE CARDS: each row of YtpdcahaggacacaaDoorRows.lean that lists a variable, with what it lists TIED to the program's text (the seventh form; the later family's looks); each row that meets fmt, with fmt's text TOLD by the authors' own Lean function (tested against real Go, not proved from fmt's source: count such statements apart). THE CARD IS WHAT COUNTS. Prove the row's statement (the work); the ties are given (YtpdcahaggacacaaDoorTie.lean); close each card by the builder's one call (the guide's Derived/Test/ToyasCard.lean, 'card_holds'). Laid BY PROGRAM, IN A SANDBOX (cutbox-door.mjs). By AI agents, Wed Nov 11 2026. No macro, syntax, notation, axiom, sorry.
-/
import Derived.Test.YtpdcahaggacacaaDoorRows
import GoSem.ClaimSeven
namespace Go.Proofs.YtpdcahaggacacaaDoor
namespace Rows

/-- THE TIED CARD OF 'undergrowthlaw14.ItemsClose'. -/
def itemsCloseCard : Claim7 := { stood := { row := itemsCloseRow, standIns := [], harness := (true, "699dc2ca4a59d8ea7939adecc217b04fee70c3b4c4212f2f199459620de53599"), looks := false }, kinds := [], alts := [], laidByText := true, laidKinds := [.data], laidTests := true, laidLooks := .later }
def ItemsCloseCardSaid : Prop := Claim7.holds Tryd.pinned (.plain (OpenSpec.ofChange itemsCloseSpec)) itemsCloseCard

/-- THE TIED CARD OF 'undergrowthlaw14.ItemsStates'. -/
def itemsStatesCard : Claim7 := { stood := { row := itemsStatesRow, standIns := [], harness := (true, "699dc2ca4a59d8ea7939adecc217b04fee70c3b4c4212f2f199459620de53599"), looks := false }, kinds := [], alts := [], laidByText := true, laidKinds := [.data], laidTests := true, laidLooks := .later }
def ItemsStatesCardSaid : Prop := Claim7.holds Tryd.pinned (.plain (OpenSpec.ofChange itemsStatesSpec)) itemsStatesCard

/-- THE TIED CARD OF 'undergrowthlaw14.ItemsRow'. -/
def itemsRowCard : Claim7 := { stood := { row := itemsRowRow, standIns := [], harness := (true, "699dc2ca4a59d8ea7939adecc217b04fee70c3b4c4212f2f199459620de53599"), looks := false }, kinds := [], alts := [], laidByText := true, laidKinds := [.data], laidTests := true, laidLooks := .later }
def ItemsRowCardSaid : Prop := Claim7.holds Tryd.pinned (.plain (OpenSpec.ofChange itemsRowSpec)) itemsRowCard

/-- THE SECOND FORM's CARD OF 'undergrowthlaw14.ItemsClose'. -/
def itemsCloseUptoCard : Claim7 := { stood := { row := itemsCloseUptoRow, standIns := [], harness := (true, "699dc2ca4a59d8ea7939adecc217b04fee70c3b4c4212f2f199459620de53599"), looks := false }, kinds := [], alts := [], laidByText := true, laidKinds := [.data], laidTests := true, laidLooks := .later }
def ItemsCloseUptoCardSaid : Prop := Claim7.holds Tryd.pinned (.plain (OpenSpec.upto itemsCloseSpec)) itemsCloseUptoCard

/-- THE SECOND FORM's CARD OF 'undergrowthlaw14.ItemsStates'. -/
def itemsStatesUptoCard : Claim7 := { stood := { row := itemsStatesUptoRow, standIns := [], harness := (true, "699dc2ca4a59d8ea7939adecc217b04fee70c3b4c4212f2f199459620de53599"), looks := false }, kinds := [], alts := [], laidByText := true, laidKinds := [.data], laidTests := true, laidLooks := .later }
def ItemsStatesUptoCardSaid : Prop := Claim7.holds Tryd.pinned (.plain (OpenSpec.upto itemsStatesSpec)) itemsStatesUptoCard

/-- THE SECOND FORM's CARD OF 'undergrowthlaw14.ItemsRow'. -/
def itemsRowUptoCard : Claim7 := { stood := { row := itemsRowUptoRow, standIns := [], harness := (true, "699dc2ca4a59d8ea7939adecc217b04fee70c3b4c4212f2f199459620de53599"), looks := false }, kinds := [], alts := [], laidByText := true, laidKinds := [.data], laidTests := true, laidLooks := .later }
def ItemsRowUptoCardSaid : Prop := Claim7.holds Tryd.pinned (.plain (OpenSpec.upto itemsRowSpec)) itemsRowUptoCard
end Rows
end Go.Proofs.YtpdcahaggacacaaDoor

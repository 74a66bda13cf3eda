/-
  DERIVED. GIVEN WITH THE SEED: THE CARDS: each row of YtdggbpfpjkokpaaDoorRows.lean that lists a variable, with what it lists TIED to the program's text (the seventh form; the later family's looks); each row that meets fmt, with fmt's text TOLD by the authors' own Lean function (tested against real Go, not proved from fmt's source: count such statements apart). THE CARD IS WHAT COUNTS. Prove the row's statement (the work); the ties are given (YtdggbpfpjkokpaaDoorTie.lean); close each card by the builder's one call (the guide's Derived/Test/ToyasCard.lean, 'card_holds'). Laid BY PROGRAM, IN A SANDBOX (cutbox-door.mjs). By AI agents, Wed Nov 11 2026. No macro, syntax, notation, axiom, sorry.
-/
import Derived.Test.YtdggbpfpjkokpaaDoorRows
import GoSem.ClaimSeven
namespace Go.Proofs.YtdggbpfpjkokpaaDoor
namespace Rows

/-- THE TIED CARD OF 'undergrowthlaw11.SetsTell'. -/
def setsTellCard : Claim7 := { stood := { row := setsTellRow, standIns := [], harness := (true, "8cf3e0bf8156e06a7ed88a31cd228d9cb182f5c881819e0e0991d5e6e06f215f"), looks := false }, kinds := [], alts := [], laidByText := true, laidKinds := [.data], laidTests := true, laidLooks := .later }
def SetsTellCardSaid : Prop := Claim7.holds Tryd.pinned (.plain (OpenSpec.ofChange setsTellSpec)) setsTellCard

/-- THE TIED CARD OF 'undergrowthlaw11.SetsBegin'. -/
def setsBeginCard : Claim7 := { stood := { row := setsBeginRow, standIns := [], harness := (true, "8cf3e0bf8156e06a7ed88a31cd228d9cb182f5c881819e0e0991d5e6e06f215f"), looks := false }, kinds := [], alts := [], laidByText := true, laidKinds := [.data], laidTests := true, laidLooks := .later }
def SetsBeginCardSaid : Prop := Claim7.holds Tryd.pinned (.plain (OpenSpec.ofChange setsBeginSpec)) setsBeginCard

/-- THE TIED CARD OF 'undergrowthlaw11.SetsBehind'. -/
def setsBehindCard : Claim7 := { stood := { row := setsBehindRow, standIns := [], harness := (true, "8cf3e0bf8156e06a7ed88a31cd228d9cb182f5c881819e0e0991d5e6e06f215f"), looks := false }, kinds := [], alts := [], laidByText := true, laidKinds := [.data], laidTests := true, laidLooks := .later }
def SetsBehindCardSaid : Prop := Claim7.holds Tryd.pinned (.plain (OpenSpec.ofChange setsBehindSpec)) setsBehindCard

/-- THE TIED CARD OF 'undergrowthlaw11.SetsNothing'. -/
def setsNothingCard : Claim7 := { stood := { row := setsNothingRow, standIns := [], harness := (true, "8cf3e0bf8156e06a7ed88a31cd228d9cb182f5c881819e0e0991d5e6e06f215f"), looks := false }, kinds := [], alts := [], laidByText := true, laidKinds := [.data], laidTests := true, laidLooks := .later }
def SetsNothingCardSaid : Prop := Claim7.holds Tryd.pinned (.plain (OpenSpec.ofChange setsNothingSpec)) setsNothingCard

/-- THE SECOND FORM's CARD OF 'undergrowthlaw11.SetsTell'. -/
def setsTellUptoCard : Claim7 := { stood := { row := setsTellUptoRow, standIns := [], harness := (true, "8cf3e0bf8156e06a7ed88a31cd228d9cb182f5c881819e0e0991d5e6e06f215f"), looks := false }, kinds := [], alts := [], laidByText := true, laidKinds := [.data], laidTests := true, laidLooks := .later }
def SetsTellUptoCardSaid : Prop := Claim7.holds Tryd.pinned (.plain (OpenSpec.upto setsTellSpec)) setsTellUptoCard

/-- THE SECOND FORM's CARD OF 'undergrowthlaw11.SetsBegin'. -/
def setsBeginUptoCard : Claim7 := { stood := { row := setsBeginUptoRow, standIns := [], harness := (true, "8cf3e0bf8156e06a7ed88a31cd228d9cb182f5c881819e0e0991d5e6e06f215f"), looks := false }, kinds := [], alts := [], laidByText := true, laidKinds := [.data], laidTests := true, laidLooks := .later }
def SetsBeginUptoCardSaid : Prop := Claim7.holds Tryd.pinned (.plain (OpenSpec.upto setsBeginSpec)) setsBeginUptoCard

/-- THE SECOND FORM's CARD OF 'undergrowthlaw11.SetsBehind'. -/
def setsBehindUptoCard : Claim7 := { stood := { row := setsBehindUptoRow, standIns := [], harness := (true, "8cf3e0bf8156e06a7ed88a31cd228d9cb182f5c881819e0e0991d5e6e06f215f"), looks := false }, kinds := [], alts := [], laidByText := true, laidKinds := [.data], laidTests := true, laidLooks := .later }
def SetsBehindUptoCardSaid : Prop := Claim7.holds Tryd.pinned (.plain (OpenSpec.upto setsBehindSpec)) setsBehindUptoCard

/-- THE SECOND FORM's CARD OF 'undergrowthlaw11.SetsNothing'. -/
def setsNothingUptoCard : Claim7 := { stood := { row := setsNothingUptoRow, standIns := [], harness := (true, "8cf3e0bf8156e06a7ed88a31cd228d9cb182f5c881819e0e0991d5e6e06f215f"), looks := false }, kinds := [], alts := [], laidByText := true, laidKinds := [.data], laidTests := true, laidLooks := .later }
def SetsNothingUptoCardSaid : Prop := Claim7.holds Tryd.pinned (.plain (OpenSpec.upto setsNothingSpec)) setsNothingUptoCard
end Rows
end Go.Proofs.YtdggbpfpjkokpaaDoor

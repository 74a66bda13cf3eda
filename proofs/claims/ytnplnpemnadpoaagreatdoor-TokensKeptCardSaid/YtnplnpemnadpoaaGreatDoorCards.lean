/-
  DERIVED. GIVEN WITH THE SEED: THE CARDS: each row of YtnplnpemnadpoaaGreatDoorRows.lean that lists a variable, with what it lists TIED to the program's text (the seventh form; the later family's looks); each row that meets fmt, with fmt's text TOLD by the authors' own Lean function (tested against real Go, not proved from fmt's source: count such statements apart). THE CARD IS WHAT COUNTS. Prove the row's statement (the work); the ties are given (YtnplnpemnadpoaaGreatDoorTie.lean); close each card by the builder's one call (the guide's Derived/Test/ToyasCard.lean, 'card_holds'). Laid BY PROGRAM, IN A SANDBOX (cutbox-door.mjs). By AI agents, Wed Nov 11 2026. No macro, syntax, notation, axiom, sorry.
-/
import Derived.Test.YtnplnpemnadpoaaGreatDoorRows
import GoSem.ClaimSeven
namespace Go.Proofs.YtnplnpemnadpoaaGreatDoor
namespace Rows

/-- THE TIED CARD OF 'undergrowthlaw8.TokensAll'. -/
def tokensAllCard : Claim7 := { stood := { row := tokensAllRow, standIns := [], harness := (true, "a3774c4361d684a21bf731aadd719ee37b5f6504e0579acedab0f9f946f58a76"), looks := false }, kinds := [], alts := [], laidByText := true, laidKinds := [.data], laidTests := true, laidLooks := .later }
def TokensAllCardSaid : Prop := Claim7.holds Tryz.pinned (.plain (OpenSpec.ofChange tokensAllSpec)) tokensAllCard

/-- THE TIED CARD OF 'undergrowthlaw8.TokensWhole'. -/
def tokensWholeCard : Claim7 := { stood := { row := tokensWholeRow, standIns := [], harness := (true, "a3774c4361d684a21bf731aadd719ee37b5f6504e0579acedab0f9f946f58a76"), looks := false }, kinds := [], alts := [], laidByText := true, laidKinds := [.data], laidTests := true, laidLooks := .later }
def TokensWholeCardSaid : Prop := Claim7.holds Tryz.pinned (.plain (OpenSpec.ofChange tokensWholeSpec)) tokensWholeCard

/-- THE TIED CARD OF 'undergrowthlaw8.TokensKept'. -/
def tokensKeptCard : Claim7 := { stood := { row := tokensKeptRow, standIns := [], harness := (true, "a3774c4361d684a21bf731aadd719ee37b5f6504e0579acedab0f9f946f58a76"), looks := false }, kinds := [], alts := [], laidByText := true, laidKinds := [.data], laidTests := true, laidLooks := .later }
def TokensKeptCardSaid : Prop := Claim7.holds Tryz.pinned (.plain (OpenSpec.ofChange tokensKeptSpec)) tokensKeptCard

/-- THE TIED CARD OF 'undergrowthlaw8.TokensQuotes'. -/
def tokensQuotesCard : Claim7 := { stood := { row := tokensQuotesRow, standIns := [], harness := (true, "a3774c4361d684a21bf731aadd719ee37b5f6504e0579acedab0f9f946f58a76"), looks := false }, kinds := [], alts := [], laidByText := true, laidKinds := [.data], laidTests := true, laidLooks := .later }
def TokensQuotesCardSaid : Prop := Claim7.holds Tryz.pinned (.plain (OpenSpec.ofChange tokensQuotesSpec)) tokensQuotesCard

/-- THE SECOND FORM's CARD OF 'undergrowthlaw8.TokensAll'. -/
def tokensAllUptoCard : Claim7 := { stood := { row := tokensAllUptoRow, standIns := [], harness := (true, "a3774c4361d684a21bf731aadd719ee37b5f6504e0579acedab0f9f946f58a76"), looks := false }, kinds := [], alts := [], laidByText := true, laidKinds := [.data], laidTests := true, laidLooks := .later }
def TokensAllUptoCardSaid : Prop := Claim7.holds Tryz.pinned (.plain (OpenSpec.upto tokensAllSpec)) tokensAllUptoCard

/-- THE SECOND FORM's CARD OF 'undergrowthlaw8.TokensWhole'. -/
def tokensWholeUptoCard : Claim7 := { stood := { row := tokensWholeUptoRow, standIns := [], harness := (true, "a3774c4361d684a21bf731aadd719ee37b5f6504e0579acedab0f9f946f58a76"), looks := false }, kinds := [], alts := [], laidByText := true, laidKinds := [.data], laidTests := true, laidLooks := .later }
def TokensWholeUptoCardSaid : Prop := Claim7.holds Tryz.pinned (.plain (OpenSpec.upto tokensWholeSpec)) tokensWholeUptoCard

/-- THE SECOND FORM's CARD OF 'undergrowthlaw8.TokensKept'. -/
def tokensKeptUptoCard : Claim7 := { stood := { row := tokensKeptUptoRow, standIns := [], harness := (true, "a3774c4361d684a21bf731aadd719ee37b5f6504e0579acedab0f9f946f58a76"), looks := false }, kinds := [], alts := [], laidByText := true, laidKinds := [.data], laidTests := true, laidLooks := .later }
def TokensKeptUptoCardSaid : Prop := Claim7.holds Tryz.pinned (.plain (OpenSpec.upto tokensKeptSpec)) tokensKeptUptoCard

/-- THE SECOND FORM's CARD OF 'undergrowthlaw8.TokensQuotes'. -/
def tokensQuotesUptoCard : Claim7 := { stood := { row := tokensQuotesUptoRow, standIns := [], harness := (true, "a3774c4361d684a21bf731aadd719ee37b5f6504e0579acedab0f9f946f58a76"), looks := false }, kinds := [], alts := [], laidByText := true, laidKinds := [.data], laidTests := true, laidLooks := .later }
def TokensQuotesUptoCardSaid : Prop := Claim7.holds Tryz.pinned (.plain (OpenSpec.upto tokensQuotesSpec)) tokensQuotesUptoCard
end Rows
end Go.Proofs.YtnplnpemnadpoaaGreatDoor

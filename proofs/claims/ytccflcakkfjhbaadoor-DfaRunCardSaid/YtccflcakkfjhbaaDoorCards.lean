/-
  DERIVED. GIVEN WITH THE SEED: THE CARDS: each row of YtccflcakkfjhbaaDoorRows.lean that lists a variable, with what it lists TIED to the program's text (the seventh form; the later family's looks); each row that meets fmt, with fmt's text TOLD by the authors' own Lean function (tested against real Go, not proved from fmt's source: count such statements apart). THE CARD IS WHAT COUNTS. Prove the row's statement (the work); the ties are given (YtccflcakkfjhbaaDoorTie.lean); close each card by the builder's one call (the guide's Derived/Test/ToyasCard.lean, 'card_holds'). Laid BY PROGRAM, IN A SANDBOX (cutbox-door.mjs). By AI agents, Wed Nov 11 2026. No macro, syntax, notation, axiom, sorry.
-/
import Derived.Test.YtccflcakkfjhbaaDoorRows
import GoSem.ClaimSeven
namespace Go.Proofs.YtccflcakkfjhbaaDoor
namespace Rows

/-- THE TIED CARD OF 'undergrowthlaw5.DfaRun'. -/
def dfaRunCard : Claim7 := { stood := { row := dfaRunRow, standIns := [], harness := (true, "0c01d7c6f3c2581507327497c7402a6950ad9c2765d16c08f17f508cbd037f47"), looks := false }, kinds := [], alts := [], laidByText := true, laidKinds := [.data], laidTests := true, laidLooks := .later }
def DfaRunCardSaid : Prop := Claim7.holds Tryd.pinned (.plain (OpenSpec.ofChange dfaRunSpec)) dfaRunCard

/-- THE TIED CARD OF 'undergrowthlaw5.DfaWords'. -/
def dfaWordsCard : Claim7 := { stood := { row := dfaWordsRow, standIns := [], harness := (true, "0c01d7c6f3c2581507327497c7402a6950ad9c2765d16c08f17f508cbd037f47"), looks := false }, kinds := [], alts := [], laidByText := true, laidKinds := [.data], laidTests := true, laidLooks := .later }
def DfaWordsCardSaid : Prop := Claim7.holds Tryd.pinned (.plain (OpenSpec.ofChange dfaWordsSpec)) dfaWordsCard

/-- THE SECOND FORM's CARD OF 'undergrowthlaw5.DfaRun'. -/
def dfaRunUptoCard : Claim7 := { stood := { row := dfaRunUptoRow, standIns := [], harness := (true, "0c01d7c6f3c2581507327497c7402a6950ad9c2765d16c08f17f508cbd037f47"), looks := false }, kinds := [], alts := [], laidByText := true, laidKinds := [.data], laidTests := true, laidLooks := .later }
def DfaRunUptoCardSaid : Prop := Claim7.holds Tryd.pinned (.plain (OpenSpec.upto dfaRunSpec)) dfaRunUptoCard

/-- THE SECOND FORM's CARD OF 'undergrowthlaw5.DfaWords'. -/
def dfaWordsUptoCard : Claim7 := { stood := { row := dfaWordsUptoRow, standIns := [], harness := (true, "0c01d7c6f3c2581507327497c7402a6950ad9c2765d16c08f17f508cbd037f47"), looks := false }, kinds := [], alts := [], laidByText := true, laidKinds := [.data], laidTests := true, laidLooks := .later }
def DfaWordsUptoCardSaid : Prop := Claim7.holds Tryd.pinned (.plain (OpenSpec.upto dfaWordsSpec)) dfaWordsUptoCard
end Rows
end Go.Proofs.YtccflcakkfjhbaaDoor

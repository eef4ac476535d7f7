/-
  DERIVED. GIVEN WITH THE SEED: THE CARDS: each row of YtihkjgfghjgblaaGreatDoorRows.lean that lists a variable, with what it lists TIED to the program's text (the seventh form; the later family's looks); each row that meets fmt, with fmt's text TOLD by the authors' own Lean function (tested against real Go, not proved from fmt's source: count such statements apart). THE CARD IS WHAT COUNTS. Prove the row's statement (the work); the ties are given (YtihkjgfghjgblaaGreatDoorTie.lean); close each card by the builder's one call (the guide's Derived/Test/ToyasCard.lean, 'card_holds'). Laid BY PROGRAM, IN A SANDBOX (cutbox-door.mjs). By AI agents, Wed Nov 11 2026. No macro, syntax, notation, axiom, sorry.
-/
import Derived.Test.YtihkjgfghjgblaaGreatDoorRows
import GoSem.ClaimSeven
namespace Go.Proofs.YtihkjgfghjgblaaGreatDoor
namespace Rows

/-- THE TIED CARD OF 'coracletop.TopEnvelope'. -/
def topEnvelopeCard : Claim7 := { stood := { row := topEnvelopeRow, standIns := [], harness := (true, "697afce992057baaf8dd2ceb4c4ed4abb9f5779e29748d058acebbc7a8e5f688"), looks := true }, kinds := [], alts := [], laidByText := true, laidKinds := [.data, .data, .data, .sentinel, .sentinel], laidTests := true, laidLooks := .later }
def TopEnvelopeCardSaid : Prop := Claim7.holds Tryz.pinned (.plain (OpenSpec.ofChange topEnvelopeSpec)) topEnvelopeCard

/-- THE SECOND FORM's CARD OF 'coracletop.TopEnvelope'. -/
def topEnvelopeUptoCard : Claim7 := { stood := { row := topEnvelopeUptoRow, standIns := [], harness := (true, "697afce992057baaf8dd2ceb4c4ed4abb9f5779e29748d058acebbc7a8e5f688"), looks := true }, kinds := [], alts := [], laidByText := true, laidKinds := [.data, .data, .data, .sentinel, .sentinel], laidTests := true, laidLooks := .later }
def TopEnvelopeUptoCardSaid : Prop := Claim7.holds Tryz.pinned (.plain (OpenSpec.upto topEnvelopeSpec)) topEnvelopeUptoCard
end Rows
end Go.Proofs.YtihkjgfghjgblaaGreatDoor

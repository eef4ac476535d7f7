/-
  DERIVED. GIVEN WITH THE SEED: THE CARDS: each row of YtjogcdkebplcpaaGreatDoorRows.lean that lists a variable, with what it lists TIED to the program's text (the seventh form; the later family's looks); each row that meets fmt, with fmt's text TOLD by the authors' own Lean function (tested against real Go, not proved from fmt's source: count such statements apart). THE CARD IS WHAT COUNTS. Prove the row's statement (the work); the ties are given (YtjogcdkebplcpaaGreatDoorTie.lean); close each card by the builder's one call (the guide's Derived/Test/ToyasCard.lean, 'card_holds'). Laid BY PROGRAM, IN A SANDBOX (cutbox-door.mjs). By AI agents, Wed Nov 11 2026. No macro, syntax, notation, axiom, sorry.
-/
import Derived.Test.YtjogcdkebplcpaaGreatDoorRows
import GoSem.ClaimSeven
namespace Go.Proofs.YtjogcdkebplcpaaGreatDoor
namespace Rows

/-- THE TIED CARD OF 'coraclelaw02.SchemaDecodes'. -/
def schemaDecodesCard : Claim7 := { stood := { row := schemaDecodesRow, standIns := [], harness := (true, "4a821a4404aae14dcfefa61aa9046a7c3a3744f2c203edd09721786f8d2a7ee3"), looks := true }, kinds := [], alts := [], laidByText := true, laidKinds := [.data, .data, .data, .sentinel, .sentinel], laidTests := true, laidLooks := .later }
def SchemaDecodesCardSaid : Prop := Claim7.holds Tryz.pinned (.plain (OpenSpec.ofChange schemaDecodesSpec)) schemaDecodesCard

/-- THE TIED CARD OF 'coraclelaw02.SchemaEncodes'. -/
def schemaEncodesCard : Claim7 := { stood := { row := schemaEncodesRow, standIns := [], harness := (true, "4a821a4404aae14dcfefa61aa9046a7c3a3744f2c203edd09721786f8d2a7ee3"), looks := true }, kinds := [], alts := [], laidByText := true, laidKinds := [.data, .data, .data, .sentinel, .sentinel], laidTests := true, laidLooks := .later }
def SchemaEncodesCardSaid : Prop := Claim7.holds Tryz.pinned (.plain (OpenSpec.ofChange schemaEncodesSpec)) schemaEncodesCard

/-- THE SECOND FORM's CARD OF 'coraclelaw02.SchemaDecodes'. -/
def schemaDecodesUptoCard : Claim7 := { stood := { row := schemaDecodesUptoRow, standIns := [], harness := (true, "4a821a4404aae14dcfefa61aa9046a7c3a3744f2c203edd09721786f8d2a7ee3"), looks := true }, kinds := [], alts := [], laidByText := true, laidKinds := [.data, .data, .data, .sentinel, .sentinel], laidTests := true, laidLooks := .later }
def SchemaDecodesUptoCardSaid : Prop := Claim7.holds Tryz.pinned (.plain (OpenSpec.upto schemaDecodesSpec)) schemaDecodesUptoCard

/-- THE SECOND FORM's CARD OF 'coraclelaw02.SchemaEncodes'. -/
def schemaEncodesUptoCard : Claim7 := { stood := { row := schemaEncodesUptoRow, standIns := [], harness := (true, "4a821a4404aae14dcfefa61aa9046a7c3a3744f2c203edd09721786f8d2a7ee3"), looks := true }, kinds := [], alts := [], laidByText := true, laidKinds := [.data, .data, .data, .sentinel, .sentinel], laidTests := true, laidLooks := .later }
def SchemaEncodesUptoCardSaid : Prop := Claim7.holds Tryz.pinned (.plain (OpenSpec.upto schemaEncodesSpec)) schemaEncodesUptoCard
end Rows
end Go.Proofs.YtjogcdkebplcpaaGreatDoor

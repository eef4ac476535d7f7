/-
  DERIVED. GIVEN WITH THE SEED: THE CARDS: each row of YtakfpfnaogdmlaaDoorRows.lean that lists a variable, with what it lists TIED to the program's text (the seventh form; the later family's looks); each row that meets fmt, with fmt's text TOLD by the authors' own Lean function (tested against real Go, not proved from fmt's source: count such statements apart). THE CARD IS WHAT COUNTS. Prove the row's statement (the work); the ties are given (YtakfpfnaogdmlaaDoorTie.lean); close each card by the builder's one call (the guide's Derived/Test/ToyasCard.lean, 'card_holds'). Laid BY PROGRAM, IN A SANDBOX (cutbox-door.mjs). By AI agents, Wed Nov 11 2026. No macro, syntax, notation, axiom, sorry.
-/
import Derived.Test.YtakfpfnaogdmlaaDoorRows
import GoSem.ClaimSeven
namespace Go.Proofs.YtakfpfnaogdmlaaDoor
namespace Rows

/-- THE TIED CARD OF 'coraclelaw02.SchemaRows'. -/
def schemaRowsCard : Claim7 := { stood := { row := schemaRowsRow, standIns := [], harness := (true, "799979eed7c01227616fd73d93e116d0b93dcb6d21997d308d6995864213b0ef"), looks := true }, kinds := [], alts := [], laidByText := true, laidKinds := [.data, .data, .data, .sentinel, .sentinel], laidTests := true, laidLooks := .later }
def SchemaRowsCardSaid : Prop := Claim7.holds Tryd.pinned (.plain (OpenSpec.ofChange schemaRowsSpec)) schemaRowsCard

/-- THE TIED CARD OF 'coraclelaw09.AttrForms'. -/
def attrFormsCard : Claim7 := { stood := { row := attrFormsRow, standIns := [], harness := (true, "799979eed7c01227616fd73d93e116d0b93dcb6d21997d308d6995864213b0ef"), looks := true }, kinds := [], alts := [], laidByText := true, laidKinds := [.data, .data, .data, .sentinel, .sentinel], laidTests := true, laidLooks := .later }
def AttrFormsCardSaid : Prop := Claim7.holds Tryd.pinned (.plain (OpenSpec.ofChange attrFormsSpec)) attrFormsCard

/-- THE TIED CARD OF 'coracletop.TopLists'. -/
def topListsCard : Claim7 := { stood := { row := topListsRow, standIns := [], harness := (true, "799979eed7c01227616fd73d93e116d0b93dcb6d21997d308d6995864213b0ef"), looks := true }, kinds := [], alts := [], laidByText := true, laidKinds := [.data, .data, .data, .sentinel, .sentinel], laidTests := true, laidLooks := .later }
def TopListsCardSaid : Prop := Claim7.holds Tryd.pinned (.plain (OpenSpec.ofChange topListsSpec)) topListsCard

/-- THE SECOND FORM's CARD OF 'coraclelaw02.SchemaRows'. -/
def schemaRowsUptoCard : Claim7 := { stood := { row := schemaRowsUptoRow, standIns := [], harness := (true, "799979eed7c01227616fd73d93e116d0b93dcb6d21997d308d6995864213b0ef"), looks := true }, kinds := [], alts := [], laidByText := true, laidKinds := [.data, .data, .data, .sentinel, .sentinel], laidTests := true, laidLooks := .later }
def SchemaRowsUptoCardSaid : Prop := Claim7.holds Tryd.pinned (.plain (OpenSpec.upto schemaRowsSpec)) schemaRowsUptoCard

/-- THE SECOND FORM's CARD OF 'coraclelaw09.AttrForms'. -/
def attrFormsUptoCard : Claim7 := { stood := { row := attrFormsUptoRow, standIns := [], harness := (true, "799979eed7c01227616fd73d93e116d0b93dcb6d21997d308d6995864213b0ef"), looks := true }, kinds := [], alts := [], laidByText := true, laidKinds := [.data, .data, .data, .sentinel, .sentinel], laidTests := true, laidLooks := .later }
def AttrFormsUptoCardSaid : Prop := Claim7.holds Tryd.pinned (.plain (OpenSpec.upto attrFormsSpec)) attrFormsUptoCard

/-- THE SECOND FORM's CARD OF 'coracletop.TopLists'. -/
def topListsUptoCard : Claim7 := { stood := { row := topListsUptoRow, standIns := [], harness := (true, "799979eed7c01227616fd73d93e116d0b93dcb6d21997d308d6995864213b0ef"), looks := true }, kinds := [], alts := [], laidByText := true, laidKinds := [.data, .data, .data, .sentinel, .sentinel], laidTests := true, laidLooks := .later }
def TopListsUptoCardSaid : Prop := Claim7.holds Tryd.pinned (.plain (OpenSpec.upto topListsSpec)) topListsUptoCard
end Rows
end Go.Proofs.YtakfpfnaogdmlaaDoor

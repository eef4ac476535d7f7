/-
  DERIVED. GIVEN WITH THE SEED: THE CARDS: each row of YtfblnbcdnokdnaaDoorRows.lean that lists a variable, with what it lists TIED to the program's text (the seventh form; the later family's looks); each row that meets fmt, with fmt's text TOLD by the authors' own Lean function (tested against real Go, not proved from fmt's source: count such statements apart). THE CARD IS WHAT COUNTS. Prove the row's statement (the work); the ties are given (YtfblnbcdnokdnaaDoorTie.lean); close each card by the builder's one call (the guide's Derived/Test/ToyasCard.lean, 'card_holds'). Laid BY PROGRAM, IN A SANDBOX (cutbox-door.mjs). By AI agents, Wed Nov 11 2026. No macro, syntax, notation, axiom, sorry.
-/
import Derived.Test.YtfblnbcdnokdnaaDoorRows
import GoSem.ClaimSeven
namespace Go.Proofs.YtfblnbcdnokdnaaDoor
namespace Rows

/-- THE TIED CARD OF 'coraclelaw02.SchemaChecks'. -/
def schemaChecksCard : Claim7 := { stood := { row := schemaChecksRow, standIns := [], harness := (true, "1b36708f64cd12bca4add3eef68c278867cfe0b83c1ad0d48589f096151e1424"), looks := true }, kinds := [], alts := [], laidByText := true, laidKinds := [.data, .data, .data, .sentinel, .sentinel], laidTests := true, laidLooks := .later }
def SchemaChecksCardSaid : Prop := Claim7.holds Tryd.pinned (.plain (OpenSpec.ofChange schemaChecksSpec)) schemaChecksCard

/-- THE TIED CARD OF 'coraclelaw02.SchemaRows'. -/
def schemaRowsCard : Claim7 := { stood := { row := schemaRowsRow, standIns := [], harness := (true, "1b36708f64cd12bca4add3eef68c278867cfe0b83c1ad0d48589f096151e1424"), looks := true }, kinds := [], alts := [], laidByText := true, laidKinds := [.data, .data, .data, .sentinel, .sentinel], laidTests := true, laidLooks := .later }
def SchemaRowsCardSaid : Prop := Claim7.holds Tryd.pinned (.plain (OpenSpec.ofChange schemaRowsSpec)) schemaRowsCard

/-- THE TIED CARD OF 'coraclelaw02.SchemaShort'. -/
def schemaShortCard : Claim7 := { stood := { row := schemaShortRow, standIns := [], harness := (true, "1b36708f64cd12bca4add3eef68c278867cfe0b83c1ad0d48589f096151e1424"), looks := true }, kinds := [], alts := [], laidByText := true, laidKinds := [.data, .data, .data, .sentinel, .sentinel], laidTests := true, laidLooks := .later }
def SchemaShortCardSaid : Prop := Claim7.holds Tryd.pinned (.plain (OpenSpec.ofChange schemaShortSpec)) schemaShortCard

/-- THE TIED CARD OF 'coraclelaw02.SchemaCounts'. -/
def schemaCountsCard : Claim7 := { stood := { row := schemaCountsRow, standIns := [], harness := (true, "1b36708f64cd12bca4add3eef68c278867cfe0b83c1ad0d48589f096151e1424"), looks := true }, kinds := [], alts := [], laidByText := true, laidKinds := [.data, .data, .data, .sentinel, .sentinel], laidTests := true, laidLooks := .later }
def SchemaCountsCardSaid : Prop := Claim7.holds Tryd.pinned (.plain (OpenSpec.ofChange schemaCountsSpec)) schemaCountsCard

/-- THE TIED CARD OF 'coracletop.TopLists'. -/
def topListsCard : Claim7 := { stood := { row := topListsRow, standIns := [], harness := (true, "1b36708f64cd12bca4add3eef68c278867cfe0b83c1ad0d48589f096151e1424"), looks := true }, kinds := [], alts := [], laidByText := true, laidKinds := [.data, .data, .data, .sentinel, .sentinel], laidTests := true, laidLooks := .later }
def TopListsCardSaid : Prop := Claim7.holds Tryd.pinned (.plain (OpenSpec.ofChange topListsSpec)) topListsCard

/-- THE SECOND FORM's CARD OF 'coraclelaw02.SchemaChecks'. -/
def schemaChecksUptoCard : Claim7 := { stood := { row := schemaChecksUptoRow, standIns := [], harness := (true, "1b36708f64cd12bca4add3eef68c278867cfe0b83c1ad0d48589f096151e1424"), looks := true }, kinds := [], alts := [], laidByText := true, laidKinds := [.data, .data, .data, .sentinel, .sentinel], laidTests := true, laidLooks := .later }
def SchemaChecksUptoCardSaid : Prop := Claim7.holds Tryd.pinned (.plain (OpenSpec.upto schemaChecksSpec)) schemaChecksUptoCard

/-- THE SECOND FORM's CARD OF 'coraclelaw02.SchemaRows'. -/
def schemaRowsUptoCard : Claim7 := { stood := { row := schemaRowsUptoRow, standIns := [], harness := (true, "1b36708f64cd12bca4add3eef68c278867cfe0b83c1ad0d48589f096151e1424"), looks := true }, kinds := [], alts := [], laidByText := true, laidKinds := [.data, .data, .data, .sentinel, .sentinel], laidTests := true, laidLooks := .later }
def SchemaRowsUptoCardSaid : Prop := Claim7.holds Tryd.pinned (.plain (OpenSpec.upto schemaRowsSpec)) schemaRowsUptoCard

/-- THE SECOND FORM's CARD OF 'coraclelaw02.SchemaShort'. -/
def schemaShortUptoCard : Claim7 := { stood := { row := schemaShortUptoRow, standIns := [], harness := (true, "1b36708f64cd12bca4add3eef68c278867cfe0b83c1ad0d48589f096151e1424"), looks := true }, kinds := [], alts := [], laidByText := true, laidKinds := [.data, .data, .data, .sentinel, .sentinel], laidTests := true, laidLooks := .later }
def SchemaShortUptoCardSaid : Prop := Claim7.holds Tryd.pinned (.plain (OpenSpec.upto schemaShortSpec)) schemaShortUptoCard

/-- THE SECOND FORM's CARD OF 'coraclelaw02.SchemaCounts'. -/
def schemaCountsUptoCard : Claim7 := { stood := { row := schemaCountsUptoRow, standIns := [], harness := (true, "1b36708f64cd12bca4add3eef68c278867cfe0b83c1ad0d48589f096151e1424"), looks := true }, kinds := [], alts := [], laidByText := true, laidKinds := [.data, .data, .data, .sentinel, .sentinel], laidTests := true, laidLooks := .later }
def SchemaCountsUptoCardSaid : Prop := Claim7.holds Tryd.pinned (.plain (OpenSpec.upto schemaCountsSpec)) schemaCountsUptoCard

/-- THE SECOND FORM's CARD OF 'coracletop.TopLists'. -/
def topListsUptoCard : Claim7 := { stood := { row := topListsUptoRow, standIns := [], harness := (true, "1b36708f64cd12bca4add3eef68c278867cfe0b83c1ad0d48589f096151e1424"), looks := true }, kinds := [], alts := [], laidByText := true, laidKinds := [.data, .data, .data, .sentinel, .sentinel], laidTests := true, laidLooks := .later }
def TopListsUptoCardSaid : Prop := Claim7.holds Tryd.pinned (.plain (OpenSpec.upto topListsSpec)) topListsUptoCard
end Rows
end Go.Proofs.YtfblnbcdnokdnaaDoor

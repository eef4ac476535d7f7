/-
  DERIVED. GIVEN WITH THE SEED: THE CARDS: each row of YtmmfmmjjpbfmeaaDoorRows.lean that lists a variable, with what it lists TIED to the program's text (the seventh form; the later family's looks); each row that meets fmt, with fmt's text TOLD by the authors' own Lean function (tested against real Go, not proved from fmt's source: count such statements apart). THE CARD IS WHAT COUNTS. Prove the row's statement (the work); the ties are given (YtmmfmmjjpbfmeaaDoorTie.lean); close each card by the builder's one call (the guide's Derived/Test/ToyasCard.lean, 'card_holds'). Laid BY PROGRAM, IN A SANDBOX (cutbox-door.mjs). By AI agents, Wed Nov 11 2026. No macro, syntax, notation, axiom, sorry.
-/
import Derived.Test.YtmmfmmjjpbfmeaaDoorRows
import GoSem.ClaimSeven
namespace Go.Proofs.YtmmfmmjjpbfmeaaDoor
namespace Rows

/-- THE TIED CARD OF 'coraclelaw11.NameChecks'. -/
def nameChecksCard : Claim7 := { stood := { row := nameChecksRow, standIns := [], harness := (true, "7c642033e7cf568040f22c6c0a4bafa6f00f166edb509eef319fd8ab1c8decb1"), looks := false }, kinds := [], alts := [], laidByText := true, laidKinds := [.data, .pinned], laidTests := true, laidLooks := .later }
def NameChecksCardSaid : Prop := Claim7.holds Tryd.pinned (.plain (OpenSpec.ofChange nameChecksSpec)) nameChecksCard

/-- THE TIED CARD OF 'coraclelaw11.NameSillies'. -/
def nameSilliesCard : Claim7 := { stood := { row := nameSilliesRow, standIns := [], harness := (true, "7c642033e7cf568040f22c6c0a4bafa6f00f166edb509eef319fd8ab1c8decb1"), looks := false }, kinds := [], alts := [], laidByText := true, laidKinds := [.data, .data, .data, .data, .pinned], laidTests := true, laidLooks := .later }
def NameSilliesCardSaid : Prop := Claim7.holds Tryd.pinned (.plain (OpenSpec.ofChange nameSilliesSpec)) nameSilliesCard

/-- THE TIED CARD OF 'coraclelaw11.NameWhole'. -/
def nameWholeCard : Claim7 := { stood := { row := nameWholeRow, standIns := [], harness := (true, "7c642033e7cf568040f22c6c0a4bafa6f00f166edb509eef319fd8ab1c8decb1"), looks := false }, kinds := [], alts := [], laidByText := true, laidKinds := [.data, .pinned], laidTests := true, laidLooks := .later }
def NameWholeCardSaid : Prop := Claim7.holds Tryd.pinned (.plain (OpenSpec.ofChange nameWholeSpec)) nameWholeCard

/-- THE TIED CARD OF 'coraclelaw11.NameBounds'. -/
def nameBoundsCard : Claim7 := { stood := { row := nameBoundsRow, standIns := [], harness := (true, "7c642033e7cf568040f22c6c0a4bafa6f00f166edb509eef319fd8ab1c8decb1"), looks := false }, kinds := [], alts := [], laidByText := true, laidKinds := [.data, .pinned], laidTests := true, laidLooks := .later }
def NameBoundsCardSaid : Prop := Claim7.holds Tryd.pinned (.plain (OpenSpec.ofChange nameBoundsSpec)) nameBoundsCard

/-- THE SECOND FORM's CARD OF 'coraclelaw11.NameChecks'. -/
def nameChecksUptoCard : Claim7 := { stood := { row := nameChecksUptoRow, standIns := [], harness := (true, "7c642033e7cf568040f22c6c0a4bafa6f00f166edb509eef319fd8ab1c8decb1"), looks := false }, kinds := [], alts := [], laidByText := true, laidKinds := [.data, .pinned], laidTests := true, laidLooks := .later }
def NameChecksUptoCardSaid : Prop := Claim7.holds Tryd.pinned (.plain (OpenSpec.upto nameChecksSpec)) nameChecksUptoCard

/-- THE SECOND FORM's CARD OF 'coraclelaw11.NameSillies'. -/
def nameSilliesUptoCard : Claim7 := { stood := { row := nameSilliesUptoRow, standIns := [], harness := (true, "7c642033e7cf568040f22c6c0a4bafa6f00f166edb509eef319fd8ab1c8decb1"), looks := false }, kinds := [], alts := [], laidByText := true, laidKinds := [.data, .data, .data, .data, .pinned], laidTests := true, laidLooks := .later }
def NameSilliesUptoCardSaid : Prop := Claim7.holds Tryd.pinned (.plain (OpenSpec.upto nameSilliesSpec)) nameSilliesUptoCard

/-- THE SECOND FORM's CARD OF 'coraclelaw11.NameWhole'. -/
def nameWholeUptoCard : Claim7 := { stood := { row := nameWholeUptoRow, standIns := [], harness := (true, "7c642033e7cf568040f22c6c0a4bafa6f00f166edb509eef319fd8ab1c8decb1"), looks := false }, kinds := [], alts := [], laidByText := true, laidKinds := [.data, .pinned], laidTests := true, laidLooks := .later }
def NameWholeUptoCardSaid : Prop := Claim7.holds Tryd.pinned (.plain (OpenSpec.upto nameWholeSpec)) nameWholeUptoCard

/-- THE SECOND FORM's CARD OF 'coraclelaw11.NameBounds'. -/
def nameBoundsUptoCard : Claim7 := { stood := { row := nameBoundsUptoRow, standIns := [], harness := (true, "7c642033e7cf568040f22c6c0a4bafa6f00f166edb509eef319fd8ab1c8decb1"), looks := false }, kinds := [], alts := [], laidByText := true, laidKinds := [.data, .pinned], laidTests := true, laidLooks := .later }
def NameBoundsUptoCardSaid : Prop := Claim7.holds Tryd.pinned (.plain (OpenSpec.upto nameBoundsSpec)) nameBoundsUptoCard
end Rows
end Go.Proofs.YtmmfmmjjpbfmeaaDoor

/-
  DERIVED. GIVEN WITH THE SEED: THE CARDS: each row of YtellilpeakpbfaaDoorRows.lean that lists a variable, with what it lists TIED to the program's text (the seventh form; the later family's looks); each row that meets fmt, with fmt's text TOLD by the authors' own Lean function (tested against real Go, not proved from fmt's source: count such statements apart). THE CARD IS WHAT COUNTS. Prove the row's statement (the work); the ties are given (YtellilpeakpbfaaDoorTie.lean); close each card by the builder's one call (the guide's Derived/Test/ToyasCard.lean, 'card_holds'). Laid BY PROGRAM, IN A SANDBOX (cutbox-door.mjs). By AI agents, Wed Nov 11 2026. No macro, syntax, notation, axiom, sorry.
-/
import Derived.Test.YtellilpeakpbfaaDoorRows
import GoSem.ClaimSeven
namespace Go.Proofs.YtellilpeakpbfaaDoor
namespace Rows

/-- THE TIED CARD OF 'cellarlaw.Checks'. -/
def checksCard : Claim7 := { stood := { row := checksRow, standIns := [], harness := (true, "d0207f4738ec5b02ad2f01a0b97304b78af57239ea9f48b7bd8214305ead6ddb"), looks := false }, kinds := [], alts := [], laidByText := true, laidKinds := [.data], laidTests := true, laidLooks := .later }
def ChecksCardSaid : Prop := Claim7.holds Tryd.pinned (.plain (OpenSpec.ofChange checksSpec)) checksCard

/-- THE TIED CARD OF 'cellarlaw.Shows'. -/
def showsCard : Claim7 := { stood := { row := showsRow, standIns := [], harness := (true, "d0207f4738ec5b02ad2f01a0b97304b78af57239ea9f48b7bd8214305ead6ddb"), looks := false }, kinds := [], alts := [], laidByText := true, laidKinds := [.data, .data, .data, .data], laidTests := true, laidLooks := .later }
def ShowsCardSaid : Prop := Claim7.holds Tryd.pinned (.plain (OpenSpec.ofChange showsSpec)) showsCard

/-- THE TIED CARD OF 'cellarlaw.Foreign'. -/
def foreignCard : Claim7 := { stood := { row := foreignRow, standIns := [], harness := (true, "d0207f4738ec5b02ad2f01a0b97304b78af57239ea9f48b7bd8214305ead6ddb"), looks := false }, kinds := [], alts := [], laidByText := true, laidKinds := [.data, .data, .data, .data], laidTests := true, laidLooks := .later }
def ForeignCardSaid : Prop := Claim7.holds Tryd.pinned (.plain (OpenSpec.ofChange foreignSpec)) foreignCard

/-- THE SECOND FORM's CARD OF 'cellarlaw.Checks'. -/
def checksUptoCard : Claim7 := { stood := { row := checksUptoRow, standIns := [], harness := (true, "d0207f4738ec5b02ad2f01a0b97304b78af57239ea9f48b7bd8214305ead6ddb"), looks := false }, kinds := [], alts := [], laidByText := true, laidKinds := [.data], laidTests := true, laidLooks := .later }
def ChecksUptoCardSaid : Prop := Claim7.holds Tryd.pinned (.plain (OpenSpec.upto checksSpec)) checksUptoCard

/-- THE SECOND FORM's CARD OF 'cellarlaw.Shows'. -/
def showsUptoCard : Claim7 := { stood := { row := showsUptoRow, standIns := [], harness := (true, "d0207f4738ec5b02ad2f01a0b97304b78af57239ea9f48b7bd8214305ead6ddb"), looks := false }, kinds := [], alts := [], laidByText := true, laidKinds := [.data, .data, .data, .data], laidTests := true, laidLooks := .later }
def ShowsUptoCardSaid : Prop := Claim7.holds Tryd.pinned (.plain (OpenSpec.upto showsSpec)) showsUptoCard

/-- THE SECOND FORM's CARD OF 'cellarlaw.Foreign'. -/
def foreignUptoCard : Claim7 := { stood := { row := foreignUptoRow, standIns := [], harness := (true, "d0207f4738ec5b02ad2f01a0b97304b78af57239ea9f48b7bd8214305ead6ddb"), looks := false }, kinds := [], alts := [], laidByText := true, laidKinds := [.data, .data, .data, .data], laidTests := true, laidLooks := .later }
def ForeignUptoCardSaid : Prop := Claim7.holds Tryd.pinned (.plain (OpenSpec.upto foreignSpec)) foreignUptoCard
end Rows
end Go.Proofs.YtellilpeakpbfaaDoor

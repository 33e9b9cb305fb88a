/-
  DERIVED. GIVEN WITH THE SEED: THE CARDS: each row of YthehkgglblohfaaDoorRows.lean that lists a variable, with what it lists TIED to the program's text (the seventh form; the later family's looks); each row that meets fmt, with fmt's text TOLD by the authors' own Lean function (tested against real Go, not proved from fmt's source: count such statements apart). THE CARD IS WHAT COUNTS. Prove the row's statement (the work); the ties are given (YthehkgglblohfaaDoorTie.lean); close each card by the builder's one call (the guide's Derived/Test/ToyasCard.lean, 'card_holds'). Laid BY PROGRAM, IN A SANDBOX (cutbox-door.mjs). By AI agents, Wed Nov 11 2026. No macro, syntax, notation, axiom, sorry.
-/
import Derived.Test.YthehkgglblohfaaDoorRows
import GoSem.ClaimSeven
namespace Go.Proofs.YthehkgglblohfaaDoor
namespace Rows

/-- THE TIED CARD OF 'cellarlaw.Checks'. -/
def checksCard : Claim7 := { stood := { row := checksRow, standIns := [], harness := (true, "9761bae2335f1d7e574b3c5374a435eb57a4b438207c7bb2662c47a497abc7f1"), looks := false }, kinds := [], alts := [], laidByText := true, laidKinds := [.data], laidTests := true, laidLooks := .later }
def ChecksCardSaid : Prop := Claim7.holds Tryd.pinned (.plain (OpenSpec.ofChange checksSpec)) checksCard

/-- THE TIED CARD OF 'cellarlaw.Shows'. -/
def showsCard : Claim7 := { stood := { row := showsRow, standIns := [], harness := (true, "9761bae2335f1d7e574b3c5374a435eb57a4b438207c7bb2662c47a497abc7f1"), looks := false }, kinds := [], alts := [], laidByText := true, laidKinds := [.data, .data, .data, .data], laidTests := true, laidLooks := .later }
def ShowsCardSaid : Prop := Claim7.holds Tryd.pinned (.plain (OpenSpec.ofChange showsSpec)) showsCard

/-- THE TIED CARD OF 'cellarlaw.Foreign'. -/
def foreignCard : Claim7 := { stood := { row := foreignRow, standIns := [], harness := (true, "9761bae2335f1d7e574b3c5374a435eb57a4b438207c7bb2662c47a497abc7f1"), looks := false }, kinds := [], alts := [], laidByText := true, laidKinds := [.data, .data, .data, .data], laidTests := true, laidLooks := .later }
def ForeignCardSaid : Prop := Claim7.holds Tryd.pinned (.plain (OpenSpec.ofChange foreignSpec)) foreignCard

/-- THE TIED CARD OF 'cellarkeep.Apart'. -/
def apartCard : Claim7 := { stood := { row := apartRow, standIns := [], harness := (true, "9761bae2335f1d7e574b3c5374a435eb57a4b438207c7bb2662c47a497abc7f1"), looks := false }, kinds := [], alts := [], laidByText := true, laidKinds := [.data, .data, .data, .data], laidTests := true, laidLooks := .later }
def ApartCardSaid : Prop := Claim7.holds Tryd.pinned (.plain (OpenSpec.ofChange apartSpec)) apartCard

/-- THE TIED CARD OF 'cellarkeep.Spelt'. -/
def speltCard : Claim7 := { stood := { row := speltRow, standIns := [], harness := (true, "9761bae2335f1d7e574b3c5374a435eb57a4b438207c7bb2662c47a497abc7f1"), looks := false }, kinds := [], alts := [], laidByText := true, laidKinds := [.data, .data, .data, .data], laidTests := true, laidLooks := .later }
def SpeltCardSaid : Prop := Claim7.holds Tryd.pinned (.plain (OpenSpec.ofChange speltSpec)) speltCard

/-- THE TIED CARD OF 'cellarkeep.Fueled'. -/
def fueledCard : Claim7 := { stood := { row := fueledRow, standIns := [], harness := (true, "9761bae2335f1d7e574b3c5374a435eb57a4b438207c7bb2662c47a497abc7f1"), looks := false }, kinds := [], alts := [], laidByText := true, laidKinds := [.data, .data, .data, .data], laidTests := true, laidLooks := .later }
def FueledCardSaid : Prop := Claim7.holds Tryd.pinned (.plain (OpenSpec.ofChange fueledSpec)) fueledCard

/-- THE SECOND FORM's CARD OF 'cellarlaw.Checks'. -/
def checksUptoCard : Claim7 := { stood := { row := checksUptoRow, standIns := [], harness := (true, "9761bae2335f1d7e574b3c5374a435eb57a4b438207c7bb2662c47a497abc7f1"), looks := false }, kinds := [], alts := [], laidByText := true, laidKinds := [.data], laidTests := true, laidLooks := .later }
def ChecksUptoCardSaid : Prop := Claim7.holds Tryd.pinned (.plain (OpenSpec.upto checksSpec)) checksUptoCard

/-- THE SECOND FORM's CARD OF 'cellarlaw.Shows'. -/
def showsUptoCard : Claim7 := { stood := { row := showsUptoRow, standIns := [], harness := (true, "9761bae2335f1d7e574b3c5374a435eb57a4b438207c7bb2662c47a497abc7f1"), looks := false }, kinds := [], alts := [], laidByText := true, laidKinds := [.data, .data, .data, .data], laidTests := true, laidLooks := .later }
def ShowsUptoCardSaid : Prop := Claim7.holds Tryd.pinned (.plain (OpenSpec.upto showsSpec)) showsUptoCard

/-- THE SECOND FORM's CARD OF 'cellarlaw.Foreign'. -/
def foreignUptoCard : Claim7 := { stood := { row := foreignUptoRow, standIns := [], harness := (true, "9761bae2335f1d7e574b3c5374a435eb57a4b438207c7bb2662c47a497abc7f1"), looks := false }, kinds := [], alts := [], laidByText := true, laidKinds := [.data, .data, .data, .data], laidTests := true, laidLooks := .later }
def ForeignUptoCardSaid : Prop := Claim7.holds Tryd.pinned (.plain (OpenSpec.upto foreignSpec)) foreignUptoCard

/-- THE SECOND FORM's CARD OF 'cellarkeep.Apart'. -/
def apartUptoCard : Claim7 := { stood := { row := apartUptoRow, standIns := [], harness := (true, "9761bae2335f1d7e574b3c5374a435eb57a4b438207c7bb2662c47a497abc7f1"), looks := false }, kinds := [], alts := [], laidByText := true, laidKinds := [.data, .data, .data, .data], laidTests := true, laidLooks := .later }
def ApartUptoCardSaid : Prop := Claim7.holds Tryd.pinned (.plain (OpenSpec.upto apartSpec)) apartUptoCard

/-- THE SECOND FORM's CARD OF 'cellarkeep.Spelt'. -/
def speltUptoCard : Claim7 := { stood := { row := speltUptoRow, standIns := [], harness := (true, "9761bae2335f1d7e574b3c5374a435eb57a4b438207c7bb2662c47a497abc7f1"), looks := false }, kinds := [], alts := [], laidByText := true, laidKinds := [.data, .data, .data, .data], laidTests := true, laidLooks := .later }
def SpeltUptoCardSaid : Prop := Claim7.holds Tryd.pinned (.plain (OpenSpec.upto speltSpec)) speltUptoCard

/-- THE SECOND FORM's CARD OF 'cellarkeep.Fueled'. -/
def fueledUptoCard : Claim7 := { stood := { row := fueledUptoRow, standIns := [], harness := (true, "9761bae2335f1d7e574b3c5374a435eb57a4b438207c7bb2662c47a497abc7f1"), looks := false }, kinds := [], alts := [], laidByText := true, laidKinds := [.data, .data, .data, .data], laidTests := true, laidLooks := .later }
def FueledUptoCardSaid : Prop := Claim7.holds Tryd.pinned (.plain (OpenSpec.upto fueledSpec)) fueledUptoCard
end Rows
end Go.Proofs.YthehkgglblohfaaDoor

/-
  DERIVED. GIVEN WITH THE SEED: THE CARDS: each row of YtellilpeakpbfaaGreatDoorRows.lean that lists a variable, with what it lists TIED to the program's text (the seventh form; the later family's looks); each row that meets fmt, with fmt's text TOLD by the authors' own Lean function (tested against real Go, not proved from fmt's source: count such statements apart). THE CARD IS WHAT COUNTS. Prove the row's statement (the work); the ties are given (YtellilpeakpbfaaGreatDoorTie.lean); close each card by the builder's one call (the guide's Derived/Test/ToyasCard.lean, 'card_holds'). Laid BY PROGRAM, IN A SANDBOX (cutbox-door.mjs). By AI agents, Wed Nov 11 2026. No macro, syntax, notation, axiom, sorry.
-/
import Derived.Test.YtellilpeakpbfaaGreatDoorRows
import GoSem.ClaimSeven
namespace Go.Proofs.YtellilpeakpbfaaGreatDoor
namespace Rows

/-- THE TIED CARD OF 'cellarlaw.Keeps'. -/
def keepsCard : Claim7 := { stood := { row := keepsRow, standIns := [], harness := (true, "f990eab89753b25f4470443a9121e7793a88bf2f1cba52380c6652a80becbdea"), looks := false }, kinds := [], alts := [], laidByText := true, laidKinds := [.data, .data, .data, .data], laidTests := true, laidLooks := .later }
def KeepsCardSaid : Prop := Claim7.holds Tryz.pinned (.plain (OpenSpec.ofChange keepsSpec)) keepsCard

/-- THE TIED CARD OF 'cellarlaw.Installs'. -/
def installsCard : Claim7 := { stood := { row := installsRow, standIns := [], harness := (true, "f990eab89753b25f4470443a9121e7793a88bf2f1cba52380c6652a80becbdea"), looks := false }, kinds := [], alts := [], laidByText := true, laidKinds := [.data, .data, .data, .data], laidTests := true, laidLooks := .later }
def InstallsCardSaid : Prop := Claim7.holds Tryz.pinned (.plain (OpenSpec.ofChange installsSpec)) installsCard

/-- THE TIED CARD OF 'cellarkeep.Apart'. -/
def apartCard : Claim7 := { stood := { row := apartRow, standIns := [], harness := (true, "f990eab89753b25f4470443a9121e7793a88bf2f1cba52380c6652a80becbdea"), looks := false }, kinds := [], alts := [], laidByText := true, laidKinds := [.data, .data, .data, .data], laidTests := true, laidLooks := .later }
def ApartCardSaid : Prop := Claim7.holds Tryz.pinned (.plain (OpenSpec.ofChange apartSpec)) apartCard

/-- THE TIED CARD OF 'cellarlaw.Calls'. -/
def callsCard : Claim7 := { stood := { row := callsRow, standIns := [], harness := (true, "f990eab89753b25f4470443a9121e7793a88bf2f1cba52380c6652a80becbdea"), looks := false }, kinds := [], alts := [], laidByText := true, laidKinds := [.data, .data, .data, .data], laidTests := true, laidLooks := .later }
def CallsCardSaid : Prop := Claim7.holds Tryz.pinned (.plain (OpenSpec.ofChange callsSpec)) callsCard

/-- THE TIED CARD OF 'cellarkeep.Spelt'. -/
def speltCard : Claim7 := { stood := { row := speltRow, standIns := [], harness := (true, "f990eab89753b25f4470443a9121e7793a88bf2f1cba52380c6652a80becbdea"), looks := false }, kinds := [], alts := [], laidByText := true, laidKinds := [.data, .data, .data, .data], laidTests := true, laidLooks := .later }
def SpeltCardSaid : Prop := Claim7.holds Tryz.pinned (.plain (OpenSpec.ofChange speltSpec)) speltCard

/-- THE TIED CARD OF 'cellarkeep.Fueled'. -/
def fueledCard : Claim7 := { stood := { row := fueledRow, standIns := [], harness := (true, "f990eab89753b25f4470443a9121e7793a88bf2f1cba52380c6652a80becbdea"), looks := false }, kinds := [], alts := [], laidByText := true, laidKinds := [.data, .data, .data, .data], laidTests := true, laidLooks := .later }
def FueledCardSaid : Prop := Claim7.holds Tryz.pinned (.plain (OpenSpec.ofChange fueledSpec)) fueledCard

/-- THE TIED CARD OF 'cellarkeep.Alike'. -/
def alikeCard : Claim7 := { stood := { row := alikeRow, standIns := [], harness := (true, "f990eab89753b25f4470443a9121e7793a88bf2f1cba52380c6652a80becbdea"), looks := false }, kinds := [], alts := [], laidByText := true, laidKinds := [.data, .data, .data, .data], laidTests := true, laidLooks := .later }
def AlikeCardSaid : Prop := Claim7.holds Tryz.pinned (.plain (OpenSpec.ofChange alikeSpec)) alikeCard

/-- THE TIED CARD OF 'cellarkeep.Refused'. -/
def refusedCard : Claim7 := { stood := { row := refusedRow, standIns := [], harness := (true, "f990eab89753b25f4470443a9121e7793a88bf2f1cba52380c6652a80becbdea"), looks := false }, kinds := [], alts := [], laidByText := true, laidKinds := [.data, .data, .data, .data], laidTests := true, laidLooks := .later }
def RefusedCardSaid : Prop := Claim7.holds Tryz.pinned (.plain (OpenSpec.ofChange refusedSpec)) refusedCard

/-- THE TIED CARD OF 'cellarkeep.Summed'. -/
def summedCard : Claim7 := { stood := { row := summedRow, standIns := [], harness := (true, "f990eab89753b25f4470443a9121e7793a88bf2f1cba52380c6652a80becbdea"), looks := false }, kinds := [], alts := [], laidByText := true, laidKinds := [.data, .data, .data, .data], laidTests := true, laidLooks := .later }
def SummedCardSaid : Prop := Claim7.holds Tryz.pinned (.plain (OpenSpec.ofChange summedSpec)) summedCard

/-- THE SECOND FORM's CARD OF 'cellarlaw.Keeps'. -/
def keepsUptoCard : Claim7 := { stood := { row := keepsUptoRow, standIns := [], harness := (true, "f990eab89753b25f4470443a9121e7793a88bf2f1cba52380c6652a80becbdea"), looks := false }, kinds := [], alts := [], laidByText := true, laidKinds := [.data, .data, .data, .data], laidTests := true, laidLooks := .later }
def KeepsUptoCardSaid : Prop := Claim7.holds Tryz.pinned (.plain (OpenSpec.upto keepsSpec)) keepsUptoCard

/-- THE SECOND FORM's CARD OF 'cellarlaw.Installs'. -/
def installsUptoCard : Claim7 := { stood := { row := installsUptoRow, standIns := [], harness := (true, "f990eab89753b25f4470443a9121e7793a88bf2f1cba52380c6652a80becbdea"), looks := false }, kinds := [], alts := [], laidByText := true, laidKinds := [.data, .data, .data, .data], laidTests := true, laidLooks := .later }
def InstallsUptoCardSaid : Prop := Claim7.holds Tryz.pinned (.plain (OpenSpec.upto installsSpec)) installsUptoCard

/-- THE SECOND FORM's CARD OF 'cellarkeep.Apart'. -/
def apartUptoCard : Claim7 := { stood := { row := apartUptoRow, standIns := [], harness := (true, "f990eab89753b25f4470443a9121e7793a88bf2f1cba52380c6652a80becbdea"), looks := false }, kinds := [], alts := [], laidByText := true, laidKinds := [.data, .data, .data, .data], laidTests := true, laidLooks := .later }
def ApartUptoCardSaid : Prop := Claim7.holds Tryz.pinned (.plain (OpenSpec.upto apartSpec)) apartUptoCard

/-- THE SECOND FORM's CARD OF 'cellarlaw.Calls'. -/
def callsUptoCard : Claim7 := { stood := { row := callsUptoRow, standIns := [], harness := (true, "f990eab89753b25f4470443a9121e7793a88bf2f1cba52380c6652a80becbdea"), looks := false }, kinds := [], alts := [], laidByText := true, laidKinds := [.data, .data, .data, .data], laidTests := true, laidLooks := .later }
def CallsUptoCardSaid : Prop := Claim7.holds Tryz.pinned (.plain (OpenSpec.upto callsSpec)) callsUptoCard

/-- THE SECOND FORM's CARD OF 'cellarkeep.Spelt'. -/
def speltUptoCard : Claim7 := { stood := { row := speltUptoRow, standIns := [], harness := (true, "f990eab89753b25f4470443a9121e7793a88bf2f1cba52380c6652a80becbdea"), looks := false }, kinds := [], alts := [], laidByText := true, laidKinds := [.data, .data, .data, .data], laidTests := true, laidLooks := .later }
def SpeltUptoCardSaid : Prop := Claim7.holds Tryz.pinned (.plain (OpenSpec.upto speltSpec)) speltUptoCard

/-- THE SECOND FORM's CARD OF 'cellarkeep.Fueled'. -/
def fueledUptoCard : Claim7 := { stood := { row := fueledUptoRow, standIns := [], harness := (true, "f990eab89753b25f4470443a9121e7793a88bf2f1cba52380c6652a80becbdea"), looks := false }, kinds := [], alts := [], laidByText := true, laidKinds := [.data, .data, .data, .data], laidTests := true, laidLooks := .later }
def FueledUptoCardSaid : Prop := Claim7.holds Tryz.pinned (.plain (OpenSpec.upto fueledSpec)) fueledUptoCard

/-- THE SECOND FORM's CARD OF 'cellarkeep.Alike'. -/
def alikeUptoCard : Claim7 := { stood := { row := alikeUptoRow, standIns := [], harness := (true, "f990eab89753b25f4470443a9121e7793a88bf2f1cba52380c6652a80becbdea"), looks := false }, kinds := [], alts := [], laidByText := true, laidKinds := [.data, .data, .data, .data], laidTests := true, laidLooks := .later }
def AlikeUptoCardSaid : Prop := Claim7.holds Tryz.pinned (.plain (OpenSpec.upto alikeSpec)) alikeUptoCard

/-- THE SECOND FORM's CARD OF 'cellarkeep.Refused'. -/
def refusedUptoCard : Claim7 := { stood := { row := refusedUptoRow, standIns := [], harness := (true, "f990eab89753b25f4470443a9121e7793a88bf2f1cba52380c6652a80becbdea"), looks := false }, kinds := [], alts := [], laidByText := true, laidKinds := [.data, .data, .data, .data], laidTests := true, laidLooks := .later }
def RefusedUptoCardSaid : Prop := Claim7.holds Tryz.pinned (.plain (OpenSpec.upto refusedSpec)) refusedUptoCard

/-- THE SECOND FORM's CARD OF 'cellarkeep.Summed'. -/
def summedUptoCard : Claim7 := { stood := { row := summedUptoRow, standIns := [], harness := (true, "f990eab89753b25f4470443a9121e7793a88bf2f1cba52380c6652a80becbdea"), looks := false }, kinds := [], alts := [], laidByText := true, laidKinds := [.data, .data, .data, .data], laidTests := true, laidLooks := .later }
def SummedUptoCardSaid : Prop := Claim7.holds Tryz.pinned (.plain (OpenSpec.upto summedSpec)) summedUptoCard
end Rows
end Go.Proofs.YtellilpeakpbfaaGreatDoor

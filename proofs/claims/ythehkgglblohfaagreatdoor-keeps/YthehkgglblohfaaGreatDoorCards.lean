/-
  DERIVED. GIVEN WITH THE SEED: THE CARDS: each row of YthehkgglblohfaaGreatDoorRows.lean that lists a variable, with what it lists TIED to the program's text (the seventh form; the later family's looks); each row that meets fmt, with fmt's text TOLD by the authors' own Lean function (tested against real Go, not proved from fmt's source: count such statements apart). THE CARD IS WHAT COUNTS. Prove the row's statement (the work); the ties are given (YthehkgglblohfaaGreatDoorTie.lean); close each card by the builder's one call (the guide's Derived/Test/ToyasCard.lean, 'card_holds'). Laid BY PROGRAM, IN A SANDBOX (cutbox-door.mjs). By AI agents, Wed Nov 11 2026. No macro, syntax, notation, axiom, sorry.
-/
import Derived.Test.YthehkgglblohfaaGreatDoorRows
import GoSem.ClaimSeven
namespace Go.Proofs.YthehkgglblohfaaGreatDoor
namespace Rows

/-- THE TIED CARD OF 'cellarlaw.Keeps'. -/
def keepsCard : Claim7 := { stood := { row := keepsRow, standIns := [], harness := (true, "327c2c16696f3af896d46f1e35f65edbcb8c3e23d181d7f6041b440caf0cdeb6"), looks := false }, kinds := [], alts := [], laidByText := true, laidKinds := [.data, .data, .data, .data], laidTests := true, laidLooks := .later }
def KeepsCardSaid : Prop := Claim7.holds Tryz.pinned (.plain (OpenSpec.ofChange keepsSpec)) keepsCard

/-- THE TIED CARD OF 'cellarlaw.Installs'. -/
def installsCard : Claim7 := { stood := { row := installsRow, standIns := [], harness := (true, "327c2c16696f3af896d46f1e35f65edbcb8c3e23d181d7f6041b440caf0cdeb6"), looks := false }, kinds := [], alts := [], laidByText := true, laidKinds := [.data, .data, .data, .data], laidTests := true, laidLooks := .later }
def InstallsCardSaid : Prop := Claim7.holds Tryz.pinned (.plain (OpenSpec.ofChange installsSpec)) installsCard

/-- THE SECOND FORM's CARD OF 'cellarlaw.Keeps'. -/
def keepsUptoCard : Claim7 := { stood := { row := keepsUptoRow, standIns := [], harness := (true, "327c2c16696f3af896d46f1e35f65edbcb8c3e23d181d7f6041b440caf0cdeb6"), looks := false }, kinds := [], alts := [], laidByText := true, laidKinds := [.data, .data, .data, .data], laidTests := true, laidLooks := .later }
def KeepsUptoCardSaid : Prop := Claim7.holds Tryz.pinned (.plain (OpenSpec.upto keepsSpec)) keepsUptoCard

/-- THE SECOND FORM's CARD OF 'cellarlaw.Installs'. -/
def installsUptoCard : Claim7 := { stood := { row := installsUptoRow, standIns := [], harness := (true, "327c2c16696f3af896d46f1e35f65edbcb8c3e23d181d7f6041b440caf0cdeb6"), looks := false }, kinds := [], alts := [], laidByText := true, laidKinds := [.data, .data, .data, .data], laidTests := true, laidLooks := .later }
def InstallsUptoCardSaid : Prop := Claim7.holds Tryz.pinned (.plain (OpenSpec.upto installsSpec)) installsUptoCard
end Rows
end Go.Proofs.YthehkgglblohfaaGreatDoor

/-
  DERIVED. GIVEN WITH THE SEED: THE CARDS: each row of YtellilpeakpbfabGreatDoorRows.lean that lists a variable, with what it lists TIED to the program's text (the seventh form; the later family's looks); each row that meets fmt, with fmt's text TOLD by the authors' own Lean function (tested against real Go, not proved from fmt's source: count such statements apart). THE CARD IS WHAT COUNTS. Prove the row's statement (the work); the ties are given (YtellilpeakpbfabGreatDoorTie.lean); close each card by the builder's one call (the guide's Derived/Test/ToyasCard.lean, 'card_holds'). Laid BY PROGRAM, IN A SANDBOX (cutbox-door.mjs). By AI agents, Wed Nov 11 2026. No macro, syntax, notation, axiom, sorry.
-/
import Derived.Test.YtellilpeakpbfabGreatDoorRows
import GoSem.ClaimSeven
namespace Go.Proofs.YtellilpeakpbfabGreatDoor
namespace Rows

/-- THE TIED CARD OF 'cellarkeep.Kept'. -/
def keptCard : Claim7 := { stood := { row := keptRow, standIns := [], harness := (true, "a2799e318dc1cd377bcd853f8c25ca5aa4d090cb3c47c0c4d65e245cb9b5561e"), looks := false }, kinds := [], alts := [], laidByText := true, laidKinds := [.data, .data, .data, .data], laidTests := true, laidLooks := .later }
def KeptCardSaid : Prop := Claim7.holds Tryz.pinned (.plain (OpenSpec.ofChange keptSpec)) keptCard

/-- THE TIED CARD OF 'cellarkeep.Whole'. -/
def wholeCard : Claim7 := { stood := { row := wholeRow, standIns := [], harness := (true, "a2799e318dc1cd377bcd853f8c25ca5aa4d090cb3c47c0c4d65e245cb9b5561e"), looks := false }, kinds := [], alts := [], laidByText := true, laidKinds := [.data, .data, .data, .data], laidTests := true, laidLooks := .later }
def WholeCardSaid : Prop := Claim7.holds Tryz.pinned (.plain (OpenSpec.ofChange wholeSpec)) wholeCard

/-- THE TIED CARD OF 'cellarkeep.Tight'. -/
def tightCard : Claim7 := { stood := { row := tightRow, standIns := [], harness := (true, "a2799e318dc1cd377bcd853f8c25ca5aa4d090cb3c47c0c4d65e245cb9b5561e"), looks := false }, kinds := [], alts := [], laidByText := true, laidKinds := [.data, .data, .data, .data], laidTests := true, laidLooks := .later }
def TightCardSaid : Prop := Claim7.holds Tryz.pinned (.plain (OpenSpec.ofChange tightSpec)) tightCard

/-- THE TIED CARD OF 'cellarkeep.Settled'. -/
def settledCard : Claim7 := { stood := { row := settledRow, standIns := [], harness := (true, "a2799e318dc1cd377bcd853f8c25ca5aa4d090cb3c47c0c4d65e245cb9b5561e"), looks := false }, kinds := [], alts := [], laidByText := true, laidKinds := [.data, .data, .data, .data], laidTests := true, laidLooks := .later }
def SettledCardSaid : Prop := Claim7.holds Tryz.pinned (.plain (OpenSpec.ofChange settledSpec)) settledCard

/-- THE TIED CARD OF 'cellarkeep.Ahead'. -/
def aheadCard : Claim7 := { stood := { row := aheadRow, standIns := [], harness := (true, "a2799e318dc1cd377bcd853f8c25ca5aa4d090cb3c47c0c4d65e245cb9b5561e"), looks := false }, kinds := [], alts := [], laidByText := true, laidKinds := [.data, .data, .data, .data], laidTests := true, laidLooks := .later }
def AheadCardSaid : Prop := Claim7.holds Tryz.pinned (.plain (OpenSpec.ofChange aheadSpec)) aheadCard

/-- THE TIED CARD OF 'cellarlaw.Lasts'. -/
def lastsCard : Claim7 := { stood := { row := lastsRow, standIns := [], harness := (true, "a2799e318dc1cd377bcd853f8c25ca5aa4d090cb3c47c0c4d65e245cb9b5561e"), looks := false }, kinds := [], alts := [], laidByText := true, laidKinds := [.data, .data, .data, .data], laidTests := true, laidLooks := .later }
def LastsCardSaid : Prop := Claim7.holds Tryz.pinned (.plain (OpenSpec.ofChange lastsSpec)) lastsCard

/-- THE TIED CARD OF 'cellarlaw.All'. -/
def allCard : Claim7 := { stood := { row := allRow, standIns := [], harness := (true, "a2799e318dc1cd377bcd853f8c25ca5aa4d090cb3c47c0c4d65e245cb9b5561e"), looks := false }, kinds := [], alts := [], laidByText := true, laidKinds := [.data, .data, .data, .data], laidTests := true, laidLooks := .later }
def AllCardSaid : Prop := Claim7.holds Tryz.pinned (.plain (OpenSpec.ofChange allSpec)) allCard

/-- THE SECOND FORM's CARD OF 'cellarkeep.Kept'. -/
def keptUptoCard : Claim7 := { stood := { row := keptUptoRow, standIns := [], harness := (true, "a2799e318dc1cd377bcd853f8c25ca5aa4d090cb3c47c0c4d65e245cb9b5561e"), looks := false }, kinds := [], alts := [], laidByText := true, laidKinds := [.data, .data, .data, .data], laidTests := true, laidLooks := .later }
def KeptUptoCardSaid : Prop := Claim7.holds Tryz.pinned (.plain (OpenSpec.upto keptSpec)) keptUptoCard

/-- THE SECOND FORM's CARD OF 'cellarkeep.Whole'. -/
def wholeUptoCard : Claim7 := { stood := { row := wholeUptoRow, standIns := [], harness := (true, "a2799e318dc1cd377bcd853f8c25ca5aa4d090cb3c47c0c4d65e245cb9b5561e"), looks := false }, kinds := [], alts := [], laidByText := true, laidKinds := [.data, .data, .data, .data], laidTests := true, laidLooks := .later }
def WholeUptoCardSaid : Prop := Claim7.holds Tryz.pinned (.plain (OpenSpec.upto wholeSpec)) wholeUptoCard

/-- THE SECOND FORM's CARD OF 'cellarkeep.Tight'. -/
def tightUptoCard : Claim7 := { stood := { row := tightUptoRow, standIns := [], harness := (true, "a2799e318dc1cd377bcd853f8c25ca5aa4d090cb3c47c0c4d65e245cb9b5561e"), looks := false }, kinds := [], alts := [], laidByText := true, laidKinds := [.data, .data, .data, .data], laidTests := true, laidLooks := .later }
def TightUptoCardSaid : Prop := Claim7.holds Tryz.pinned (.plain (OpenSpec.upto tightSpec)) tightUptoCard

/-- THE SECOND FORM's CARD OF 'cellarkeep.Settled'. -/
def settledUptoCard : Claim7 := { stood := { row := settledUptoRow, standIns := [], harness := (true, "a2799e318dc1cd377bcd853f8c25ca5aa4d090cb3c47c0c4d65e245cb9b5561e"), looks := false }, kinds := [], alts := [], laidByText := true, laidKinds := [.data, .data, .data, .data], laidTests := true, laidLooks := .later }
def SettledUptoCardSaid : Prop := Claim7.holds Tryz.pinned (.plain (OpenSpec.upto settledSpec)) settledUptoCard

/-- THE SECOND FORM's CARD OF 'cellarkeep.Ahead'. -/
def aheadUptoCard : Claim7 := { stood := { row := aheadUptoRow, standIns := [], harness := (true, "a2799e318dc1cd377bcd853f8c25ca5aa4d090cb3c47c0c4d65e245cb9b5561e"), looks := false }, kinds := [], alts := [], laidByText := true, laidKinds := [.data, .data, .data, .data], laidTests := true, laidLooks := .later }
def AheadUptoCardSaid : Prop := Claim7.holds Tryz.pinned (.plain (OpenSpec.upto aheadSpec)) aheadUptoCard

/-- THE SECOND FORM's CARD OF 'cellarlaw.Lasts'. -/
def lastsUptoCard : Claim7 := { stood := { row := lastsUptoRow, standIns := [], harness := (true, "a2799e318dc1cd377bcd853f8c25ca5aa4d090cb3c47c0c4d65e245cb9b5561e"), looks := false }, kinds := [], alts := [], laidByText := true, laidKinds := [.data, .data, .data, .data], laidTests := true, laidLooks := .later }
def LastsUptoCardSaid : Prop := Claim7.holds Tryz.pinned (.plain (OpenSpec.upto lastsSpec)) lastsUptoCard

/-- THE SECOND FORM's CARD OF 'cellarlaw.All'. -/
def allUptoCard : Claim7 := { stood := { row := allUptoRow, standIns := [], harness := (true, "a2799e318dc1cd377bcd853f8c25ca5aa4d090cb3c47c0c4d65e245cb9b5561e"), looks := false }, kinds := [], alts := [], laidByText := true, laidKinds := [.data, .data, .data, .data], laidTests := true, laidLooks := .later }
def AllUptoCardSaid : Prop := Claim7.holds Tryz.pinned (.plain (OpenSpec.upto allSpec)) allUptoCard
end Rows
end Go.Proofs.YtellilpeakpbfabGreatDoor

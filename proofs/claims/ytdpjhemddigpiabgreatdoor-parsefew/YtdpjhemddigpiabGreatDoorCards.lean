/-
  DERIVED. GIVEN WITH THE SEED: THE CARDS: each row of YtdpjhemddigpiabGreatDoorRows.lean that lists a variable, with what it lists TIED to the program's text (the seventh form; the later family's looks); each row that meets fmt, with fmt's text TOLD by the authors' own Lean function (tested against real Go, not proved from fmt's source: count such statements apart). THE CARD IS WHAT COUNTS. Prove the row's statement (the work); the ties are given (YtdpjhemddigpiabGreatDoorTie.lean); close each card by the builder's one call (the guide's Derived/Test/ToyasCard.lean, 'card_holds'). Laid BY PROGRAM, IN A SANDBOX (cutbox-door.mjs). By AI agents, Wed Nov 11 2026. No macro, syntax, notation, axiom, sorry.
-/
import Derived.Test.YtdpjhemddigpiabGreatDoorRows
import GoSem.ClaimSeven
namespace Go.Proofs.YtdpjhemddigpiabGreatDoor
namespace Rows

/-- THE TIED CARD OF 'underlaw3.ParseTells'. -/
def parseTellsCard : Claim7 := { stood := { row := parseTellsRow, standIns := [], harness := (true, "ee4d6a7340bb958fd428875eb56d211ab871a7757b2a5e2b3f2fb4e7d3ded716"), looks := true }, kinds := [], alts := [], laidByText := true, laidKinds := [.data, .data, .data, .sentinel, .sentinel], laidTests := true, laidLooks := .later }
def ParseTellsCardSaid : Prop := Claim7.holds Tryz.pinned (.plain (OpenSpec.ofChange parseTellsSpec)) parseTellsCard

/-- THE TIED CARD OF 'underlaw3.ParseAgain'. -/
def parseAgainCard : Claim7 := { stood := { row := parseAgainRow, standIns := [], harness := (true, "ee4d6a7340bb958fd428875eb56d211ab871a7757b2a5e2b3f2fb4e7d3ded716"), looks := true }, kinds := [], alts := [], laidByText := true, laidKinds := [.data, .data, .data, .sentinel, .sentinel], laidTests := true, laidLooks := .later }
def ParseAgainCardSaid : Prop := Claim7.holds Tryz.pinned (.plain (OpenSpec.ofChange parseAgainSpec)) parseAgainCard

/-- THE TIED CARD OF 'underlaw3.ParseFew'. -/
def parseFewCard : Claim7 := { stood := { row := parseFewRow, standIns := [], harness := (true, "ee4d6a7340bb958fd428875eb56d211ab871a7757b2a5e2b3f2fb4e7d3ded716"), looks := true }, kinds := [], alts := [], laidByText := true, laidKinds := [.data, .data, .data, .sentinel, .sentinel], laidTests := true, laidLooks := .later }
def ParseFewCardSaid : Prop := Claim7.holds Tryz.pinned (.plain (OpenSpec.ofChange parseFewSpec)) parseFewCard

/-- THE TIED CARD OF 'underlaw3.ParseWhole'. -/
def parseWholeCard : Claim7 := { stood := { row := parseWholeRow, standIns := [], harness := (true, "ee4d6a7340bb958fd428875eb56d211ab871a7757b2a5e2b3f2fb4e7d3ded716"), looks := true }, kinds := [], alts := [], laidByText := true, laidKinds := [.data, .data, .data, .sentinel, .sentinel], laidTests := true, laidLooks := .later }
def ParseWholeCardSaid : Prop := Claim7.holds Tryz.pinned (.plain (OpenSpec.ofChange parseWholeSpec)) parseWholeCard

/-- THE TIED CARD OF 'underlaw3.ParseBad'. -/
def parseBadCard : Claim7 := { stood := { row := parseBadRow, standIns := [], harness := (true, "ee4d6a7340bb958fd428875eb56d211ab871a7757b2a5e2b3f2fb4e7d3ded716"), looks := true }, kinds := [], alts := [], laidByText := true, laidKinds := [.data, .data, .data, .sentinel, .sentinel], laidTests := true, laidLooks := .later }
def ParseBadCardSaid : Prop := Claim7.holds Tryz.pinned (.plain (OpenSpec.ofChange parseBadSpec)) parseBadCard

/-- THE TIED CARD OF 'underlaw4.NamesTells'. -/
def namesTellsCard : Claim7 := { stood := { row := namesTellsRow, standIns := [], harness := (true, "ee4d6a7340bb958fd428875eb56d211ab871a7757b2a5e2b3f2fb4e7d3ded716"), looks := true }, kinds := [], alts := [], laidByText := true, laidKinds := [.data, .data, .data, .sentinel, .sentinel], laidTests := true, laidLooks := .later }
def NamesTellsCardSaid : Prop := Claim7.holds Tryz.pinned (.plain (OpenSpec.ofChange namesTellsSpec)) namesTellsCard

/-- THE SECOND FORM's CARD OF 'underlaw3.ParseTells'. -/
def parseTellsUptoCard : Claim7 := { stood := { row := parseTellsUptoRow, standIns := [], harness := (true, "ee4d6a7340bb958fd428875eb56d211ab871a7757b2a5e2b3f2fb4e7d3ded716"), looks := true }, kinds := [], alts := [], laidByText := true, laidKinds := [.data, .data, .data, .sentinel, .sentinel], laidTests := true, laidLooks := .later }
def ParseTellsUptoCardSaid : Prop := Claim7.holds Tryz.pinned (.plain (OpenSpec.upto parseTellsSpec)) parseTellsUptoCard

/-- THE SECOND FORM's CARD OF 'underlaw3.ParseAgain'. -/
def parseAgainUptoCard : Claim7 := { stood := { row := parseAgainUptoRow, standIns := [], harness := (true, "ee4d6a7340bb958fd428875eb56d211ab871a7757b2a5e2b3f2fb4e7d3ded716"), looks := true }, kinds := [], alts := [], laidByText := true, laidKinds := [.data, .data, .data, .sentinel, .sentinel], laidTests := true, laidLooks := .later }
def ParseAgainUptoCardSaid : Prop := Claim7.holds Tryz.pinned (.plain (OpenSpec.upto parseAgainSpec)) parseAgainUptoCard

/-- THE SECOND FORM's CARD OF 'underlaw3.ParseFew'. -/
def parseFewUptoCard : Claim7 := { stood := { row := parseFewUptoRow, standIns := [], harness := (true, "ee4d6a7340bb958fd428875eb56d211ab871a7757b2a5e2b3f2fb4e7d3ded716"), looks := true }, kinds := [], alts := [], laidByText := true, laidKinds := [.data, .data, .data, .sentinel, .sentinel], laidTests := true, laidLooks := .later }
def ParseFewUptoCardSaid : Prop := Claim7.holds Tryz.pinned (.plain (OpenSpec.upto parseFewSpec)) parseFewUptoCard

/-- THE SECOND FORM's CARD OF 'underlaw3.ParseWhole'. -/
def parseWholeUptoCard : Claim7 := { stood := { row := parseWholeUptoRow, standIns := [], harness := (true, "ee4d6a7340bb958fd428875eb56d211ab871a7757b2a5e2b3f2fb4e7d3ded716"), looks := true }, kinds := [], alts := [], laidByText := true, laidKinds := [.data, .data, .data, .sentinel, .sentinel], laidTests := true, laidLooks := .later }
def ParseWholeUptoCardSaid : Prop := Claim7.holds Tryz.pinned (.plain (OpenSpec.upto parseWholeSpec)) parseWholeUptoCard

/-- THE SECOND FORM's CARD OF 'underlaw3.ParseBad'. -/
def parseBadUptoCard : Claim7 := { stood := { row := parseBadUptoRow, standIns := [], harness := (true, "ee4d6a7340bb958fd428875eb56d211ab871a7757b2a5e2b3f2fb4e7d3ded716"), looks := true }, kinds := [], alts := [], laidByText := true, laidKinds := [.data, .data, .data, .sentinel, .sentinel], laidTests := true, laidLooks := .later }
def ParseBadUptoCardSaid : Prop := Claim7.holds Tryz.pinned (.plain (OpenSpec.upto parseBadSpec)) parseBadUptoCard

/-- THE SECOND FORM's CARD OF 'underlaw4.NamesTells'. -/
def namesTellsUptoCard : Claim7 := { stood := { row := namesTellsUptoRow, standIns := [], harness := (true, "ee4d6a7340bb958fd428875eb56d211ab871a7757b2a5e2b3f2fb4e7d3ded716"), looks := true }, kinds := [], alts := [], laidByText := true, laidKinds := [.data, .data, .data, .sentinel, .sentinel], laidTests := true, laidLooks := .later }
def NamesTellsUptoCardSaid : Prop := Claim7.holds Tryz.pinned (.plain (OpenSpec.upto namesTellsSpec)) namesTellsUptoCard
end Rows
end Go.Proofs.YtdpjhemddigpiabGreatDoor

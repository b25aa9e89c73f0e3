/-
  DERIVED. GIVEN WITH THE SEED: THE CARDS: each row of YtfioihehhlpgcaaGreatDoorRows.lean that lists a variable, with what it lists TIED to the program's text (the seventh form; the later family's looks); each row that meets fmt, with fmt's text TOLD by the authors' own Lean function (tested against real Go, not proved from fmt's source: count such statements apart). THE CARD IS WHAT COUNTS. Prove the row's statement (the work); the ties are given (YtfioihehhlpgcaaGreatDoorTie.lean); close each card by the builder's one call (the guide's Derived/Test/ToyasCard.lean, 'card_holds'). Laid BY PROGRAM, IN A SANDBOX (cutbox-door.mjs). By AI agents, Wed Nov 11 2026. No macro, syntax, notation, axiom, sorry.
-/
import Derived.Test.YtfioihehhlpgcaaGreatDoorRows
import GoSem.ClaimSeven
namespace Go.Proofs.YtfioihehhlpgcaaGreatDoor
namespace Rows

/-- THE TIED CARD OF 'underlaw5.EffectLeast'. -/
def effectLeastCard : Claim7 := { stood := { row := effectLeastRow, standIns := [], harness := (true, "e31fe1c86f71ec7a49bc44728248859183fda6c358b719b6e902886c2737fc61"), looks := true }, kinds := [], alts := [], laidByText := true, laidKinds := [.data, .data, .data, .sentinel, .sentinel], laidTests := true, laidLooks := .later }
def EffectLeastCardSaid : Prop := Claim7.holds Tryz.pinned (.plain (OpenSpec.ofChange effectLeastSpec)) effectLeastCard

/-- THE TIED CARD OF 'underlaw7.RunSends'. -/
def runSendsCard : Claim7 := { stood := { row := runSendsRow, standIns := [], harness := (true, "e31fe1c86f71ec7a49bc44728248859183fda6c358b719b6e902886c2737fc61"), looks := true }, kinds := [], alts := [], laidByText := true, laidKinds := [.data, .data, .data, .sentinel, .sentinel], laidTests := true, laidLooks := .later }
def RunSendsCardSaid : Prop := Claim7.holds Tryz.pinned (.plain (OpenSpec.ofChange runSendsSpec)) runSendsCard

/-- THE TIED CARD OF 'underlaw7.RunBad'. -/
def runBadCard : Claim7 := { stood := { row := runBadRow, standIns := [], harness := (true, "e31fe1c86f71ec7a49bc44728248859183fda6c358b719b6e902886c2737fc61"), looks := true }, kinds := [], alts := [], laidByText := true, laidKinds := [.data, .data, .data, .sentinel, .sentinel], laidTests := true, laidLooks := .later }
def RunBadCardSaid : Prop := Claim7.holds Tryz.pinned (.plain (OpenSpec.ofChange runBadSpec)) runBadCard

/-- THE TIED CARD OF 'underlaw7.RunSeen'. -/
def runSeenCard : Claim7 := { stood := { row := runSeenRow, standIns := [], harness := (true, "e31fe1c86f71ec7a49bc44728248859183fda6c358b719b6e902886c2737fc61"), looks := true }, kinds := [], alts := [], laidByText := true, laidKinds := [.data, .data, .data, .sentinel, .sentinel], laidTests := true, laidLooks := .later }
def RunSeenCardSaid : Prop := Claim7.holds Tryz.pinned (.plain (OpenSpec.ofChange runSeenSpec)) runSeenCard

/-- THE TIED CARD OF 'underlaw8.InferFits'. -/
def inferFitsCard : Claim7 := { stood := { row := inferFitsRow, standIns := [], harness := (true, "e31fe1c86f71ec7a49bc44728248859183fda6c358b719b6e902886c2737fc61"), looks := true }, kinds := [], alts := [], laidByText := true, laidKinds := [.data, .data, .data, .sentinel, .sentinel], laidTests := true, laidLooks := .later }
def InferFitsCardSaid : Prop := Claim7.holds Tryz.pinned (.plain (OpenSpec.ofChange inferFitsSpec)) inferFitsCard

/-- THE TIED CARD OF 'underlaw8.InferTwice'. -/
def inferTwiceCard : Claim7 := { stood := { row := inferTwiceRow, standIns := [], harness := (true, "e31fe1c86f71ec7a49bc44728248859183fda6c358b719b6e902886c2737fc61"), looks := true }, kinds := [], alts := [], laidByText := true, laidKinds := [.data, .data, .data, .sentinel, .sentinel], laidTests := true, laidLooks := .later }
def InferTwiceCardSaid : Prop := Claim7.holds Tryz.pinned (.plain (OpenSpec.ofChange inferTwiceSpec)) inferTwiceCard

/-- THE SECOND FORM's CARD OF 'underlaw5.EffectLeast'. -/
def effectLeastUptoCard : Claim7 := { stood := { row := effectLeastUptoRow, standIns := [], harness := (true, "e31fe1c86f71ec7a49bc44728248859183fda6c358b719b6e902886c2737fc61"), looks := true }, kinds := [], alts := [], laidByText := true, laidKinds := [.data, .data, .data, .sentinel, .sentinel], laidTests := true, laidLooks := .later }
def EffectLeastUptoCardSaid : Prop := Claim7.holds Tryz.pinned (.plain (OpenSpec.upto effectLeastSpec)) effectLeastUptoCard

/-- THE SECOND FORM's CARD OF 'underlaw7.RunSends'. -/
def runSendsUptoCard : Claim7 := { stood := { row := runSendsUptoRow, standIns := [], harness := (true, "e31fe1c86f71ec7a49bc44728248859183fda6c358b719b6e902886c2737fc61"), looks := true }, kinds := [], alts := [], laidByText := true, laidKinds := [.data, .data, .data, .sentinel, .sentinel], laidTests := true, laidLooks := .later }
def RunSendsUptoCardSaid : Prop := Claim7.holds Tryz.pinned (.plain (OpenSpec.upto runSendsSpec)) runSendsUptoCard

/-- THE SECOND FORM's CARD OF 'underlaw7.RunBad'. -/
def runBadUptoCard : Claim7 := { stood := { row := runBadUptoRow, standIns := [], harness := (true, "e31fe1c86f71ec7a49bc44728248859183fda6c358b719b6e902886c2737fc61"), looks := true }, kinds := [], alts := [], laidByText := true, laidKinds := [.data, .data, .data, .sentinel, .sentinel], laidTests := true, laidLooks := .later }
def RunBadUptoCardSaid : Prop := Claim7.holds Tryz.pinned (.plain (OpenSpec.upto runBadSpec)) runBadUptoCard

/-- THE SECOND FORM's CARD OF 'underlaw7.RunSeen'. -/
def runSeenUptoCard : Claim7 := { stood := { row := runSeenUptoRow, standIns := [], harness := (true, "e31fe1c86f71ec7a49bc44728248859183fda6c358b719b6e902886c2737fc61"), looks := true }, kinds := [], alts := [], laidByText := true, laidKinds := [.data, .data, .data, .sentinel, .sentinel], laidTests := true, laidLooks := .later }
def RunSeenUptoCardSaid : Prop := Claim7.holds Tryz.pinned (.plain (OpenSpec.upto runSeenSpec)) runSeenUptoCard

/-- THE SECOND FORM's CARD OF 'underlaw8.InferFits'. -/
def inferFitsUptoCard : Claim7 := { stood := { row := inferFitsUptoRow, standIns := [], harness := (true, "e31fe1c86f71ec7a49bc44728248859183fda6c358b719b6e902886c2737fc61"), looks := true }, kinds := [], alts := [], laidByText := true, laidKinds := [.data, .data, .data, .sentinel, .sentinel], laidTests := true, laidLooks := .later }
def InferFitsUptoCardSaid : Prop := Claim7.holds Tryz.pinned (.plain (OpenSpec.upto inferFitsSpec)) inferFitsUptoCard

/-- THE SECOND FORM's CARD OF 'underlaw8.InferTwice'. -/
def inferTwiceUptoCard : Claim7 := { stood := { row := inferTwiceUptoRow, standIns := [], harness := (true, "e31fe1c86f71ec7a49bc44728248859183fda6c358b719b6e902886c2737fc61"), looks := true }, kinds := [], alts := [], laidByText := true, laidKinds := [.data, .data, .data, .sentinel, .sentinel], laidTests := true, laidLooks := .later }
def InferTwiceUptoCardSaid : Prop := Claim7.holds Tryz.pinned (.plain (OpenSpec.upto inferTwiceSpec)) inferTwiceUptoCard
end Rows
end Go.Proofs.YtfioihehhlpgcaaGreatDoor

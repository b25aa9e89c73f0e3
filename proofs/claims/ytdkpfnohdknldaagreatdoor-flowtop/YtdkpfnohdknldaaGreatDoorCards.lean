/-
  DERIVED. GIVEN WITH THE SEED: THE CARDS: each row of YtdkpfnohdknldaaGreatDoorRows.lean that lists a variable, with what it lists TIED to the program's text (the seventh form; the later family's looks); each row that meets fmt, with fmt's text TOLD by the authors' own Lean function (tested against real Go, not proved from fmt's source: count such statements apart). THE CARD IS WHAT COUNTS. Prove the row's statement (the work); the ties are given (YtdkpfnohdknldaaGreatDoorTie.lean); close each card by the builder's one call (the guide's Derived/Test/ToyasCard.lean, 'card_holds'). Laid BY PROGRAM, IN A SANDBOX (cutbox-door.mjs). By AI agents, Wed Nov 11 2026. No macro, syntax, notation, axiom, sorry.
-/
import Derived.Test.YtdkpfnohdknldaaGreatDoorRows
import GoSem.ClaimSeven
namespace Go.Proofs.YtdkpfnohdknldaaGreatDoor
namespace Rows

/-- THE TIED CARD OF 'underlaw5.EffectLeast'. -/
def effectLeastCard : Claim7 := { stood := { row := effectLeastRow, standIns := [], harness := (true, "ab846b10e0873c63e670b94ca6d01f62c1d6de47dd3b7a98ba784352faba6d15"), looks := true }, kinds := [], alts := [], laidByText := true, laidKinds := [.data, .data, .data, .sentinel, .sentinel], laidTests := true, laidLooks := .later }
def EffectLeastCardSaid : Prop := Claim7.holds Tryz.pinned (.plain (OpenSpec.ofChange effectLeastSpec)) effectLeastCard

/-- THE TIED CARD OF 'underlaw6.FlowTells'. -/
def flowTellsCard : Claim7 := { stood := { row := flowTellsRow, standIns := [], harness := (true, "ab846b10e0873c63e670b94ca6d01f62c1d6de47dd3b7a98ba784352faba6d15"), looks := true }, kinds := [], alts := [], laidByText := true, laidKinds := [.data, .data, .data, .sentinel, .sentinel], laidTests := true, laidLooks := .later }
def FlowTellsCardSaid : Prop := Claim7.holds Tryz.pinned (.plain (OpenSpec.ofChange flowTellsSpec)) flowTellsCard

/-- THE TIED CARD OF 'underlaw6.FlowTop'. -/
def flowTopCard : Claim7 := { stood := { row := flowTopRow, standIns := [], harness := (true, "ab846b10e0873c63e670b94ca6d01f62c1d6de47dd3b7a98ba784352faba6d15"), looks := true }, kinds := [], alts := [], laidByText := true, laidKinds := [.data, .data, .data, .sentinel, .sentinel], laidTests := true, laidLooks := .later }
def FlowTopCardSaid : Prop := Claim7.holds Tryz.pinned (.plain (OpenSpec.ofChange flowTopSpec)) flowTopCard

/-- THE TIED CARD OF 'underlaw7.RunSends'. -/
def runSendsCard : Claim7 := { stood := { row := runSendsRow, standIns := [], harness := (true, "ab846b10e0873c63e670b94ca6d01f62c1d6de47dd3b7a98ba784352faba6d15"), looks := true }, kinds := [], alts := [], laidByText := true, laidKinds := [.data, .data, .data, .sentinel, .sentinel], laidTests := true, laidLooks := .later }
def RunSendsCardSaid : Prop := Claim7.holds Tryz.pinned (.plain (OpenSpec.ofChange runSendsSpec)) runSendsCard

/-- THE TIED CARD OF 'underlaw7.RunBad'. -/
def runBadCard : Claim7 := { stood := { row := runBadRow, standIns := [], harness := (true, "ab846b10e0873c63e670b94ca6d01f62c1d6de47dd3b7a98ba784352faba6d15"), looks := true }, kinds := [], alts := [], laidByText := true, laidKinds := [.data, .data, .data, .sentinel, .sentinel], laidTests := true, laidLooks := .later }
def RunBadCardSaid : Prop := Claim7.holds Tryz.pinned (.plain (OpenSpec.ofChange runBadSpec)) runBadCard

/-- THE TIED CARD OF 'underlaw7.RunSeen'. -/
def runSeenCard : Claim7 := { stood := { row := runSeenRow, standIns := [], harness := (true, "ab846b10e0873c63e670b94ca6d01f62c1d6de47dd3b7a98ba784352faba6d15"), looks := true }, kinds := [], alts := [], laidByText := true, laidKinds := [.data, .data, .data, .sentinel, .sentinel], laidTests := true, laidLooks := .later }
def RunSeenCardSaid : Prop := Claim7.holds Tryz.pinned (.plain (OpenSpec.ofChange runSeenSpec)) runSeenCard

/-- THE SECOND FORM's CARD OF 'underlaw5.EffectLeast'. -/
def effectLeastUptoCard : Claim7 := { stood := { row := effectLeastUptoRow, standIns := [], harness := (true, "ab846b10e0873c63e670b94ca6d01f62c1d6de47dd3b7a98ba784352faba6d15"), looks := true }, kinds := [], alts := [], laidByText := true, laidKinds := [.data, .data, .data, .sentinel, .sentinel], laidTests := true, laidLooks := .later }
def EffectLeastUptoCardSaid : Prop := Claim7.holds Tryz.pinned (.plain (OpenSpec.upto effectLeastSpec)) effectLeastUptoCard

/-- THE SECOND FORM's CARD OF 'underlaw6.FlowTells'. -/
def flowTellsUptoCard : Claim7 := { stood := { row := flowTellsUptoRow, standIns := [], harness := (true, "ab846b10e0873c63e670b94ca6d01f62c1d6de47dd3b7a98ba784352faba6d15"), looks := true }, kinds := [], alts := [], laidByText := true, laidKinds := [.data, .data, .data, .sentinel, .sentinel], laidTests := true, laidLooks := .later }
def FlowTellsUptoCardSaid : Prop := Claim7.holds Tryz.pinned (.plain (OpenSpec.upto flowTellsSpec)) flowTellsUptoCard

/-- THE SECOND FORM's CARD OF 'underlaw6.FlowTop'. -/
def flowTopUptoCard : Claim7 := { stood := { row := flowTopUptoRow, standIns := [], harness := (true, "ab846b10e0873c63e670b94ca6d01f62c1d6de47dd3b7a98ba784352faba6d15"), looks := true }, kinds := [], alts := [], laidByText := true, laidKinds := [.data, .data, .data, .sentinel, .sentinel], laidTests := true, laidLooks := .later }
def FlowTopUptoCardSaid : Prop := Claim7.holds Tryz.pinned (.plain (OpenSpec.upto flowTopSpec)) flowTopUptoCard

/-- THE SECOND FORM's CARD OF 'underlaw7.RunSends'. -/
def runSendsUptoCard : Claim7 := { stood := { row := runSendsUptoRow, standIns := [], harness := (true, "ab846b10e0873c63e670b94ca6d01f62c1d6de47dd3b7a98ba784352faba6d15"), looks := true }, kinds := [], alts := [], laidByText := true, laidKinds := [.data, .data, .data, .sentinel, .sentinel], laidTests := true, laidLooks := .later }
def RunSendsUptoCardSaid : Prop := Claim7.holds Tryz.pinned (.plain (OpenSpec.upto runSendsSpec)) runSendsUptoCard

/-- THE SECOND FORM's CARD OF 'underlaw7.RunBad'. -/
def runBadUptoCard : Claim7 := { stood := { row := runBadUptoRow, standIns := [], harness := (true, "ab846b10e0873c63e670b94ca6d01f62c1d6de47dd3b7a98ba784352faba6d15"), looks := true }, kinds := [], alts := [], laidByText := true, laidKinds := [.data, .data, .data, .sentinel, .sentinel], laidTests := true, laidLooks := .later }
def RunBadUptoCardSaid : Prop := Claim7.holds Tryz.pinned (.plain (OpenSpec.upto runBadSpec)) runBadUptoCard

/-- THE SECOND FORM's CARD OF 'underlaw7.RunSeen'. -/
def runSeenUptoCard : Claim7 := { stood := { row := runSeenUptoRow, standIns := [], harness := (true, "ab846b10e0873c63e670b94ca6d01f62c1d6de47dd3b7a98ba784352faba6d15"), looks := true }, kinds := [], alts := [], laidByText := true, laidKinds := [.data, .data, .data, .sentinel, .sentinel], laidTests := true, laidLooks := .later }
def RunSeenUptoCardSaid : Prop := Claim7.holds Tryz.pinned (.plain (OpenSpec.upto runSeenSpec)) runSeenUptoCard
end Rows
end Go.Proofs.YtdkpfnohdknldaaGreatDoor

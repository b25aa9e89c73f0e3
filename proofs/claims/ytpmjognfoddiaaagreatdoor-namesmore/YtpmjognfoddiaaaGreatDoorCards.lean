/-
  DERIVED. GIVEN WITH THE SEED: THE CARDS: each row of YtpmjognfoddiaaaGreatDoorRows.lean that lists a variable, with what it lists TIED to the program's text (the seventh form; the later family's looks); each row that meets fmt, with fmt's text TOLD by the authors' own Lean function (tested against real Go, not proved from fmt's source: count such statements apart). THE CARD IS WHAT COUNTS. Prove the row's statement (the work); the ties are given (YtpmjognfoddiaaaGreatDoorTie.lean); close each card by the builder's one call (the guide's Derived/Test/ToyasCard.lean, 'card_holds'). Laid BY PROGRAM, IN A SANDBOX (cutbox-door.mjs). By AI agents, Wed Nov 11 2026. No macro, syntax, notation, axiom, sorry.
-/
import Derived.Test.YtpmjognfoddiaaaGreatDoorRows
import GoSem.ClaimSeven
namespace Go.Proofs.YtpmjognfoddiaaaGreatDoor
namespace Rows

/-- THE TIED CARD OF 'underlaw4.NamesTells'. -/
def namesTellsCard : Claim7 := { stood := { row := namesTellsRow, standIns := [], harness := (true, "1707f3e411cca6952a4cb4d84d4d01bd068a59a10bc728ee983b4d9eee9720b9"), looks := true }, kinds := [], alts := [], laidByText := true, laidKinds := [.data, .data, .data, .sentinel, .sentinel], laidTests := true, laidLooks := .later }
def NamesTellsCardSaid : Prop := Claim7.holds Tryz.pinned (.plain (OpenSpec.ofChange namesTellsSpec)) namesTellsCard

/-- THE TIED CARD OF 'underlaw4.NamesUses'. -/
def namesUsesCard : Claim7 := { stood := { row := namesUsesRow, standIns := [], harness := (true, "1707f3e411cca6952a4cb4d84d4d01bd068a59a10bc728ee983b4d9eee9720b9"), looks := true }, kinds := [], alts := [], laidByText := true, laidKinds := [.data, .data, .data, .sentinel, .sentinel], laidTests := true, laidLooks := .later }
def NamesUsesCardSaid : Prop := Claim7.holds Tryz.pinned (.plain (OpenSpec.ofChange namesUsesSpec)) namesUsesCard

/-- THE TIED CARD OF 'underlaw4.NamesMore'. -/
def namesMoreCard : Claim7 := { stood := { row := namesMoreRow, standIns := [], harness := (true, "1707f3e411cca6952a4cb4d84d4d01bd068a59a10bc728ee983b4d9eee9720b9"), looks := true }, kinds := [], alts := [], laidByText := true, laidKinds := [.data, .data, .data, .sentinel, .sentinel], laidTests := true, laidLooks := .later }
def NamesMoreCardSaid : Prop := Claim7.holds Tryz.pinned (.plain (OpenSpec.ofChange namesMoreSpec)) namesMoreCard

/-- THE TIED CARD OF 'underlaw5.EffectLeast'. -/
def effectLeastCard : Claim7 := { stood := { row := effectLeastRow, standIns := [], harness := (true, "1707f3e411cca6952a4cb4d84d4d01bd068a59a10bc728ee983b4d9eee9720b9"), looks := true }, kinds := [], alts := [], laidByText := true, laidKinds := [.data, .data, .data, .sentinel, .sentinel], laidTests := true, laidLooks := .later }
def EffectLeastCardSaid : Prop := Claim7.holds Tryz.pinned (.plain (OpenSpec.ofChange effectLeastSpec)) effectLeastCard

/-- THE SECOND FORM's CARD OF 'underlaw4.NamesTells'. -/
def namesTellsUptoCard : Claim7 := { stood := { row := namesTellsUptoRow, standIns := [], harness := (true, "1707f3e411cca6952a4cb4d84d4d01bd068a59a10bc728ee983b4d9eee9720b9"), looks := true }, kinds := [], alts := [], laidByText := true, laidKinds := [.data, .data, .data, .sentinel, .sentinel], laidTests := true, laidLooks := .later }
def NamesTellsUptoCardSaid : Prop := Claim7.holds Tryz.pinned (.plain (OpenSpec.upto namesTellsSpec)) namesTellsUptoCard

/-- THE SECOND FORM's CARD OF 'underlaw4.NamesUses'. -/
def namesUsesUptoCard : Claim7 := { stood := { row := namesUsesUptoRow, standIns := [], harness := (true, "1707f3e411cca6952a4cb4d84d4d01bd068a59a10bc728ee983b4d9eee9720b9"), looks := true }, kinds := [], alts := [], laidByText := true, laidKinds := [.data, .data, .data, .sentinel, .sentinel], laidTests := true, laidLooks := .later }
def NamesUsesUptoCardSaid : Prop := Claim7.holds Tryz.pinned (.plain (OpenSpec.upto namesUsesSpec)) namesUsesUptoCard

/-- THE SECOND FORM's CARD OF 'underlaw4.NamesMore'. -/
def namesMoreUptoCard : Claim7 := { stood := { row := namesMoreUptoRow, standIns := [], harness := (true, "1707f3e411cca6952a4cb4d84d4d01bd068a59a10bc728ee983b4d9eee9720b9"), looks := true }, kinds := [], alts := [], laidByText := true, laidKinds := [.data, .data, .data, .sentinel, .sentinel], laidTests := true, laidLooks := .later }
def NamesMoreUptoCardSaid : Prop := Claim7.holds Tryz.pinned (.plain (OpenSpec.upto namesMoreSpec)) namesMoreUptoCard

/-- THE SECOND FORM's CARD OF 'underlaw5.EffectLeast'. -/
def effectLeastUptoCard : Claim7 := { stood := { row := effectLeastUptoRow, standIns := [], harness := (true, "1707f3e411cca6952a4cb4d84d4d01bd068a59a10bc728ee983b4d9eee9720b9"), looks := true }, kinds := [], alts := [], laidByText := true, laidKinds := [.data, .data, .data, .sentinel, .sentinel], laidTests := true, laidLooks := .later }
def EffectLeastUptoCardSaid : Prop := Claim7.holds Tryz.pinned (.plain (OpenSpec.upto effectLeastSpec)) effectLeastUptoCard
end Rows
end Go.Proofs.YtpmjognfoddiaaaGreatDoor

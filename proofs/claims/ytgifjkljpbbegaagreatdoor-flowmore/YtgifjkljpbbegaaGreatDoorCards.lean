/-
  DERIVED. GIVEN WITH THE SEED: THE CARDS: each row of YtgifjkljpbbegaaGreatDoorRows.lean that lists a variable, with what it lists TIED to the program's text (the seventh form; the later family's looks); each row that meets fmt, with fmt's text TOLD by the authors' own Lean function (tested against real Go, not proved from fmt's source: count such statements apart). THE CARD IS WHAT COUNTS. Prove the row's statement (the work); the ties are given (YtgifjkljpbbegaaGreatDoorTie.lean); close each card by the builder's one call (the guide's Derived/Test/ToyasCard.lean, 'card_holds'). Laid BY PROGRAM, IN A SANDBOX (cutbox-door.mjs). By AI agents, Wed Nov 11 2026. No macro, syntax, notation, axiom, sorry.
-/
import Derived.Test.YtgifjkljpbbegaaGreatDoorRows
import GoSem.ClaimSeven
namespace Go.Proofs.YtgifjkljpbbegaaGreatDoor
namespace Rows

/-- THE TIED CARD OF 'underlaw4.NamesTells'. -/
def namesTellsCard : Claim7 := { stood := { row := namesTellsRow, standIns := [], harness := (true, "f9dfd5bdcf61f64b725a1a7799129dfd6019465b2a36e580bfb374f1a79cff50"), looks := true }, kinds := [], alts := [], laidByText := true, laidKinds := [.data, .data, .data, .sentinel, .sentinel], laidTests := true, laidLooks := .later }
def NamesTellsCardSaid : Prop := Claim7.holds Tryz.pinned (.plain (OpenSpec.ofChange namesTellsSpec)) namesTellsCard

/-- THE TIED CARD OF 'underlaw5.EffectLeast'. -/
def effectLeastCard : Claim7 := { stood := { row := effectLeastRow, standIns := [], harness := (true, "f9dfd5bdcf61f64b725a1a7799129dfd6019465b2a36e580bfb374f1a79cff50"), looks := true }, kinds := [], alts := [], laidByText := true, laidKinds := [.data, .data, .data, .sentinel, .sentinel], laidTests := true, laidLooks := .later }
def EffectLeastCardSaid : Prop := Claim7.holds Tryz.pinned (.plain (OpenSpec.ofChange effectLeastSpec)) effectLeastCard

/-- THE TIED CARD OF 'underlaw6.FlowTells'. -/
def flowTellsCard : Claim7 := { stood := { row := flowTellsRow, standIns := [], harness := (true, "f9dfd5bdcf61f64b725a1a7799129dfd6019465b2a36e580bfb374f1a79cff50"), looks := true }, kinds := [], alts := [], laidByText := true, laidKinds := [.data, .data, .data, .sentinel, .sentinel], laidTests := true, laidLooks := .later }
def FlowTellsCardSaid : Prop := Claim7.holds Tryz.pinned (.plain (OpenSpec.ofChange flowTellsSpec)) flowTellsCard

/-- THE TIED CARD OF 'underlaw6.FlowMore'. -/
def flowMoreCard : Claim7 := { stood := { row := flowMoreRow, standIns := [], harness := (true, "f9dfd5bdcf61f64b725a1a7799129dfd6019465b2a36e580bfb374f1a79cff50"), looks := true }, kinds := [], alts := [], laidByText := true, laidKinds := [.data, .data, .data, .sentinel, .sentinel], laidTests := true, laidLooks := .later }
def FlowMoreCardSaid : Prop := Claim7.holds Tryz.pinned (.plain (OpenSpec.ofChange flowMoreSpec)) flowMoreCard

/-- THE TIED CARD OF 'underlaw6.FlowTop'. -/
def flowTopCard : Claim7 := { stood := { row := flowTopRow, standIns := [], harness := (true, "f9dfd5bdcf61f64b725a1a7799129dfd6019465b2a36e580bfb374f1a79cff50"), looks := true }, kinds := [], alts := [], laidByText := true, laidKinds := [.data, .data, .data, .sentinel, .sentinel], laidTests := true, laidLooks := .later }
def FlowTopCardSaid : Prop := Claim7.holds Tryz.pinned (.plain (OpenSpec.ofChange flowTopSpec)) flowTopCard

/-- THE TIED CARD OF 'underlaw6.FlowNone'. -/
def flowNoneCard : Claim7 := { stood := { row := flowNoneRow, standIns := [], harness := (true, "f9dfd5bdcf61f64b725a1a7799129dfd6019465b2a36e580bfb374f1a79cff50"), looks := true }, kinds := [], alts := [], laidByText := true, laidKinds := [.data, .data, .data, .sentinel, .sentinel], laidTests := true, laidLooks := .later }
def FlowNoneCardSaid : Prop := Claim7.holds Tryz.pinned (.plain (OpenSpec.ofChange flowNoneSpec)) flowNoneCard

/-- THE SECOND FORM's CARD OF 'underlaw4.NamesTells'. -/
def namesTellsUptoCard : Claim7 := { stood := { row := namesTellsUptoRow, standIns := [], harness := (true, "f9dfd5bdcf61f64b725a1a7799129dfd6019465b2a36e580bfb374f1a79cff50"), looks := true }, kinds := [], alts := [], laidByText := true, laidKinds := [.data, .data, .data, .sentinel, .sentinel], laidTests := true, laidLooks := .later }
def NamesTellsUptoCardSaid : Prop := Claim7.holds Tryz.pinned (.plain (OpenSpec.upto namesTellsSpec)) namesTellsUptoCard

/-- THE SECOND FORM's CARD OF 'underlaw5.EffectLeast'. -/
def effectLeastUptoCard : Claim7 := { stood := { row := effectLeastUptoRow, standIns := [], harness := (true, "f9dfd5bdcf61f64b725a1a7799129dfd6019465b2a36e580bfb374f1a79cff50"), looks := true }, kinds := [], alts := [], laidByText := true, laidKinds := [.data, .data, .data, .sentinel, .sentinel], laidTests := true, laidLooks := .later }
def EffectLeastUptoCardSaid : Prop := Claim7.holds Tryz.pinned (.plain (OpenSpec.upto effectLeastSpec)) effectLeastUptoCard

/-- THE SECOND FORM's CARD OF 'underlaw6.FlowTells'. -/
def flowTellsUptoCard : Claim7 := { stood := { row := flowTellsUptoRow, standIns := [], harness := (true, "f9dfd5bdcf61f64b725a1a7799129dfd6019465b2a36e580bfb374f1a79cff50"), looks := true }, kinds := [], alts := [], laidByText := true, laidKinds := [.data, .data, .data, .sentinel, .sentinel], laidTests := true, laidLooks := .later }
def FlowTellsUptoCardSaid : Prop := Claim7.holds Tryz.pinned (.plain (OpenSpec.upto flowTellsSpec)) flowTellsUptoCard

/-- THE SECOND FORM's CARD OF 'underlaw6.FlowMore'. -/
def flowMoreUptoCard : Claim7 := { stood := { row := flowMoreUptoRow, standIns := [], harness := (true, "f9dfd5bdcf61f64b725a1a7799129dfd6019465b2a36e580bfb374f1a79cff50"), looks := true }, kinds := [], alts := [], laidByText := true, laidKinds := [.data, .data, .data, .sentinel, .sentinel], laidTests := true, laidLooks := .later }
def FlowMoreUptoCardSaid : Prop := Claim7.holds Tryz.pinned (.plain (OpenSpec.upto flowMoreSpec)) flowMoreUptoCard

/-- THE SECOND FORM's CARD OF 'underlaw6.FlowTop'. -/
def flowTopUptoCard : Claim7 := { stood := { row := flowTopUptoRow, standIns := [], harness := (true, "f9dfd5bdcf61f64b725a1a7799129dfd6019465b2a36e580bfb374f1a79cff50"), looks := true }, kinds := [], alts := [], laidByText := true, laidKinds := [.data, .data, .data, .sentinel, .sentinel], laidTests := true, laidLooks := .later }
def FlowTopUptoCardSaid : Prop := Claim7.holds Tryz.pinned (.plain (OpenSpec.upto flowTopSpec)) flowTopUptoCard

/-- THE SECOND FORM's CARD OF 'underlaw6.FlowNone'. -/
def flowNoneUptoCard : Claim7 := { stood := { row := flowNoneUptoRow, standIns := [], harness := (true, "f9dfd5bdcf61f64b725a1a7799129dfd6019465b2a36e580bfb374f1a79cff50"), looks := true }, kinds := [], alts := [], laidByText := true, laidKinds := [.data, .data, .data, .sentinel, .sentinel], laidTests := true, laidLooks := .later }
def FlowNoneUptoCardSaid : Prop := Claim7.holds Tryz.pinned (.plain (OpenSpec.upto flowNoneSpec)) flowNoneUptoCard
end Rows
end Go.Proofs.YtgifjkljpbbegaaGreatDoor

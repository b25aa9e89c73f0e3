/- What the listed variables give the walks; a world in which they are laid. -/
import Derived.Test.YtbkihppmikjcoaaDoorRows
import Derived.Test.YtbkihppmikjcoaaDoorFrLow
import Derived.ProofKit
import Derived.LaidMore
import Derived.OpenShut
import Derived.Stop.Joined
import Derived.Stop.LaidErr
import Derived.Lib.LaidTab
namespace Go.Proofs.YtbkihppmikjcoaaDoor
open Go.ChangeShapes Go.WideShapes Go.ChangeAt Go.RowKit
set_option linter.unusedVariables false
theorem own : ownKnob Tryd.prog.godebug = none := by kernel_rfl
/-- The listed variables. -/
def laid5 {H : Type} : List (String × DataW H) := [("math/bits.deBruijn32tab", Rows.laid_math_bits_deBruijn32tab), ("math/bits.deBruijn64tab", Rows.laid_math_bits_deBruijn64tab), ("internal/strconv.uint64pow10", Rows.laid_internal_strconv_uint64pow10), ("strconv.ErrRange", Rows.laid_strconv_ErrRange), ("strconv.ErrSyntax", Rows.laid_strconv_ErrSyntax)]
theorem gER : Tryd.prog.globalNamed "strconv.ErrRange" = some (Tryd.laysAtoi_ren.g 16) := by kernel_rfl
theorem gERt : (Tryd.prog.globals[Tryd.laysAtoi_ren.g 16]?).map (·.type) = some 58 := by kernel_rfl
theorem gES : Tryd.prog.globalNamed "strconv.ErrSyntax" = some (Tryd.laysAtoi_ren.g 15) := by kernel_rfl
theorem gESt : (Tryd.prog.globals[Tryd.laysAtoi_ren.g 15]?).map (·.type) = some 58 := by kernel_rfl
theorem cellsES : Tryd.prog.cellsOf 100 = 1 := by kernel_rfl
theorem cellsS : Tryd.prog.cellsOf 9 = 1 := by kernel_rfl
theorem cellsI : Tryd.prog.cellsOf 3 = 1 := by kernel_rfl
theorem cellsB : Tryd.prog.cellsOf 5 = 1 := by kernel_rfl
theorem cellsU : Tryd.prog.cellsOf 67 = 1 := by kernel_rfl
theorem cellsTab : (Tryd.prog.globals[0]?).map (fun g => Tryd.prog.cellsOf g.type) = some 20 := by kernel_rfl
theorem starES : "*" ++ "errors.errorString" = "*errors.errorString" := by decide
theorem rowES (u : TypeId) (h : Tryd.prog.typeName? 3 u = some "*errors.errorString") : u = 98 :=
  typeName_ptr_named (nm := "errors.errorString") (by rw [starES]; kernel_rfl) (by kernel_rfl) (by decide) u (by rw [starES]; exact h)
theorem err_of {n : String} {text : List UInt8} {r : List (String × DataW Unit)} {W : World} {g : Nat} (h : laidMet Tryd.prog ((n, .iface "*errors.errorString" (.ptr (.agg [.lit (.string text)]))) :: r) W) (hg : Tryd.prog.globalNamed n = some g) (ht : (Tryd.prog.globals[g]?).map (·.type) = some 58) : ErrAt g W := by
  obtain ⟨a, s, hv, _, _, _⟩ := laid_sentinel h hg ht Tryd.underlying58 rowES Tryd.underlying98 Tryd.underlying100 rfl rfl Tryd.underlying9 cellsES cellsS
  have hc : W.cell? ⟨g, 0, none⟩ = some (.iface 98 (.pointer (some a))) := by
    have h0 := World.var?_cell hg hv 0
    simpa using h0
  exact ⟨_, hc, .inr ⟨_, _, rfl⟩⟩
/-- What the condition gives the walks. -/
theorem lw_of_laid {W : World} (h : laidMetH Tryd.prog laid5 W) : Lw W := by
  rw [MakeChecks.laidMetH_plain _ _ _ (by kernel_rfl)] at h
  have h3 : laidMet Tryd.prog [("internal/strconv.uint64pow10", Rows.laid_internal_strconv_uint64pow10), ("strconv.ErrRange", Rows.laid_strconv_ErrRange), ("strconv.ErrSyntax", Rows.laid_strconv_ErrSyntax)] W := h.tail.tail
  have hr := err_of (h3.tail) gER gERt
  have hs := err_of (h3.tail.tail) gES gESt
  have ht : Lib.TabIs Tryd.prog W "internal/strconv.uint64pow10" .u64 Lib.pow10Tab := Lib.tabIs_of_head (rest := [("strconv.ErrRange", Rows.laid_strconv_ErrRange), ("strconv.ErrSyntax", Rows.laid_strconv_ErrSyntax)]) gTab (by kernel_rfl) Tryd.underlying82 Tryd.underlying67 cellsU (by kernel_rfl) h3
  obtain ⟨ev, he, _⟩ := hr
  have hl : Tryd.laysAtoi_ren.g 16 < W.heap.size := World.block_lt_of_cell? W _ he
  exact ⟨hl, hs, ⟨ev, he, by assumption⟩, ht⟩
set_option maxRecDepth 100000 in
/-- The door's own heap meets the condition. -/
theorem door_met (os : Os) (args : Array Value) : laidMetH Tryd.prog laid5 ((World.doorLaid Tryd.prog 400 os).forCall (fun _ _ => 0) ⟨#[], args, []⟩).memory :=
  laidMetH_of_parts3 (fuel := 8) (laidMet_of_run' 8 (by kernel_rfl) (by kernel_rfl)) (by kernel_rfl) (by kernel_rfl)
end Go.Proofs.YtbkihppmikjcoaaDoor

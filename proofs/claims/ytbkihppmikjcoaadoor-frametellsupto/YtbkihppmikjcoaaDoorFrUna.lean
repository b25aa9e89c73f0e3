/- The document's bytes as questions, whatever they are. -/
import Derived.Test.YtbkihppmikjcoaaDoorFrUnf
import Derived.Test.YtbkihppmikjcoaaDoorFrUnn
namespace Go.Proofs.YtbkihppmikjcoaaDoor
open Go.RowKit
set_option linter.unusedVariables false
theorem unframe_up (w : World) (hL : Lw w) (v : Value) (B : List UInt8) (hv : BytIn w v B) (hbig : B.length ≤ 100000000) :
    Calls Tryd.prog 11 #[v] w fun ex w' => ∃ r e k, ex = .returned (.tuple #[r, faV e k]) ∧ Below w.heap.size w w' ∧ ParseB w.heap.size (pr B) r e k w' := by
  by_cases hB : B = []
  · subst hB
    obtain ⟨p, c, rfl, _⟩ := hv
    rw [pr_nil]
    exact unframe_nil w p c
  · exact unframe_any w hL v B hv hbig hB
end Go.Proofs.YtbkihppmikjcoaaDoor

/-
  No cell of these rows narrows 'for every input' (looked for: loops, veiled, ifaces, maps, wideKeys, modest, calm, conditions, laid).
  DERIVED. THE GIVEN ROWS OF THIS SEAT. 2 by the template 'for every input the law returns true; each argument reads behind the call as it read before'; 0 by the template 'total and deterministic' (their statements: YtjpmnholpeidmaaTotals.lean).
  GIVEN WITH THE SEED: the statements are not yours to turn. If you find one false, say at which input.
  Laid BY PROGRAM, IN A SANDBOX (cutbox-rows.mjs): the forced cells as the released guide's own fill.sh prints them over the translation ac4dae7051eadc0c… (all of the seat's roots in one cut). By AI agents, Wed Nov 11 2026. No macro, syntax, notation, axiom, sorry.
-/
import Derived.Test.YtjpmnholpeidmaaChecked
import GoSem.Claim
import GoSem.ClaimJoined
import GoSem.ClaimMapViews
import Derived.JoinedTies
import Derived.KernelRfl
namespace Go.Proofs.Ytjpmnholpeidmaa
/- THE CELL 'sum', in the pinned program and in every row, IS THE sha256 OF THE DUMP (.gsa) THAT YtjpmnholpeidmaaProg.lean LOADS. Nothing in Lean hashes anything: it is a label: what it is worth is what the hold of that sum in a sandbox is worth. -/
noncomputable def Try.pinned : Pinned := { name := "ytjpmnholpeidmaa", sum := "ac4dae7051eadc0cb15c504015c186ce7d137b1726308d329a8df4913072e163", checked := Try.checked }
namespace Rows
def none {H : Type} : Left H := { results := [], args := [] }

/-- 'underlaw5.EffectTells': WHATEVER THE INPUT: true; the input reads as it did. -/
def effectTellsSpec : ChangeSpec := { name := "effectTells", fn := fun _ => fun
  | [d] => { results := [.lit (.bool true)], args := [d] }
  | _ => none }
def effectTellsRow : OpenClaim := { program := "ytjpmnholpeidmaa", sum := "ac4dae7051eadc0cb15c504015c186ce7d137b1726308d329a8df4913072e163", func := "undertone/underlaw5.EffectTells", spec := "effectTells", unfollowed := true, recurses := true, apart := false }
def EffectTellsSaid : Prop := effectTellsRow.holds Try.pinned (OpenSpec.ofChange effectTellsSpec)

/-- ITS FALSE NEIGHBOUR: 'it returns false'. Refute it at one input. -/
def effectTellsWrong : ChangeSpec := { name := "effectTells", fn := fun _ => fun
  | [d] => { results := [.lit (.bool false)], args := [d] }
  | _ => none }
def EffectTellsWrongFalsely : Prop := effectTellsRow.holds Try.pinned (OpenSpec.ofChange effectTellsWrong)

/-- 'underlaw8.InferTells': WHATEVER THE INPUT: true; the input reads as it did. -/
def inferTellsSpec : ChangeSpec := { name := "inferTells", fn := fun _ => fun
  | [d] => { results := [.lit (.bool true)], args := [d] }
  | _ => none }
def inferTellsRow : OpenClaim := { program := "ytjpmnholpeidmaa", sum := "ac4dae7051eadc0cb15c504015c186ce7d137b1726308d329a8df4913072e163", func := "undertone/underlaw8.InferTells", spec := "inferTells", unfollowed := true, recurses := true, apart := false }
def InferTellsSaid : Prop := inferTellsRow.holds Try.pinned (OpenSpec.ofChange inferTellsSpec)

/-- ITS FALSE NEIGHBOUR: 'it returns false'. Refute it at one input. -/
def inferTellsWrong : ChangeSpec := { name := "inferTells", fn := fun _ => fun
  | [d] => { results := [.lit (.bool false)], args := [d] }
  | _ => none }
def InferTellsWrongFalsely : Prop := inferTellsRow.holds Try.pinned (OpenSpec.ofChange inferTellsWrong)

/- THE SECOND FORM. 'bulk': how many values and letters a reading holds, each counted each time it is reached (what is shared counts as often as it is met; a slice's spare places count too). A statement '..UptoSaid' is the law's where the arguments, and the package variables that the reading takes, are together of bulk at most 1048576: NARROWER than '..Said'. Prove '..Said' where nothing that the law and all that it calls make is longer than what came in: it says more and counts as full. Else prove '..UptoSaid'. A law counts once. -/
mutual
def uptoBulk {H : Type} : DataW H → Nat
  | .lit (.string bytes) => bytes.length + 1
  | .lit _ => 1
  | .nil => 1
  | .ptr d => uptoBulk d + 1
  | .slice elems spare => uptoBulkAll elems + uptoBulkAll spare + 1
  | .agg parts => uptoBulkAll parts + 1
  | .iface _ d => uptoBulk d + 1
  | .map entries => uptoBulkEntries entries + 1
  | .held _ => 1
def uptoBulkAll {H : Type} : List (DataW H) → Nat
  | [] => 0
  | d :: r => uptoBulk d + uptoBulkAll r
def uptoBulkEntries {H : Type} : List (Lit × DataW H) → Nat
  | [] => 0
  | x :: r => uptoBulkEntry x + uptoBulkEntries r
def uptoBulkEntry {H : Type} : Lit × DataW H → Nat
  | (.string bytes, d) => bytes.length + uptoBulk d + 1
  | (_, d) => uptoBulk d + 1
 end
def uptoSmall : (H : Type) → List (DataW H) → Bool := fun _ ds => decide (uptoBulkAll ds ≤ 1048576)
def OpenSpec.upto (s : _root_.Go.ChangeSpec) : _root_.Go.OpenSpec := { _root_.Go.OpenSpec.ofChange s with cond := some uptoSmall }

/-- 'underlaw5.EffectTells', WHERE WHAT IT READS IS OF BULK AT MOST 1048576: true; the input reads as it did. -/
def effectTellsUptoRow : OpenClaim := { program := "ytjpmnholpeidmaa", sum := "ac4dae7051eadc0cb15c504015c186ce7d137b1726308d329a8df4913072e163", func := "undertone/underlaw5.EffectTells", spec := "effectTells", unfollowed := true, recurses := true, apart := false, narrowed := true }
def EffectTellsUptoSaid : Prop := effectTellsUptoRow.holds Try.pinned (OpenSpec.upto effectTellsSpec)

/-- 'underlaw8.InferTells', WHERE WHAT IT READS IS OF BULK AT MOST 1048576: true; the input reads as it did. -/
def inferTellsUptoRow : OpenClaim := { program := "ytjpmnholpeidmaa", sum := "ac4dae7051eadc0cb15c504015c186ce7d137b1726308d329a8df4913072e163", func := "undertone/underlaw8.InferTells", spec := "inferTells", unfollowed := true, recurses := true, apart := false, narrowed := true }
def InferTellsUptoSaid : Prop := inferTellsUptoRow.holds Try.pinned (OpenSpec.upto inferTellsSpec)

end Rows
end Go.Proofs.Ytjpmnholpeidmaa

/- Texts of this seat, one behind the other: LndO, LndP, LndQ. -/
import Derived.Test.YtjpmnholpeidmaaZb07
import Derived.Deep.RegionHeld3
import Derived.BigRegion
namespace Go.Proofs.Ytjpmnholpeidmaa
open Go.RowKit
attribute [local go_sem ↓] Go.wp_at_zero Go.wp_at_succ
/-- A block of one's own, that the reader leaves alone. -/
structure Loc (gp : Nat) (D : Option Nat) (w : World) (b : Nat) (cs : Array Value) : Prop where
  blk : w.heap[b]? = some (.cells cs 104 (0, 0))
  gp : gp < b
  ne : some b ≠ D
section
variable {gp : Nat} {w w' : World} {L : List Tok} {sz i dp b : Nat} {ds : List Dg} {D D' : Option Nat} {cs : Array Value}
theorem Loc.lt (h : Loc gp D w b cs) : b < w.heap.size := (Array.getElem?_eq_some_iff.1 h.blk).1
theorem Loc.step (h : Loc gp D w b cs) (hs : Stp gp D D' w w') : Loc gp D' w' b cs := ⟨(hs.block b h.lt (by have := h.gp; omega) h.ne).trans h.blk, h.gp, hs.fresh h.lt h.ne⟩
theorem Loc.set (h : Loc gp D w b cs) (o : Nat) (u : Value) : Loc gp D (w.setCell ⟨b, o, none⟩ u) b (cs.setIfInBounds o u) := ⟨by simp [World.setCell, Array.getElem?_modify, h.blk], h.gp, h.ne⟩
theorem Loc.far (h : Loc gp D w b cs) {c : Nat} (hc : b ≠ c) (o : Nat) (u : Value) : Loc gp D (w.setCell ⟨c, o, none⟩ u) b cs := ⟨(Below.heap_setCell w _ _ b hc).trans h.blk, h.gp, h.ne⟩
end
/-- A let, behind its word. -/
def pLet (L : List Tok) (sz dp i : Nat) : R Tr :=
  let a := pNamed L sz i
  let op := !isT L a.i (bs1 58)
  let b : R Nat := if op then ⟨0, a.i, []⟩ else pLab L sz (a.i + 1)
  let c := pNeed L sz b.i (bs1 61)
  let e := pCl L sz dp c.i
  ⟨stMk 1 a.v (tk L sz i).a b.v op e.v [] [] 0 0, e.i, a.d ++ b.d ++ c.d ++ e.d⟩
/-- A send, behind its word. -/
def pSnd (L : List Tok) (sz dp i : Nat) : R Tr :=
  let a := pNamed L sz i
  let e := pCl L sz dp a.i
  ⟨stMk 5 a.v (tk L sz i).a 0 false e.v [] [] 0 0, e.i, a.d ++ e.d⟩
section
variable {gp : Nat} {w : World} {L : List Tok} {sz i dp : Nat} {ds : List Dg} {D : Option Nat}
end
end Go.Proofs.Ytjpmnholpeidmaa

namespace Go.Proofs.Ytjpmnholpeidmaa
open Go.RowKit
attribute [local go_sem ↓] Go.wp_at_zero Go.wp_at_succ
section
variable {gp : Nat} {w : World} {L : List Tok} {sz i dp : Nat} {ds : List Dg} {D : Option Nat}
end
end Go.Proofs.Ytjpmnholpeidmaa

namespace Go.Proofs.Ytjpmnholpeidmaa
open Go.RowKit
attribute [local go_sem ↓] Go.wp_at_zero Go.wp_at_succ
section
variable {gp : Nat} {w : World} {L : List Tok} {sz i dp : Nat} {ds : List Dg} {D : Option Nat}
/-- A name set. -/
def pSet (L : List Tok) (sz dp i : Nat) : R Tr := ⟨stMk 2 (tk L sz i).x (tk L sz i).a 0 false (pCl L sz dp (i + 2)).v [] [] 0 0, (pCl L sz dp (i + 2)).i, (pCl L sz dp (i + 2)).d⟩
/-- An expression done. -/
def pDo (L : List Tok) (sz dp i : Nat) : R Tr := ⟨stMk 7 noB 0 0 false (pCl L sz dp i).v [] [] 0 0, (pCl L sz dp i).i, (pCl L sz dp i).d⟩
end
end Go.Proofs.Ytjpmnholpeidmaa


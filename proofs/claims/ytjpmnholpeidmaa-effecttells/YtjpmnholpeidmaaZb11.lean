/- Texts of this seat, one behind the other: LndY, LndZ, LndIt. -/
import Derived.Test.YtjpmnholpeidmaaZb10
namespace Go.Proofs.Ytjpmnholpeidmaa
open Go.RowKit
attribute [local go_sem ↓] Go.wp_at_zero Go.wp_at_succ
theorem Try.infoPm : (Try.prog.info? 76).map (fun i => (i.zero, i.size, i.bytes)) = some (some (.agg #[.string ⟨#[]⟩, .int .i64 0, .int .i64 0]), 3, 32) := by kernel_rfl
/-- Flat parts, as they lie. -/
def rdF {α : Type} (c : α → List Value) : (Nat → Prop) → World → α → Value → Prop := fun _ _ a v => v = .agg (c a).toArray
theorem kept_F {α : Type} (c : α → List Value) : Kept (rdF c) := fun _ _ _ _ _ _ _ _ h => h
section
variable {gp : Nat} {w : World} {L : List Tok} {sz i dp : Nat} {ds : List Dg} {D : Option Nat}
theorem pParams_succ (f j : Nat) (l : List Pm) : pParams L sz (f + 1) j l =
    (if moreB L j then
      if 5 ≤ l.length then ⟨l, j, [bad L sz j 5]⟩
      else if (pNeed L sz (pNamed L sz j).i (bs1 58)).v then
        if isT L (pLab L sz (pNeed L sz (pNamed L sz j).i (bs1 58)).i).i (bs1 44) then
          ⟨(pParams L sz f ((pLab L sz (pNeed L sz (pNamed L sz j).i (bs1 58)).i).i + 1) (l ++ [⟨(pNamed L sz j).v, (pLab L sz (pNeed L sz (pNamed L sz j).i (bs1 58)).i).v, (tk L sz j).a⟩])).v, (pParams L sz f ((pLab L sz (pNeed L sz (pNamed L sz j).i (bs1 58)).i).i + 1) (l ++ [⟨(pNamed L sz j).v, (pLab L sz (pNeed L sz (pNamed L sz j).i (bs1 58)).i).v, (tk L sz j).a⟩])).i, (pNamed L sz j).d ++ (pNeed L sz (pNamed L sz j).i (bs1 58)).d ++ (pLab L sz (pNeed L sz (pNamed L sz j).i (bs1 58)).i).d ++ (pParams L sz f ((pLab L sz (pNeed L sz (pNamed L sz j).i (bs1 58)).i).i + 1) (l ++ [⟨(pNamed L sz j).v, (pLab L sz (pNeed L sz (pNamed L sz j).i (bs1 58)).i).v, (tk L sz j).a⟩])).d⟩
        else ⟨l ++ [⟨(pNamed L sz j).v, (pLab L sz (pNeed L sz (pNamed L sz j).i (bs1 58)).i).v, (tk L sz j).a⟩], (pLab L sz (pNeed L sz (pNamed L sz j).i (bs1 58)).i).i, (pNamed L sz j).d ++ (pNeed L sz (pNamed L sz j).i (bs1 58)).d ++ (pLab L sz (pNeed L sz (pNamed L sz j).i (bs1 58)).i).d⟩
      else ⟨l, (pNeed L sz (pNamed L sz j).i (bs1 58)).i, (pNamed L sz j).d ++ (pNeed L sz (pNamed L sz j).i (bs1 58)).d⟩
    else ⟨l, j, []⟩) := by
  conv => lhs; unfold pParams
end
end Go.Proofs.Ytjpmnholpeidmaa

namespace Go.Proofs.Ytjpmnholpeidmaa
open Go.RowKit
attribute [local go_sem ↓] Go.wp_at_zero Go.wp_at_succ
theorem Try.infoRf : (Try.prog.info? 62).map (fun i => (i.zero, i.size, i.bytes)) = some (some (.agg #[.string ⟨#[]⟩, .int .i64 0]), 2, 24) := by kernel_rfl
/-- Sends, with their word, or none. -/
def pSs (L : List Tok) (sz i : Nat) : R (List Rf) := if isT L i kSends then pSends L sz 8 (i + 1) [] else ⟨[], i, []⟩
section
variable {gp : Nat} {w : World} {L : List Tok} {sz i dp : Nat} {ds : List Dg} {D : Option Nat}
theorem pSends_succ (f j : Nat) (l : List Rf) : pSends L sz (f + 1) j l =
    (if 5 ≤ l.length ∧ j < L.length then ⟨l, j, [bad L sz j 5]⟩
    else if isT L (pNamed L sz j).i (bs1 44) then ⟨(pSends L sz f ((pNamed L sz j).i + 1) (l ++ [⟨(pNamed L sz j).v, (tk L sz j).a⟩])).v, (pSends L sz f ((pNamed L sz j).i + 1) (l ++ [⟨(pNamed L sz j).v, (tk L sz j).a⟩])).i, (pNamed L sz j).d ++ (pSends L sz f ((pNamed L sz j).i + 1) (l ++ [⟨(pNamed L sz j).v, (tk L sz j).a⟩])).d⟩
    else ⟨l ++ [⟨(pNamed L sz j).v, (tk L sz j).a⟩], (pNamed L sz j).i, (pNamed L sz j).d⟩) := by
  conv => lhs; unfold pSends
end
end Go.Proofs.Ytjpmnholpeidmaa

namespace Go.Proofs.Ytjpmnholpeidmaa
open Go.RowKit
theorem ten_at {w1 : World} {b : Nat} {u0 u1 u2 u3 u4 u5 u6 u7 u8 u9 : Value} {t : TypeId} (h : w1.heap[b]? = some (.cells #[u0, u1, u2, u3, u4, u5, u6, u7, u8, u9] t (0, 0))) :
    w1.cell? ⟨b, 0, none⟩ = some u0 ∧ w1.cell? ⟨b, 1, none⟩ = some u1 ∧ w1.cell? ⟨b, 2, none⟩ = some u2 ∧ w1.cell? ⟨b, 3, none⟩ = some u3 ∧ w1.cell? ⟨b, 4, none⟩ = some u4 ∧ w1.cell? ⟨b, 5, none⟩ = some u5 ∧ w1.cell? ⟨b, 6, none⟩ = some u6 ∧ w1.cell? ⟨b, 7, none⟩ = some u7 ∧ w1.cell? ⟨b, 8, none⟩ = some u8 ∧ w1.cell? ⟨b, 9, none⟩ = some u9 ∧ ∀ o, w1.frozen? ⟨b, o, none⟩ = false :=
  ⟨cell_of_row _ _ _ _ _ _ h, cell_of_row _ _ _ _ _ _ h, cell_of_row _ _ _ _ _ _ h, cell_of_row _ _ _ _ _ _ h, cell_of_row _ _ _ _ _ _ h, cell_of_row _ _ _ _ _ _ h, cell_of_row _ _ _ _ _ _ h, cell_of_row _ _ _ _ _ _ h, cell_of_row _ _ _ _ _ _ h, cell_of_row _ _ _ _ _ _ h, fun o => by simp [World.frozen?, h]⟩
theorem ten_blk {w' : World} {b : Nat} {x0 x1 x2 x3 x4 x5 x6 x7 x8 x9 : Value} {t : TypeId} (h : w'.heap[b]? = some (.cells #[x0, x1, x2, x3, x4, x5, x6, x7, x8, x9] t (0, 0))) (u0 u1 u2 u3 u4 u5 u6 u7 u8 u9 : Value) :
    ((((((((((w'.setCell ⟨b, 0, none⟩ u0).setCell ⟨b, 1, none⟩ u1).setCell ⟨b, 2, none⟩ u2).setCell ⟨b, 3, none⟩ u3).setCell ⟨b, 4, none⟩ u4).setCell ⟨b, 5, none⟩ u5).setCell ⟨b, 6, none⟩ u6).setCell ⟨b, 7, none⟩ u7).setCell ⟨b, 8, none⟩ u8).setCell ⟨b, 9, none⟩ u9).heap[b]? = some (.cells #[u0, u1, u2, u3, u4, u5, u6, u7, u8, u9] t (0, 0)) := by
  simp [World.setCell, Array.getElem?_modify, h]
section
variable {gp : Nat} {w : World} {L : List Tok} {sz i dp : Nat} {ds : List Dg} {D : Option Nat}
theorem ten_far {w' : World} {b k : Nat} (hne : k ≠ b) (u0 u1 u2 u3 u4 u5 u6 u7 u8 u9 : Value) : ((((((((((w'.setCell ⟨b, 0, none⟩ u0).setCell ⟨b, 1, none⟩ u1).setCell ⟨b, 2, none⟩ u2).setCell ⟨b, 3, none⟩ u3).setCell ⟨b, 4, none⟩ u4).setCell ⟨b, 5, none⟩ u5).setCell ⟨b, 6, none⟩ u6).setCell ⟨b, 7, none⟩ u7).setCell ⟨b, 8, none⟩ u8).setCell ⟨b, 9, none⟩ u9).heap[k]? = w'.heap[k]? := (((((((((Below.heap_setCell _ _ _ k hne).trans (Below.heap_setCell _ _ _ k hne)).trans (Below.heap_setCell _ _ _ k hne)).trans (Below.heap_setCell _ _ _ k hne)).trans (Below.heap_setCell _ _ _ k hne)).trans (Below.heap_setCell _ _ _ k hne)).trans (Below.heap_setCell _ _ _ k hne)).trans (Below.heap_setCell _ _ _ k hne)).trans (Below.heap_setCell _ _ _ k hne)).trans (Below.heap_setCell _ _ _ k hne)
end
end Go.Proofs.Ytjpmnholpeidmaa


/- Texts of this seat, one behind the other: NamHear, NamDiags, NamUses. -/
import Derived.Test.YtjpmnholpeidmaaZb18
import Derived.Deep.AppendLies
namespace Go.Proofs.Ytjpmnholpeidmaa
open Go.RowKit
attribute [local go_sem ↓] Go.wp_at_zero Go.wp_at_succ
/-- The variable at block bo holds a list of n parts, whose cells are xs, in block D. -/
def Cpt (T TE : TypeId) (st bo : Nat) (w : World) (xs : List Value) (n : Nat) (D : Option Nat) : Prop := ∃ v, w.heap[bo]? = some (.cells #[v] T (0, 0)) ∧ w.ownsRow (bo + 1) TE st v n xs ∧ v.ownBlock = D
section
variable {T TE : TypeId} {st bo : Nat} {w w' : World} {xs : List Value} {n : Nat} {D : Option Nat}
theorem Cpt.lt (h : Cpt T TE st bo w xs n D) : bo < w.heap.size ∧ ∀ k, some k = D → bo < k ∧ k < w.heap.size := by
  obtain ⟨v, h1, h2, h3⟩ := h
  exact ⟨(Array.getElem?_eq_some_iff.1 h1).1, fun k e => by have := h2.lt k (h3.trans e.symm); exact ⟨this.1, this.2⟩⟩
theorem Cpt.kept (h : Cpt T TE st bo w xs n D) (h0 : w'.heap[bo]? = w.heap[bo]?) (hD : ∀ k, some k = D → w'.heap[k]? = w.heap[k]?) : Cpt T TE st bo w' xs n D := by
  obtain ⟨v, h1, h2, h3⟩ := h
  exact ⟨v, h0.trans h1, own_kept h2 (fun g e => hD g (e.symm.trans h3)), h3⟩
theorem Cpt.nil (w : World) : Cpt T TE st w.heap.size (w.alloc (.cells #[.slice none 0 0] T)) [] 0 none := ⟨_, heap_alloc_new w _, World.ownsRow_nil _ _ _ _, rfl⟩
/-- A part more. -/
theorem Cpt.put {W w6 : World} {v : Value} {g cap : Nat} {c : List Value} (h1 : w.heap[bo]? = some (.cells #[v] T (0, 0))) (h2 : w.ownsRow (bo + 1) TE st v n xs) (hb : Below w.heap.size w W) (hown : w6.ownsRow (bo + 1) TE st (.slice (some ⟨g, 0, none⟩) (n + 1) cap) (n + 1) (xs ++ c)) (hgrow : W.grownBy w6 v.ownBlock) (hat : v.ownBlock = some g ∨ g = W.heap.size) :
    Cpt T TE st bo (w6.setCell ⟨bo, 0, none⟩ (.slice (some ⟨g, 0, none⟩) (n + 1) cap)) (xs ++ c) (n + 1) (some g) ∧ Stp bo v.ownBlock (some g) w (w6.setCell ⟨bo, 0, none⟩ (.slice (some ⟨g, 0, none⟩) (n + 1) cap)) := by
  have hbo : bo < w.heap.size := (Array.getElem?_eq_some_iff.1 h1).1
  have hne : some bo ≠ v.ownBlock := fun e => by have := (h2.lt bo e.symm).1; omega
  have hgg : bo + 1 ≤ g := (hown.lt g rfl).1
  have hW : ∀ k, k < w.heap.size → some k ≠ v.ownBlock → w6.heap[k]? = w.heap[k]? := fun k hk hn => (hgrow.block k (Nat.lt_of_lt_of_le hk hb.size) hn).trans (hb.block k hk)
  have hset : ∀ k, k ≠ bo → (w6.setCell ⟨bo, 0, none⟩ (.slice (some ⟨g, 0, none⟩) (n + 1) cap)).heap[k]? = w6.heap[k]? := fun k hk => Below.heap_setCell w6 _ _ k hk
  have hbb := (hW bo hbo hne).trans h1
  refine ⟨⟨.slice (some ⟨g, 0, none⟩) (n + 1) cap, by simp [World.setCell, Array.getElem?_modify, hbb], ownsRow_setCell_other hown (a := ⟨bo, 0, none⟩) (by simp [Value.ownBlock]; omega) _, rfl⟩, hgrow.os.trans hb.os, hgrow.tape.trans hb.tape, hgrow.output.trans hb.output, ?_, fun k hk hk2 hk3 => (hset k hk2).trans (hW k hk hk3), ?_⟩
  · have := hgrow.size
    have := hb.size
    simp
    omega
  · rcases hat with e | e
    · exact .inl e.symm
    · exact .inr ⟨g, rfl, by rw [e]; exact hb.size⟩
end
/-- A diag's cells; those that are told. -/
def dvC (e : Ev) : List Value := [.int .i64 (e.a : Int), .int .i64 (wI ((e.a : Int) + (e.x.size : Int))), .int .i64 (e.e : Int), .string e.x]
def noL (L : List Ev) : List Ev := L.filter (fun e => e.b)
def yesL (L : List Ev) : List Ev := L.filter (fun e => !e.b)
theorem noL_no (L : List Ev) (e : Nat) (x : ByteArray) (a : Nat) : noL (L ++ [evNo e x a]) = noL L ++ [evNo e x a] := by unfold noL; rw [List.filter_append]; rfl
theorem noL_yes (L : List Ev) (x : ByteArray) (a : Nat) (d : Int) : noL (L ++ [evYes x a d]) = noL L := by unfold noL; rw [List.filter_append]; exact List.append_nil _
theorem yesL_no (L : List Ev) (e : Nat) (x : ByteArray) (a : Nat) : yesL (L ++ [evNo e x a]) = yesL L := by unfold yesL; rw [List.filter_append]; exact List.append_nil _
theorem yesL_yes (L : List Ev) (x : ByteArray) (a : Nat) (d : Int) : yesL (L ++ [evYes x a d]) = yesL L ++ [evYes x a d] := by unfold yesL; rw [List.filter_append]; rfl
theorem noL_le (L : List Ev) : (noL L).length ≤ L.length := List.length_filter_le _ _
theorem yesL_le (L : List Ev) : (yesL L).length ≤ L.length := List.length_filter_le _ _
def GD (bo b0 : Nat) (w : World) (L : List Ev) (D : Option Nat) : Prop := b0 ≤ w.heap.size ∧ Cpt 33 60 4 bo w ((noL L).flatMap dvC) (noL L).length D
end Go.Proofs.Ytjpmnholpeidmaa

namespace Go.Proofs.Ytjpmnholpeidmaa
open Go.RowKit
attribute [local go_sem ↓] Go.wp_at_zero Go.wp_at_succ
theorem GD.kept {bo b0 : Nat} {w w' : World} {L : List Ev} {D : Option Nat} (hb0 : bo < b0) (h : GD bo b0 w L D) (hs : w.heap.size ≤ w'.heap.size) (hk : ∀ k, k < b0 ∨ some k = D → w'.heap[k]? = w.heap[k]?) : GD bo b0 w' L D :=
  ⟨Nat.le_trans h.1 hs, h.2.kept (hk bo (.inl hb0)) (fun k e => hk k (.inr e))⟩
end Go.Proofs.Ytjpmnholpeidmaa

namespace Go.Proofs.Ytjpmnholpeidmaa
open Go.RowKit
attribute [local go_sem ↓] Go.wp_at_zero Go.wp_at_succ
/-- A use's cells: of an item that stands at u.1. -/
def uvC (u : Int × Ev) : List Value := [.int .i64 (wI (u.1 + (u.2.a : Int))), .int .i64 (wI (wI (u.1 + (u.2.a : Int)) + (u.2.x.size : Int))), .int .i64 u.2.d]
def usI (p : Int) (L : List Ev) : List (Int × Ev) := (yesL L).map (fun e => (p, e))
/-- The uses of the first k items. -/
def usE (l : List (Int × It)) : Nat → List (Int × Ev)
  | 0 => []
  | k + 1 => usE l k ++ (match l[k]? with | some q => usI q.1 (evI l k) | none => [])
theorem usE_succ {l : List (Int × It)} {k : Nat} {q : Int × It} (h : l[k]? = some q) : usE l (k + 1) = usE l k ++ usI q.1 (evI l k) := by
  conv => lhs; unfold usE
  rw [h]
section
variable {bo b0 bi : Nat} {p : Int} {X : List (Int × Ev)}
theorem usI_yes (p : Int) (L : List Ev) (x : ByteArray) (a : Nat) (d : Int) : usI p (L ++ [evYes x a d]) = usI p L ++ [(p, evYes x a d)] := by unfold usI; rw [yesL_yes, List.map_append]; rfl
theorem usI_no (p : Int) (L : List Ev) (e : Nat) (x : ByteArray) (a : Nat) : usI p (L ++ [evNo e x a]) = usI p L := by unfold usI; rw [yesL_no]
theorem usI_le (p : Int) (L : List Ev) : (usI p L).length ≤ L.length := by unfold usI; rw [List.length_map]; exact yesL_le L
end
end Go.Proofs.Ytjpmnholpeidmaa


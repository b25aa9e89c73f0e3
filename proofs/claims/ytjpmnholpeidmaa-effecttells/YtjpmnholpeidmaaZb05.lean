/- Texts of this seat, one behind the other: SmMath, FilCut, FilTexts. -/
import Derived.Test.YtjpmnholpeidmaaZb03
import Derived.Test.YtjpmnholpeidmaaZb01
import Derived.Test.YtjpmnholpeidmaaZb01b
import Derived.Test.YtjpmnholpeidmaaZb02
import Derived.Deep.AppendLies
namespace Go.Proofs.Ytjpmnholpeidmaa
/-- No block of this statement has more than 40 statements, nor has one further in. -/
def smS : Nat → Tr → Prop
  | 0, _ => True
  | n + 1, s => ∀ (k : Nat) (x : ByteArray) (a lb : Nat) (o : Bool) (e : Tr) (th el : List Tr) (f t : Nat), s = stMk k x a lb o e th el f t → th.length ≤ 40 ∧ el.length ≤ 40 ∧ (∀ u ∈ th, smS n u) ∧ (∀ u ∈ el, smS n u)
def smL (l : List Tr) : Prop := l.length ≤ 40 ∧ ∀ u ∈ l, ∀ n, smS n u
theorem smL_nil : smL [] := ⟨by simp, fun u h => absurd h (List.not_mem_nil)⟩
theorem smS_mk {k : Nat} {x : ByteArray} {a lb : Nat} {o : Bool} {e : Tr} {th el : List Tr} {f t : Nat} (h1 : smL th) (h2 : smL el) : ∀ n, smS n (stMk k x a lb o e th el f t) := by
  intro n
  cases n with
  | zero => trivial
  | succ n =>
    intro k' x' a' lb' o' e' th' el' f' t' h
    obtain ⟨_, _, _, _, _, _, rfl, rfl, _, _⟩ := stMk_inj h
    exact ⟨h1.1, h2.1, fun u hu => h1.2 u hu n, fun u hu => h2.2 u hu n⟩
theorem stmt_small (L : List Tok) (sz f : Nat) : (∀ d i, smL (pBlock L sz f d i).v) ∧ (∀ d i l, smL l → smL (pStmts L sz f d i l).v) ∧ (∀ d i n, smS n (pStmt L sz f d i).v) := by
  induction f with
  | zero =>
    refine ⟨fun d i => ?_, fun d i l hl => ?_, fun d i => ?_⟩
    · rw [pBlock_zero]; exact smL_nil
    · rw [pStmts_zero]; exact hl
    · rw [pStmt_zero]; exact smS_mk smL_nil smL_nil
  | succ f ih =>
    obtain ⟨ihB, ihS, ihT⟩ := ih
    refine ⟨fun d i => ?_, fun d i l hl => ?_, fun d i => ?_⟩
    · rw [pBlock_succ]
      split
      · split
        · exact smL_nil
        · exact ihS _ _ _ smL_nil
      · exact smL_nil
    · rw [pStmts_succ]
      split
      · split
        · exact hl
        · rename_i h40
          refine ihS _ _ _ ⟨by rw [List.length_append, List.length_singleton]; omega, fun u hu => ?_⟩
          rcases List.mem_append.1 hu with hu | hu
          · exact hl.2 u hu
          · rw [List.mem_singleton] at hu
            rw [hu]
            exact ihT d i
      · exact hl
    · rw [pStmt_succ]
      simp only
      split
      · exact smS_mk smL_nil smL_nil
      · split
        · split
          · exact smS_mk (ihB _ _) (ihB _ _)
          · exact smS_mk (ihB _ _) smL_nil
        · split
          · exact smS_mk (ihB _ _) smL_nil
          · split
            · exact smS_mk smL_nil smL_nil
            · split
              · exact smS_mk smL_nil smL_nil
              · split
                · split
                  · exact smS_mk smL_nil smL_nil
                  · exact smS_mk smL_nil smL_nil
                · exact smS_mk smL_nil smL_nil
theorem it_small (L : List Tok) (sz : Nat) : smL (pIt L sz).bd := by
  unfold pIt
  split
  · exact (stmt_small L sz _).1 0 _
  · split
    · exact smL_nil
    · exact smL_nil
theorem itm_small (s : ByteArray) : smL (itm s).bd := it_small _ _
end Go.Proofs.Ytjpmnholpeidmaa

namespace Go.Proofs.Ytjpmnholpeidmaa
open Go.RowKit
attribute [local go_sem ↓] Go.wp_at_zero Go.wp_at_succ
/-- A text's cuts and its end, in memory. -/
def CutAt (w : World) (B : Nat) (s : ByteArray) (v : Value) : Prop := ∃ g cap, v = .slice (some ⟨g, 0, none⟩) ((cts s).length + 1) cap ∧ (cts s).length + 1 ≤ cap ∧ B ≤ g ∧ g < w.heap.size ∧ ∀ j, j ≤ (cts s).length → w.cell? ⟨g, j, none⟩ = some (.int .i64 (cn s j : Int))
theorem cut_at {w : World} {B : Nat} {s : ByteArray} {g cap : Nat} (h : w.ownsRow B 3 1 (.slice (some ⟨g, 0, none⟩) ((cts s).length + 1) cap) ((cts s).length + 1) (intC (cts s) ++ [.int .i64 (s.size : Int)])) : CutAt w B s (.slice (some ⟨g, 0, none⟩) ((cts s).length + 1) cap) := by
  have hlt := h.lt g rfl
  have hc := h.cells (g := g) rfl
  obtain ⟨_, ⟨h1, _⟩ | ⟨g', cap', cur, h1, _, _, hcap, _⟩⟩ := h
  · cases h1
  · injection h1 with h1 h2 h3
    injection h1 with h1
    injection h1 with h1
    subst h1 h3
    refine ⟨g, cap, rfl, by simpa using hcap, hlt.1, hlt.2, fun j hj => ?_⟩
    have e : (⟨g, 0, none⟩ : Addr).add j = ⟨g, j, none⟩ := by simp only [Addr.add, Nat.zero_add]; split <;> simp_all
    rw [← e]
    refine hc j _ ?_
    rcases Nat.lt_or_ge j (cts s).length with h2 | h2
    · rw [List.getElem?_append_left (by simpa [intC] using h2)]
      simp [intC, cn_get s j h2]
    · rw [List.getElem?_append_right (by simpa [intC] using h2), cn_end s j h2]
      have : j - (intC (cts s)).length = 0 := by simp [intC]; omega
      rw [this]
      rfl
end Go.Proofs.Ytjpmnholpeidmaa

namespace Go.Proofs.Ytjpmnholpeidmaa
open Go.RowKit Go.WideMaps Go.Maps
attribute [local go_sem ↓] Go.wp_at_zero Go.wp_at_succ
theorem kStr : Keyed Try.prog 9 := string_keyed Try.underlying9
theorem keyS (x : ByteArray) (h : x.size ≤ maxLen) : keyOf Try.prog 9 (.string x) = some (kyB x) := keyOf_string_mk Try.underlying9 h
/-- The texts of a file's items, as a map in memory. -/
def KnAt (w : World) (b : Nat) (s : ByteArray) (k : Nat) : Prop := w.ownsMap Try.prog 9 (plainElem (H := Unit) Try.prog 3) b k (knD s k)
def RelTx (s : ByteArray) (W : World) (i : Value) (wr : World) : Prop := ∃ k : Nat, k ≤ (cts s).length ∧ i = .int .i64 (k : Int) ∧ KnAt wr W.heap.size s k ∧ Below W.heap.size W wr
end Go.Proofs.Ytjpmnholpeidmaa


/- Texts of this seat, one behind the other: LndState, LndA, LndB, LndC, LndD. -/
import Derived.Test.YtjpmnholpeidmaaZb03
import Derived.Test.YtjpmnholpeidmaaZb02
import Derived.Test.YtjpmnholpeidmaaZb01
import Derived.Deep.AppendLies
import Derived.Defers
import Derived.Deep.RegionHeld3
import Derived.BigRegion
import Derived.Test.YtjpmnholpeidmaaZb04
namespace Go.Proofs.Ytjpmnholpeidmaa
open Go.RowKit
theorem Try.infoDg : (Try.prog.info? 60).map (fun i => (i.zero, i.size, i.bytes)) = some (some (.agg #[.int .i64 0, .int .i64 0, .int .i64 0, .string ⟨#[]⟩]), 4, 40) := by kernel_rfl
def dsC (l : List Dg) : List Value := l.flatMap dgC
theorem dsC_snoc (l : List Dg) (t : Dg) : dsC (l ++ [t]) = dsC l ++ dgC t := by simp [dsC]
theorem tok_of {L : List Tok} {sz i : Nat} (h : i < L.length) : L[i]? = some (tk L sz i) := by
  unfold tk
  rw [List.getElem?_eq_getElem h]
  rfl
theorem tok_no {L : List Tok} {sz i : Nat} (h : L.length ≤ i) : tk L sz i = ⟨0, noB, sz⟩ := by
  unfold tk
  rw [List.getElem?_eq_none h]
  rfl
/-- A token as a value. -/
def tkV (t : Tok) : Value := .agg #[.int .i64 (t.k : Int), .string t.x, .int .i64 (t.a : Int)]
/-- What a step of the reader leaves as it was: all but the reader itself and the list of what is wrong. -/
structure Stp (gp : Nat) (D D' : Option Nat) (w w' : World) : Prop where
  os : w'.os = w.os
  tape : w'.tape = w.tape
  output : w'.output = w.output
  size : w.heap.size ≤ w'.heap.size
  block : ∀ k, k < w.heap.size → k ≠ gp → some k ≠ D → w'.heap[k]? = w.heap[k]?
  own : D' = D ∨ ∃ j, D' = some j ∧ w.heap.size ≤ j
theorem Stp.refl (gp : Nat) (D : Option Nat) (w : World) : Stp gp D D w w := ⟨rfl, rfl, rfl, Nat.le_refl _, fun _ _ _ _ => rfl, .inl rfl⟩
theorem Stp.trans {gp : Nat} {D D' D'' : Option Nat} {w w' w'' : World} (h : Stp gp D D' w w') (k : Stp gp D' D'' w' w'') : Stp gp D D'' w w'' where
  os := k.os.trans h.os
  tape := k.tape.trans h.tape
  output := k.output.trans h.output
  size := Nat.le_trans h.size k.size
  block := fun b h1 h2 h3 => by
    refine (k.block b (Nat.lt_of_lt_of_le h1 h.size) h2 (fun e => ?_)).trans (h.block b h1 h2 h3)
    rcases h.own with e2 | ⟨j, e2, hj⟩
    · exact h3 (by rw [e, e2])
    · rw [e2] at e; injection e with e; omega
  own := by
    rcases k.own with e | ⟨j, e, hj⟩
    · rw [e]; exact h.own
    · exact .inr ⟨j, e, Nat.le_trans h.size hj⟩
theorem Stp.below {gp : Nat} {D : Option Nat} {w w' : World} (h : Below w.heap.size w w') : Stp gp D D w w' := ⟨h.os, h.tape, h.output, h.size, fun k hk _ _ => h.block k hk, .inl rfl⟩
section
variable {gp : Nat} {w w' : World} {L : List Tok} {sz i dp : Nat} {ds : List Dg} {D : Option Nat}
theorem TokAt.kept {g o : Nat} {l : List Tok} (h : TokAt w g o l) (hg : w'.heap[g]? = w.heap[g]?) : TokAt w' g o l := by
  intro j t ht
  have e : ∀ k, w'.cell? ⟨g, k, none⟩ = w.cell? ⟨g, k, none⟩ := fun k => World.cell?_of_block (a := ⟨g, k, none⟩) hg
  rw [e, e, e]
  exact h j t ht
theorem Stp.set {D' : Option Nat} (h : Stp gp D D' w w') {b : Nat} (hb : w.heap.size ≤ b) (o : Nat) (u : Value) : Stp gp D D' w (w'.setCell ⟨b, o, none⟩ u) :=
  ⟨h.os, h.tape, h.output, by simpa using h.size, fun k hk h2 h3 => (Below.heap_setCell w' _ _ k (by simp; omega)).trans (h.block k hk h2 h3), h.own⟩
/-- Nor is it later. -/
theorem Stp.fresh {D' : Option Nat} (h : Stp gp D D' w w') {b : Nat} (hb : b < w.heap.size) (hD : some b ≠ D) : some b ≠ D' := fun e => by
  rcases h.own with e2 | ⟨j, e2, hj⟩
  · exact hD (by rw [e, e2])
  · rw [e2] at e; injection e with e; omega
end
theorem tkField (t : Tok) (w : World) : (Instr.field 83 (.agg #[.int .i64 (t.k : Int), .string t.x, .int .i64 (t.a : Int)]) 0).run Try.prog w = .ok (.int .i64 (t.k : Int)) w ∧ (Instr.field 83 (.agg #[.int .i64 (t.k : Int), .string t.x, .int .i64 (t.a : Int)]) 1).run Try.prog w = .ok (.string t.x) w ∧ (Instr.field 83 (.agg #[.int .i64 (t.k : Int), .string t.x, .int .i64 (t.a : Int)]) 2).run Try.prog w = .ok (.int .i64 (t.a : Int)) w := ⟨by kernel_rfl, by kernel_rfl, by kernel_rfl⟩
/-- A token laid down. -/
theorem tokSlot (w : World) (t : Tok) : (w.alloc (.cells #[.int .i64 (t.k : Int), .string t.x, .int .i64 (t.a : Int)] 83)).cell? ⟨w.heap.size, 0, none⟩ = some (.int .i64 (t.k : Int)) ∧ (w.alloc (.cells #[.int .i64 (t.k : Int), .string t.x, .int .i64 (t.a : Int)] 83)).cell? ⟨w.heap.size, 1, none⟩ = some (.string t.x) ∧ (w.alloc (.cells #[.int .i64 (t.k : Int), .string t.x, .int .i64 (t.a : Int)] 83)).cell? ⟨w.heap.size, 2, none⟩ = some (.int .i64 (t.a : Int)) :=
  ⟨cell_of_row _ w.heap.size 0 _ _ (0, 0) (heap_alloc_new w _), cell_of_row _ w.heap.size 1 _ _ (0, 0) (heap_alloc_new w _), cell_of_row _ w.heap.size 2 _ _ (0, 0) (heap_alloc_new w _)⟩
theorem frozen_alloc {w : World} {a : Addr} (h : w.frozen? a = false) (hl : a.block < w.heap.size) : ∀ o, (w.alloc o).frozen? a = false := fun o => (World.frozen?_of_block (Below.heap_alloc w o a.block hl)).trans h
/-- A block that was laid down, and has not been touched since. -/
theorem slot {w w1 : World} {cs : Array Value} {t : TypeId} (h : w1.heap[w.heap.size]? = (w.alloc (.cells cs t)).heap[w.heap.size]?) :
    w1.heap[w.heap.size]? = some (.cells cs t (0, 0)) ∧ (∀ o, w1.frozen? ⟨w.heap.size, o, none⟩ = false) ∧ ∀ j u, cs[j]? = some u → w1.cell? ⟨w.heap.size, j, none⟩ = some u := by
  have h : w1.heap[w.heap.size]? = some (.cells cs t (0, 0)) := h.trans (heap_alloc_new w _)
  exact ⟨h, fun o => by simp [World.frozen?, h], fun j u hj => (cell_of_row _ _ j _ _ _ h).trans hj⟩
theorem slotB {w w1 : World} {cs : Array Value} {t : TypeId} (hb : Below (w.alloc (.cells cs t)).heap.size (w.alloc (.cells cs t)) w1) :
    w1.heap[w.heap.size]? = some (.cells cs t (0, 0)) ∧ (∀ o, w1.frozen? ⟨w.heap.size, o, none⟩ = false) ∧ ∀ j u, cs[j]? = some u → w1.cell? ⟨w.heap.size, j, none⟩ = some u := slot (hb.block _ (by simp))
section
variable {gp : Nat} {w w1 w' : World} {L : List Tok} {sz i dp : Nat} {ds : List Dg} {D : Option Nat}
end
end Go.Proofs.Ytjpmnholpeidmaa

namespace Go.Proofs.Ytjpmnholpeidmaa
open Go.RowKit
attribute [local go_sem ↓] Go.wp_at_zero Go.wp_at_succ
section
variable {gp : Nat} {w : World} {L : List Tok} {sz i dp : Nat} {ds : List Dg} {D : Option Nat}
end
end Go.Proofs.Ytjpmnholpeidmaa

namespace Go.Proofs.Ytjpmnholpeidmaa
open Go.RowKit
attribute [local go_sem ↓] Go.wp_at_zero Go.wp_at_succ
theorem dg_cell (d : Dg) : ∀ u ∈ dgC d, u.oneCell' = true := by
  intro u hu
  simp [dgC] at hu
  rcases hu with rfl | rfl | rfl | rfl <;> rfl
theorem news2d (w : World) (o : Obj) (cs : Array Value) (t : TypeId) : ∀ j u, cs.toList[j]? = some u → ((w.alloc o).alloc (.cells cs t)).drew.cell? ((⟨w.heap.size + 1, 0, none⟩ : Addr).add j) = some u := news2 w o cs t
theorem bad_stay {w1 w2 : World} {o o2 : Obj} {row : Option Nat} (hg : ((w1.alloc o).alloc o2).drew.grownBy w2 row) (b : Nat) (hb : b < w1.heap.size + 1) (hne : some b ≠ row) : (∀ k, w2.cell? ⟨b, k, none⟩ = (w1.alloc o).cell? ⟨b, k, none⟩) ∧ (∀ k, w2.frozen? ⟨b, k, none⟩ = (w1.alloc o).frozen? ⟨b, k, none⟩) := by
  have h1 : w2.heap[b]? = (w1.alloc o).heap[b]? := (hg.block b (by simp; omega) hne).trans (Below.heap_alloc (w1.alloc o) o2 b (by simpa using hb))
  exact ⟨fun k => World.cell?_of_block (a := ⟨b, k, none⟩) h1, fun k => World.frozen?_of_block (a := ⟨b, k, none⟩) h1⟩
/-- append's run, hidden from the walk's own rules. -/
def appR (P : Program) (ts : Array TypeId) (ty : TypeId) (vs : Array Value) (w : World) := (Builtin.append_ ts ty vs).run P w
theorem app_hide (P : Program) (ts : Array TypeId) (ty : TypeId) (vs : Array Value) (w : World) : (Builtin.append_ ts ty vs).run P w = appR P ts ty vs w := rfl
theorem app_hide3 (P : Program) (ρ : Operand → Value) (dst : Option Tmp) (xs : Array Operand) (ats : Array TypeId) (ty : TypeId) (pos : String) (after : Array Edge) (guard : Option (Nat × Bool)) (w : World) :
    (execOp ρ { dst, op := .call { callee := .builtin .append, args := xs, argTypes := ats }, type := ty, pos, after, guard }).run P w = (appR P ats ty (xs.map ρ) w).andThen fun v w' => .ok (.value v) w' := by
  show (do pure (Next.value (← Builtin.append_ ats ty (xs.map ρ))) : Sem Next).run P w = _
  simp only [Sem.run_bind, Sem.run_pure]
  rfl
attribute [local go_sem ↓] app_hide app_hide3
section
variable {gp : Nat} {w : World} {L : List Tok} {sz i dp : Nat} {ds : List Dg} {D : Option Nat}
end
end Go.Proofs.Ytjpmnholpeidmaa

namespace Go.Proofs.Ytjpmnholpeidmaa
open Go.RowKit
attribute [local go_sem ↓] Go.wp_at_zero Go.wp_at_succ
section
variable {gp : Nat} {w : World} {L : List Tok} {sz i dp : Nat} {ds : List Dg} {D : Option Nat}
/-- Does a list that has n parts go on? -/
def pMore (L : List Tok) (sz i n m : Nat) (s : ByteArray) : R Bool :=
  if i < L.length ∧ isT L i s = false then if n = m then ⟨false, i, [bad L sz i 5]⟩ else ⟨true, i, []⟩ else ⟨false, i, []⟩
end
end Go.Proofs.Ytjpmnholpeidmaa

namespace Go.Proofs.Ytjpmnholpeidmaa
open Go.RowKit
attribute [local go_sem ↓] Go.wp_at_zero Go.wp_at_succ
section
variable {gp : Nat} {w : World} {L : List Tok} {sz i dp : Nat} {ds : List Dg} {D : Option Nat}
def msL (L : List Tok) (gp : Nat) (wr : World) : Nat := match wr.cell? ⟨gp, 2, none⟩ with
  | some (.int _ i) => L.length + 1 - i.toNat
  | _ => 0
end
end Go.Proofs.Ytjpmnholpeidmaa


/- Texts of this seat, one behind the other: RxF0, RxF1, RxFn. -/
import Derived.Test.YtjpmnholpeidmaaZb46
import Derived.Test.YtjpmnholpeidmaaZb11
import Derived.Test.YtjpmnholpeidmaaZb45
import Derived.Test.YtjpmnholpeidmaaZb50
import Derived.Deep.RegionHeld3
import Derived.BigRegion
import Derived.Deep.CutBlock
namespace Go.Proofs.Ytjpmnholpeidmaa
open Go.RowKit
set_option linter.unusedVariables false
theorem infoPmQ : (Try.prog.info? 76).map (fun i => (i.zero, i.size, i.bytes)) = some (some (.agg #[.string ⟨#[]⟩, .int .i64 0, .int .i64 0]), 3, 32) := by kernel_rfl
theorem infoRfQ : (Try.prog.info? 62).map (fun i => (i.zero, i.size, i.bytes)) = some (some (.agg #[.string ⟨#[]⟩, .int .i64 0]), 2, 24) := by kernel_rfl
section
variable {gp bi : Nat} {w0 w w' : World} {L : List Tok} {sz dp : Nat} {ds ds' : List Dg} {D D' : Option Nat}
/-- A store into a block ahead of the reader, that is not its tokens' as a text in it is none of theirs. -/
theorem QSt.setLow (h : QSt gp w L sz ds dp D) (hb : bi < gp) (hL : 0 < L.length) {x : ByteArray} (hc : w.cell? ⟨bi, 1, none⟩ = some (.string x)) (hx : x ≠ (tk L sz 0).x) (o : Nat) (u : Value) : QSt gp (w.setCell ⟨bi, o, none⟩ u) L sz ds dp D := by
  obtain ⟨p, c, v, h1, h2, h3, h4⟩ := h.blk
  have hv : v.ownBlock ≠ some bi := fun e => by have := (h3.lt bi e).1; omega
  refine ⟨⟨p, c, v, (Below.heap_setCell w _ _ gp (by simp; omega)).trans h1, fun hl => ?_, ownsRow_setCell_other h3 hv _, h4⟩, h.len, h.siz, h.end_, h.inc, h.dp1⟩
  obtain ⟨g, e1, e2, e3⟩ := h2 hl
  have hne : g ≠ bi := fun e => by
    subst e
    have h5 := (e3 0 _ (tok_of (sz := sz) hL)).2.1
    rw [show 0 + 0 * 3 + 1 = 1 by rfl] at h5
    rw [hc] at h5
    injection h5 with h5
    injection h5 with h5
    exact hx h5
  exact ⟨g, e1, e2, e3.kept (Below.heap_setCell w _ _ g (by simpa using hne))⟩
end
/-- Lists of flat structs as rows. -/
def pmR (l : List Pm) : List Value := l.flatMap pmC
def rfR (l : List Rf) : List Value := l.flatMap rfC
theorem pmR_snoc (l : List Pm) (t : Pm) : pmR (l ++ [t]) = pmR l ++ pmC t := by simp [pmR]
theorem rfR_snoc (l : List Rf) (t : Rf) : rfR (l ++ [t]) = rfR l ++ rfC t := by simp [rfR]
/-- An item in the making: its block bi; parameters, and what it sends to, in rows of their own. -/
structure IB (gp bi : Nat) (L : List Tok) (sz : Nat) (ds : List Dg) (D : Option Nat) (w0 w : World) (k : Nat) (x : ByteArray) (lb : Nat) (ps : List Pm) (v3 : Value) (ss : List Rf) (v4 v5 v6 v7 v8 v9 : Value) : Prop where
  p : QSt gp w L sz ds 0 D
  s : Stp gp none D w0 w
  g : bi < gp
  z : w0.heap.size ≤ bi
  l : 0 < L.length
  n : x ≠ (tk L sz 0).x
  k : w.heap[bi]? = some (.cells #[.int .i64 (k : Int), .string x, .int .i64 (lb : Int), v3, v4, v5, v6, v7, v8, v9] 35 (0, 0))
  r3 : w.ownsRow (gp + 1) 76 3 v3 ps.length (pmR ps)
  r4 : w.ownsRow (gp + 1) 62 2 v4 ss.length (rfR ss)
  n3 : ∀ b, v3.ownBlock = some b → some b ≠ D
  n4 : ∀ b, v4.ownBlock = some b → some b ≠ D ∧ v3.ownBlock ≠ some b
section
variable {gp bi : Nat} {w0 w w' : World} {L : List Tok} {sz : Nat} {ds ds' : List Dg} {D D' : Option Nat} {k : Nat} {x : ByteArray} {lb : Nat} {ps : List Pm} {v3 : Value} {ss : List Rf} {v4 v5 v6 v7 v8 v9 : Value}
/-- The reader steps on. -/
theorem IB.step (h : IB gp bi L sz ds D w0 w k x lb ps v3 ss v4 v5 v6 v7 v8 v9) (hp : QSt gp w' L sz ds' 0 D') (hs : Stp gp D D' w w') : IB gp bi L sz ds' D' w0 w' k x lb ps v3 ss v4 v5 v6 v7 v8 v9 := by
  have hlt : bi < w.heap.size := (Array.getElem?_eq_some_iff.1 h.k).1
  have hbD : some bi ≠ D := fun e => by have := (h.p.D_lt e).1; have := h.g; omega
  have hk : ∀ b, gp + 1 ≤ b → b < w.heap.size → some b ≠ D → w'.heap[b]? = w.heap[b]? := fun b h1 h2 h3 => hs.block b h2 (by omega) h3
  refine ⟨hp, h.s.trans hs, h.g, h.z, h.l, h.n, (hs.block bi hlt (by have := h.g; omega) hbD).trans h.k, own_kept h.r3 (fun b e => hk b (h.r3.lt b e).1 (h.r3.lt b e).2 (h.n3 b e)), own_kept h.r4 (fun b e => hk b (h.r4.lt b e).1 (h.r4.lt b e).2 (h.n4 b e).1), fun b e => hs.fresh (h.r3.lt b e).2 (h.n3 b e), fun b e => ⟨hs.fresh (h.r4.lt b e).2 (h.n4 b e).1, (h.n4 b e).2⟩⟩
theorem IB.below (h : IB gp bi L sz ds D w0 w k x lb ps v3 ss v4 v5 v6 v7 v8 v9) (hb : Below w.heap.size w w') : IB gp bi L sz ds D w0 w' k x lb ps v3 ss v4 v5 v6 v7 v8 v9 := h.step (h.p.below hb) (Stp.below hb)
theorem IB.tol (h : IB gp bi L sz ds D w0 w k x lb ps v3 ss v4 v5 v6 v7 v8 v9) {d : List Dg} (ht : TolQ gp L sz 0 D d w w') : ∃ D', IB gp bi L sz d D' w0 w' k x lb ps v3 ss v4 v5 v6 v7 v8 v9 ∧ Stp gp D D' w w' := by
  obtain ⟨D', h1, h2⟩ := ht
  exact ⟨D', h.step h1 h2, h2⟩
/-- A store into the item that is none of its lists. -/
theorem IB.set (h : IB gp bi L sz ds D w0 w k x lb ps v3 ss v4 v5 v6 v7 v8 v9) (o : Nat) (u : Value) {k' : Nat} {x' : ByteArray} {lb' : Nat} {u5 u6 u7 u8 u9 : Value} (hx : x' ≠ (tk L sz 0).x)
    (e : #[.int .i64 (k : Int), .string x, .int .i64 (lb : Int), v3, v4, v5, v6, v7, v8, v9].setIfInBounds o u = #[.int .i64 (k' : Int), .string x', .int .i64 (lb' : Int), v3, v4, u5, u6, u7, u8, u9]) : IB gp bi L sz ds D w0 (w.setCell ⟨bi, o, none⟩ u) k' x' lb' ps v3 ss v4 u5 u6 u7 u8 u9 := by
  have hc : w.cell? ⟨bi, 1, none⟩ = some (.string x) := cell_of_row _ _ 1 _ _ _ h.k
  refine ⟨h.p.setLow h.g h.l hc h.n o u, h.s.set h.z o u, h.g, h.z, h.l, hx, by rw [← e]; simp [World.setCell, Array.getElem?_modify, h.k], ownsRow_setCell_other h.r3 (fun e2 => by have e3 : gp + 1 ≤ bi := (h.r3.lt _ e2).1; have := h.g; omega) _, ownsRow_setCell_other h.r4 (fun e2 => by have e3 : gp + 1 ≤ bi := (h.r4.lt _ e2).1; have := h.g; omega) _, h.n3, h.n4⟩
/-- One more in the item's list. -/
theorem IB.app3 (h : IB gp bi L sz ds D w0 w k x lb ps v3 ss v4 v5 v6 v7 v8 v9) {w1 w2 : World} {g cap : Nat} {t : Pm} (hb1 : Below w.heap.size w w1) (hown2 : w2.ownsRow (gp + 1) 76 3 (.slice (some ⟨g, 0, none⟩) (ps.length + 1) cap) (ps.length + 1) (pmR ps ++ pmC t)) (hg : w1.grownBy w2 v3.ownBlock) (hat : v3.ownBlock = some g ∨ g = w1.heap.size) :
    IB gp bi L sz ds D w0 (w2.setCell ⟨bi, 3, none⟩ (.slice (some ⟨g, 0, none⟩) (ps.length + 1) cap)) k x lb (ps ++ [t]) (.slice (some ⟨g, 0, none⟩) (ps.length + 1) cap) ss v4 v5 v6 v7 v8 v9 := by
  have h1 := h.below hb1
  have hlt : bi < w1.heap.size := (Array.getElem?_eq_some_iff.1 h1.k).1
  have hgb := h.g
  have hrow : ∀ b, v3.ownBlock = some b → gp < b ∧ some b ≠ D := fun b e => ⟨by have := (h1.r3.lt b e).1; omega, h1.n3 b e⟩
  have hp2 := h1.p.grown hg hrow
  have hs2 := h1.s.grown hg (fun b e => by have := (hrow b e).1; have := h1.z; omega)
  have hk2 : w2.heap[bi]? = w1.heap[bi]? := hg.block bi hlt (fun e => by have := (hrow bi e.symm).1; omega)
  have ho2 : w2.ownsRow (gp + 1) 62 2 v4 ss.length (rfR ss) := own_kept h1.r4 (fun b e => hg.block b (h1.r4.lt b e).2 (fun e2 => (h1.n4 b e).2 e2.symm))
  have hc : w2.cell? ⟨bi, 1, none⟩ = some (.string x) := cell_of_row _ _ 1 _ _ _ (hk2.trans h1.k)
  have hgl := hown2.lt g rfl
  have hgD : some g ≠ D := by
    rcases hat with e | e
    · exact (hrow g e).2
    · intro e2; have := (h1.p.D_lt e2).2; omega
  have hgo : ∀ b, v4.ownBlock = some b → b ≠ g := fun b e e2 => by
    subst e2
    rcases hat with e3 | e3
    · exact (h1.n4 b e).2 e3
    · have := (h1.r4.lt b e).2; omega
  refine ⟨hp2.setLow hgb h1.l hc h1.n 3 _, hs2.set h1.z 3 _, hgb, h1.z, h1.l, h1.n, by simp [World.setCell, Array.getElem?_modify, hk2, h1.k], ?_, ?_, fun b e => ?_, fun b e => ⟨(h1.n4 b e).1, ?_⟩⟩
  · rw [List.length_append, pmR_snoc]
    exact ownsRow_setCell_other hown2 (fun e2 => by have e3 : gp + 1 ≤ bi := (hown2.lt _ e2).1; omega) _
  · exact ownsRow_setCell_other ho2 (fun e2 => by have e3 : gp + 1 ≤ bi := (ho2.lt _ e2).1; omega) _
  · have e3 : g = b := by simpa [Value.ownBlock] using e
    rw [← e3]; exact hgD
  · show some g ≠ some b
    intro e2; injection e2 with e2; exact hgo b e e2.symm
/-- One more in the item's list. -/
theorem IB.app4 (h : IB gp bi L sz ds D w0 w k x lb ps v3 ss v4 v5 v6 v7 v8 v9) {w1 w2 : World} {g cap : Nat} {t : Rf} (hb1 : Below w.heap.size w w1) (hown2 : w2.ownsRow (gp + 1) 62 2 (.slice (some ⟨g, 0, none⟩) (ss.length + 1) cap) (ss.length + 1) (rfR ss ++ rfC t)) (hg : w1.grownBy w2 v4.ownBlock) (hat : v4.ownBlock = some g ∨ g = w1.heap.size) :
    IB gp bi L sz ds D w0 (w2.setCell ⟨bi, 4, none⟩ (.slice (some ⟨g, 0, none⟩) (ss.length + 1) cap)) k x lb ps v3 (ss ++ [t]) (.slice (some ⟨g, 0, none⟩) (ss.length + 1) cap) v5 v6 v7 v8 v9 := by
  have h1 := h.below hb1
  have hlt : bi < w1.heap.size := (Array.getElem?_eq_some_iff.1 h1.k).1
  have hgb := h.g
  have hrow : ∀ b, v4.ownBlock = some b → gp < b ∧ some b ≠ D := fun b e => ⟨by have := (h1.r4.lt b e).1; omega, (h1.n4 b e).1⟩
  have hp2 := h1.p.grown hg hrow
  have hs2 := h1.s.grown hg (fun b e => by have := (hrow b e).1; have := h1.z; omega)
  have hk2 : w2.heap[bi]? = w1.heap[bi]? := hg.block bi hlt (fun e => by have := (hrow bi e.symm).1; omega)
  have ho2 : w2.ownsRow (gp + 1) 76 3 v3 ps.length (pmR ps) := own_kept h1.r3 (fun b e => hg.block b (h1.r3.lt b e).2 (fun e2 => (h1.n4 b e2.symm).2 e))
  have hc : w2.cell? ⟨bi, 1, none⟩ = some (.string x) := cell_of_row _ _ 1 _ _ _ (hk2.trans h1.k)
  have hgl := hown2.lt g rfl
  have hgD : some g ≠ D := by
    rcases hat with e | e
    · exact (hrow g e).2
    · intro e2; have := (h1.p.D_lt e2).2; omega
  have hgo : ∀ b, v3.ownBlock = some b → b ≠ g := fun b e e2 => by
    subst e2
    rcases hat with e3 | e3
    · exact (h1.n4 b e3).2 e
    · have := (h1.r3.lt b e).2; omega
  refine ⟨hp2.setLow hgb h1.l hc h1.n 4 _, hs2.set h1.z 4 _, hgb, h1.z, h1.l, h1.n, by simp [World.setCell, Array.getElem?_modify, hk2, h1.k], ?_, ?_, h1.n3, fun b e => ?_⟩
  · exact ownsRow_setCell_other ho2 (fun e2 => by have e3 : gp + 1 ≤ bi := (ho2.lt _ e2).1; omega) _
  · rw [List.length_append, rfR_snoc]
    exact ownsRow_setCell_other hown2 (fun e2 => by have e3 : gp + 1 ≤ bi := (hown2.lt _ e2).1; omega) _
  · have e3 : g = b := by simpa [Value.ownBlock] using e
    rw [← e3]
    exact ⟨hgD, fun e2 => hgo g e2 rfl⟩
end
end Go.Proofs.Ytjpmnholpeidmaa

namespace Go.Proofs.Ytjpmnholpeidmaa
open Go.RowKit
set_option linter.unusedVariables false
/-- What holds of parameters, and of what is sent to, that were read. -/
def flPq (L : List Tok) (ps : List Pm) : Prop := ps.length ≤ 5 ∧ ∀ p ∈ ps, p.l < 256 ∧ (p.x = noB ∨ tkn L p.x p.a)
def flR (L : List Tok) (ss : List Rf) : Prop := ss.length ≤ 5 ∧ ∀ r ∈ ss, r.x = noB ∨ tkn L r.x r.a
theorem flPq.snoc {L : List Tok} {ps : List Pm} {p : Pm} (h : flPq L ps) (h5 : ps.length < 5) (hl : p.l < 256) (hx : p.x = noB ∨ tkn L p.x p.a) : flPq L (ps ++ [p]) := by
  refine ⟨by simp; omega, fun q hq => ?_⟩
  rcases List.mem_append.1 hq with h1 | h1
  · exact h.2 q h1
  · rw [List.mem_singleton.1 h1]; exact ⟨hl, hx⟩
theorem flR.snoc {L : List Tok} {ss : List Rf} {r : Rf} (h : flR L ss) (h5 : ss.length < 5) (hx : r.x = noB ∨ tkn L r.x r.a) : flR L (ss ++ [r]) := by
  refine ⟨by simp; omega, fun q hq => ?_⟩
  rcases List.mem_append.1 hq with h1 | h1
  · exact h.2 q h1
  · rw [List.mem_singleton.1 h1]; exact hx
theorem named_or (L : List Tok) (sz i : Nat) : (pNamed L sz i).v = noB ∨ tkn L (pNamed L sz i).v (tk L sz i).a := (named_tkn i).imp id And.left
/-- What is needed, and there, is stepped over. -/
theorem need_fwd (L : List Tok) (sz i : Nat) (s : ByteArray) : (pNeed L sz i s).v = true → i + 1 ≤ (pNeed L sz i s).i := by
  unfold pNeed
  split
  · exact fun _ => Nat.le_refl _
  · intro h; cases h
/-- A name is not the word that an item begins with. -/
theorem named_ne {L : List Tok} {sz : Nat} (i : Nat) {x : ByteArray} (h0 : nmB x = false) (h1 : x ≠ noB) : (pNamed L sz i).v ≠ x := by
  intro e
  rcases named_or L sz i with h | h
  · exact h1 (by rw [← e, h])
  · have h2 := h.1
    rw [e, h0] at h2
    cases h2
/-- Where the reading of parameters stands: at most so much is told. -/
def RelF1 (gp bi : Nat) (L : List Tok) (sz : Nat) (w0 : World) (x : ByteArray) (v6 v7 : Value) (c : Nat) (i : Value) (wr : World) : Prop :=
  ∃ (j : Nat) (ds : List Dg) (D : Option Nat) (ps : List Pm) (v3 : Value), i = .int .i64 (j : Int) ∧ 1 ≤ j ∧ j ≤ L.length ∧ IB gp bi L sz ds D w0 wr 2 x 0 ps v3 [] (.slice none 0 0) (.slice none 0 0) v6 v7 (.int .i64 ((tk L sz 1).a : Int)) (.slice none 0 0) ∧ flPq L ps ∧ ds.length ≤ 2 * j + c
/-- Where the reading of what is sent to stands. -/
def RelF2 (gp bi : Nat) (L : List Tok) (sz : Nat) (w0 : World) (x : ByteArray) (lb : Nat) (ps : List Pm) (v3 v6 v7 : Value) (i m : Value) (wr : World) : Prop :=
  ∃ (j : Nat) (mo : Bool) (ds : List Dg) (D : Option Nat) (ss : List Rf) (v4 : Value), i = .int .i64 (j : Int) ∧ m = .bool mo ∧ 1 ≤ j ∧ j ≤ L.length ∧ IB gp bi L sz ds D w0 wr 2 x lb ps v3 ss v4 (.slice none 0 0) v6 v7 (.int .i64 ((tk L sz 1).a : Int)) (.slice none 0 0) ∧ flR L ss ∧ ds.length ≤ 2 * j + 6 ∧ (mo = true → ds.length ≤ 2 * j + 5)
/-- A function, but for its body. -/
def RelFnC (gp bi : Nat) (L : List Tok) (sz : Nat) (w0 : World) (x : ByteArray) (lb : Nat) (ps : List Pm) (v3 v6 v7 : Value) (i : Value) (wr : World) : Prop :=
  ∃ (j : Nat) (ds : List Dg) (D : Option Nat) (ss : List Rf) (v4 : Value), i = .int .i64 (j : Int) ∧ 1 ≤ j ∧ j ≤ L.length ∧ IB gp bi L sz ds D w0 wr 2 x lb ps v3 ss v4 (.slice none 0 0) v6 v7 (.int .i64 ((tk L sz 1).a : Int)) (.slice none 0 0) ∧ flR L ss ∧ ds.length ≤ 2 * j + 6
/-- What a function in memory comes to. -/
def FnTold (gp bi : Nat) (L : List Tok) (sz : Nat) (w0 : World) (v6 v7 : Value) (j : Nat) (w' : World) : Prop :=
  ∃ (ds : List Dg) (D : Option Nat) (x : ByteArray) (lb : Nat) (ps : List Pm) (v3 : Value) (ss : List Rf) (v4 : Value) (l : List Tr) (p5 : Option Addr) (c5 n : Nat), j ≤ L.length ∧
    IB gp bi L sz ds D w0 w' 2 x lb ps v3 ss v4 (.slice p5 l.length c5) v6 v7 (.int .i64 ((tk L sz 1).a : Int)) (.slice none 0 0) ∧ SlT (okS (bi + 1) gp D w') (RdS n (okS (bi + 1) gp D w') w') w' 15 l p5 ∧
    (x = noB ∨ tkn L x (tk L sz 1).a) ∧ lb < 256 ∧ flPq L ps ∧ flR L ss ∧ l.length ≤ 40 ∧ (∃ m, wfL (zS L m) L.length l) ∧ ds.length ≤ 100000 ∧ (ds = [] → colB bdF l = []) ∧ InS L sz 0 L.length (colB ltF l)
section
variable {gp bi : Nat} {w0 w w' : World} {L : List Tok} {sz : Nat} {ds ds' : List Dg} {D D' : Option Nat} {k : Nat} {x : ByteArray} {lb : Nat} {ps : List Pm} {v3 : Value} {ss : List Rf} {v4 v5 v6 v7 v8 v9 : Value}
/-- The item's cells. -/
theorem IB.cells (h : IB gp bi L sz ds D w0 w k x lb ps v3 ss v4 v5 v6 v7 v8 v9) : w.cell? ⟨bi, 0, none⟩ = some (.int .i64 (k : Int)) ∧ w.cell? ⟨bi, 1, none⟩ = some (.string x) ∧ w.cell? ⟨bi, 2, none⟩ = some (.int .i64 (lb : Int)) ∧ w.cell? ⟨bi, 3, none⟩ = some v3 ∧ w.cell? ⟨bi, 4, none⟩ = some v4 ∧ w.cell? ⟨bi, 5, none⟩ = some v5 ∧ w.cell? ⟨bi, 6, none⟩ = some v6 ∧ w.cell? ⟨bi, 7, none⟩ = some v7 ∧ w.cell? ⟨bi, 8, none⟩ = some v8 ∧ w.cell? ⟨bi, 9, none⟩ = some v9 ∧ ∀ o, w.frozen? ⟨bi, o, none⟩ = false :=
  ⟨cell_of_row _ _ 0 _ _ _ h.k, cell_of_row _ _ 1 _ _ _ h.k, cell_of_row _ _ 2 _ _ _ h.k, cell_of_row _ _ 3 _ _ _ h.k, cell_of_row _ _ 4 _ _ _ h.k, cell_of_row _ _ 5 _ _ _ h.k, cell_of_row _ _ 6 _ _ _ h.k, cell_of_row _ _ 7 _ _ _ h.k, cell_of_row _ _ 8 _ _ _ h.k, cell_of_row _ _ 9 _ _ _ h.k, fun o => by simp [World.frozen?, h.k]⟩
theorem own_formQ {w : World} {base st n : Nat} {e : TypeId} {v : Value} {xs : List Value} (h : w.ownsRow base e st v n xs) : ∃ p c, v = .slice p n c := by
  rcases h.2 with ⟨e0, h0⟩ | ⟨g, cap, _, e0, _⟩
  · subst h0; exact ⟨_, _, e0⟩
  · exact ⟨_, _, e0⟩
theorem IB.form3 (h : IB gp bi L sz ds D w0 w k x lb ps v3 ss v4 v5 v6 v7 v8 v9) : ∃ p c, v3 = .slice p ps.length c := own_formQ h.r3
theorem IB.form4 (h : IB gp bi L sz ds D w0 w k x lb ps v3 ss v4 v5 v6 v7 v8 v9) : ∃ p c, v4 = .slice p ss.length c := own_formQ h.r4
theorem IB.blt (h : IB gp bi L sz ds D w0 w k x lb ps v3 ss v4 v5 v6 v7 v8 v9) : bi < w.heap.size := (Array.getElem?_eq_some_iff.1 h.k).1
/-- A store behind the reader. -/
theorem IB.far (h : IB gp bi L sz ds D w0 w k x lb ps v3 ss v4 v5 v6 v7 v8 v9) {b : Nat} (h1 : gp < b) (h2 : some b ≠ D) (h3 : w0.heap.size ≤ b) (h4 : v3.ownBlock ≠ some b) (h5 : v4.ownBlock ≠ some b) (o : Nat) (u : Value) : IB gp bi L sz ds D w0 (w.setCell ⟨b, o, none⟩ u) k x lb ps v3 ss v4 v5 v6 v7 v8 v9 :=
  ⟨h.p.set h1 h2 o u, h.s.set h3 o u, h.g, h.z, h.l, h.n, (Below.heap_setCell w _ _ bi (by have := h.g; simp; omega)).trans h.k, ownsRow_setCell_other h.r3 h4 _, ownsRow_setCell_other h.r4 h5 _, h.n3, h.n4⟩
/-- And a block beside it. -/
structure IX (gp bi : Nat) (L : List Tok) (sz : Nat) (ds : List Dg) (D : Option Nat) (w0 w : World) (k : Nat) (x : ByteArray) (lb : Nat) (ps : List Pm) (v3 : Value) (ss : List Rf) (v4 v5 v6 v7 v8 v9 : Value) (T : TypeId) (b : Nat) (cs : Array Value) : Prop where
  h : IB gp bi L sz ds D w0 w k x lb ps v3 ss v4 v5 v6 v7 v8 v9
  c : w.heap[b]? = some (.cells cs T (0, 0))
  g : gp < b
  d : some b ≠ D
  z : w0.heap.size ≤ b
  e3 : v3.ownBlock ≠ some b
  e4 : v4.ownBlock ≠ some b
theorem IB.new (h : IB gp bi L sz ds D w0 w k x lb ps v3 ss v4 v5 v6 v7 v8 v9) (T : TypeId) (cs : Array Value) : IX gp bi L sz ds D w0 (w.alloc (.cells cs T)) k x lb ps v3 ss v4 v5 v6 v7 v8 v9 T w.heap.size cs :=
  ⟨h.below ((Below.refl _ _).alloc (Nat.le_refl _) _), heap_alloc_new w _, h.p.gp_lt, fun e => by have := (h.p.D_lt e).2; omega, h.s.size, fun e => by have := (h.r3.lt _ e).2; omega, fun e => by have := (h.r4.lt _ e).2; omega⟩
end
section
variable {gp bi : Nat} {w0 w w' : World} {L : List Tok} {sz : Nat} {ds ds' : List Dg} {D D' : Option Nat} {k : Nat} {x : ByteArray} {lb : Nat} {ps : List Pm} {v3 : Value} {ss : List Rf} {v4 v5 v6 v7 v8 v9 : Value} {T : TypeId} {b : Nat} {cs : Array Value}
theorem IX.lt (h : IX gp bi L sz ds D w0 w k x lb ps v3 ss v4 v5 v6 v7 v8 v9 T b cs) : b < w.heap.size := (Array.getElem?_eq_some_iff.1 h.c).1
theorem IX.tol (h : IX gp bi L sz ds D w0 w k x lb ps v3 ss v4 v5 v6 v7 v8 v9 T b cs) {d : List Dg} (ht : TolQ gp L sz 0 D d w w') : ∃ D', IX gp bi L sz d D' w0 w' k x lb ps v3 ss v4 v5 v6 v7 v8 v9 T b cs := by
  obtain ⟨D', h1, h2⟩ := ht
  exact ⟨D', h.h.step h1 h2, (h2.block b h.lt (by have := h.g; omega) h.d).trans h.c, h.g, h2.fresh h.lt h.d, h.z, h.e3, h.e4⟩
theorem IX.set (h : IX gp bi L sz ds D w0 w k x lb ps v3 ss v4 v5 v6 v7 v8 v9 T b cs) (o : Nat) (u : Value) {cs' : Array Value} (e : cs.setIfInBounds o u = cs') : IX gp bi L sz ds D w0 (w.setCell ⟨b, o, none⟩ u) k x lb ps v3 ss v4 v5 v6 v7 v8 v9 T b cs' :=
  ⟨h.h.far h.g h.d h.z h.e3 h.e4 o u, by rw [← e]; simp [World.setCell, Array.getElem?_modify, h.c], h.g, h.d, h.z, h.e3, h.e4⟩
theorem IX.cell (h : IX gp bi L sz ds D w0 w k x lb ps v3 ss v4 v5 v6 v7 v8 v9 T b cs) (o : Nat) : w.cell? ⟨b, o, none⟩ = cs[o]? := cell_of_row _ _ o _ _ _ h.c
theorem IX.thaw (h : IX gp bi L sz ds D w0 w k x lb ps v3 ss v4 v5 v6 v7 v8 v9 T b cs) (o : Nat) : w.frozen? ⟨b, o, none⟩ = false := by simp [World.frozen?, h.c]
end
theorem news1d (w : World) (cs : Array Value) (t : TypeId) : ∀ j u, cs.toList[j]? = some u → ((w.alloc (.cells cs t)).drew).cell? ((⟨w.heap.size, 0, none⟩ : Addr).add j) = some u := fun j u hj => World.news_of_block (heap_alloc_new w (.cells cs t)) j u hj
theorem one_stay {w1 w2 : World} {o2 : Obj} {row : Option Nat} (hg : ((w1.alloc o2).drew).grownBy w2 row) (b : Nat) (hb : b < w1.heap.size) (hne : some b ≠ row) : (∀ k, w2.cell? ⟨b, k, none⟩ = w1.cell? ⟨b, k, none⟩) ∧ (∀ k, w2.frozen? ⟨b, k, none⟩ = w1.frozen? ⟨b, k, none⟩) := by
  have h1 : w2.heap[b]? = w1.heap[b]? := (hg.block b (by simp; omega) hne).trans (Below.heap_alloc w1 o2 b hb)
  exact ⟨fun k => World.cell?_of_block (a := ⟨b, k, none⟩) h1, fun k => World.frozen?_of_block (a := ⟨b, k, none⟩) h1⟩
section
variable {gp bi : Nat} {w0 w : World} {L : List Tok} {sz : Nat} {ds : List Dg} {D : Option Nat} {k : Nat} {x : ByteArray} {lb : Nat} {ps : List Pm} {v3 : Value} {ss : List Rf} {v4 v5 v6 v7 v8 v9 : Value}
/-- A parameter more: what append comes to. -/
theorem IB.more3 (h : IB gp bi L sz ds D w0 w k x lb ps v3 ss v4 v5 v6 v7 v8 v9) (h5 : ps.length ≤ 5) (y : ByteArray) (l a : Nat) :
    ∃ g cap w2, appR Try.prog #[30, 30] 30 #[v3, .slice (some ⟨w.heap.size, 0, none⟩) 1 1] ((w.alloc (.cells #[.string y, .int .i64 (l : Int), .int .i64 (a : Int)] 76)).drew) = .ok (.slice (some ⟨g, 0, none⟩) (ps.length + 1) cap) w2 ∧
      w2.cell? ⟨bi, 3, none⟩ = some v3 ∧ w2.frozen? ⟨bi, 3, none⟩ = false ∧ IB gp bi L sz ds D w0 (w2.setCell ⟨bi, 3, none⟩ (.slice (some ⟨g, 0, none⟩) (ps.length + 1) cap)) k x lb (ps ++ [⟨y, l, a⟩]) (.slice (some ⟨g, 0, none⟩) (ps.length + 1) cap) ss v4 v5 v6 v7 v8 v9 := by
  obtain ⟨i0, hi0, hz0, hz1, hz2⟩ := info_parts infoPmQ
  have hp := h.p.gp_lt
  obtain ⟨g, cap, w2, hrun, hown2, hgrow2, hat, hlt⟩ := run_append_lies (P := Try.prog) (w := (w.alloc (.cells #[.string y, .int .i64 (l : Int), .int .i64 (a : Int)] 76)).drew) 30 30 (gp + 1) 76 i0 _ 3 32 Try.underlying30 hi0 hz0 hz1 hz2 rfl (by decide) v3 ps.length (pmR ps) ((h.r3.alloc _).drew) ⟨w.heap.size, 0, none⟩ 1 1 [.string y, .int .i64 (l : Int), .int .i64 (a : Int)] rfl (news1d _ _ _) (by simp [Value.oneCell']) (by decide) (by unfold maxLen; omega) (by omega) (by simp; omega) _ rfl
  have hst := one_stay hgrow2 bi h.blt (fun e => by have := (h.r3.lt bi e.symm).1; have := h.g; omega)
  refine ⟨g, cap, w2, hrun, (hst.1 3).trans h.cells.2.2.2.1, (hst.2 3).trans (by simp [World.frozen?, h.k]), ?_⟩
  exact h.app3 (t := ⟨y, l, a⟩) (((Below.refl _ _).alloc (Nat.le_refl _) _).drew) hown2 hgrow2 hat
/-- One more that it sends to: what append comes to. -/
theorem IB.more4 (h : IB gp bi L sz ds D w0 w k x lb ps v3 ss v4 v5 v6 v7 v8 v9) (h5 : ss.length ≤ 5) (y : ByteArray) (a : Nat) :
    ∃ g cap w2, appR Try.prog #[31, 31] 31 #[v4, .slice (some ⟨w.heap.size, 0, none⟩) 1 1] ((w.alloc (.cells #[.string y, .int .i64 (a : Int)] 62)).drew) = .ok (.slice (some ⟨g, 0, none⟩) (ss.length + 1) cap) w2 ∧
      w2.cell? ⟨bi, 4, none⟩ = some v4 ∧ w2.frozen? ⟨bi, 4, none⟩ = false ∧ IB gp bi L sz ds D w0 (w2.setCell ⟨bi, 4, none⟩ (.slice (some ⟨g, 0, none⟩) (ss.length + 1) cap)) k x lb ps v3 (ss ++ [⟨y, a⟩]) (.slice (some ⟨g, 0, none⟩) (ss.length + 1) cap) v5 v6 v7 v8 v9 := by
  obtain ⟨i0, hi0, hz0, hz1, hz2⟩ := info_parts infoRfQ
  have hp := h.p.gp_lt
  obtain ⟨g, cap, w2, hrun, hown2, hgrow2, hat, hlt⟩ := run_append_lies (P := Try.prog) (w := (w.alloc (.cells #[.string y, .int .i64 (a : Int)] 62)).drew) 31 31 (gp + 1) 62 i0 _ 2 24 Try.underlying31 hi0 hz0 hz1 hz2 rfl (by decide) v4 ss.length (rfR ss) ((h.r4.alloc _).drew) ⟨w.heap.size, 0, none⟩ 1 1 [.string y, .int .i64 (a : Int)] rfl (news1d _ _ _) (by simp [Value.oneCell']) (by decide) (by unfold maxLen; omega) (by omega) (by simp; omega) _ rfl
  have hst := one_stay hgrow2 bi h.blt (fun e => by have := (h.r4.lt bi e.symm).1; have := h.g; omega)
  refine ⟨g, cap, w2, hrun, (hst.1 4).trans h.cells.2.2.2.2.1, (hst.2 4).trans (by simp [World.frozen?, h.k]), ?_⟩
  exact h.app4 (t := ⟨y, a⟩) (((Below.refl _ _).alloc (Nat.le_refl _) _).drew) hown2 hgrow2 hat
end
end Go.Proofs.Ytjpmnholpeidmaa

namespace Go.Proofs.Ytjpmnholpeidmaa
open Go.RowKit
set_option linter.unusedVariables false
attribute [local go_sem ↓] Go.wp_at_zero Go.wp_at_succ
attribute [local go_sem ↓] app_hide app_hide3
set_option maxHeartbeats 8000000 in
set_option maxRecDepth 100000 in
theorem refFn_any {gp bi : Nat} {w0 w : World} {L : List Tok} {sz : Nat} {v6 v7 : Value} (h : IB gp bi L sz [] none w0 w 3 noB 0 [] (.slice none 0 0) [] (.slice none 0 0) (.slice none 0 0) v6 v7 (.int .i64 0) (.slice none 0 0)) (hk : (tk L sz 0).x = kFn) :
    Calls Try.prog 37 #[.pointer (some ⟨gp, 0, none⟩), .pointer (some ⟨bi, 0, none⟩), .int .i64 1] w fun e w' => ∃ j, e = .returned (.int .i64 ((j : Nat) : Int)) ∧ FnTold gp bi L sz w0 v6 v7 j w' := by
  have hl := h.l
  have hlen := h.p.len
  have hL : ∀ t ∈ L, okT t := fun t ht => (h.p.end_ t ht).2.1
  have hxn : noB ≠ (tk L sz 0).x := by rw [hk]; decide
  have q1 := named_bd (sz := sz) hL (i := 1) hl
  have q2 := named_or L sz 1
  have q3 : (pNamed L sz 1).v ≠ (tk L sz 0).x := by rw [hk]; exact named_ne 1 (by decide) (by decide)
  have HL := hidQ hL
  have hfd := fun w2 => (tkFieldQ ((tk L sz 1).k : Int) ((tk L sz 1).a : Int) (tk L sz 1).x w2).1
  clear hL
  go_enter Try.func37, Try.ntmps37
  go_upto_block 0 with (first
    | (go_at_call 38; refine (refT_any h.p 1 (by omega)).mono ?_; rintro e w1 ⟨rfl, hb1⟩; unfold tkV; have h1 := h.below hb1; obtain ⟨b0, b1, b2, b3, b4, b5, b6, b7, b8, b9, bf⟩ := h1.cells; have h2 := (h1.set (k' := 2) 0 (.int .i64 2) hxn rfl).set 8 (.int .i64 ((tk L sz 1).a : Int)) hxn rfl)
    | (go_at_call 39; refine (refNamed_any h2.p 1 (by omega) (by simp)).mono ?_; rintro e w3 ⟨rfl, ht3⟩; obtain ⟨D3, h3, _⟩ := h2.tol ht3; generalize pNamed L sz 1 = r1 at *; obtain ⟨e0, e1, e2, e3, e4, e5, e6, e7, e8, e9, ef⟩ := h3.cells; have h4 := h3.set 1 (.string r1.v) q3 rfl)
    | (go_at_call 40; refine (refNeed_any h4.p r1.i (by omega) (bs1 40) (by simp; omega)).mono ?_; rintro e w5 ⟨rfl, ht5⟩; obtain ⟨D5, h5, _⟩ := h4.tol ht5; have q4 := need_bd (sz := sz) (s := bs1 40) q1.2.1; generalize pNeed L sz r1.i (bs1 40) = r2 at *))
  have H0 : RelF1 gp bi L sz w0 r1.v v6 v7 0 (.int .i64 (r2.i : Int)) w5 := ⟨r2.i, _, D5, [], _, rfl, by omega, by omega, h5, ⟨by simp, by simp⟩, by simp; omega⟩
  have HQ := hidQ (And.intro q2 q3)
  clear q1 q2 q3 q4 h5 ht5 h4 e0 e1 e2 e3 e4 e5 e6 e7 e8 e9 ef h3 ht3 h2 b0 b1 b2 b3 b4 b5 b6 b7 b8 b9 bf h1 hb1 hxn
  go_cut [2] from 36 to 100 (fun i' wr => RelF1 gp bi L sz w0 r1.v v6 v7 2 i' wr)
  case first =>
    go_wp2
    go_loopw [2] (fun i' wr => RelF1 gp bi L sz w0 r1.v v6 v7 0 i' wr) (fun i' _ => upN (L.length + 1) i')
    case atStart => exact H0
    case round =>
      clear H0
      obtain ⟨j, ds, D, ps, v3, rfl, hj1, hjL, hI, hps, hds⟩ := hrel
      have hp5 := hps.1
      have HP := hidQ hps
      clear hps
      obtain ⟨p3, c3, hv3⟩ := hI.form3
      subst hv3
      obtain ⟨pq, cq, vq, n0, n1, n2, n3, nf, ntok, n6, n7⟩ := hI.p.cells
      clear ntok n6 n7
      obtain ⟨b0, b1, b2, b3, b4, b5, b6, b7, b8, b9, bf⟩ := hI.cells
      by_cases hjl : j < L.length
      · cases hE : isT L j (bs1 41)
        · by_cases h5 : 5 ≤ ps.length
          · go_wp2_with (first
              | (go_at_call 36; refine (refIs_any hI.p j (by omega) (bs1 41)).mono ?_; rintro e w_ ⟨rfl, hw_⟩; subst w_; rw [hE])
              | (go_at_call 42; refine (refBad_any hI.p j (by omega) 5 (by omega)).mono ?_; rintro e w3 ⟨rfl, D3, hp3, hs3⟩; have h3 := hI.step hp3 hs3))
            go_meet
            exact ⟨j, _, D3, ps, _, rfl, hj1, hjL, h3, HP.out, by simp; omega⟩
          · have t1 := named_bd (sz := sz) HL.out hjL
            have t2 := hidQ (named_or L sz j)
            have hfj := fun w2 => (tkFieldQ ((tk L sz j).k : Int) ((tk L sz j).a : Int) (tk L sz j).x w2).1
            go_upto_region 13 with (first
              | (go_at_call 36; refine (refIs_any hI.p j (by omega) (bs1 41)).mono ?_; rintro e w_ ⟨rfl, hw_⟩; subst w_; rw [hE])
              | (go_at_call 38; refine (refT_any hI.p j (by omega)).mono ?_; rintro e w2 ⟨rfl, hb2⟩; unfold tkV; have hX := (hI.below hb2).new 76 #[.string ⟨#[]⟩, .int .i64 0, .int .i64 ((tk L sz j).a : Int)]; generalize hxb : w2.heap.size = xb at *)
              | (go_at_call 39; refine (refNamed_any hX.h.p j (by omega) (by omega)).mono ?_; rintro e w3 ⟨rfl, ht3⟩; obtain ⟨D3, hX3⟩ := hX.tol ht3; generalize pNamed L sz j = r3 at *; have y0 : w3.cell? ⟨xb, 0, none⟩ = some (.string ⟨#[]⟩) := hX3.cell 0; have yf := hX3.thaw 0; have hX4 := hX3.set 0 (.string r3.v) rfl)
              | (go_at_call 40; refine (refNeed_any hX4.h.p r3.i (by omega) (bs1 58) (by simp; omega)).mono ?_; rintro e w5 ⟨rfl, ht5⟩; obtain ⟨D5, hX5⟩ := hX4.tol ht5; have t3 := need_bd (sz := sz) (s := bs1 58) t1.2.1; have t4 := need_fwd L sz r3.i (bs1 58); generalize pNeed L sz r3.i (bs1 58) = r4 at *)
              | (go_at_call 41; refine (refLab_any hX5.h.p r4.i (by omega) (by simp; omega)).mono ?_; rintro e w6 ⟨rfl, ht6⟩; obtain ⟨D6, hX6⟩ := hX5.tol ht6; have t5 := lab_bd (sz := sz) t3.2.1; generalize pLab L sz r4.i = r5 at *; have z1 : w6.cell? ⟨xb, 1, none⟩ = some (.int .i64 0) := hX6.cell 1; have zf := hX6.thaw 1; have hX7 := hX6.set 1 (.int .i64 (r5.v : Int)) rfl))
            · go_meet
              exact ⟨r4.i, _, D5, ps, _, rfl, by omega, by omega, hX5.h, HP.out, by simp; omega⟩
            · have hadv : r3.i + 1 ≤ r4.i := t4 (by simpa using ‹(!r4.v) = false›)
              obtain ⟨g, cap, w8, hA, g3, gf, hI8⟩ := hX7.h.more3 (by omega) r3.v r5.v (tk L sz j).a
              have u0 : (w6.setCell ⟨xb, 1, none⟩ (.int .i64 (r5.v : Int))).cell? ⟨xb, 0, none⟩ = some (.string r3.v) := hX7.cell 0
              have u1 : (w6.setCell ⟨xb, 1, none⟩ (.int .i64 (r5.v : Int))).cell? ⟨xb, 1, none⟩ = some (.int .i64 (r5.v : Int)) := hX7.cell 1
              have u2' : (w6.setCell ⟨xb, 1, none⟩ (.int .i64 (r5.v : Int))).cell? ⟨xb, 2, none⟩ = some (.int .i64 ((tk L sz j).a : Int)) := hX7.cell 2
              have u3' := hX7.h.cells.2.2.2.1
              generalize w6.setCell ⟨xb, 1, none⟩ (.int .i64 (r5.v : Int)) = W at *
              have u4' := cell_alloc u3'
              go_region
              have t6 : (⟨(r3.v), r5.v, (tk L sz j).a⟩ : Pm).l < 256 ∧ ((⟨(r3.v), r5.v, (tk L sz j).a⟩ : Pm).x = noB ∨ tkn L (⟨(r3.v), r5.v, (tk L sz j).a⟩ : Pm).x (⟨(r3.v), r5.v, (tk L sz j).a⟩ : Pm).a) := ⟨t5.1, t2.out⟩
              have t7 := HP.out.snoc (by omega) t6.1 t6.2
              have t8 := hidQ t7
              clear t7 t6
              cases hC : isT L r5.i (bs1 44)
              · go_wp2_with (first
                  | (go_at_call 36; refine (refIs_any hI8.p r5.i (by omega) (bs1 44)).mono ?_; rintro e w_ ⟨rfl, hw_⟩; subst w_; rw [hC]))
                go_meet
                exact ⟨r5.i, _, D6, _, _, rfl, by omega, by omega, hI8, t8.out, by simp; omega⟩
              · have hCl := isT_in hC
                go_wp2_with (first
                  | (go_at_call 36; refine (refIs_any hI8.p r5.i (by omega) (bs1 44)).mono ?_; rintro e w_ ⟨rfl, hw_⟩; subst w_; rw [hC]))
                go_roundw
                case rel => exact ⟨r5.i + 1, _, D6, _, _, by go_num, by omega, by omega, hI8, t8.out, by simp; omega⟩
                case measure => simp [upN, intOf]; omega
        · go_wp2_with (first
            | (go_at_call 36; refine (refIs_any hI.p j (by omega) (bs1 41)).mono ?_; rintro e w_ ⟨rfl, hw_⟩; subst w_; rw [hE]))
          go_meet
          exact ⟨j, _, D, ps, _, rfl, hj1, hjL, hI, HP.out, by omega⟩
      · go_wp2
        go_meet
        exact ⟨j, _, D, ps, _, rfl, hj1, hjL, hI, HP.out, by omega⟩
  case rest =>
    clear H0
    obtain ⟨j, ds, D, ps, v3, rfl, hj1, hjL, hI, hps, hds⟩ := hcut
    have HP := hidQ hps
    clear hps
    have F1 : Hid (1 = 1) := rfl
    have t1 := need_bd (sz := sz) (s := bs1 41) hjL
    go_upto_if 124 with (first
      | (go_at_call 40; have f := F1; clear f F1; refine (refNeed_any hI.p j (by omega) (bs1 41) (by omega)).mono ?_; rintro e w3 ⟨rfl, ht3⟩; obtain ⟨D3, h3, _⟩ := hI.tol ht3; generalize pNeed L sz j (bs1 41) = r3 at *)
      | (go_at_call 40; refine (refNeed_any h3.p r3.i (by omega) (bs1 58) (by simp; omega)).mono ?_; rintro e w4 ⟨rfl, ht4⟩; obtain ⟨D4, h4, _⟩ := h3.tol ht4; have t2 := need_bd (sz := sz) (s := bs1 58) t1.2.1; generalize pNeed L sz r3.i (bs1 58) = r4 at *)
      | (go_at_call 41; refine (refLab_any h4.p r4.i (by omega) (by simp; omega)).mono ?_; rintro e w5 ⟨rfl, ht5⟩; obtain ⟨D5, h5, _⟩ := h4.tol ht5; have t3 := lab_bd (sz := sz) t2.2.1; generalize pLab L sz r4.i = r5 at *; obtain ⟨b0, b1, b2, b3, b4, b5, b6, b7, b8, b9, bf⟩ := h5.cells; have h6 := h5.set (lb' := r5.v) 2 (.int .i64 (r5.v : Int)) HQ.out.2 rfl)
      | (go_at_call 36; refine (refIs_any h6.p r5.i (by omega) kSends).mono ?_; rintro e w_ ⟨rfl, hw_⟩; subst w_))
    have hlb := t3.1
    have hr1 : 1 ≤ r5.i := by omega
    have hrL : r5.i ≤ L.length := t3.2.2.2
    have hd6 : (((ds ++ r3.d) ++ r4.d) ++ r5.d).length ≤ 2 * r5.i + 5 := by simp only [List.length_append]; omega
    generalize (((ds ++ r3.d) ++ r4.d) ++ r5.d) = ds6 at *
    generalize w5.setCell ⟨bi, 2, none⟩ (.int .i64 (r5.v : Int)) = w6 at *
    clear b0 b1 b2 b3 b4 b5 b6 b7 b8 b9 bf h5 ht5 h4 ht4 h3 ht3 t1 t2 t3 hds hI
    go_cut [2] from 124 to 164 (fun i' wr => RelFnC gp bi L sz w0 r1.v r5.v ps v3 v6 v7 i' wr)
    case first =>
      cases hS : isT L r5.i kSends
      · go_wp2
        go_meet
        exact ⟨r5.i, _, D5, [], _, rfl, hr1, hrL, h6, ⟨by simp, by simp⟩, by omega⟩
      · have hSl := isT_in hS
        go_wp2
        go_loopw [2, 9] (fun i' m wr => RelF2 gp bi L sz w0 r1.v r5.v ps v3 v6 v7 i' m wr) (fun i' m _ => 2 * upN (L.length + 1) i' + boN m)
        case atStart => exact ⟨r5.i + 1, true, _, D5, [], _, by go_num, rfl, by omega, by omega, h6, ⟨by simp, by simp⟩, by omega, fun _ => by omega⟩
        case round =>
          clear h6 hd6
          obtain ⟨j, mo, ds, D, ss, v4, rfl, rfl, hj1, hjL, hI, hss, hds, hdm⟩ := hrel
          have hs5 := hss.1
          have HS := hidQ hss
          clear hss
          obtain ⟨p4, c4, hv4⟩ := hI.form4
          subst hv4
          obtain ⟨b0, b1, b2, b3, b4, b5, b6, b7, b8, b9, bf⟩ := hI.cells
          cases mo
          · clear hdm
            go_wp2
            go_meet
            exact ⟨j, _, D, ss, _, rfl, hj1, hjL, hI, HS.out, hds⟩
          · have hd5 := hdm rfl
            clear hdm hds
            by_cases h5 : 5 ≤ ss.length
            · go_wp2_with (first
                | (go_at_call 42; refine (refBad_any hI.p j (by omega) 5 (by omega)).mono ?_; rintro e w3 ⟨rfl, D3, hp3, hs3⟩; have h3 := hI.step hp3 hs3))
              go_meet
              exact ⟨j, _, D3, ss, _, rfl, hj1, hjL, h3, HS.out, by simp; omega⟩
            · have t1 := named_bd (sz := sz) HL.out hjL
              have t2 := hidQ (named_or L sz j)
              have hfj := fun w2 => (tkFieldQ ((tk L sz j).k : Int) ((tk L sz j).a : Int) (tk L sz j).x w2).1
              go_upto_region 27 with (first
                | (go_at_call 38; refine (refT_any hI.p j (by omega)).mono ?_; rintro e w2 ⟨rfl, hb2⟩; unfold tkV; have hX := (hI.below hb2).new 62 #[.string ⟨#[]⟩, .int .i64 ((tk L sz j).a : Int)]; generalize hxb : w2.heap.size = xb at *)
                | (go_at_call 39; refine (refNamed_any hX.h.p j (by omega) (by omega)).mono ?_; rintro e w3 ⟨rfl, ht3⟩; obtain ⟨D3, hX3⟩ := hX.tol ht3; generalize pNamed L sz j = r3 at *; have y0 : w3.cell? ⟨xb, 0, none⟩ = some (.string ⟨#[]⟩) := hX3.cell 0; have yf := hX3.thaw 0; have hX7 := hX3.set 0 (.string r3.v) rfl))
              obtain ⟨g, cap, w8, hA, g3, gf, hI8⟩ := hX7.h.more4 (by omega) r3.v (tk L sz j).a
              have u0 : (w3.setCell ⟨xb, 0, none⟩ (.string r3.v)).cell? ⟨xb, 0, none⟩ = some (.string r3.v) := hX7.cell 0
              have u1 : (w3.setCell ⟨xb, 0, none⟩ (.string r3.v)).cell? ⟨xb, 1, none⟩ = some (.int .i64 ((tk L sz j).a : Int)) := hX7.cell 1
              have u3' := hX7.h.cells.2.2.2.2.1
              generalize w3.setCell ⟨xb, 0, none⟩ (.string r3.v) = W at *
              have u4' := cell_alloc u3'
              go_region
              have t7 := HS.out.snoc (r := ⟨r3.v, (tk L sz j).a⟩) (by omega) t2.out
              have t8 := hidQ t7
              clear t7
              cases hC : isT L r3.i (bs1 44)
              · go_wp2_with (first
                  | (go_at_call 36; refine (refIs_any hI8.p r3.i (by omega) (bs1 44)).mono ?_; rintro e w_ ⟨rfl, hw_⟩; subst w_; rw [hC]))
                go_roundw
                case rel => exact ⟨r3.i, false, _, D3, _, _, rfl, rfl, by omega, by omega, hI8, t8.out, by simp; omega, fun h => by cases h⟩
                case measure => simp [upN, intOf, boN]; omega
              · have hCl := isT_in hC
                go_wp2_with (first
                  | (go_at_call 36; refine (refIs_any hI8.p r3.i (by omega) (bs1 44)).mono ?_; rintro e w_ ⟨rfl, hw_⟩; subst w_; rw [hC]))
                go_roundw
                case rel => exact ⟨r3.i + 1, true, _, D3, _, _, by go_num, rfl, by omega, by omega, hI8, t8.out, by simp; omega, fun _ => by simp; omega⟩
                case measure => simp [upN, intOf, boN]; omega
    case rest =>
      clear h6 hd6
      obtain ⟨j, ds, D, ss, v4, rfl, hj1, hjL, hI, hss, hds⟩ := hcut
      have hws := hI.blt
      go_wp2_with (first
        | (go_at_call 64; refine (refBlock_any hI.p j hjL (by omega)).mono ?_; rintro e w7 ⟨l, p, c, j7, rfl, D7, n7, ds7, hp7, hs7, hsl, hl40, ⟨m7, hwf⟩, hjj, hj7, hdd, hd7, hbd, hins⟩; have h7 := hI.step hp7 hs7; obtain ⟨b0, b1, b2, b3, b4, b5, b6, b7, b8, b9, bf⟩ := h7.cells; have h8 := h7.set 5 (.slice p l.length c) HQ.out.2 rfl))
      go_ret
      refine ⟨j7, rfl, ds7, D7, r1.v, r5.v, ps, v3, ss, v4, l, p, c, n7, hj7, h8, (hsl.baseQ (by omega)).setQ (Nat.lt_succ_self _) 5 _, HQ.out.1, hlb, HP.out, hss, hl40, ⟨m7, wfL_up (fun c c' a hc => zS_up L _ _ c c' a (Nat.le_refl _) hc) l _ _ (by omega) hwf⟩, by omega, fun e => hbd (by rw [e] at hdd ⊢; simp only [List.length_nil] at hdd ⊢; omega), hins.wide hI.p (Nat.zero_le _) hjL hj7 (Nat.le_refl _)⟩
end Go.Proofs.Ytjpmnholpeidmaa


/- Texts of this seat, one behind the other: LndR, LndS. -/
import Derived.Test.YtjpmnholpeidmaaZb08
import Derived.Deep.RegionHeld3
import Derived.BigRegion
namespace Go.Proofs.Ytjpmnholpeidmaa
open Go.RowKit
attribute [local go_sem ↓] Go.wp_at_zero Go.wp_at_succ
section
variable {gp : Nat} {w : World} {L : List Tok} {sz i dp : Nat} {ds : List Dg} {D : Option Nat}
/-- A list of statements in memory. -/
def SlB (n B gp : Nat) (D : Option Nat) (w : World) (l : List Tr) (p : Option Addr) : Prop := SlT (okS B gp D w) (RdS n (okS B gp D w) w) w 15 l p
theorem SlB.step {n B : Nat} {D' : Option Nat} {w' : World} {l : List Tr} {p : Option Addr} (h : SlB n B gp D w l p) (hs : Stp gp D D' w w') : SlB n B gp D' w' l p := SlT.kept h (okS.step hs).1 (okS.step hs).2 (fun _ _ hv => hv.step hs)
theorem SlB.set {n B b : Nat} {l : List Tr} {p : Option Addr} (h : SlB n B gp D w l p) (hb : b < B) (o : Nat) (u : Value) : SlB n B gp D (w.setCell ⟨b, o, none⟩ u) l p := by
  have h1 : ∀ k, okS B gp D w k → (w.setCell ⟨b, o, none⟩ u).heap[k]? = w.heap[k]? := fun k hk => Below.heap_setCell w _ _ k (by have := hk.1; simp; omega)
  have h2 : ∀ k, okS B gp D w k → okS B gp D (w.setCell ⟨b, o, none⟩ u) k := fun k hk => ⟨hk.1, by simpa using hk.2.1, hk.2.2⟩
  exact SlT.kept h h1 h2 (RdS.kept n h1 h2)
theorem SlB.base {n B B' : Nat} {l : List Tr} {p : Option Addr} (h : SlB n B gp D w l p) (hB : B' ≤ B) : SlT (fun k => okS B' gp D w k ∧ True) (RdS n (fun k => okS B' gp D w k ∧ True) w) w 15 l p :=
  SlT.kept h (fun _ _ => rfl) (fun _ hk => ⟨⟨Nat.le_trans hB hk.1, hk.2⟩, trivial⟩) (RdS.kept n (fun _ _ => rfl) (fun _ hk => ⟨⟨Nat.le_trans hB hk.1, hk.2⟩, trivial⟩))
theorem SlB.le {n m B : Nat} {l : List Tr} {p : Option Addr} (h : SlB n B gp D w l p) (hm : n ≤ m) : SlB m B gp D w l p := SlT.kept h (fun _ _ => rfl) (fun _ hk => hk) (fun _ _ hv => hv.le hm)
/-- A while, behind its word. -/
def pWh (L : List Tok) (sz f dp i : Nat) : R Tr :=
  let e := pE L sz dp i
  let b := pBlock L sz f dp e.i
  ⟨stMk 4 noB 0 0 false e.v b.v [] 0 0, b.i, e.d ++ b.d⟩
/-- An if, behind its word. -/
def pIf (L : List Tok) (sz f dp i : Nat) : R Tr :=
  let e := pE L sz dp i
  let b := pBlock L sz f dp e.i
  if isT L b.i kElse then
    let c := pBlock L sz f dp (b.i + 1)
    ⟨stMk 3 noB 0 0 false e.v b.v c.v 0 0, c.i, e.d ++ b.d ++ c.d⟩
  else ⟨stMk 3 noB 0 0 false e.v b.v [] 0 0, b.i, e.d ++ b.d⟩
end
end Go.Proofs.Ytjpmnholpeidmaa

namespace Go.Proofs.Ytjpmnholpeidmaa
open Go.RowKit
attribute [local go_sem ↓] Go.wp_at_zero Go.wp_at_succ
section
variable {gp : Nat} {w : World} {L : List Tok} {sz i dp : Nat} {ds : List Dg} {D : Option Nat}
/-- A statement with its places. -/
def reT : Tr → Nat → Nat → Tr
  | .agg [a, b, c, d, e, f, g, h, _, _], x, y => .agg [a, b, c, d, e, f, g, h, .lit (.int .i64 (x : Int)), .lit (.int .i64 (y : Int))]
  | s, _, _ => s
theorem reT_mk (k : Nat) (x : ByteArray) (a lb : Nat) (o : Bool) (e : Tr) (th el : List Tr) (f t f' t' : Nat) : reT (stMk k x a lb o e th el f t) f' t' = stMk k x a lb o e th el f' t' := rfl
/-- What is read of a statement, with its places. -/
def tmS (L : List Tok) (sz i : Nat) (r : R Tr) : R Tr := ⟨reT r.v (tk L sz i).a (upTo (tk L sz i).a (endT L sz r.i)), r.i, r.d⟩
theorem RdS.reT {n : Nat} {ok : Nat → Prop} {w : World} {s : Tr} {u0 u1 u2 u3 u4 u5 u6 u7 u8 u9 u10 u11 u12 : Value} {f t : Value} (h : RdS n ok w s (.agg #[u0, u1, u2, u3, u4, u5, u6, u7, u8, u9, u10, u11, u12, f, t])) (f' t' : Nat) : RdS n ok w (reT s f' t') (.agg #[u0, u1, u2, u3, u4, u5, u6, u7, u8, u9, u10, u11, u12, .int .i64 (f' : Int), .int .i64 (t' : Int)]) := by
  cases n with
  | zero => exact h.elim
  | succ n =>
    obtain ⟨k, x, a, lb, op, e, th, el, f0, t0, d0, d1, d2, d3, d4, d5, p1, c1, p2, c2, rfl, hv, hE, h1, h2⟩ := h
    injection hv with hv
    simp at hv
    obtain ⟨rfl, rfl, rfl, rfl, rfl, rfl, rfl, rfl, rfl, rfl, rfl, rfl, rfl, rfl, rfl⟩ := hv
    exact ⟨k, x, a, lb, op, e, th, el, f', t', _, _, _, _, _, _, p1, c1, p2, c2, reT_mk _ _ _ _ _ _ _ _ _ _ _ _, rfl, hE, h1, h2⟩
theorem RdS.drewn {w' : World} {n B : Nat} {e : Tr} {v : Value} (h : RdS n (okS B gp D w') w' e v) : RdS n (okS B gp D w'.drew) w'.drew e v := RdS.kept n (ok := okS B gp D w') (ok' := okS B gp D w'.drew) (w := w') (w' := w'.drew) (fun _ _ => rfl) (fun _ hk => hk) e v h
end
end Go.Proofs.Ytjpmnholpeidmaa


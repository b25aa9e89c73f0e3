/- Texts of this seat, one behind the other: Shelf, LndE, LndF, LndG, LndH, LndI, LndJ, LndK, LndL, LndM, LndN. -/
import Derived.Test.YtjpmnholpeidmaaRows
import Derived.Test.YtjpmnholpeidmaaZb06
import Derived.Lib.SmallJoins
import Derived.Deep.RegionHeld3
import Derived.BigRegion

namespace Go.Proofs.Ytjpmnholpeidmaa
open Go.RowKit
attribute [local go_sem ↓] Go.wp_at_zero Go.wp_at_succ
/-- The blocks from B on that the reader leaves alone. -/
def okS (B gp : Nat) (D : Option Nat) (w : World) (k : Nat) : Prop := B ≤ k ∧ k < w.heap.size ∧ k ≠ gp ∧ some k ≠ D
theorem okS.step {B gp : Nat} {D D' : Option Nat} {w w' : World} (h : Stp gp D D' w w') : (∀ k, okS B gp D w k → w'.heap[k]? = w.heap[k]?) ∧ ∀ k, okS B gp D w k → okS B gp D' w' k := by
  refine ⟨fun k hk => h.block k hk.2.1 hk.2.2.1 hk.2.2.2, fun k hk => ⟨hk.1, Nat.lt_of_lt_of_le hk.2.1 h.size, hk.2.2.1, fun e => ?_⟩⟩
  rcases h.own with e2 | ⟨j, e2, hj⟩
  · exact hk.2.2.2 (by rw [e, e2])
  · rw [e2] at e; injection e with e; have := hk.2.1; omega
theorem RdE.step {n B gp : Nat} {D D' : Option Nat} {w w' : World} {e : Tr} {v : Value} (hr : RdE n (okS B gp D w) w e v) (h : Stp gp D D' w w') : RdE n (okS B gp D' w') w' e v := RdE.kept n (okS.step h).1 (okS.step h).2 e v hr
theorem RdE.base {n B B' gp : Nat} {D : Option Nat} {w : World} {e : Tr} {v : Value} (hr : RdE n (okS B gp D w) w e v) (h : B' ≤ B) : RdE n (okS B' gp D w) w e v := RdE.kept n (fun _ _ => rfl) (fun _ hk => ⟨Nat.le_trans h hk.1, hk.2⟩) e v hr
theorem RdE.set {n B gp : Nat} {D : Option Nat} {w : World} {e : Tr} {v : Value} (hr : RdE n (okS B gp D w) w e v) {b : Nat} (h : b < B) (o : Nat) (u : Value) : RdE n (okS B gp D (w.setCell ⟨b, o, none⟩ u)) (w.setCell ⟨b, o, none⟩ u) e v :=
  RdE.kept n (fun k hk => Below.heap_setCell w _ _ k (by have := hk.1; simp; omega)) (fun k hk => ⟨hk.1, by simpa using hk.2.1, hk.2.2⟩) e v hr
/-- What an expression looks like. -/
theorem RdE.shape {n : Nat} {ok : Nat → Prop} {w : World} {e : Tr} {v : Value} (h : RdE n ok w e v) : ∃ (k : Nat) (x : ByteArray) (m : Nat) (p : Option Addr) (l c : Nat), v = .agg #[.int .i64 (k : Int), .string x, .int .i64 (m : Int), .slice p l c, .int .i64 (exF e : Int), .int .i64 (exT e : Int)] := by
  cases n with
  | zero => exact h.elim
  | succ n =>
    obtain ⟨k, x, m, al, f, t, p, cap, he, hv, hs⟩ := h
    subst he
    exact ⟨k, x, m, p, al.length, cap, by rw [hv, exF_mk, exT_mk]⟩
theorem rd_none {ok : Nat → Prop} {w : World} (k : Nat) (x : ByteArray) (m f t : Nat) (p : Option Addr) (c : Nat) : RdE 1 ok w (exMk k x m [] f t) (.agg #[.int .i64 (k : Int), .string x, .int .i64 (m : Int), .slice p 0 c, .int .i64 (f : Int), .int .i64 (t : Int)]) :=
  ⟨k, x, m, [], f, t, p, c, rfl, rfl, by simp, fun h => absurd h (by simp)⟩

theorem bs1_iff (s : ByteArray) (c : UInt8) : s = bs1 c ↔ s.toList = [c] := by
  rw [Lib.toList_data]
  constructor
  · rintro rfl; rfl
  · intro h; exact bytes_inj (by rw [h]; rfl)
theorem beq_bs (x s : ByteArray) : (x.toList == s.toList) = decide (x = s) := by
  by_cases h : x = s
  · rw [(Lib.bytes_beq_iff _ _).2 h]; simp [h]
  · rw [(Lib.bytes_beq_false_iff _ _).2 h]; simp [h]
section
variable {gp : Nat} {w : World} {L : List Tok} {sz i dp : Nat} {ds : List Dg} {D : Option Nat}
theorem Stp.drew {w' : World} {D' : Option Nat} (h : Stp gp D D' w w') : Stp gp D D' w w'.drew := ⟨h.os, h.tape, h.output, h.size, h.block, h.own⟩
/-- The zero expression. -/
abbrev ex0 : Obj := .cells #[.int .i64 0, .string ⟨#[]⟩, .int .i64 0, .slice none 0 0, .int .i64 0, .int .i64 0] 102
end
end Go.Proofs.Ytjpmnholpeidmaa

namespace Go.Proofs.Ytjpmnholpeidmaa
open Go.RowKit
attribute [local go_sem ↓] Go.wp_at_zero Go.wp_at_succ
section
variable {gp : Nat} {w : World} {L : List Tok} {sz i dp : Nat} {ds : List Dg} {D : Option Nat}
end
end Go.Proofs.Ytjpmnholpeidmaa

namespace Go.Proofs.Ytjpmnholpeidmaa
open Go.RowKit
theorem six_at {w1 : World} {b : Nat} {u0 u1 u2 u3 u4 u5 : Value} {t : TypeId} (h : w1.heap[b]? = some (.cells #[u0, u1, u2, u3, u4, u5] t (0, 0))) :
    w1.cell? ⟨b, 0, none⟩ = some u0 ∧ w1.cell? ⟨b, 1, none⟩ = some u1 ∧ w1.cell? ⟨b, 2, none⟩ = some u2 ∧ w1.cell? ⟨b, 3, none⟩ = some u3 ∧ w1.cell? ⟨b, 4, none⟩ = some u4 ∧ w1.cell? ⟨b, 5, none⟩ = some u5 ∧ ∀ o, w1.frozen? ⟨b, o, none⟩ = false :=
  ⟨cell_of_row _ _ _ _ _ _ h, cell_of_row _ _ _ _ _ _ h, cell_of_row _ _ _ _ _ _ h, cell_of_row _ _ _ _ _ _ h, cell_of_row _ _ _ _ _ _ h, cell_of_row _ _ _ _ _ _ h, fun o => by simp [World.frozen?, h]⟩
theorem six_blk {w' : World} {b : Nat} {x0 x1 x2 x3 x4 x5 : Value} {t : TypeId} (h : w'.heap[b]? = some (.cells #[x0, x1, x2, x3, x4, x5] t (0, 0))) (u0 u1 u2 u3 u4 u5 : Value) :
    ((((((w'.setCell ⟨b, 0, none⟩ u0).setCell ⟨b, 1, none⟩ u1).setCell ⟨b, 2, none⟩ u2).setCell ⟨b, 3, none⟩ u3).setCell ⟨b, 4, none⟩ u4).setCell ⟨b, 5, none⟩ u5).heap[b]? = some (.cells #[u0, u1, u2, u3, u4, u5] t (0, 0)) := by
  simp [World.setCell, Array.getElem?_modify, h]
/-- A reading that hangs on the memory it speaks of alone. -/
def Kept {α : Type} (rd : (Nat → Prop) → World → α → Value → Prop) : Prop := ∀ (ok ok' : Nat → Prop) (w w' : World), (∀ k, ok k → w'.heap[k]? = w.heap[k]?) → (∀ k, ok k → ok' k) → ∀ a v, rd ok w a v → rd ok' w' a v
theorem kept_E (n : Nat) : Kept (RdE n) := fun _ _ _ _ h1 h2 a v h => RdE.kept n h1 h2 a v h
theorem kept_S (n : Nat) : Kept (RdS n) := fun _ _ _ _ h1 h2 a v h => RdS.kept n h1 h2 a v h
theorem own_kept {w w' : World} {base size n : Nat} {e : TypeId} {v : Value} {xs : List Value} (h : w.ownsRow base e size v n xs) (hg : ∀ g, v.ownBlock = some g → w'.heap[g]? = w.heap[g]?) : w'.ownsRow base e size v n xs := by
  obtain ⟨h1, h2 | ⟨g, cap, cur, rfl, h3, h4, h5⟩⟩ := h
  · exact ⟨h1, .inl h2⟩
  · exact ⟨h1, .inr ⟨g, cap, cur, rfl, h3, (hg g rfl).trans h4, h5⟩⟩
theorem own_uniq {w : World} {base size n : Nat} {e : TypeId} {v : Value} {xs ys : List Value} (h : w.ownsRow base e size v n xs) (k : w.ownsRow base e size v n ys) : xs = ys := by
  obtain ⟨h1, ⟨h2, h3⟩ | ⟨g, cap, cur, h2, _, h4, _, _, _, h5⟩⟩ := h
  · have k1 := k.1
    rw [h3, Nat.zero_mul] at h1 k1
    rw [List.length_eq_zero_iff.1 h1, List.length_eq_zero_iff.1 k1]
  · obtain ⟨k1, ⟨k2, k3⟩ | ⟨g', cap', cur', k2, _, k4, _, _, _, k5⟩⟩ := k
    · rw [h2] at k2; cases k2
    · rw [h2] at k2
      injection k2 with k2
      injection k2 with k2
      injection k2 with k2
      subst k2
      rw [h4] at k4
      injection k4 with k4
      injection k4 with k4
      subst k4
      rw [← h5, ← k5]
/-- A list in the making: its own row, from block B on; what its parts lead to is neither the row, nor the reader, nor its list. -/
structure Row {α : Type} (rd : (Nat → Prop) → World → α → Value → Prop) (T : TypeId) (st B gp : Nat) (D : Option Nat) (w : World) (v : Value) (l : List α) : Prop where
  own : ∃ vs : List (List Value), w.ownsRow B T st v l.length vs.flatten ∧ vs.length = l.length ∧ (∀ c ∈ vs, c.length = st) ∧ ∀ (j : Nat) (a : α) (c : List Value), l[j]? = some a → vs[j]? = some c → rd (fun k => okS B gp D w k ∧ some k ≠ v.ownBlock) w a (.agg c.toArray)
  ne : ∀ g, v.ownBlock = some g → some g ≠ D
  gpB : gp < B
section
variable {α : Type} {rd : (Nat → Prop) → World → α → Value → Prop} {T : TypeId} {st B gp : Nat} {D D' : Option Nat} {w w' : World} {v : Value} {l : List α}
theorem Row.nil (hB : gp < B) : Row rd T st B gp D w (.slice none 0 0) ([] : List α) :=
  ⟨⟨[], World.ownsRow_nil _ _ _ _, rfl, fun c h => absurd h (List.not_mem_nil), fun j a c h => by simp at h⟩, fun g h => by simp [Value.ownBlock] at h, hB⟩
theorem Row.lt (h : Row rd T st B gp D w v l) {g : Nat} (e : v.ownBlock = some g) : B ≤ g ∧ g < w.heap.size := by
  obtain ⟨vs, h1, _⟩ := h.own
  exact h1.lt g e
/-- The reader steps on. -/
theorem Row.step (hk : Kept rd) (h : Row rd T st B gp D w v l) (hs : Stp gp D D' w w') : Row rd T st B gp D' w' v l := by
  obtain ⟨vs, h1, h2, h3, h4⟩ := h.own
  have hg : ∀ g, v.ownBlock = some g → w'.heap[g]? = w.heap[g]? := fun g e => hs.block g (h.lt e).2 (by have := (h.lt e).1; have := h.gpB; omega) (h.ne g e)
  refine ⟨⟨vs, own_kept h1 hg, h2, h3, fun j a c hj hc => hk _ _ w w' (fun k hk2 => (okS.step hs).1 k hk2.1) (fun k hk2 => ⟨(okS.step hs).2 k hk2.1, hk2.2⟩) _ _ (h4 j a c hj hc)⟩, fun g e => hs.fresh (h.lt e).2 (h.ne g e), h.gpB⟩
theorem Row.mono {rd' : (Nat → Prop) → World → α → Value → Prop} (h : Row rd T st B gp D w v l) (hm : ∀ ok w a v, rd ok w a v → rd' ok w a v) : Row rd' T st B gp D w v l := by
  obtain ⟨vs, h1, h2, h3, h4⟩ := h.own
  exact ⟨⟨vs, h1, h2, h3, fun j a c hj hc => hm _ _ _ _ (h4 j a c hj hc)⟩, h.ne, h.gpB⟩
theorem Row.below (hk : Kept rd) (h : Row rd T st B gp D w v l) (hb : Below w.heap.size w w') : Row rd T st B gp D w' v l := h.step hk (Stp.below hb)
/-- A part more. -/
theorem Row.snoc (hk : Kept rd) (h : Row rd T st B gp D w v l) {w2 : World} {g cap W : Nat} {a : α} {c : List Value} (hc : c.length = st)
    (ha : rd (fun k => okS W gp D w k ∧ some k ≠ v.ownBlock) w a (.agg c.toArray)) (hW : B ≤ W)
    {xs : List Value} (hown0 : w.ownsRow B T st v l.length xs) (hown : w2.ownsRow B T st (.slice (some ⟨g, 0, none⟩) (l.length + 1) cap) (l.length + 1) (xs ++ c))
    (hgrow : w.grownBy w2 v.ownBlock) (hat : v.ownBlock = some g ∨ g = w.heap.size) (hD : ∀ k, some k = D → k < w.heap.size) : Row rd T st B gp D w2 (.slice (some ⟨g, 0, none⟩) (l.length + 1) cap) (l ++ [a]) := by
  obtain ⟨vs, h1, h2, h3, h4⟩ := h.own
  have hok : ∀ X k, (okS X gp D w k ∧ some k ≠ v.ownBlock) → B ≤ X → okS B gp D w2 k ∧ some k ≠ (Value.slice (some ⟨g, 0, none⟩) (l.length + 1) cap).ownBlock := by
    rintro X k ⟨⟨k1, k2, k3, k4⟩, k5⟩ hX
    refine ⟨⟨by omega, Nat.lt_of_lt_of_le k2 hgrow.size, k3, k4⟩, ?_⟩
    show some k ≠ some g
    rcases hat with e | e
    · rw [← e]; exact k5
    · intro e2; injection e2 with e2; omega
  refine ⟨⟨vs ++ [c], ?_, by simp [h2], ?_, ?_⟩, ?_, h.gpB⟩
  · rw [own_uniq hown0 h1] at hown
    rw [List.flatten_append, List.length_append]
    simpa using hown
  · intro x hx
    rcases List.mem_append.1 hx with hx | hx
    · exact h3 x hx
    · rw [List.mem_singleton] at hx; rw [hx]; exact hc
  · intro j a' c' hj hc'
    rcases Nat.lt_trichotomy j l.length with hlt | heq | hgt
    · rw [List.getElem?_append_left hlt] at hj
      rw [List.getElem?_append_left (by omega)] at hc'
      exact hk _ _ w w2 (fun k hk2 => hgrow.block k hk2.1.2.1 hk2.2) (fun k hk2 => hok B k hk2 (Nat.le_refl _)) _ _ (h4 j a' c' hj hc')
    · subst heq
      rw [List.getElem?_append_right (Nat.le_refl _), Nat.sub_self] at hj
      rw [List.getElem?_append_right (by omega), h2, Nat.sub_self] at hc'
      simp at hj hc'
      subst hj hc'
      exact hk _ _ w w2 (fun k hk2 => hgrow.block k hk2.1.2.1 hk2.2) (fun k hk2 => hok W k hk2 hW) _ _ ha
    · rw [List.getElem?_eq_none (by simp; omega)] at hj; cases hj
  · intro g' e
    have e : g' = g := by simpa [Value.ownBlock] using e.symm
    subst e
    rcases hat with e | e
    · exact h.ne g' e
    · intro e2; have := hD g' e2; omega
theorem flat_at {vs : List (List Value)} {st : Nat} (h : ∀ c ∈ vs, c.length = st) : ∀ (j : Nat) (c : List Value), vs[j]? = some c → ∀ (i : Nat) (u : Value), c[i]? = some u → vs.flatten[j * st + i]? = some u := by
  induction vs with
  | nil => intro j c hj; simp at hj
  | cons x r ih =>
    intro j c hj i u hi
    have hx : x.length = st := h x (List.mem_cons_self ..)
    cases j with
    | zero =>
      simp at hj
      subst hj
      rw [Nat.zero_mul, Nat.zero_add, List.flatten_cons, List.getElem?_append_left (List.getElem?_eq_some_iff.1 hi).1]
      exact hi
    | succ j =>
      simp at hj
      rw [List.flatten_cons, List.getElem?_append_right (by rw [hx, Nat.succ_mul]; omega), hx, show (j + 1) * st + i - st = j * st + i by rw [Nat.succ_mul]; omega]
      exact ih (fun c hc => h c (List.mem_cons_of_mem _ hc)) j c hj i u hi
/-- A list that is made: a slice of so many, and where its parts lie. -/
theorem Row.done (hk : Kept rd) (h : Row rd T st B gp D w v l) : ∃ p cap, v = .slice p l.length cap ∧ (0 < l.length → ∃ g, p = some ⟨g, 0, none⟩ ∧ okS B gp D w g ∧ ∀ (j : Nat) (a : α), l[j]? = some a → ∃ c : List Value, c.length = st ∧ CellsV w g (j * st) (.agg c.toArray) ∧ rd (okS B gp D w) w a (.agg c.toArray)) := by
  obtain ⟨vs, h1, h2, h3, h4⟩ := h.own
  have hcells : ∀ g, v.ownBlock = some g → ∀ j u, vs.flatten[j]? = some u → w.cell? ((⟨g, 0, none⟩ : Addr).add j) = some u := fun g hg => h1.cells hg
  have hlt := fun g e => h.lt (g := g) e
  obtain ⟨_, ⟨rfl, h0⟩ | ⟨g, cap, cur, rfl, hb, hg, hcap, _⟩⟩ := h1
  · exact ⟨none, 0, by rw [h0], fun hl => by omega⟩
  · have e : ∀ i, (⟨g, 0, none⟩ : Addr).add i = ⟨g, i, none⟩ := by intro i; simp only [Addr.add, Nat.zero_add]; split <;> simp_all
    refine ⟨_, cap, rfl, fun _ => ⟨g, rfl, ⟨hb, (hlt g rfl).2, by have := h.gpB; omega, h.ne g rfl⟩, fun j a hj => ?_⟩⟩
    have hj2 : j < vs.length := by rw [h2]; exact (List.getElem?_eq_some_iff.1 hj).1
    have hc : vs[j]? = some vs[j] := List.getElem?_eq_getElem hj2
    refine ⟨vs[j], h3 _ (List.getElem_mem hj2), ⟨_, rfl, fun i u hi => ?_⟩, hk _ _ w w (fun _ _ => rfl) (fun k hk2 => hk2.1) _ _ (h4 j a _ hj hc)⟩
    have hi' : vs[j][i]? = some u := by simpa using hi
    have := hcells g rfl _ _ (flat_at h3 j _ hc i u hi')
    rwa [e] at this
theorem Stp.grown {w0 : World} {row : Option Nat} (h : Stp gp D D' w0 w) (hg : w.grownBy w' row) (hr : ∀ k, row = some k → w0.heap.size ≤ k) : Stp gp D D' w0 w' :=
  ⟨hg.os.trans h.os, hg.tape.trans h.tape, hg.output.trans h.output, Nat.le_trans h.size hg.size, fun k hk h2 h3 => (hg.block k (Nat.lt_of_lt_of_le hk h.size) (fun e => by have := hr k e.symm; omega)).trans (h.block k hk h2 h3), h.own⟩
end
end Go.Proofs.Ytjpmnholpeidmaa

namespace Go.Proofs.Ytjpmnholpeidmaa
open Go.RowKit
attribute [local go_sem ↓] Go.wp_at_zero Go.wp_at_succ
section
variable {gp : Nat} {w : World} {L : List Tok} {sz i dp : Nat} {ds : List Dg} {D : Option Nat}
end
end Go.Proofs.Ytjpmnholpeidmaa

namespace Go.Proofs.Ytjpmnholpeidmaa
open Go.RowKit
attribute [local go_sem ↓] Go.wp_at_zero Go.wp_at_succ
theorem Try.infoEx : (Try.prog.info? 102).map (fun i => (i.zero, i.size, i.bytes)) = some (some (.agg #[.int .i64 0, .string ⟨#[]⟩, .int .i64 0, .slice none 0 0, .int .i64 0, .int .i64 0]), 6, 72) := by kernel_rfl
theorem more_of {L : List Tok} {sz j n : Nat} (h : moreB L j = false) : pMore L sz j n 5 (bs1 41) = ⟨false, j, []⟩ := by
  unfold pMore
  rw [if_neg (fun h2 => by unfold moreB at h; simp [h2.1, h2.2] at h)]
theorem more_on {L : List Tok} {sz j n : Nat} (h : moreB L j = true) : pMore L sz j n 5 (bs1 41) = if n = 5 then ⟨false, j, [bad L sz j 5]⟩ else ⟨true, j, []⟩ := by
  unfold pMore
  rw [if_pos (by unfold moreB at h; simpa using h)]
section
variable {gp : Nat} {w : World} {L : List Tok} {sz i dp : Nat} {ds : List Dg} {D : Option Nat}
end
end Go.Proofs.Ytjpmnholpeidmaa

namespace Go.Proofs.Ytjpmnholpeidmaa
open Go.RowKit
attribute [local go_sem ↓] Go.wp_at_zero Go.wp_at_succ
theorem callT_next {L : List Tok} {sz q k : Nat} {al : List Tr} {a : Tr} (h : al[k]? = some a) : callT L sz q (al.take (k + 1)) = max (callT L sz q (al.take k)) (exT a) := by
  unfold callT
  rw [List.take_add_one, h]
  simp
section
variable {gp : Nat} {w : World} {L : List Tok} {sz i dp : Nat} {ds : List Dg} {D : Option Nat}
end
end Go.Proofs.Ytjpmnholpeidmaa

namespace Go.Proofs.Ytjpmnholpeidmaa
open Go.RowKit
attribute [local go_sem ↓] Go.wp_at_zero Go.wp_at_succ
section
variable {gp : Nat} {w : World} {L : List Tok} {sz i dp : Nat} {ds : List Dg} {D : Option Nat}
theorem is_tk {s : ByteArray} (hs : s ≠ noB) : isT L i s = decide ((tk L sz i).x = s) := by
  unfold isT
  rcases Nat.lt_or_ge i L.length with h | h
  · rw [tok_of (sz := sz) h]
  · rw [List.getElem?_eq_none h, tok_no h]
    simp
    exact fun e => hs e.symm
end
end Go.Proofs.Ytjpmnholpeidmaa

namespace Go.Proofs.Ytjpmnholpeidmaa
open Go.RowKit
attribute [local go_sem ↓] Go.wp_at_zero Go.wp_at_succ
section
variable {gp : Nat} {w : World} {L : List Tok} {sz i dp : Nat} {ds : List Dg} {D : Option Nat}
end
section
variable {gp : Nat} {w : World} {L : List Tok} {sz i dp : Nat} {ds : List Dg} {D : Option Nat}
end
end Go.Proofs.Ytjpmnholpeidmaa

namespace Go.Proofs.Ytjpmnholpeidmaa
open Go.RowKit
attribute [local go_sem ↓] Go.wp_at_zero Go.wp_at_succ
/-- An expression and what must stand behind it. -/
def pCl (L : List Tok) (sz d i : Nat) : R Tr := ⟨(pE L sz d i).v, (pNeed L sz (pE L sz d i).i (bs1 59)).i, (pE L sz d i).d ++ (pNeed L sz (pE L sz d i).i (bs1 59)).d⟩
section
variable {gp : Nat} {w : World} {L : List Tok} {sz i dp : Nat} {ds : List Dg} {D : Option Nat}
end
end Go.Proofs.Ytjpmnholpeidmaa

namespace Go.Proofs.Ytjpmnholpeidmaa
open Go.RowKit
theorem fif_at {w1 : World} {b : Nat} {u0 u1 u2 u3 u4 u5 u6 u7 u8 u9 u10 u11 u12 u13 u14 : Value} {t : TypeId} (h : w1.heap[b]? = some (.cells #[u0, u1, u2, u3, u4, u5, u6, u7, u8, u9, u10, u11, u12, u13, u14] t (0, 0))) :
    w1.cell? ⟨b, 0, none⟩ = some u0 ∧ w1.cell? ⟨b, 1, none⟩ = some u1 ∧ w1.cell? ⟨b, 2, none⟩ = some u2 ∧ w1.cell? ⟨b, 3, none⟩ = some u3 ∧ w1.cell? ⟨b, 4, none⟩ = some u4 ∧ w1.cell? ⟨b, 5, none⟩ = some u5 ∧ w1.cell? ⟨b, 6, none⟩ = some u6 ∧ w1.cell? ⟨b, 7, none⟩ = some u7 ∧ w1.cell? ⟨b, 8, none⟩ = some u8 ∧ w1.cell? ⟨b, 9, none⟩ = some u9 ∧ w1.cell? ⟨b, 10, none⟩ = some u10 ∧ w1.cell? ⟨b, 11, none⟩ = some u11 ∧ w1.cell? ⟨b, 12, none⟩ = some u12 ∧ w1.cell? ⟨b, 13, none⟩ = some u13 ∧ w1.cell? ⟨b, 14, none⟩ = some u14 ∧ ∀ o, w1.frozen? ⟨b, o, none⟩ = false :=
  ⟨cell_of_row _ _ _ _ _ _ h, cell_of_row _ _ _ _ _ _ h, cell_of_row _ _ _ _ _ _ h, cell_of_row _ _ _ _ _ _ h, cell_of_row _ _ _ _ _ _ h, cell_of_row _ _ _ _ _ _ h, cell_of_row _ _ _ _ _ _ h, cell_of_row _ _ _ _ _ _ h, cell_of_row _ _ _ _ _ _ h, cell_of_row _ _ _ _ _ _ h, cell_of_row _ _ _ _ _ _ h, cell_of_row _ _ _ _ _ _ h, cell_of_row _ _ _ _ _ _ h, cell_of_row _ _ _ _ _ _ h, cell_of_row _ _ _ _ _ _ h, fun o => by simp [World.frozen?, h]⟩
theorem fif_blk {w' : World} {b : Nat} {x0 x1 x2 x3 x4 x5 x6 x7 x8 x9 x10 x11 x12 x13 x14 : Value} {t : TypeId} (h : w'.heap[b]? = some (.cells #[x0, x1, x2, x3, x4, x5, x6, x7, x8, x9, x10, x11, x12, x13, x14] t (0, 0))) (u0 u1 u2 u3 u4 u5 u6 u7 u8 u9 u10 u11 u12 u13 u14 : Value) :
    (((((((((((((((w'.setCell ⟨b, 0, none⟩ u0).setCell ⟨b, 1, none⟩ u1).setCell ⟨b, 2, none⟩ u2).setCell ⟨b, 3, none⟩ u3).setCell ⟨b, 4, none⟩ u4).setCell ⟨b, 5, none⟩ u5).setCell ⟨b, 6, none⟩ u6).setCell ⟨b, 7, none⟩ u7).setCell ⟨b, 8, none⟩ u8).setCell ⟨b, 9, none⟩ u9).setCell ⟨b, 10, none⟩ u10).setCell ⟨b, 11, none⟩ u11).setCell ⟨b, 12, none⟩ u12).setCell ⟨b, 13, none⟩ u13).setCell ⟨b, 14, none⟩ u14).heap[b]? = some (.cells #[u0, u1, u2, u3, u4, u5, u6, u7, u8, u9, u10, u11, u12, u13, u14] t (0, 0)) := by
  simp [World.setCell, Array.getElem?_modify, h]
section
variable {gp : Nat} {w : World} {L : List Tok} {sz i dp : Nat} {ds : List Dg} {D : Option Nat}
theorem RdS.step {n B : Nat} {D D' : Option Nat} {w w' : World} {e : Tr} {v : Value} (hr : RdS n (okS B gp D w) w e v) (h : Stp gp D D' w w') : RdS n (okS B gp D' w') w' e v := RdS.kept n (okS.step h).1 (okS.step h).2 e v hr
theorem RdS.base {n B B' : Nat} {D : Option Nat} {w : World} {e : Tr} {v : Value} (hr : RdS n (okS B gp D w) w e v) (h : B' ≤ B) : RdS n (okS B' gp D w) w e v := RdS.kept n (fun _ _ => rfl) (fun _ hk => ⟨Nat.le_trans h hk.1, hk.2⟩) e v hr
theorem sets_far {w' : World} {b k : Nat} (hne : k ≠ b) (u0 u1 u2 u3 u4 u5 u6 u7 u8 u9 u10 u11 u12 u13 u14 : Value) : (((((((((((((((w'.setCell ⟨b, 0, none⟩ u0).setCell ⟨b, 1, none⟩ u1).setCell ⟨b, 2, none⟩ u2).setCell ⟨b, 3, none⟩ u3).setCell ⟨b, 4, none⟩ u4).setCell ⟨b, 5, none⟩ u5).setCell ⟨b, 6, none⟩ u6).setCell ⟨b, 7, none⟩ u7).setCell ⟨b, 8, none⟩ u8).setCell ⟨b, 9, none⟩ u9).setCell ⟨b, 10, none⟩ u10).setCell ⟨b, 11, none⟩ u11).setCell ⟨b, 12, none⟩ u12).setCell ⟨b, 13, none⟩ u13).setCell ⟨b, 14, none⟩ u14).heap[k]? = w'.heap[k]? := ((((((((((((((Below.heap_setCell _ _ _ k hne).trans (Below.heap_setCell _ _ _ k hne)).trans (Below.heap_setCell _ _ _ k hne)).trans (Below.heap_setCell _ _ _ k hne)).trans (Below.heap_setCell _ _ _ k hne)).trans (Below.heap_setCell _ _ _ k hne)).trans (Below.heap_setCell _ _ _ k hne)).trans (Below.heap_setCell _ _ _ k hne)).trans (Below.heap_setCell _ _ _ k hne)).trans (Below.heap_setCell _ _ _ k hne)).trans (Below.heap_setCell _ _ _ k hne)).trans (Below.heap_setCell _ _ _ k hne)).trans (Below.heap_setCell _ _ _ k hne)).trans (Below.heap_setCell _ _ _ k hne)).trans (Below.heap_setCell _ _ _ k hne)
/-- What a statement looks like. -/
theorem RdS.shape {n : Nat} {ok : Nat → Prop} {w : World} {s : Tr} {v : Value} (h : RdS n ok w s v) : ∃ (k : Nat) (x : ByteArray) (a lb : Nat) (op : Bool) (ek : Nat) (ex : ByteArray) (en : Nat) (ep : Option Addr) (el ec ef et : Nat) (p1 : Option Addr) (l1 c1 : Nat) (p2 : Option Addr) (l2 c2 f t : Nat), v = .agg #[.int .i64 (k : Int), .string x, .int .i64 (a : Int), .int .i64 (lb : Int), .bool op, .int .i64 (ek : Int), .string ex, .int .i64 (en : Int), .slice ep el ec, .int .i64 (ef : Int), .int .i64 (et : Int), .slice p1 l1 c1, .slice p2 l2 c2, .int .i64 (f : Int), .int .i64 (t : Int)] := by
  cases n with
  | zero => exact h.elim
  | succ n =>
    obtain ⟨k, x, a, lb, op, e, th, el, f, t, d0, d1, d2, d3, d4, d5, p1, c1, p2, c2, _, rfl, ⟨m, hE⟩, _, _⟩ := h
    obtain ⟨k2, x2, m2, p3, l3, c3, hv⟩ := hE.shape
    injection hv with hv
    simp at hv
    obtain ⟨rfl, rfl, rfl, rfl, rfl, rfl⟩ := hv
    exact ⟨_, _, _, _, _, _, _, _, _, _, _, _, _, _, _, _, _, _, _, _, _, rfl⟩
end
end Go.Proofs.Ytjpmnholpeidmaa


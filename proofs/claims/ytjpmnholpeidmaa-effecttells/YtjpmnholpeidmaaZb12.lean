/- Texts of this seat, one behind the other: FilAg, FilAgain. -/
import Derived.Test.YtjpmnholpeidmaaZb05
import Derived.Test.YtjpmnholpeidmaaZb07
import Derived.Deep.RegionHeld3
import Derived.Test.YtjpmnholpeidmaaZb03
namespace Go.Proofs.Ytjpmnholpeidmaa
open Go.RowKit Go.WideMaps Go.Maps
theorem Try.infoIt : (Try.prog.info? 35).map (fun i => (i.zero, i.size, i.bytes)) = some (some (.agg #[.int .i64 0, .string ⟨#[]⟩, .int .i64 0, .slice none 0 0, .slice none 0 0, .slice none 0 0, .int .i64 0, .int .i64 0, .int .i64 0, .slice none 0 0]), 10, 152) := by kernel_rfl
theorem zeroI (w : World) : (zeroValue 3).run Try.prog w = .ok (.int .i64 0) w := by kernel_rfl
/-- What Own is to answer. -/
def COwn : Prop := ∀ (it : It) (at_ : Int) (v : Value) (w : World) (ok : Nat → Prop), (∀ k, ok k → k < w.heap.size) → smL it.bd → RdI ok w at_ it v →
  Calls Try.prog 30 #[v] w fun e w' => ∃ v', e = .returned v' ∧ RdI (fun k => w.heap.size ≤ k ∧ k < w'.heap.size) w' at_ it v' ∧ Below w.heap.size w w'
def rdIt : (Nat → Prop) → World → (Int × It) → Value → Prop := fun ok w e v => RdI ok w e.1 e.2 v
theorem kept_It : Kept rdIt := fun _ _ _ _ h1 h2 _ _ h => RdI.kept h h1 h2
/-- Items are made: their list in block oB. -/
structure Ag (oB : Nat) (W0 wr : World) (l : List (Int × It)) (v : Value) : Prop where
  blk : wr.heap[oB]? = some (.cells #[v] 24 (0, 0))
  row : Row rdIt 35 10 (oB + 1) oB none wr v l
  stp : Stp oB none none W0 wr
  siz : W0.heap.size = oB + 1
theorem take_len' (t : ByteArray) (k : Nat) (h : k ≤ (cts t).length) : ((fil t).take k).length = k := by rw [List.length_take, fil_len]; omega
theorem take_snoc (t : ByteArray) (k : Nat) (h : k < (cts t).length) : (fil t).take (k + 1) = (fil t).take k ++ [((cn t k : Int), itI t k)] := by
  rw [List.take_add_one, fil_get t k h]; rfl
theorem Stp.cell0 {gp : Nat} {w : World} (u : Value) : Stp gp none none w (w.setCell ⟨gp, 0, none⟩ u) := ⟨rfl, rfl, rfl, by simp, fun k _ hk _ => Below.heap_setCell w _ _ k hk, .inl rfl⟩
theorem Ag.start {wt : World} : Ag wt.heap.size (wt.alloc (.cells #[.slice none 0 0] 24)) (wt.alloc (.cells #[.slice none 0 0] 24)) [] (.slice none 0 0) :=
  ⟨heap_alloc_new wt _, Row.nil (Nat.lt_succ_self _), Stp.refl _ _ _, by simp⟩
theorem Ag.lt {oB : Nat} {W0 wr : World} {l : List (Int × It)} {v : Value} (h : Ag oB W0 wr l v) : oB < wr.heap.size := (Array.getElem?_eq_some_iff.1 h.blk).1
theorem Ag.next {oB : Nat} {W0 wr : World} {l : List (Int × It)} {v : Value} (h : Ag oB W0 wr l v) {w5 wa w6 : World} {g cap : Nat} {c xs : List Value} {e : Int × It} (hb5 : Below wr.heap.size wr w5) (hba : Below w5.heap.size w5 wa)
    (hI : RdI (fun j => wr.heap.size ≤ j ∧ j < w5.heap.size) w5 e.1 e.2 (.agg c.toArray)) (hc : c.length = 10)
    (hown0 : wa.ownsRow (oB + 1) 35 10 v l.length xs) (hown6 : w6.ownsRow (oB + 1) 35 10 (.slice (some ⟨g, 0, none⟩) (l.length + 1) cap) (l.length + 1) (xs ++ c)) (hgrow6 : wa.grownBy w6 v.ownBlock) (hat6 : v.ownBlock = some g ∨ g = wa.heap.size) :
    Ag oB W0 (w6.setCell ⟨oB, 0, none⟩ (.slice (some ⟨g, 0, none⟩) (l.length + 1) cap)) (l ++ [e]) (.slice (some ⟨g, 0, none⟩) (l.length + 1) cap) := by
  have hba' := hb5.trans (hba.mono hb5.size)
  have hoB := h.lt
  have hvlt := fun g e => h.row.lt (g := g) e
  have hrow := (h.row.below kept_It hb5).below kept_It hba
  have hsn := Row.snoc (W := wr.heap.size) (a := e) kept_It hrow hc
    (RdI.kept hI (fun j hj => hba.block j hj.2) (fun j hj => ⟨⟨hj.1, Nat.lt_of_lt_of_le hj.2 hba.size, by have := hj.1; omega, by simp⟩, fun e => by have := (hvlt j e.symm).2; have := hj.1; omega⟩))
    hoB hown0 hown6 hgrow6 hat6 (fun k e => by cases e)
  have hne : some oB ≠ v.ownBlock := fun e => by have := (hvlt oB e.symm).1; omega
  refine ⟨?_, hsn.step kept_It (Stp.cell0 _), (((h.stp.trans (Stp.below hb5)).trans (Stp.below hba)).grown hgrow6 (fun j e => by have := (hvlt j e).1; have := h.siz; omega)).trans (Stp.cell0 _), h.siz⟩
  have hb6 := ((hgrow6.block oB (Nat.lt_of_lt_of_le hoB hba'.size) hne).trans (hba'.block oB hoB)).trans h.blk
  simp [World.setCell, Array.getElem?_modify, hb6]
end Go.Proofs.Ytjpmnholpeidmaa

namespace Go.Proofs.Ytjpmnholpeidmaa
open Go.RowKit Go.WideMaps Go.Maps
attribute [local go_sem ↓] Go.wp_at_zero Go.wp_at_succ
attribute [local go_sem ↓] app_hide app_hide3
def RelAg (s t : ByteArray) (oB : Nat) (W0 : World) (fr i : Value) (wr : World) : Prop :=
  ∃ k v, k ≤ (cts t).length ∧ i = .int .i64 (k : Int) ∧ fr = .int .i64 (nwN s t k : Int) ∧ Ag oB W0 wr ((fil t).take k) v
theorem KnAt.kept {w w' : World} {b : Nat} {s : ByteArray} {k : Nat} (h : KnAt w b s k) (hg : w'.heap[b]? = w.heap[b]?) : KnAt w' b s k := by
  obtain ⟨es, clock, h1, h2⟩ := h
  exact ⟨es, clock, hg.trans h1, h2⟩
theorem Ag.done {oB : Nat} {W0 wr : World} {l : List (Int × It)} {v : Value} (h : Ag oB W0 wr l v) (hl : l.length ≤ 1099511627776) : RdF (fun k => oB + 1 ≤ k ∧ k < wr.heap.size) wr l (.agg #[v]) := by
  obtain ⟨p, cap, rfl, h1⟩ := h.row.done kept_It
  refine ⟨p, cap, rfl, hl, fun h0 => ?_⟩
  obtain ⟨g, e1, e2, e3⟩ := h1 h0
  refine ⟨g, e1, ⟨e2.1, e2.2.1⟩, fun j e hj => ?_⟩
  obtain ⟨c, _, h3, h4⟩ := e3 j e hj
  exact ⟨_, h3, RdI.kept h4 (fun _ _ => rfl) (fun k hk => ⟨hk.1, hk.2.1⟩)⟩
/-- Behind a call that reads an item: what the list's row and its place are. -/
theorem ag_call {oB : Nat} {W0 wr w5 : World} {l : List (Int × It)} {q : Option Addr} {k cq : Nat} (h : Ag oB W0 wr l (.slice q k cq)) (hl : l.length = k) (cO : wr.cell? ⟨oB, 0, none⟩ = some (.slice q k cq)) (hb : Below wr.heap.size wr w5) (u0 u1 u2 u3 u4 u5 u6 u7 u8 u9 : Value)
    (e0 : u0.oneCell' = true) (e1 : u1.oneCell' = true) (e2 : u2.oneCell' = true) (e3 : u3.oneCell' = true) (e4 : u4.oneCell' = true) (e5 : u5.oneCell' = true) (e6 : u6.oneCell' = true) (e7 : u7.oneCell' = true) (e8 : u8.oneCell' = true) (e9 : u9.oneCell' = true) :
    Below wr.heap.size wr w5 ∧ w5.cell? ⟨oB, 0, none⟩ = some (.slice q k cq) ∧ (∀ o, (w5.alloc o).cell? ⟨oB, 0, none⟩ = some (.slice q k cq)) ∧ Below w5.heap.size w5 (w5.alloc (.cells #[u0, u1, u2, u3, u4, u5, u6, u7, u8, u9] 35)) ∧
      (∃ xs, (w5.alloc (.cells #[u0, u1, u2, u3, u4, u5, u6, u7, u8, u9] 35)).ownsRow (oB + 1) 35 10 (.slice q k cq) k xs) ∧
      (∀ j u, [u0, u1, u2, u3, u4, u5, u6, u7, u8, u9][j]? = some u → (w5.alloc (.cells #[u0, u1, u2, u3, u4, u5, u6, u7, u8, u9] 35)).cell? ((⟨w5.heap.size, 0, none⟩ : Addr).add j) = some u) ∧
      (∀ u ∈ [u0, u1, u2, u3, u4, u5, u6, u7, u8, u9], u.oneCell' = true) ∧ oB + 1 ≤ (w5.alloc (.cells #[u0, u1, u2, u3, u4, u5, u6, u7, u8, u9] 35)).heap.size := by
  have hlt := h.lt
  have c5 := (hb.cell (p := ⟨oB, 0, none⟩) hlt).trans cO
  have hbn : Below w5.heap.size w5 (w5.alloc (.cells #[u0, u1, u2, u3, u4, u5, u6, u7, u8, u9] 35)) := (Below.refl _ _).alloc (Nat.le_refl _) _
  obtain ⟨vs, ho, _⟩ := ((h.row.below kept_It hb).below kept_It hbn).own
  have hs := hb.size
  refine ⟨hb, c5, cell_alloc c5, hbn, ⟨_, by rw [hl] at ho; exact ho⟩, World.news_of_block (heap_alloc_new w5 _), ?_, by simp; omega⟩
  intro u hu
  simp at hu
  rcases hu with rfl | rfl | rfl | rfl | rfl | rfl | rfl | rfl | rfl | rfl <;> assumption
theorem ag_grown {oB : Nat} {W0 wr w5 wa w6 : World} {l : List (Int × It)} {v : Value} (h : Ag oB W0 wr l v) (hb : Below wr.heap.size wr w5) (hbn : Below w5.heap.size w5 wa) (hg : wa.grownBy w6 v.ownBlock) : w6.cell? ⟨oB, 0, none⟩ = some v ∧ ∀ o, w6.frozen? ⟨oB, o, none⟩ = false := by
  have hlt := h.lt
  have hba := hb.trans (hbn.mono hb.size)
  have hne : some oB ≠ v.ownBlock := fun e => by have := (h.row.lt e.symm).1; omega
  have e := ((hg.block oB (Nat.lt_of_lt_of_le hlt hba.size) hne).trans (hba.block oB hlt)).trans h.blk
  exact ⟨cell_of_row _ _ 0 _ _ _ e, fun o => by simp [World.frozen?, e]⟩
end Go.Proofs.Ytjpmnholpeidmaa


/- Texts of this seat, one behind the other: LexSmall, LexClone, LexTokens, LexWords, LexCuts, LexRead. -/
import Derived.Test.YtjpmnholpeidmaaZb01b
import Derived.Test.YtjpmnholpeidmaaZb01
import Derived.WalkKit
import Derived.WalkSpells
import Derived.WalkLawsBesides
import Derived.Lib.Bytealg
import Derived.Lib.Walk
import Derived.Lib.BufferWrite
import Derived.Lib.UnsafeStr
import Derived.Laws.MakeOwn
import Derived.Deep.AppendLies
import Derived.Deep.QuietTactic
import Derived.BigQuiet
namespace Go.Proofs.Ytjpmnholpeidmaa
open Go.RowKit

/-- Where a byte stands among the signs, or none. -/
def sgI (c : Nat) : Int := Lib.indexByte [40, 41, 123, 125, 44, 58, 59, 61, 43, 45, 42, 60] (UInt8.ofNat c)
theorem sgI_sgn (c : Nat) (h : c < 256) : decide (0 ≤ sgI c) = sgn c := by
  have : ∀ c, c < 256 → decide (0 ≤ sgI c) = sgn c := by decide +kernel
  exact this c h
/-! A span. -/
def RelSp (p : Nat → Bool) (s : ByteArray) (i : Nat) (v : Value) : Prop := ∃ k : Nat, i ≤ k ∧ k ≤ s.size ∧ v = .int .i64 (k : Int) ∧ spE p s k = spE p s i
def upS (s : ByteArray) (v : Value) : Nat := s.size - (intOf v).toNat
/-! What is skipped. -/
def RelSk (s : ByteArray) (i : Nat) (v : Value) : Prop := ∃ k : Nat, i ≤ k ∧ k ≤ s.size ∧ v = .int .i64 (k : Int) ∧ skE s false k = skE s false i
end Go.Proofs.Ytjpmnholpeidmaa

namespace Go.Proofs.Ytjpmnholpeidmaa
open Go.RowKit
theorem Try.infoByte : (Try.prog.info? 5).map (fun i => (i.zero, i.size, i.bytes)) = some (some (.int .u8 0), 1, 1) := by kernel_rfl
end Go.Proofs.Ytjpmnholpeidmaa

namespace Go.Proofs.Ytjpmnholpeidmaa
open Go.RowKit
theorem own_below {w w1 : World} {base size n : Nat} {e : TypeId} {v : Value} {xs : List Value} (h : w.ownsRow base e size v n xs) (hb : Below w.heap.size w w1) : w1.ownsRow base e size v n xs :=
  h.kept (row := none) ⟨hb.os, hb.tape, hb.output, hb.size, fun k hk _ => hb.block k hk⟩ (by cases hv : v.ownBlock <;> simp)
theorem own_ge {w : World} {base size n : Nat} {e : TypeId} {v : Value} {xs : List Value} (h : w.ownsRow base e size v n xs) : ∀ k, v.ownBlock = some k → base ≤ k :=
  fun k hk => (h.lt k hk).1
theorem Try.infoTok : (Try.prog.info? 83).map (fun i => (i.zero, i.size, i.bytes)) = some (some (.agg #[.int .i64 0, .string ⟨#[]⟩, .int .i64 0]), 3, 32) := by kernel_rfl
/-- A token's cells. -/
def tc (t : Tok) : List Value := [.int .i64 (t.k : Int), .string t.x, .int .i64 (t.a : Int)]
def tsC (l : List Tok) : List Value := l.flatMap tc
theorem tsC_len (l : List Tok) : (tsC l).length = l.length * 3 := by
  induction l with
  | nil => rfl
  | cons t l ih => simp only [tsC, List.flatMap_cons, List.length_append, List.length_cons] at ih ⊢; rw [ih]; simp [tc]; omega
theorem tsC_snoc (l : List Tok) (t : Tok) : tsC (l ++ [t]) = tsC l ++ tc t := by simp [tsC]
theorem tsC_at (l : List Tok) (j : Nat) (t : Tok) (h : l[j]? = some t) : (tsC l)[j * 3]? = some (.int .i64 (t.k : Int)) ∧ (tsC l)[j * 3 + 1]? = some (.string t.x) ∧ (tsC l)[j * 3 + 2]? = some (.int .i64 (t.a : Int)) := by
  induction l generalizing j with
  | nil => cases h
  | cons u l ih =>
    cases j with
    | zero => simp at h; subst h; simp [tsC, tc]
    | succ j =>
      simp at h
      have := ih j h
      have e : tsC (u :: l) = tc u ++ tsC l := rfl
      rw [e, show (j + 1) * 3 = (tc u).length + j * 3 by simp [tc]; omega, show (tc u).length + j * 3 + 1 = (tc u).length + (j * 3 + 1) by omega, show (tc u).length + j * 3 + 2 = (tc u).length + (j * 3 + 2) by omega]
      simp only [List.getElem?_append_right (Nat.le_add_right _ _), Nat.add_sub_cancel_left]
      exact this
theorem tok_cell (t : Tok) : ∀ u ∈ tc t, u.oneCell' = true := by
  intro u hu
  simp [tc] at hu
  rcases hu with rfl | rfl | rfl <;> rfl
def RelT (s : ByteArray) (w : World) (v a : Value) (wr : World) : Prop :=
  ∃ (k : Nat) (l : List Tok), k ≤ s.size ∧ a = .int .i64 (k : Int) ∧ tks s = l ++ toks s k ∧ wr.ownsRow w.heap.size 83 3 v l.length (tsC l) ∧ Below w.heap.size w wr
end Go.Proofs.Ytjpmnholpeidmaa

namespace Go.Proofs.Ytjpmnholpeidmaa
open Go.RowKit
def ownO : Obj := .cells #[.string ⟨#[102, 110]⟩, .string ⟨#[99, 104, 97, 110]⟩, .string ⟨#[108, 101, 116]⟩, .string ⟨#[105, 102]⟩, .string ⟨#[101, 108, 115, 101]⟩, .string ⟨#[119, 104, 105, 108, 101]⟩, .string ⟨#[115, 101, 110, 100]⟩, .string ⟨#[114, 101, 116, 117, 114, 110]⟩, .string ⟨#[115, 101, 110, 100, 115]⟩] 9
theorem own_cell (w : World) (j : Nat) (hj : j < 9) : (w.alloc ownO).cell? ⟨w.heap.size, j, none⟩ = some (.string (ownL.getD j ByteArray.empty)) := by
  have h := cell_of_row (w.alloc ownO) w.heap.size j _ 9 (0, 0) (heap_alloc_new w _)
  rw [h]
  have : j = 0 ∨ j = 1 ∨ j = 2 ∨ j = 3 ∨ j = 4 ∨ j = 5 ∨ j = 6 ∨ j = 7 ∨ j = 8 := by omega
  rcases this with rfl | rfl | rfl | rfl | rfl | rfl | rfl | rfl | rfl <;> rfl
set_option maxHeartbeats 1000000 in
set_option maxRecDepth 100000 in
theorem refOwn_any (w : World) :
    Calls Try.prog 80 #[] w fun e w' => e = .returned (.slice (some ⟨w.heap.size, 0, none⟩) 9 9) ∧ w' = w.alloc ownO := by
  go_enter Try.func80, Try.ntmps80
  go_wp2
  go_ret
  exact ⟨rfl, rfl⟩
def RelI (zs : List ByteArray) (n : Nat) (x : ByteArray) (i : Value) : Prop := ∃ k : Nat, k ≤ n ∧ i = .int .i64 (k : Int) ∧ ∀ j, j < k → zs.getD j ByteArray.empty ≠ x
theorem list_ne (s : ByteArray) (h : 0 < s.size) : s.toList ≠ [] := by
  rw [Lib.toList_data]
  intro e
  rw [Lib.size_eq, e] at h
  exact absurd h (Nat.lt_irrefl _)
theorem list_isE (s : ByteArray) (h : 0 < s.size) : s.toList.isEmpty = false := by
  have := list_ne s h
  cases hl : s.toList with
  | nil => exact absurd hl this
  | cons a l => rfl
end Go.Proofs.Ytjpmnholpeidmaa

namespace Go.Proofs.Ytjpmnholpeidmaa
open Go.RowKit
/-- Tokens in memory, as a slice's cells from a place on. -/
def TokAt (w : World) (g o : Nat) (l : List Tok) : Prop := ∀ j t, l[j]? = some t → w.cell? ⟨g, o + j * 3, none⟩ = some (.int .i64 (t.k : Int)) ∧ w.cell? ⟨g, o + j * 3 + 1, none⟩ = some (.string t.x) ∧ w.cell? ⟨g, o + j * 3 + 2, none⟩ = some (.int .i64 (t.a : Int))
theorem own_toks {w : World} {base : Nat} {v : Value} {l : List Tok} (h : w.ownsRow base 83 3 v l.length (tsC l)) (hl : 0 < l.length) :
    ∃ g cap, v = .slice (some ⟨g, 0, none⟩) l.length cap ∧ base ≤ g ∧ g < w.heap.size ∧ l.length ≤ cap ∧ TokAt w g 0 l := by
  have hc : ∀ g, v.ownBlock = some g → ∀ j u, (tsC l)[j]? = some u → w.cell? ((⟨g, 0, none⟩ : Addr).add j) = some u := fun g hg => h.cells hg
  obtain ⟨_, ⟨_, h0⟩ | ⟨g, cap, cur, rfl, hb, hg, hcap, _⟩⟩ := h
  · omega
  · refine ⟨g, cap, rfl, hb, (Array.getElem?_eq_some_iff.1 hg).1, hcap, fun j t ht => ?_⟩
    have h3 := tsC_at l j t ht
    have hc := hc g rfl
    have e : ∀ i, (⟨g, 0, none⟩ : Addr).add i = ⟨g, i, none⟩ := by intro i; simp only [Addr.add, Nat.zero_add]; split <;> simp_all
    have c0 := hc _ _ h3.1
    have c1 := hc _ _ h3.2.1
    have c2 := hc _ _ h3.2.2
    rw [e] at c0 c1 c2
    rw [Nat.zero_add]
    exact ⟨c0, c1, c2⟩
theorem TokAt.below {w w1 : World} {g o : Nat} {l : List Tok} (h : TokAt w g o l) {B : Nat} (hb : Below B w w1) (hg : g < B) : TokAt w1 g o l := by
  intro j t ht
  have := h j t ht
  rw [hb.cell (p := ⟨g, o + j * 3, none⟩) hg, hb.cell (p := ⟨g, o + j * 3 + 1, none⟩) hg, hb.cell (p := ⟨g, o + j * 3 + 2, none⟩) hg]
  exact this
def intC (l : List Nat) : List Value := l.map fun (c : Nat) => Value.int .i64 (c : Int)
theorem bne_of (x y : ByteArray) (h : x ≠ y) : (x.toList == y.data.toList) = false := by
  have := (Lib.bytes_beq_false_iff x y).2 h
  rw [Lib.toList_data y] at this
  exact this
theorem news2 (w : World) (o : Obj) (cs : Array Value) (t : TypeId) : ∀ j u, cs.toList[j]? = some u → ((w.alloc o).alloc (.cells cs t)).cell? ((⟨w.heap.size + 1, 0, none⟩ : Addr).add j) = some u := by
  have := World.news_of_block (heap_alloc_new (w.alloc o) (.cells cs t))
  simpa using this
theorem own_base {w : World} {base base' size n : Nat} {e : TypeId} {v : Value} {xs : List Value} (h : w.ownsRow base e size v n xs) (hb : base' ≤ base) : w.ownsRow base' e size v n xs := by
  refine ⟨h.1, ?_⟩
  rcases h.2 with h | ⟨g, cap, cur, rfl, h1, h2⟩
  · exact .inl h
  · exact .inr ⟨g, cap, cur, rfl, Nat.le_trans hb h1, h2⟩
theorem own_len {w : World} {base size n : Nat} {e : TypeId} {v : Value} {xs : List Value} (h : w.ownsRow base e size v n xs) : ∃ p cap, v = .slice p n cap := by
  rcases h.2 with ⟨rfl, rfl⟩ | ⟨g, cap, cur, rfl, _⟩
  · exact ⟨_, _, rfl⟩
  · exact ⟨_, _, rfl⟩
theorem Try.infoInt : (Try.prog.info? 3).map (fun i => (i.zero, i.size, i.bytes)) = some (some (.int .i64 0), 1, 8) := by kernel_rfl
def RelC (s : ByteArray) (wt : World) (v i : Value) (wr : World) : Prop :=
  ∃ k : Nat, k ≤ (tks s).length ∧ i = .int .i64 (k : Int) ∧ wr.ownsRow wt.heap.size 3 1 v (cutK s (tks s) k).length (intC (cutK s (tks s) k)) ∧ Below wt.heap.size wt wr
end Go.Proofs.Ytjpmnholpeidmaa

namespace Go.Proofs.Ytjpmnholpeidmaa
open Go.RowKit
end Go.Proofs.Ytjpmnholpeidmaa


/- Small facts that every walk uses. -/
import Derived.Test.YtbkihppmikjcoaaDoorRows
import Derived.WalkKit
import Derived.WalkSpells
import Derived.WalkLawsBesides
import Derived.Below
import Derived.Deep.Draws
namespace Go.Proofs.YtbkihppmikjcoaaDoor
open Go.RowKit
theorem ret_int {k : IntKind} {a b : Int} (h : a = b) : Ending.returned (.int k a) = .returned (.int k b) := by rw [h]
theorem ret_bool {a b : Bool} (h : a = b) : Ending.returned (.bool a) = .returned (.bool b) := by rw [h]
def upN (n : Nat) (v : Value) : Nat := n - (intOf v).toNat
theorem below_drewN {B : Nat} {a w : World} (h : Below B a w) (n : Nat) : Below B a (w.drewN n) := ⟨h.os, h.tape, h.output, h.size, h.block⟩
theorem bcell {W w1 : World} (hb : Below W.heap.size W w1) : (∀ b o, b < W.heap.size → w1.cell? ⟨b, o, none⟩ = W.cell? ⟨b, o, none⟩) ∧ (∀ b o, b < W.heap.size → w1.frozen? ⟨b, o, none⟩ = W.frozen? ⟨b, o, none⟩) :=
  ⟨fun b o h => hb.cell (p := ⟨b, o, none⟩) h, fun b o h => hb.frozen (p := ⟨b, o, none⟩) h⟩
theorem bstay {wr w2 : World} (hb : Below wr.drew.heap.size wr.drew w2) : ∀ b o u, b < wr.heap.size → wr.cell? ⟨b, o, none⟩ = some u → w2.cell? ⟨b, o, none⟩ = some u :=
  fun b o _ h e => (hb.cell (p := ⟨b, o, none⟩) h).trans e
theorem bstayN {W1 w2 : World} {m : Nat} (hb : Below (W1.drewN m).heap.size (W1.drewN m) w2) : ∀ b o u, b < W1.heap.size → W1.cell? ⟨b, o, none⟩ = some u → w2.cell? ⟨b, o, none⟩ = some u :=
  fun b o _ h e => (hb.cell (p := ⟨b, o, none⟩) h).trans e
theorem cell_alloc {w : World} {a : Addr} {u : Value} (h : w.cell? a = some u) : ∀ o, (w.alloc o).cell? a = some u :=
  fun o => (((Below.refl _ w).alloc (Nat.le_refl _) o).cell (World.block_lt_of_cell? w a h)).trans h
theorem wrap_id (x : Int) (h1 : -9223372036854775808 ≤ x) (h2 : x ≤ 9223372036854775807) : IntKind.i64.wrap x = x := by
  simp [IntKind.wrap, IntKind.signed, IntKind.bits]; omega
end Go.Proofs.YtbkihppmikjcoaaDoor

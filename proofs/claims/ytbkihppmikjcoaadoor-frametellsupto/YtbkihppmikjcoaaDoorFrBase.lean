/- Bytes and questions in memory. -/
import Derived.Test.YtbkihppmikjcoaaDoorBase
import Derived.Test.YtbkihppmikjcoaaDoorFrMath
import Derived.Deep.AppendLies
namespace Go.Proofs.YtbkihppmikjcoaaDoor
open Go.RowKit
set_option linter.unusedVariables false
theorem hid {p : Prop} (h : p) : Hid p := h
theorem own_below {w w1 : World} {base size n : Nat} {e : TypeId} {v : Value} {xs : List Value} (h : w.ownsRow base e size v n xs) (hb : Below w.heap.size w w1) : w1.ownsRow base e size v n xs :=
  h.kept (row := none) ⟨hb.os, hb.tape, hb.output, hb.size, fun k hk _ => hb.block k hk⟩ (by cases hv : v.ownBlock <;> simp)
/-- A text's bytes. -/
def ba (l : List UInt8) : ByteArray := ⟨l.toArray⟩
theorem ba_list (l : List UInt8) : (ba l).data.toList = l := by simp [ba]
theorem ba_size (l : List UInt8) : (ba l).size = l.length := by simp [ba, ByteArray.size]
theorem ba_app (l m : List UInt8) : ba l ++ ba m = ba (l ++ m) := by
  apply ByteArray.ext
  simp [ba]
theorem ba_inj {l m : List UInt8} (h : ba l = ba m) : l = m := by rw [← ba_list l, h, ba_list]
theorem ba_of (s : ByteArray) : ba s.data.toList = s := by
  apply ByteArray.ext
  simp [ba]
/-- Bytes from a place on. -/
def Byt (w : World) (g o : Nat) (l : List UInt8) : Prop := ∀ j b, l[j]? = some b → w.cell? ⟨g, o + j, none⟩ = some (.int .u8 (b.toNat : Int))
theorem Byt.kept {w w' : World} {g o : Nat} {l : List UInt8} (h : Byt w g o l) (hg : w'.heap[g]? = w.heap[g]?) : Byt w' g o l :=
  fun j b hj => (World.cell?_of_block (a := ⟨g, o + j, none⟩) hg).trans (h j b hj)
theorem Byt.drop {w : World} {g o : Nat} {l : List UInt8} (h : Byt w g o l) (n : Nat) : Byt w g (o + n) (l.drop n) := fun j b hj => by
  rw [List.getElem?_drop] at hj
  rw [Nat.add_assoc]
  exact h _ _ hj
theorem Byt.take {w : World} {g o : Nat} {l : List UInt8} (h : Byt w g o l) (n : Nat) : Byt w g o (l.take n) := fun j b hj => by
  rw [List.getElem?_take] at hj
  split at hj
  · exact h _ _ hj
  · cases hj
/-- A slice of bytes. -/
def BytIn (w : World) (v : Value) (l : List UInt8) : Prop := ∃ p c, v = .slice p l.length c ∧ l.length ≤ c ∧ (p = none → c = 0) ∧ (0 < l.length → ∃ g o, p = some ⟨g, o, none⟩ ∧ g < w.heap.size ∧ Byt w g o l)
theorem BytIn.below {w w' : World} {v : Value} {l : List UInt8} (h : BytIn w v l) (hb : Below w.heap.size w w') : BytIn w' v l := by
  obtain ⟨p, c, rfl, h0, hz, h1⟩ := h
  refine ⟨p, c, rfl, h0, hz, fun hl => ?_⟩
  obtain ⟨g, o, rfl, h2, h3⟩ := h1 hl
  exact ⟨g, o, rfl, Nat.lt_of_lt_of_le h2 hb.size, h3.kept (hb.block g h2)⟩
/-- Numbers from a place on. -/
def Nums (w : World) (g o : Nat) (l : List Int) : Prop := ∀ j n, l[j]? = some n → w.cell? ⟨g, o + j, none⟩ = some (.int .i64 n)
theorem Nums.kept {w w' : World} {g o : Nat} {l : List Int} (h : Nums w g o l) (hg : w'.heap[g]? = w.heap[g]?) : Nums w' g o l :=
  fun j b hj => (World.cell?_of_block (a := ⟨g, o + j, none⟩) hg).trans (h j b hj)
/-- A question's cells; its Args lie at p. -/
def akC (a : Ak) (p : Option Addr) (c : Nat) : List Value := [.int .i64 a.id, .int .i64 a.kind, .int .i64 a.fr, .int .i64 a.to, .string (ba a.text), .slice p a.args.length c]
def akV (a : Ak) (p : Option Addr) (c : Nat) : Value := .agg #[.int .i64 a.id, .int .i64 a.kind, .int .i64 a.fr, .int .i64 a.to, .string (ba a.text), .slice p a.args.length c]
/-- Args at p. -/
def ArgIn (w : World) (p : Option Addr) (l : List Int) : Prop := 0 < l.length → ∃ g o, p = some ⟨g, o, none⟩ ∧ g < w.heap.size ∧ Nums w g o l
theorem ArgIn.below {w w' : World} {p : Option Addr} {l : List Int} (h : ArgIn w p l) (hb : Below w.heap.size w w') : ArgIn w' p l := fun hl => by
  obtain ⟨g, o, rfl, h2, h3⟩ := h hl
  exact ⟨g, o, rfl, Nat.lt_of_lt_of_le h2 hb.size, h3.kept (hb.block g h2)⟩
/-- Questions from a place on. -/
def Aks (w : World) (g o : Nat) (l : List Ak) : Prop := ∀ j a, l[j]? = some a → ∃ p c, (∀ i u, (akC a p c)[i]? = some u → w.cell? ⟨g, o + j * 6 + i, none⟩ = some u) ∧ ArgIn w p a.args
def AksIn (w : World) (v : Value) (l : List Ak) : Prop := ∃ p c, v = .slice p l.length c ∧ (p = none → c = 0) ∧ (0 < l.length → ∃ g o, p = some ⟨g, o, none⟩ ∧ g < w.heap.size ∧ Aks w g o l)
theorem Aks.below {w w' : World} {g o : Nat} {l : List Ak} (h : Aks w g o l) (hg : g < w.heap.size) (hb : Below w.heap.size w w') : Aks w' g o l := fun j a hj => by
  obtain ⟨p, c, h1, h2⟩ := h j a hj
  exact ⟨p, c, fun i u hu => (World.cell?_of_block (a := ⟨g, o + j * 6 + i, none⟩) (hb.block g hg)).trans (h1 i u hu), h2.below hb⟩
theorem AksIn.below {w w' : World} {v : Value} {l : List Ak} (h : AksIn w v l) (hb : Below w.heap.size w w') : AksIn w' v l := by
  obtain ⟨p, c, rfl, hz, h1⟩ := h
  refine ⟨p, c, rfl, hz, fun hl => ?_⟩
  obtain ⟨g, o, rfl, h2, h3⟩ := h1 hl
  exact ⟨g, o, rfl, Nat.lt_of_lt_of_le h2 hb.size, h3.below h2 hb⟩
/-- One's six cells. -/
theorem Aks.cells {w : World} {g o : Nat} {l : List Ak} (h : Aks w g o l) {j : Nat} {a : Ak} (hj : l[j]? = some a) : ∃ p c,
    w.cell? ⟨g, o + j * 6, none⟩ = some (.int .i64 a.id) ∧ w.cell? ⟨g, o + j * 6 + 1, none⟩ = some (.int .i64 a.kind) ∧ w.cell? ⟨g, o + j * 6 + 2, none⟩ = some (.int .i64 a.fr) ∧ w.cell? ⟨g, o + j * 6 + 3, none⟩ = some (.int .i64 a.to) ∧
    w.cell? ⟨g, o + j * 6 + 4, none⟩ = some (.string (ba a.text)) ∧ w.cell? ⟨g, o + j * 6 + 5, none⟩ = some (.slice p a.args.length c) ∧ ArgIn w p a.args := by
  obtain ⟨p, c, h1, h2⟩ := h j a hj
  exact ⟨p, c, h1 0 _ rfl, h1 1 _ rfl, h1 2 _ rfl, h1 3 _ rfl, h1 4 _ rfl, h1 5 _ rfl, h2⟩
/-- What is wrong, and where. -/
def faV (e : Int) (k : Int) : Value := .agg #[.int .i64 e, .int .i64 k]
end Go.Proofs.YtbkihppmikjcoaaDoor

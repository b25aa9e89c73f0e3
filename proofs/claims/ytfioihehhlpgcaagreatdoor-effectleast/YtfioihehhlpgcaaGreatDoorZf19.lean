/- Texts of this seat, one behind the other: NamHear, NamDiags, NamUses, NamGood, NamAt, LawAlive4, LawNUses. -/
import Derived.Test.YtfioihehhlpgcaaGreatDoorZf18
import Derived.Deep.AppendLies
import Derived.Test.YtfioihehhlpgcaaGreatDoorZf16
import Derived.Test.YtfioihehhlpgcaaGreatDoorZb01b
import Derived.Test.YtfioihehhlpgcaaGreatDoorZb12
namespace Go.Proofs.YtfioihehhlpgcaaGreatDoor
open Go.RowKit
attribute [local go_sem ↓] Go.wp_at_zero Go.wp_at_succ
/-- The variable at block bo holds a list of n parts, whose cells are xs, in block D. -/
def Cpt (T TE : TypeId) (st bo : Nat) (w : World) (xs : List Value) (n : Nat) (D : Option Nat) : Prop := ∃ v, w.heap[bo]? = some (.cells #[v] T (0, 0)) ∧ w.ownsRow (bo + 1) TE st v n xs ∧ v.ownBlock = D
section
variable {T TE : TypeId} {st bo : Nat} {w w' : World} {xs : List Value} {n : Nat} {D : Option Nat}
theorem Cpt.lt (h : Cpt T TE st bo w xs n D) : bo < w.heap.size ∧ ∀ k, some k = D → bo < k ∧ k < w.heap.size := by
  obtain ⟨v, h1, h2, h3⟩ := h
  exact ⟨(Array.getElem?_eq_some_iff.1 h1).1, fun k e => by have := h2.lt k (h3.trans e.symm); exact ⟨this.1, this.2⟩⟩
theorem Cpt.kept (h : Cpt T TE st bo w xs n D) (h0 : w'.heap[bo]? = w.heap[bo]?) (hD : ∀ k, some k = D → w'.heap[k]? = w.heap[k]?) : Cpt T TE st bo w' xs n D := by
  obtain ⟨v, h1, h2, h3⟩ := h
  exact ⟨v, h0.trans h1, own_kept h2 (fun g e => hD g (e.symm.trans h3)), h3⟩
/-- A part more. -/
theorem Cpt.put {W w6 : World} {v : Value} {g cap : Nat} {c : List Value} (h1 : w.heap[bo]? = some (.cells #[v] T (0, 0))) (h2 : w.ownsRow (bo + 1) TE st v n xs) (hb : Below w.heap.size w W) (hown : w6.ownsRow (bo + 1) TE st (.slice (some ⟨g, 0, none⟩) (n + 1) cap) (n + 1) (xs ++ c)) (hgrow : W.grownBy w6 v.ownBlock) (hat : v.ownBlock = some g ∨ g = W.heap.size) :
    Cpt T TE st bo (w6.setCell ⟨bo, 0, none⟩ (.slice (some ⟨g, 0, none⟩) (n + 1) cap)) (xs ++ c) (n + 1) (some g) ∧ Stp bo v.ownBlock (some g) w (w6.setCell ⟨bo, 0, none⟩ (.slice (some ⟨g, 0, none⟩) (n + 1) cap)) := by
  have hbo : bo < w.heap.size := (Array.getElem?_eq_some_iff.1 h1).1
  have hne : some bo ≠ v.ownBlock := fun e => by have := (h2.lt bo e.symm).1; omega
  have hgg : bo + 1 ≤ g := (hown.lt g rfl).1
  have hW : ∀ k, k < w.heap.size → some k ≠ v.ownBlock → w6.heap[k]? = w.heap[k]? := fun k hk hn => (hgrow.block k (Nat.lt_of_lt_of_le hk hb.size) hn).trans (hb.block k hk)
  have hset : ∀ k, k ≠ bo → (w6.setCell ⟨bo, 0, none⟩ (.slice (some ⟨g, 0, none⟩) (n + 1) cap)).heap[k]? = w6.heap[k]? := fun k hk => Below.heap_setCell w6 _ _ k hk
  have hbb := (hW bo hbo hne).trans h1
  refine ⟨⟨.slice (some ⟨g, 0, none⟩) (n + 1) cap, by simp [World.setCell, Array.getElem?_modify, hbb], ownsRow_setCell_other hown (a := ⟨bo, 0, none⟩) (by simp [Value.ownBlock]; omega) _, rfl⟩, hgrow.os.trans hb.os, hgrow.tape.trans hb.tape, hgrow.output.trans hb.output, ?_, fun k hk hk2 hk3 => (hset k hk2).trans (hW k hk hk3), ?_⟩
  · have := hgrow.size
    have := hb.size
    simp
    omega
  · rcases hat with e | e
    · exact .inl e.symm
    · exact .inr ⟨g, rfl, by rw [e]; exact hb.size⟩
end
end Go.Proofs.YtfioihehhlpgcaaGreatDoor
namespace Go.Proofs.YtfioihehhlpgcaaGreatDoor
open Go.RowKit
attribute [local go_sem ↓] Go.wp_at_zero Go.wp_at_succ
end Go.Proofs.YtfioihehhlpgcaaGreatDoor
namespace Go.Proofs.YtfioihehhlpgcaaGreatDoor
open Go.RowKit
attribute [local go_sem ↓] Go.wp_at_zero Go.wp_at_succ
end Go.Proofs.YtfioihehhlpgcaaGreatDoor
namespace Go.Proofs.YtfioihehhlpgcaaGreatDoor
theorem itI_wf (s : ByteArray) (i : Nat) : WfI (tks (txI s i)) (itI s i) := itm_wf (txI s i)
theorem txI_len (s : ByteArray) (i : Nat) : (tks (txI s i)).length ≤ s.size := by
  have h1 := tks_len (txI s i)
  have h2 : (txI s i).size ≤ s.size := by
    unfold txI
    have := cn_le s (i + 1)
    rw [ext_size' _ _ _ this]
    omega
  omega
theorem fil_mem {s : ByteArray} {q : Int × It} (h : q ∈ fil s) : ∃ i, i < (cts s).length ∧ q = ((cn s i : Int), itI s i) := by
  unfold fil at h
  obtain ⟨i, h1, h2⟩ := List.mem_map.1 h
  exact ⟨i, List.mem_range.1 h1, h2.symm⟩
end Go.Proofs.YtfioihehhlpgcaaGreatDoor
namespace Go.Proofs.YtfioihehhlpgcaaGreatDoor
open Go.RowKit
attribute [local go_sem ↓] Go.wp_at_zero Go.wp_at_succ
/-- A row of parts is a slice of them. -/
theorem row_read {α : Type} {c : α → List Value} {us : List α} {w : World} {base st : Nat} {TE : TypeId} {v : Value} (hc : ∀ a, (c a).length = st) (h : w.ownsRow base TE st v us.length (us.flatMap c)) : ∃ p cap, v = .slice p us.length cap ∧ (0 < us.length → ∃ g, p = some ⟨g, 0, none⟩ ∧ (base ≤ g ∧ g < w.heap.size) ∧ FlAt w g st c us) := by
  have hcells : ∀ g, v.ownBlock = some g → ∀ j u, (us.flatMap c)[j]? = some u → w.cell? ((⟨g, 0, none⟩ : Addr).add j) = some u := fun g hg => h.cells hg
  have hlt := fun g e => h.lt g e
  obtain ⟨_, ⟨rfl, h0⟩ | ⟨g, cap, cur, rfl, hb, hg, hcap, _⟩⟩ := h
  · exact ⟨none, 0, by rw [h0], fun hl => by omega⟩
  · have e : ∀ i, (⟨g, 0, none⟩ : Addr).add i = ⟨g, i, none⟩ := by intro i; simp only [Addr.add, Nat.zero_add]; split <;> simp_all
    refine ⟨_, cap, rfl, fun _ => ⟨g, rfl, hlt g rfl, fun j t hj i u hi => ?_⟩⟩
    have hfl : (us.flatMap c)[j * st + i]? = some u := by
      have := flat_at (vs := us.map c) (st := st) (fun x hx => by obtain ⟨a, _, rfl⟩ := List.mem_map.1 hx; exact hc a) j (c t) (by rw [List.getElem?_map, hj]; rfl) i u hi
      exact this
    have := hcells g rfl _ _ hfl
    rwa [e] at this
end Go.Proofs.YtfioihehhlpgcaaGreatDoor

namespace Go.Proofs.YtfioihehhlpgcaaGreatDoor
open Go.RowKit
attribute [local go_sem ↓] Go.wp_at_zero Go.wp_at_succ
theorem cell_on {w w' : World} (hb : Below w.heap.size w w') {a : Addr} {u : Value} (h : w.cell? a = some u) : w'.cell? a = some u := (hb.cell (World.block_lt_of_cell? w a h)).trans h
end Go.Proofs.YtfioihehhlpgcaaGreatDoor

namespace Go.Proofs.YtfioihehhlpgcaaGreatDoor
open Go.RowKit
attribute [local go_sem ↓] Go.wp_at_zero Go.wp_at_succ
theorem flE_small {s : ByteArray} (h : flE s = 0) : s.size ≤ 4000 ∧ (cts s).length ≤ 30 := by
  unfold flE at h
  split at h
  · cases h
  · split at h
    · cases h
    · omega
theorem flE_le5 (s : ByteArray) : flE s ≤ 5 := by unfold flE; split <;> (try split) <;> omega
def RelNU (n : Nat) (W : World) (i : Value) (wr : World) : Prop := ∃ k : Nat, k ≤ n ∧ i = .int .i64 (k : Int) ∧ Below W.heap.size W wr
end Go.Proofs.YtfioihehhlpgcaaGreatDoor


/- The items of a file, copied; and one of them with another label. -/
import Derived.Test.YtgifjkljpbbegaaGreatDoorZcLawFNone
import Derived.Test.YtgifjkljpbbegaaGreatDoorZcFloMor2
import Derived.Test.YtgifjkljpbbegaaGreatDoorZb12
namespace Go.Proofs.YtgifjkljpbbegaaGreatDoor
open Go.RowKit
set_option linter.unusedVariables false
attribute [local go_sem ↓] Go.wp_at_zero Go.wp_at_succ
set_option maxHeartbeats 400000 in
theorem rightN_any (a : Int) (w : World) : Calls Tryz.prog 31 #[.int .i64 a] w fun e w' => e = .returned (.bool (decide (0 ≤ a ∧ a ≤ 255))) ∧ w' = w := by
  go_enter Tryz.func31, Tryz.ntmps31
  go_wp2
  all_goals
    go_ret
    exact ⟨ret_bool (by rw [Bool.eq_iff_iff]; simp; omega), rfl⟩
/-- Each cell of a list of items. -/
theorem item_cell {ok : Nat → Prop} {w : World} {l : List (Int × It)} {g : Nat} (h : RdIs ok w l g) (j : Nat) (hj : j < l.length * 10) : ∃ u, w.cell? ⟨g, j, none⟩ = some u ∧ u.oneCell' = true := by
  obtain ⟨e, he⟩ : ∃ e, l[j / 10]? = some e := ⟨_, List.getElem?_eq_getElem (by omega)⟩
  obtain ⟨v, hcv, hI⟩ := h (j / 10) e he
  obtain ⟨p1, c1, p2, c2, p3, c3, p4, c4, rfl, _⟩ := hI
  have hb : j % 10 < 10 := Nat.mod_lt _ (by decide)
  have key : ∀ (cs : Array Value), cs.size = 10 → cs.all (·.oneCell') = true → CellsV w g (j / 10 * 10) (.agg cs) → ∃ u, w.cell? ⟨g, j, none⟩ = some u ∧ u.oneCell' = true := by
    intro cs hs ha hc
    have hlt : j % 10 < cs.size := by omega
    have h1 := hc.get (j % 10) cs[j % 10] (Array.getElem?_eq_getElem hlt)
    rw [show j / 10 * 10 + j % 10 = j by omega] at h1
    exact ⟨_, h1, Array.all_eq_true.1 ha (j % 10) hlt⟩
  exact key _ rfl (by simp [Value.oneCell']) hcv
theorem item_cells {ok : Nat → Prop} {w : World} {l : List (Int × It)} {g : Nat} (h : RdIs ok w l g) : ∃ xs : List Value, xs.length = l.length * 10 ∧ (∀ (j : Nat) (u : Value), xs[j]? = some u → w.cell? ⟨g, j, none⟩ = some u) ∧ (∀ u ∈ xs, u.oneCell' = true) ∧ ∀ (j : Nat) (u : Value), j < l.length * 10 → w.cell? ⟨g, j, none⟩ = some u → xs[j]? = some u := by
  refine ⟨(List.range (l.length * 10)).map (fun j => (w.cell? ⟨g, j, none⟩).getD (.bool false)), by simp, fun j u hj => ?_, fun u hu => ?_, fun j u hj hu => ?_⟩
  · rw [List.getElem?_map] at hj
    obtain ⟨i, hi, rfl⟩ := Option.map_eq_some_iff.1 hj
    have hl := (List.getElem?_eq_some_iff.1 hi).1
    rw [List.length_range] at hl
    rw [List.getElem?_range hl] at hi
    injection hi with hi
    subst hi
    obtain ⟨v, hv, _⟩ := item_cell h j hl
    rw [hv]
    rfl
  · obtain ⟨i, hi, rfl⟩ := List.mem_map.1 hu
    obtain ⟨v, hv, h1⟩ := item_cell h i (List.mem_range.1 hi)
    rw [hv]
    exact h1
  · rw [List.getElem?_map, List.getElem?_range hj]
    simp [hu]
/-- The same items in another block. -/
theorem items_copy {ok ok' : Nat → Prop} {w w' : World} {l : List (Int × It)} {g g' : Nat} (h : RdIs ok w l g) (hc : ∀ (j : Nat) (u : Value), j < l.length * 10 → w.cell? ⟨g, j, none⟩ = some u → w'.cell? ⟨g', j, none⟩ = some u) (hw : ∀ k, ok k → w'.heap[k]? = w.heap[k]?) (ho : ∀ k, ok k → ok' k) : RdIs ok' w' l g' := by
  intro j e he
  obtain ⟨v, hcv, hI⟩ := h j e he
  have hj := (List.getElem?_eq_some_iff.1 he).1
  have hI2 := hI.kept hw ho
  obtain ⟨p1, c1, p2, c2, p3, c3, p4, c4, rfl, _⟩ := hI
  refine ⟨_, ⟨_, rfl, fun i u hi => ?_⟩, hI2⟩
  have hi10 : i < 10 := by
    have := (Array.getElem?_eq_some_iff.1 hi).1
    simpa using this
  exact hc (j * 10 + i) u (by omega) (hcv.get i u hi)
/-- One of them with another label. -/
theorem items_up {ok : Nat → Prop} {w : World} {l : List (Int × It)} {g i n : Nat} {p : Int} {it : It} (h : RdIs ok w l g) (hi : l[i]? = some (p, it)) (hg : ¬ ok g) {cs : Array Value} {t : TypeId} (hh : w.heap[g]? = some (.cells cs t (0, 0))) : RdIs ok (w.setCell ⟨g, i * 10 + 2, none⟩ (.int .i64 (n : Int))) (l.set i (p, upL it n)) g := by
  have hk : ∀ k, ok k → (w.setCell ⟨g, i * 10 + 2, none⟩ (.int .i64 (n : Int))).heap[k]? = w.heap[k]? := fun k hk => Below.heap_setCell _ _ _ k (fun e => hg ((show k = g from e) ▸ hk))
  have hex : ∃ u, w.cell? ⟨g, i * 10 + 2, none⟩ = some u := by
    obtain ⟨v, hcv, hI⟩ := h i _ hi
    obtain ⟨p1, c1, p2, c2, p3, c3, p4, c4, rfl, _⟩ := hI
    exact ⟨_, hcv.get 2 _ rfl⟩
  have hn := heap_setCell_same w g (i * 10 + 2) cs t (.int .i64 (n : Int)) hh
  have hother : ∀ o, o ≠ i * 10 + 2 → (w.setCell ⟨g, i * 10 + 2, none⟩ (.int .i64 (n : Int))).cell? ⟨g, o, none⟩ = w.cell? ⟨g, o, none⟩ := fun o ho => by
    rw [cell_of_row _ _ o _ _ _ hn, cell_of_row _ _ o _ _ _ hh, Array.getElem?_setIfInBounds_ne (fun e => ho e.symm)]
  have hsame : (w.setCell ⟨g, i * 10 + 2, none⟩ (.int .i64 (n : Int))).cell? ⟨g, i * 10 + 2, none⟩ = some (.int .i64 (n : Int)) := by
    obtain ⟨u, hu⟩ := hex
    rw [cell_of_row _ _ _ _ _ _ hh] at hu
    rw [cell_of_row _ _ _ _ _ _ hn, Array.getElem?_setIfInBounds_self_of_lt (Array.getElem?_eq_some_iff.1 hu).1]
  intro j e he
  rw [set_get hi] at he
  by_cases hj : j = i
  · rw [if_pos hj] at he
    injection he with he
    subst he
    subst hj
    obtain ⟨v, hcv, hI⟩ := h j _ hi
    have hI2 := hI.kept hk (fun _ h => h)
    obtain ⟨p1, c1, p2, c2, p3, c3, p4, c4, rfl, r1, r2, r3, r4⟩ := hI2
    refine ⟨.agg #[.int .i64 (it.k : Int), .string it.x, .int .i64 (n : Int), .slice p1 it.ps.length c1, .slice p2 it.ss.length c2, .slice p3 it.bd.length c3, .int .i64 p, .int .i64 (it.sz : Int), .int .i64 (it.mrk : Int), .slice p4 it.ds.length c4], ⟨_, rfl, fun i u hu => ?_⟩, ⟨p1, c1, p2, c2, p3, c3, p4, c4, rfl, r1, r2, r3, r4⟩⟩
    by_cases h2 : i = 2
    · subst h2
      have : u = .int .i64 (n : Int) := by simpa using hu.symm
      rw [this]
      exact hsame
    · rw [hother (j * 10 + i) (by omega)]
      refine hcv.get i u ?_
      rcases i with _ | _ | _ | i
      · exact hu
      · exact hu
      · exact absurd rfl h2
      · exact hu
  · rw [if_neg hj] at he
    obtain ⟨v, hcv, hI⟩ := h j e he
    have hI2 := hI.kept hk (fun _ h => h)
    obtain ⟨p1, c1, p2, c2, p3, c3, p4, c4, rfl, _⟩ := hI
    refine ⟨_, ⟨_, rfl, fun i' u hu => ?_⟩, hI2⟩
    have hi10 : i' < 10 := by
      have := (Array.getElem?_eq_some_iff.1 hu).1
      simpa using this
    rw [hother (j * 10 + i') (by omega)]
    exact hcv.get i' u hu
end Go.Proofs.YtgifjkljpbbegaaGreatDoor

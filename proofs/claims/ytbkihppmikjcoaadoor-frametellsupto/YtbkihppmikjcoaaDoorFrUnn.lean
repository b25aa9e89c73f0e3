/- No bytes as questions. -/
import Derived.Test.YtbkihppmikjcoaaDoorFrUp
namespace Go.Proofs.YtbkihppmikjcoaaDoor
open Go.RowKit
set_option linter.unusedVariables false
attribute [local go_sem ↓] Go.wp_at_zero Go.wp_at_succ
set_option maxHeartbeats 1000000 in
set_option maxRecDepth 100000 in
theorem unframe_nil (w : World) (p : Option Addr) (c : Nat) :
    Calls Tryd.prog 11 #[.slice p 0 c] w fun ex w' => ∃ r e k, ex = .returned (.tuple #[r, faV e k]) ∧ Below w.heap.size w w' ∧ ParseB w.heap.size (.inl []) r e k w' := by
  have hb1 := ((Below.refl w.heap.size w).alloc (Nat.le_refl _) (.cells #[.int .i64 0, .int .i64 0] 30)).alloc (by simp) (.cells #[.int .i64 0] 3)
  have hn1 := heap_alloc_new (w.alloc (.cells #[.int .i64 0, .int .i64 0] 30)) (.cells #[.int .i64 0] 3)
  have hn0 := (Below.heap_alloc (w.alloc (.cells #[.int .i64 0, .int .i64 0] 30)) (.cells #[.int .i64 0] 3) w.heap.size (by simp)).trans (heap_alloc_new w _)
  rw [show (w.alloc (.cells #[.int .i64 0, .int .i64 0] 30)).heap.size = w.heap.size + 1 by simp] at hn1
  have HB := hid hb1
  have HN0 := hid hn0
  have HN1 := hid hn1
  clear hb1 hn1 hn0
  go_enter Tryd.func11, Tryd.ntmps11
  go_wp2
  go_loopw [4, 5] (fun v pt wr => v = .slice none 0 0 ∧ pt = .pointer (some ⟨w.heap.size + 1, 0, none⟩) ∧ Below w.heap.size w wr ∧ wr.cell? ⟨w.heap.size + 1, 0, none⟩ = some (.int .i64 0) ∧ wr.heap[w.heap.size]? = some (.cells #[.int .i64 0, .int .i64 0] 30 (0, 0))) (fun _ _ _ => 0)
  case atStart => exact ⟨rfl, rfl, HB.out, cell_of_row _ _ 0 _ _ _ HN1.out, HN0.out⟩
  case round =>
    obtain ⟨rfl, rfl, hb1, c1, c2⟩ := hrel
    obtain ⟨d0, d1, df⟩ := row2 c2
    have C2 := hid c2
    have HB2 := hid hb1
    clear c2 hb1
    go_wp2
    obtain ⟨z0, z1⟩ := fin2 C2.out (.int .i64 0) (.int .i64 0)
    have hb9 := (HB2.out.setCell (p := ⟨w.heap.size, 0, none⟩) (Nat.le_refl _) (.int .i64 0)).setCell (p := ⟨w.heap.size, 1, none⟩) (Nat.le_refl _) (.int .i64 0)
    generalize (wr.setCell ⟨w.heap.size, 0, none⟩ (.int .i64 0)).setCell ⟨w.heap.size, 1, none⟩ (.int .i64 0) = w9 at *
    exact bodyPost_ret (v := .tuple #[.slice none 0 0, faV 0 0]) (by simp [results, Tryd.results11, go_sem, z0, z1, faV]) rfl ⟨_, 0, 0, rfl, hb9, rfl, rfl, none, 0, rfl, fun _ => rfl, fun h => absurd h (by simp)⟩
end Go.Proofs.YtbkihppmikjcoaaDoor

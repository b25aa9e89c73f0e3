/- What is wrong with a question: the program's word, and the document's. -/
import Derived.Test.YtbkihppmikjcoaaDoorFrBase
import Derived.Deep.DrawnRows
namespace Go.Proofs.YtbkihppmikjcoaaDoor
open Go.RowKit
set_option linter.unusedVariables false
attribute [local go_sem ↓] Go.wp_at_zero Go.wp_at_succ
section
variable (a : Ak) (p : Option Addr) (c : Nat) (w : World)
set_option maxHeartbeats 1000000 in
set_option maxRecDepth 100000 in
theorem wrong_any : Calls Tryd.prog 6 #[akV a p c] w fun e w' => e = .returned (.int .i64 (akW a)) ∧ Below w.heap.size w w' := by
  have HW : Hid (akW a = if a.kind < 1 ∨ 9 < a.kind then 1 else if 5 < a.args.length then 5 else if 4000 < a.text.length then 4 else 0) := rfl
  have hs := ba_size a.text
  unfold akV
  generalize ba a.text = s at *
  generalize a.args.length = n at *
  generalize a.text.length = m at *
  generalize a.kind = k at *
  generalize akW a = T at *
  go_enter Tryd.func6, Tryd.ntmps6
  go_wp2
  all_goals go_ret
  all_goals refine ⟨ret_int ?_, (Below.refl _ _).alloc (Nat.le_refl _) _⟩
  all_goals (have hw := HW.out; rw [hw]; try simp only [decide_eq_true_eq, decide_eq_false_iff_not] at *)

  all_goals (repeat' split) <;> omega
end
end Go.Proofs.YtbkihppmikjcoaaDoor

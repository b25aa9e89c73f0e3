/- Texts of this seat, one behind the other: RnExpr, RnBlock, RnHad. -/
import Derived.Test.YtdkpfnohdknldaaGreatDoorZf21
import Derived.Test.YtdkpfnohdknldaaGreatDoorZf17
import Derived.Test.YtdkpfnohdknldaaGreatDoorZf18
namespace Go.Proofs.YtdkpfnohdknldaaGreatDoor
open Go.RowKit Go.WideMaps Go.Maps
set_option linter.unusedVariables false
attribute [local go_sem ↓] Go.wp_at_zero Go.wp_at_succ
theorem wfL_get {P : Nat → Tr → Prop} : ∀ (al : List Tr) (c k : Nat) (a : Tr), wfL P c al → al[k]? = some a → ∃ c', P c' a := by
  intro al
  induction al with
  | nil => intro c k a _ h; simp at h
  | cons b r ih =>
    rintro c k a ⟨c1, c2, _, h2, h3⟩ h
    cases k with
    | zero => simp at h; subst h; exact ⟨c1, h2⟩
    | succ k => simp at h; exact ih c2 k a h3 h
end Go.Proofs.YtdkpfnohdknldaaGreatDoor
namespace Go.Proofs.YtdkpfnohdknldaaGreatDoor
open Go.RowKit Go.WideMaps Go.Maps
set_option linter.unusedVariables false
attribute [local go_sem ↓] Go.wp_at_zero Go.wp_at_succ
end Go.Proofs.YtdkpfnohdknldaaGreatDoor
namespace Go.Proofs.YtdkpfnohdknldaaGreatDoor
open Go.RowKit Go.WideMaps Go.Maps
set_option linter.unusedVariables false
end Go.Proofs.YtdkpfnohdknldaaGreatDoor

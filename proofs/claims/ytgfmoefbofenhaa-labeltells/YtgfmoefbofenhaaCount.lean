/- Count tells how many tags a label has. -/
import Derived.Test.YtgfmoefbofenhaaSmall
namespace Go.Proofs.Ytgfmoefbofenhaa
open Go.RowKit
/-- How many of the eight lowest bits are 1. -/
def pc (a : Nat) : Nat := a % 2 + a / 2 % 2 + a / 4 % 2 + a / 8 % 2 + a / 16 % 2 + a / 32 % 2 + a / 64 % 2 + a / 128 % 2
set_option maxHeartbeats 400000 in
theorem count_any (a : Nat) (w : World) (ha : a < 256) :
    Calls Try.prog 15 #[.int .i64 (a : Int)] w fun e w' => e = .returned (.int .i64 (pc a : Int)) ∧ w' = w := by
  go_enter Try.func15, Try.ntmps15
  go_wp2_with (first | (go_at_call 20; refine (tags_any _ _ (by assumption)).mono ?_; rintro e w' ⟨rfl, rfl⟩) | go_in)
  go_ret
  refine ⟨ret_int ?_, rfl⟩
  revert a
  decide +kernel
end Go.Proofs.Ytgfmoefbofenhaa

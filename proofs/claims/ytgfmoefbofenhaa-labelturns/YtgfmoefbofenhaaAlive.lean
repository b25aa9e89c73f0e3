/- The closed fact that is asked first. -/
import Derived.Test.YtgfmoefbofenhaaParse
import Derived.Test.YtgfmoefbofenhaaPrint
import Derived.Test.YtgfmoefbofenhaaCount
namespace Go.Proofs.Ytgfmoefbofenhaa
open Go.RowKit
theorem parse_ca (w : World) : Calls Try.prog 6 #[.string ⟨#[123, 99, 44, 97, 125]⟩] w fun e w' => e = .returned (.tuple #[.int .i64 5, .int .i64 0]) ∧ w' = w := by
  have h := parse_any ⟨#[123, 99, 44, 97, 125]⟩ w (by decide)
  have e1 : pN ⟨#[123, 99, 44, 97, 125]⟩ = 5 := by decide +kernel
  have e2 : pE ⟨#[123, 99, 44, 97, 125]⟩ = 0 := by decide +kernel
  rw [e1, e2] at h
  exact h
theorem print_5 (w : World) : Calls Try.prog 16 #[.int .i64 5] w fun e w' => e = .returned (.string ⟨#[123, 97, 44, 99, 125]⟩) ∧ Below w.heap.size w w' := by
  have h := print_any 5 w (by decide)
  have e1 : prS 5 = ⟨#[123, 97, 44, 99, 125]⟩ := by decide +kernel
  rw [e1] at h
  exact h
def flI (x y : Int) : Bool := fl x.toNat y.toNat
theorem flows_i (x y : Int) (w : World) (h1 : 0 ≤ x ∧ x ≤ 255) (h2 : 0 ≤ y ∧ y ≤ 255) : Calls Try.prog 10 #[.int .i64 x, .int .i64 y] w fun e w' => e = .returned (.bool (flI x y)) ∧ w' = w := by
  have := flows_any x.toNat y.toNat w (by omega) (by omega)
  rwa [Int.toNat_of_nonneg h1.1, Int.toNat_of_nonneg h2.1] at this
theorem join_14 (w : World) : Calls Try.prog 12 #[.int .i64 1, .int .i64 4] w fun e w' => e = .returned (.int .i64 5) ∧ w' = w := join_any 1 4 w (by decide) (by decide)
theorem meet_54 (w : World) : Calls Try.prog 14 #[.int .i64 5, .int .i64 4] w fun e w' => e = .returned (.int .i64 4) ∧ w' = w := meet_any 5 4 w (by decide) (by decide)
theorem count_7 (w : World) : Calls Try.prog 15 #[.int .i64 7] w fun e w' => e = .returned (.int .i64 3) ∧ w' = w := count_any 7 w (by decide)
set_option maxHeartbeats 800000 in
theorem alive_any (w : World) : Calls Try.prog 18 #[] w fun e w' => e = .returned (.bool true) ∧ Below w.heap.size w w' := by
  have f15 : flI 1 5 = true := by decide +kernel
  have f51 : flI 5 1 = false := by decide +kernel
  have r255 : rt 255 = true := by decide +kernel
  have r256 : rt 256 = false := by decide +kernel
  go_enter Try.func18, Try.ntmps18
  go_wp2_with (first
    | (go_at_call 6; refine (parse_ca _).mono ?_; rintro e w' ⟨rfl, hw'⟩; subst w')
    | (go_at_call 16; refine (print_5 _).mono ?_; rintro e w1 ⟨rfl, hb1⟩)
    | (go_at_call 10; refine (flows_i _ _ _ (by decide) (by decide)).mono ?_; rintro e w' ⟨rfl, hw'⟩; subst w')
    | (go_at_call 12; refine (join_14 _).mono ?_; rintro e w' ⟨rfl, hw'⟩; subst w')
    | (go_at_call 14; refine (meet_54 _).mono ?_; rintro e w' ⟨rfl, hw'⟩; subst w')
    | (go_at_call 15; refine (count_7 _).mono ?_; rintro e w' ⟨rfl, hw'⟩; subst w')
    | (go_at_call 8; refine (right_any _ _).mono ?_; rintro e w' ⟨rfl, hw'⟩; subst w'))
  go_ret
  exact ⟨rfl, hb1⟩
end Go.Proofs.Ytgfmoefbofenhaa

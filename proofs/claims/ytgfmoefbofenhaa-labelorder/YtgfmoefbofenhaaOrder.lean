/- LabelOrder answers true, whatever it is given. -/
import Derived.Test.YtgfmoefbofenhaaAlive
namespace Go.Proofs.Ytgfmoefbofenhaa
open Go.RowKit
set_option maxHeartbeats 4000000 in
theorem order_walk (A B C : Nat) (w : World) (ha : A < 256) (hb : B < 256) (hc : C < 256) (x1 x2 x3 x4 x5 x6 x7 x8 : Bool)
    (h1 : fl A B = x1) (h2 : fl B A = x2) (h3 : fl B C = x3) (h4 : fl A C = x4) (h5 : fl C A = x5) (h6 : fl C B = x6) (h7 : fl (A ||| B) C = x7) (h8 : fl C (A &&& B) = x8)
    (hne : ((A : Int) != (B : Int)) = true) (k1 : (x1 && x2) = false) (k2 : (x1 && x3 && !x4) = false) (k3 : (x4 && (x3 != x7)) = false) (k4 : (!x5 || (x6 == x8)) = true) :
    Calls Try.prog 4 #[.int .i64 (A : Int), .int .i64 (B : Int), .int .i64 (C : Int)] w fun e w' => e = .returned (.bool true) ∧ Below w.heap.size w w' := by
  have ra : rt (A : Int) = true := by simp [rt]; omega
  have rb : rt (B : Int) = true := by simp [rt]; omega
  have rc : rt (C : Int) = true := by simp [rt]; omega
  have hj : A ||| B < 256 := or_lt A B ha hb
  have hm : A &&& B < 256 := and_lt A B ha
  have faa := fl_refl A
  have faj := fl_join_l A B
  have fbj := fl_join_r A B
  have fma := fl_meet_l A B
  have fmb := fl_meet_r A B
  have hab0 := absorb A B
  have K1 : Hid ((x1 && x2) = false) := k1
  have K2 : Hid ((x1 && x3 && !x4) = false) := k2
  have K3 : Hid ((x4 && (x3 != x7)) = false) := k3
  have K4 : Hid ((!x5 || (x6 == x8)) = true) := k4
  clear k1 k2 k3 k4
  go_enter Try.func4, Try.ntmps4
  go_wp2_with (first
    | (go_at_call 18; refine (alive_any _).mono ?_; rintro e w1 ⟨rfl, hb1⟩)
    | (go_at_call 10; refine (flows_any _ _ _ (by assumption) (by assumption)).mono ?_; rintro e w' ⟨rfl, hw'⟩; subst w')
    | (go_at_call 12; refine (join_any _ _ _ (by assumption) (by assumption)).mono ?_; rintro e w' ⟨rfl, hw'⟩; subst w')
    | (go_at_call 14; refine (meet_any _ _ _ (by assumption) (by assumption)).mono ?_; rintro e w' ⟨rfl, hw'⟩; subst w')
    | (go_at_call 8; refine (right_any _ _).mono ?_; rintro e w' ⟨rfl, hw'⟩; subst w'))
  all_goals first
    | (go_ret; exact ⟨rfl, hb1⟩)
    | (exfalso; clear hb1 h1 h2 h3 h4 h5 h6 h7 h8; have k1 := K1.out; have k2 := K2.out; have k3 := K3.out; have k4 := K4.out; clear K1 K2 K3 K4; simp_all)
set_option maxHeartbeats 4000000 in
theorem order_same (A C : Nat) (w : World) (ha : A < 256) (hc : C < 256) (x4 x5 : Bool) (h4 : fl A C = x4) (h5 : fl C A = x5) :
    Calls Try.prog 4 #[.int .i64 (A : Int), .int .i64 (A : Int), .int .i64 (C : Int)] w fun e w' => e = .returned (.bool true) ∧ Below w.heap.size w w' := by
  have ra : rt (A : Int) = true := by simp [rt]; omega
  have rc : rt (C : Int) = true := by simp [rt]; omega
  have faa := fl_refl A
  go_enter Try.func4, Try.ntmps4
  go_wp2_with (first
    | (go_at_call 18; refine (alive_any _).mono ?_; rintro e w1 ⟨rfl, hb1⟩)
    | (go_at_call 10; refine (flows_any _ _ _ (by assumption) (by assumption)).mono ?_; rintro e w' ⟨rfl, hw'⟩; subst w')
    | (go_at_call 12; refine (join_any _ _ _ (by assumption) (by assumption)).mono ?_; rintro e w' ⟨rfl, hw'⟩; subst w')
    | (go_at_call 14; refine (meet_any _ _ _ (by assumption) (by assumption)).mono ?_; rintro e w' ⟨rfl, hw'⟩; subst w')
    | (go_at_call 8; refine (right_any _ _).mono ?_; rintro e w' ⟨rfl, hw'⟩; subst w'))
  all_goals (go_ret; exact ⟨rfl, hb1⟩)
theorem order_right (A B C : Nat) (w : World) (ha : A < 256) (hb : B < 256) (hc : C < 256) :
    Calls Try.prog 4 #[.int .i64 (A : Int), .int .i64 (B : Int), .int .i64 (C : Int)] w fun e w' => e = .returned (.bool true) ∧ Below w.heap.size w w' := by
  by_cases hAB : A = B
  · subst hAB
    exact order_same A C w ha hc _ _ rfl rfl
  · refine order_walk A B C w ha hb hc _ _ _ _ _ _ _ _ rfl rfl rfl rfl rfl rfl rfl rfl (by simp; omega) ?_ ?_ ?_ ?_
    · cases h : fl A B <;> cases h' : fl B A <;> simp
      exact hAB (fl_anti A B h h')
    · cases h : fl A B <;> cases h' : fl B C <;> simp
      exact fl_trans A B C h h'
    · cases h : fl A C
      · rfl
      · simp [fl_join A B C h]
    · cases h : fl C A
      · rfl
      · simp [fl_meet A B C h]
set_option maxHeartbeats 800000 in
theorem order_wrong (a b c : Int) (w : World) (h : (rt a && rt b && rt c) = false) :
    Calls Try.prog 4 #[.int .i64 a, .int .i64 b, .int .i64 c] w fun e w' => e = .returned (.bool true) ∧ Below w.heap.size w w' := by
  cases ra : rt a
  · go_enter Try.func4, Try.ntmps4
    go_wp2_with (first
      | (go_at_call 18; refine (alive_any _).mono ?_; rintro e w1 ⟨rfl, hb1⟩)
      | (go_at_call 8; refine (right_any _ _).mono ?_; rintro e w' ⟨rfl, hw'⟩; subst w'))
    go_ret; exact ⟨rfl, hb1⟩
  · cases rb : rt b
    · go_enter Try.func4, Try.ntmps4
      go_wp2_with (first
        | (go_at_call 18; refine (alive_any _).mono ?_; rintro e w1 ⟨rfl, hb1⟩)
        | (go_at_call 8; refine (right_any _ _).mono ?_; rintro e w' ⟨rfl, hw'⟩; subst w'))
      go_ret; exact ⟨rfl, hb1⟩
    · have rc : rt c = false := by rw [ra, rb] at h; simpa using h
      clear h
      go_enter Try.func4, Try.ntmps4
      go_wp2_with (first
        | (go_at_call 18; refine (alive_any _).mono ?_; rintro e w1 ⟨rfl, hb1⟩)
        | (go_at_call 8; refine (right_any _ _).mono ?_; rintro e w' ⟨rfl, hw'⟩; subst w'))
      go_ret; exact ⟨rfl, hb1⟩
theorem order_any (a b c : Int) (w : World) :
    Calls Try.prog 4 #[.int .i64 a, .int .i64 b, .int .i64 c] w fun e w' => e = .returned (.bool true) ∧ Below w.heap.size w w' := by
  cases h : (rt a && rt b && rt c)
  · exact order_wrong a b c w h
  · simp [rt] at h
    obtain ⟨⟨⟨a0, a1⟩, b0, b1⟩, c0, c1⟩ := h
    have := order_right a.toNat b.toNat c.toNat w (by omega) (by omega) (by omega)
    rwa [Int.toNat_of_nonneg a0, Int.toNat_of_nonneg b0, Int.toNat_of_nonneg c0] at this
end Go.Proofs.Ytgfmoefbofenhaa

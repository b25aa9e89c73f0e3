/- LabelTells answers true, whatever it is given. -/
import Derived.Test.YtgfmoefbofenhaaRefLabel
import Derived.Test.YtgfmoefbofenhaaRefBoth
import Derived.Test.YtgfmoefbofenhaaRefPrint
import Derived.Test.YtgfmoefbofenhaaCount
namespace Go.Proofs.Ytgfmoefbofenhaa
open Go.RowKit
def bothN (a b : Nat) (c : Bool) : Nat := if c then a &&& b else a ||| b
theorem both_any (a b : Nat) (c : Bool) (w : World) (ha : a < 256) (hb : b < 256) :
    Calls Try.prog 13 #[.int .i64 (a : Int), .int .i64 (b : Int), .bool c] w fun e w' => e = .returned (.int .i64 (bothN a b c : Int)) ∧ Below w.heap.size w w' := by
  cases c
  · exact both_or a b w ha hb
  · exact both_and a b w ha hb
/-- How many of the first k bits are 1. -/
def pcK (a : Nat) : Nat → Nat
  | 0 => 0
  | k + 1 => pcK a k + (bt a k).toNat
theorem pcK_le (a k : Nat) : pcK a k ≤ k := by
  induction k with
  | zero => exact Nat.le_refl _
  | succ k ih => unfold pcK; have : (bt a k).toNat ≤ 1 := Bool.toNat_le _; omega
theorem pcK_pc : ∀ a, a < 256 → pcK a 8 = pc a := by decide +kernel
def RelC (a : Nat) (c i : Value) : Prop := ∃ k : Nat, k ≤ 8 ∧ i = .int .i64 (k : Int) ∧ c = .int .i64 (pcK a k : Int)
theorem relC_no {a k v : Nat} (hv : pcK a k = v) (h : bt a k = false) (hk : k < 8) : RelC a (.int .i64 (v : Int)) (.int .i64 ((k + 1 : Nat) : Int)) :=
  ⟨k + 1, by omega, rfl, by unfold pcK; rw [hv, h]; rfl⟩
theorem relC_yes {a k v : Nat} (hv : pcK a k = v) (h : bt a k = true) (hk : k < 8) : RelC a (.int .i64 ((v : Int) + 1)) (.int .i64 ((k + 1 : Nat) : Int)) :=
  ⟨k + 1, by omega, rfl, by unfold pcK; rw [hv, h]; rfl⟩
set_option maxHeartbeats 8000000 in
theorem tells_right (A B : Nat) (s : ByteArray) (w : World) (ha : A < 256) (hb : B < 256) (hs : s.size ≤ maxLen) :
    Calls Try.prog 3 #[.int .i64 (A : Int), .int .i64 (B : Int), .string s] w fun e w' => e = .returned (.bool true) ∧ Below w.heap.size w w' := by
  have ra : rt (A : Int) = true := by simp [rt]; omega
  have hA5 : decide ((A : Int) ≤ 255) = true := by simp; omega
  have hB0 : bothN A B false = A ||| B := rfl
  have hB1 : bothN A B true = A &&& B := rfl
  have HPC : Hid (pcK A 8 = pc A) := pcK_pc A ha
  go_enter Try.func3, Try.ntmps3
  go_wp2_with (first
    | (go_at_call 6; refine (parse_any _ _ (by assumption)).mono ?_; rintro e w' ⟨rfl, hw'⟩; subst w')
    | (go_at_call 7; refine (rlabel_any _ _ (by assumption)).mono ?_; rintro e w1 ⟨rfl, hb1⟩)
    | (go_at_call 8; refine (right_any _ _).mono ?_; rintro e w' ⟨rfl, hw'⟩; subst w')
    | (go_at_call 9; refine (bits_any _ _ (by assumption)).mono ?_; rintro e w2 ⟨rfl, hb2⟩))
  go_loop [11, 59] (fun c i => RelC A c i) (fun _ i => up8 i)
  case atStart => exact ⟨0, by omega, rfl, rfl⟩
  case round =>
    obtain ⟨k, hk, rfl, rfl⟩ := hrel
    have hle := pcK_le A k
    obtain ⟨v, hv⟩ : ∃ v, pcK A k = v := ⟨_, rfl⟩
    rw [hv] at hle ⊢
    by_cases hlt : k < 8
    · cases hx : bt A k
      · have HR : Hid (RelC A (.int .i64 (v : Int)) (.int .i64 ((k + 1 : Nat) : Int))) := relC_no hv hx hlt
        clear hv
        rcases to_eight hlt with rfl | rfl | rfl | rfl | rfl | rfl | rfl | rfl
        all_goals
          have ax0 := arr0
          have ax1 := arr1
          have ax2 := arr2
          have ax3 := arr3
          have ax4 := arr4
          have ax5 := arr5
          have ax6 := arr6
          have ax7 := arr7
          go_wp2
          exact ⟨HR.out, by simp [up8, intOf]⟩
      · have HR : Hid (RelC A (.int .i64 ((v : Int) + 1)) (.int .i64 ((k + 1 : Nat) : Int))) := relC_yes hv hx hlt
        clear hv
        rcases to_eight hlt with rfl | rfl | rfl | rfl | rfl | rfl | rfl | rfl
        all_goals
          have ax0 := arr0
          have ax1 := arr1
          have ax2 := arr2
          have ax3 := arr3
          have ax4 := arr4
          have ax5 := arr5
          have ax6 := arr6
          have ax7 := arr7
          go_wp2
          exact ⟨HR.out, by simp [up8, intOf]⟩
    · have h8 : k = 8 := by omega
      subst h8
      have hvp : v = pc A := by rw [← hv, HPC.out]
      clear hv hle
      subst hvp
      go_wp2_with (first
        | (go_at_call 10; refine (flows_any _ _ _ (by assumption) (by assumption)).mono ?_; rintro e w' ⟨rfl, hw'⟩; subst w')
        | (go_at_call 11; refine (rflows_any _ _ _ (by assumption) (by assumption)).mono ?_; rintro e w3 ⟨rfl, hb3⟩)
        | (go_at_call 12; refine (join_any _ _ _ (by assumption) (by assumption)).mono ?_; rintro e w' ⟨rfl, hw'⟩; subst w')
        | (go_at_call 13; refine (both_any _ _ _ _ (by assumption) (by assumption)).mono ?_; rintro e w4 ⟨rfl, hb4⟩)
        | (go_at_call 14; refine (meet_any _ _ _ (by assumption) (by assumption)).mono ?_; rintro e w' ⟨rfl, hw'⟩; subst w')
        | (go_at_call 15; refine (count_any _ _ (by assumption)).mono ?_; rintro e w' ⟨rfl, hw'⟩; subst w')
        | (go_at_call 16; refine (print_any _ _ (by assumption)).mono ?_; rintro e w6 ⟨rfl, hb6⟩)
        | (go_at_call 17; refine (rprint_any _ _ (by assumption)).mono ?_; rintro e w7 ⟨rfl, hb7⟩))
      go_ret
      exact ⟨rfl, below_step (below_step (below_step (below_step (below_step (below_step hb1 hb2) hb3) (by assumption)) hb4) hb6) hb7⟩
set_option maxHeartbeats 2000000 in
theorem tells_wrong (a b : Int) (s : ByteArray) (w : World) (hs : s.size ≤ maxLen) (h : (rt a && rt b) = false) :
    Calls Try.prog 3 #[.int .i64 a, .int .i64 b, .string s] w fun e w' => e = .returned (.bool true) ∧ Below w.heap.size w w' := by
  by_cases a0 : a < 0
  · have ra : rt a = false := by simp [rt]; omega
    have d0 : decide (0 ≤ a) = false := by simp; omega
    clear h
    go_enter Try.func3, Try.ntmps3
    go_wp2_with (first
      | (go_at_call 6; refine (parse_any _ _ (by assumption)).mono ?_; rintro e w' ⟨rfl, hw'⟩; subst w')
      | (go_at_call 7; refine (rlabel_any _ _ (by assumption)).mono ?_; rintro e w1 ⟨rfl, hb1⟩)
      | (go_at_call 8; refine (right_any _ _).mono ?_; rintro e w' ⟨rfl, hw'⟩; subst w'))
    go_ret; exact ⟨rfl, hb1⟩
  · have d0 : decide (0 ≤ a) = true := by simp; omega
    by_cases a1 : 255 < a
    · have ra : rt a = false := by simp [rt]; omega
      have d1 : decide (a ≤ 255) = false := by simp; omega
      clear h
      go_enter Try.func3, Try.ntmps3
      go_wp2_with (first
        | (go_at_call 6; refine (parse_any _ _ (by assumption)).mono ?_; rintro e w' ⟨rfl, hw'⟩; subst w')
        | (go_at_call 7; refine (rlabel_any _ _ (by assumption)).mono ?_; rintro e w1 ⟨rfl, hb1⟩)
        | (go_at_call 8; refine (right_any _ _).mono ?_; rintro e w' ⟨rfl, hw'⟩; subst w'))
      go_ret; exact ⟨rfl, hb1⟩
    · have ra : rt a = true := by simp [rt]; omega
      have d1 : decide (a ≤ 255) = true := by simp; omega
      have rb : rt b = false := by rw [ra] at h; simpa using h
      have hb' : b < 0 ∨ 255 < b := by simp [rt] at rb; omega
      clear h rb
      rcases hb' with b0 | b1
      · go_enter Try.func3, Try.ntmps3
        go_wp2_with (first
          | (go_at_call 6; refine (parse_any _ _ (by assumption)).mono ?_; rintro e w' ⟨rfl, hw'⟩; subst w')
          | (go_at_call 7; refine (rlabel_any _ _ (by assumption)).mono ?_; rintro e w1 ⟨rfl, hb1⟩)
          | (go_at_call 8; refine (right_any _ _).mono ?_; rintro e w' ⟨rfl, hw'⟩; subst w'))
        go_ret; exact ⟨rfl, hb1⟩
      · have nb0 : ¬ b < 0 := by omega
        go_enter Try.func3, Try.ntmps3
        go_wp2_with (first
          | (go_at_call 6; refine (parse_any _ _ (by assumption)).mono ?_; rintro e w' ⟨rfl, hw'⟩; subst w')
          | (go_at_call 7; refine (rlabel_any _ _ (by assumption)).mono ?_; rintro e w1 ⟨rfl, hb1⟩)
          | (go_at_call 8; refine (right_any _ _).mono ?_; rintro e w' ⟨rfl, hw'⟩; subst w'))
        go_ret; exact ⟨rfl, hb1⟩
theorem tells_any (a b : Int) (s : ByteArray) (w : World) (hs : s.size ≤ maxLen) :
    Calls Try.prog 3 #[.int .i64 a, .int .i64 b, .string s] w fun e w' => e = .returned (.bool true) ∧ Below w.heap.size w w' := by
  cases h : (rt a && rt b)
  · exact tells_wrong a b s w hs h
  · simp [rt] at h
    obtain ⟨⟨a0, a1⟩, b0, b1⟩ := h
    have := tells_right a.toNat b.toNat s w (by omega) (by omega) hs
    rwa [Int.toNat_of_nonneg a0, Int.toNat_of_nonneg b0] at this
end Go.Proofs.Ytgfmoefbofenhaa

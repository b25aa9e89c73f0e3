/- Texts of this seat, one behind the other: RefBits. -/
import Derived.Test.YtjpmnholpeidmaaZb04
import Derived.Handy
namespace Go.Proofs.Ytjpmnholpeidmaa
open Go.RowKit
set_option linter.unusedVariables false
/-- Bit k of n. -/
def bt (n k : Nat) : Bool := n / 2 ^ k % 2 == 1
theorem bt_test (n k : Nat) : bt n k = n.testBit k := by
  unfold bt
  rw [Nat.testBit_eq_decide_div_mod_eq]
  rw [Bool.eq_iff_iff]; simp
theorem bit0 (n : Nat) : ((n : Int) % 2 == 1) = bt n 0 := by unfold bt; rw [Bool.eq_iff_iff]; simp; omega
theorem bit1 (n : Nat) : ((n : Int) / 2 % 2 == 1) = bt n 1 := by unfold bt; rw [Bool.eq_iff_iff]; simp; omega
theorem bit2 (n : Nat) : ((n : Int) / 2 / 2 % 2 == 1) = bt n 2 := by unfold bt; rw [Bool.eq_iff_iff]; simp; omega
theorem bit3 (n : Nat) : ((n : Int) / 2 / 2 / 2 % 2 == 1) = bt n 3 := by unfold bt; rw [Bool.eq_iff_iff]; simp; omega
theorem bit4 (n : Nat) : ((n : Int) / 2 / 2 / 2 / 2 % 2 == 1) = bt n 4 := by unfold bt; rw [Bool.eq_iff_iff]; simp; omega
theorem bit5 (n : Nat) : ((n : Int) / 2 / 2 / 2 / 2 / 2 % 2 == 1) = bt n 5 := by unfold bt; rw [Bool.eq_iff_iff]; simp; omega
theorem bit6 (n : Nat) : ((n : Int) / 2 / 2 / 2 / 2 / 2 / 2 % 2 == 1) = bt n 6 := by unfold bt; rw [Bool.eq_iff_iff]; simp; omega
theorem bit7 (n : Nat) : ((n : Int) / 2 / 2 / 2 / 2 / 2 / 2 / 2 % 2 == 1) = bt n 7 := by unfold bt; rw [Bool.eq_iff_iff]; simp; omega
set_option maxHeartbeats 1000000 in
theorem bits_any (n : Nat) (w : World) (hn : n < 256) :
    Calls Try.prog 78 #[.int .i64 (n : Int)] w fun e w' =>
      e = .returned (.agg #[.bool (bt n 0), .bool (bt n 1), .bool (bt n 2), .bool (bt n 3), .bool (bt n 4), .bool (bt n 5), .bool (bt n 6), .bool (bt n 7)]) ∧ Below w.heap.size w w' := by
  go_enter Try.func78, Try.ntmps78
  go_wp2
  go_rounds 9
  refine bodyPost_ret (v := .agg #[.bool (bt n 0), .bool (bt n 1), .bool (bt n 2), .bool (bt n 3), .bool (bt n 4), .bool (bt n 5), .bool (bt n 6), .bool (bt n 7)]) (by simp [results, Try.results78, go_sem, ← bit0, ← bit1, ← bit2, ← bit3, ← bit4, ← bit5, ← bit6, ← bit7]) rfl ⟨rfl, ?_⟩
  exact ((Below.refl _ _).alloc (Nat.le_refl _) _).alloc (by simp) _
theorem fl_bits (a b : Nat) (ha : a < 256) : fl a b = true ↔ ∀ j, j < 8 → bt a j = true → bt b j = true := by
  rw [fl_iff]
  constructor
  · intro h j _ x; rw [bt_test] at x ⊢; exact h j x
  · intro h j x
    by_cases hj : j < 8
    · have := h j hj; rw [bt_test, bt_test] at this; exact this x
    · have : a.testBit j = false := Nat.testBit_lt_two_pow (Nat.lt_of_lt_of_le ha (Nat.le_trans (by decide : 256 ≤ 2 ^ 8) (Nat.pow_le_pow_right (by omega) (by omega))))
      rw [this] at x; cases x
theorem below_step {a b c : World} (h : Below a.heap.size a b) (k : Below b.heap.size b c) : Below a.heap.size a c := h.trans (k.mono h.size)
theorem rel_next {P : Nat → Prop} {k : Nat} (H : ∀ j, j < k + 1 → P j) (h : k + 1 ≤ 8) : ∃ q : Nat, q ≤ 8 ∧ Value.int .i64 ((k + 1 : Nat) : Int) = .int .i64 (q : Int) ∧ ∀ j, j < q → P j :=
  ⟨k + 1, h, rfl, H⟩
theorem to_eight {k : Nat} (h : k < 8) : k = 0 ∨ k = 1 ∨ k = 2 ∨ k = 3 ∨ k = 4 ∨ k = 5 ∨ k = 6 ∨ k = 7 := by omega
theorem all_next {P : Nat → Prop} {k : Nat} (H : ∀ j, j < k → P j) (h : P k) : ∀ j, j < k + 1 → P j := by
  intro j hj
  by_cases e : j = k
  · subst e; exact h
  · exact H j (by omega)
set_option maxHeartbeats 4000000 in
theorem rflows_any (a b : Nat) (w : World) (ha : a < 256) (hb : b < 256) :
    Calls Try.prog 66 #[.int .i64 (a : Int), .int .i64 (b : Int)] w fun e w' => e = .returned (.bool (fl a b)) ∧ Below w.heap.size w w' := by
  go_enter Try.func66, Try.ntmps66
  go_wp2_with (go_at_call 78; refine (bits_any _ _ (by assumption)).mono ?_; rintro e w1 ⟨rfl, hb1⟩)
  have BEL := below_step (by assumption) hb1
  clear hb1
  go_loop [12] (fun i => ∃ k : Nat, k ≤ 8 ∧ i = .int .i64 k ∧ ∀ j, j < k → bt a j = true → bt b j = true) (fun i => 8 - (intOf i).toNat)
  case atStart => exact ⟨0, by omega, rfl, fun j h => by omega⟩
  case round =>
    obtain ⟨k, hk, rfl, hall⟩ := hrel
    by_cases hlt : k < 8
    · cases hx : bt a k
      · have HN : Hid (∀ j, j < k + 1 → bt a j = true → bt b j = true) := all_next hall (fun h => by rw [hx] at h; cases h)
        clear hall
        rcases to_eight hlt with rfl | rfl | rfl | rfl | rfl | rfl | rfl | rfl
        all_goals
          go_wp2
          go_round
          case rel => exact ⟨_, _, _, rel_next (P := fun j => bt a j = true → bt b j = true) HN.out (by decide), rfl, rfl, rfl⟩
          case measure => simp [intOf]
      · cases hy : bt b k
        · have HF : fl a b = false := by
            cases h : fl a b
            · rfl
            · have := (fl_bits a b ha).1 h k hlt hx; rw [hy] at this; cases this
          clear hall
          rcases to_eight hlt with rfl | rfl | rfl | rfl | rfl | rfl | rfl | rfl
          all_goals
            go_wp2
            go_ret
            exact ⟨rfl, (BEL.alloc (by have := BEL.size; omega) _).alloc (by have := BEL.size; simp; omega) _⟩
        · have HN : Hid (∀ j, j < k + 1 → bt a j = true → bt b j = true) := all_next hall (fun _ => hy)
          clear hall
          rcases to_eight hlt with rfl | rfl | rfl | rfl | rfl | rfl | rfl | rfl
          all_goals
            go_wp2
            go_round
            case rel => exact ⟨_, _, _, rel_next (P := fun j => bt a j = true → bt b j = true) HN.out (by decide), rfl, rfl, rfl⟩
            case measure => simp [intOf]
    · have h8 : k = 8 := by omega
      subst h8
      have HF : fl a b = true := (fl_bits a b ha).2 hall
      clear hall
      go_wp2
      go_ret
      exact ⟨rfl, (BEL.alloc (by have := BEL.size; omega) _).alloc (by have := BEL.size; simp; omega) _⟩
end Go.Proofs.Ytjpmnholpeidmaa


/- The document's Both. -/
import Derived.Test.YtgfmoefbofenhaaRefBits
namespace Go.Proofs.Ytgfmoefbofenhaa
open Go.RowKit
theorem bt_or (a b j : Nat) : bt (a ||| b) j = (bt a j || bt b j) := by rw [bt_test, bt_test, bt_test, Nat.testBit_or]
theorem bt_and (a b j : Nat) : bt (a &&& b) j = (bt a j && bt b j) := by rw [bt_test, bt_test, bt_test, Nat.testBit_and]
theorem div_yes (m j v : Nat) (hv : m / 2 ^ (j + 1) = v) (h : bt m j = true) : m / 2 ^ j = 2 * v + 1 := by
  unfold bt at h
  rw [Nat.pow_succ, ← Nat.div_div_eq_div_mul] at hv
  have h' : m / 2 ^ j % 2 = 1 := by simpa using h
  omega
theorem div_no (m j v : Nat) (hv : m / 2 ^ (j + 1) = v) (h : bt m j = false) : m / 2 ^ j = 2 * v := by
  unfold bt at h
  rw [Nat.pow_succ, ← Nat.div_div_eq_div_mul] at hv
  have h' : ¬ m / 2 ^ j % 2 = 1 := by simpa using h
  omega
def RelB (m : Nat) (n i : Value) : Prop := ∃ k : Nat, k ≤ 8 ∧ i = .int .i64 ((k : Int) - 1) ∧ n = .int .i64 ((m / 2 ^ k : Nat) : Int)
def down (i : Value) : Nat := (intOf i + 1).toNat
theorem relB_mk {m j q : Nat} {x y : Int} (h : m / 2 ^ j = q) (hx : x = (q : Int)) (hy : y = (j : Int) - 1) (hj : j ≤ 8) : RelB m (.int .i64 x) (.int .i64 y) :=
  ⟨j, hj, by rw [hy], by rw [hx, h]⟩
set_option maxHeartbeats 8000000 in
theorem both_or (a b : Nat) (w : World) (ha : a < 256) (hb : b < 256) :
    Calls Try.prog 13 #[.int .i64 (a : Int), .int .i64 (b : Int), .bool false] w fun e w' => e = .returned (.int .i64 ((a ||| b : Nat) : Int)) ∧ Below w.heap.size w w' := by
  obtain ⟨m, hm⟩ : ∃ m, a ||| b = m := ⟨_, rfl⟩
  have hml : m < 256 := by rw [← hm]; exact or_lt a b ha hb
  have HB : Hid (∀ j, bt m j = (bt a j || bt b j)) := by intro j; rw [← hm]; exact bt_or a b j
  rw [hm]
  have HM : Hid (a ||| b = m) := hm
  clear hm
  go_enter Try.func13, Try.ntmps13
  go_wp2_with (go_at_call 9; refine (bits_any _ _ (by assumption)).mono ?_; rintro e w1 ⟨rfl, hb1⟩)
  have BEL := below_step (by assumption) hb1
  clear hb1
  go_loop [9, 10] (fun n i => RelB m n i) (fun _ i => down i)
  case atStart => exact ⟨8, by omega, rfl, by rw [Nat.div_eq_of_lt (by omega)]; rfl⟩
  case round =>
    obtain ⟨k, hk, rfl, rfl⟩ := hrel
    obtain ⟨v, hv⟩ : ∃ v, m / 2 ^ k = v := ⟨_, rfl⟩
    have hvl : v < 256 := by rw [← hv]; exact Nat.lt_of_le_of_lt (Nat.div_le_self _ _) hml
    rw [hv]
    cases k with
    | zero =>
      have hv0 : v = m := by simpa using hv.symm
      clear hv
      subst hv0
      go_wp2
      go_ret
      exact ⟨rfl, (BEL.alloc (by have := BEL.size; omega) _).alloc (by have := BEL.size; simp; omega) _⟩
    | succ j =>
      have hlt : j < 8 := by omega
      cases hx : bt a j
      · cases hy : bt b j
        · have HE : Hid (m / 2 ^ j = 2 * v) := div_no m j v hv (by rw [HB.out, hx, hy]; rfl)
          clear hv
          rcases to_eight hlt with rfl | rfl | rfl | rfl | rfl | rfl | rfl | rfl
          all_goals
            go_wp2
            exact ⟨relB_mk HE.out (by omega) (by omega) (by decide), by simp [down, intOf]⟩
        · have HE : Hid (m / 2 ^ j = 2 * v + 1) := div_yes m j v hv (by rw [HB.out, hx, hy]; rfl)
          clear hv
          rcases to_eight hlt with rfl | rfl | rfl | rfl | rfl | rfl | rfl | rfl
          all_goals
            go_wp2
            exact ⟨relB_mk HE.out (by omega) (by omega) (by decide), by simp [down, intOf]⟩
      · cases hy : bt b j
        · have HE : Hid (m / 2 ^ j = 2 * v + 1) := div_yes m j v hv (by rw [HB.out, hx, hy]; rfl)
          clear hv
          rcases to_eight hlt with rfl | rfl | rfl | rfl | rfl | rfl | rfl | rfl
          all_goals
            go_wp2
            exact ⟨relB_mk HE.out (by omega) (by omega) (by decide), by simp [down, intOf]⟩
        · have HE : Hid (m / 2 ^ j = 2 * v + 1) := div_yes m j v hv (by rw [HB.out, hx, hy]; rfl)
          clear hv
          rcases to_eight hlt with rfl | rfl | rfl | rfl | rfl | rfl | rfl | rfl
          all_goals
            go_wp2
            exact ⟨relB_mk HE.out (by omega) (by omega) (by decide), by simp [down, intOf]⟩
set_option maxHeartbeats 8000000 in
theorem both_and (a b : Nat) (w : World) (ha : a < 256) (hb : b < 256) :
    Calls Try.prog 13 #[.int .i64 (a : Int), .int .i64 (b : Int), .bool true] w fun e w' => e = .returned (.int .i64 ((a &&& b : Nat) : Int)) ∧ Below w.heap.size w w' := by
  obtain ⟨m, hm⟩ : ∃ m, a &&& b = m := ⟨_, rfl⟩
  have hml : m < 256 := by rw [← hm]; exact and_lt a b ha
  have HB : Hid (∀ j, bt m j = (bt a j && bt b j)) := by intro j; rw [← hm]; exact bt_and a b j
  rw [hm]
  have HM : Hid (a &&& b = m) := hm
  clear hm
  go_enter Try.func13, Try.ntmps13
  go_wp2_with (go_at_call 9; refine (bits_any _ _ (by assumption)).mono ?_; rintro e w1 ⟨rfl, hb1⟩)
  have BEL := below_step (by assumption) hb1
  clear hb1
  go_loop [9, 10] (fun n i => RelB m n i) (fun _ i => down i)
  case atStart => exact ⟨8, by omega, rfl, by rw [Nat.div_eq_of_lt (by omega)]; rfl⟩
  case round =>
    obtain ⟨k, hk, rfl, rfl⟩ := hrel
    obtain ⟨v, hv⟩ : ∃ v, m / 2 ^ k = v := ⟨_, rfl⟩
    have hvl : v < 256 := by rw [← hv]; exact Nat.lt_of_le_of_lt (Nat.div_le_self _ _) hml
    rw [hv]
    cases k with
    | zero =>
      have hv0 : v = m := by simpa using hv.symm
      clear hv
      subst hv0
      go_wp2
      go_ret
      exact ⟨rfl, (BEL.alloc (by have := BEL.size; omega) _).alloc (by have := BEL.size; simp; omega) _⟩
    | succ j =>
      have hlt : j < 8 := by omega
      cases hx : bt a j
      · cases hy : bt b j
        · have HE : Hid (m / 2 ^ j = 2 * v) := div_no m j v hv (by rw [HB.out, hx, hy]; rfl)
          clear hv
          rcases to_eight hlt with rfl | rfl | rfl | rfl | rfl | rfl | rfl | rfl
          all_goals
            go_wp2
            exact ⟨relB_mk HE.out (by omega) (by omega) (by decide), by simp [down, intOf]⟩
        · have HE : Hid (m / 2 ^ j = 2 * v) := div_no m j v hv (by rw [HB.out, hx, hy]; rfl)
          clear hv
          rcases to_eight hlt with rfl | rfl | rfl | rfl | rfl | rfl | rfl | rfl
          all_goals
            go_wp2
            exact ⟨relB_mk HE.out (by omega) (by omega) (by decide), by simp [down, intOf]⟩
      · cases hy : bt b j
        · have HE : Hid (m / 2 ^ j = 2 * v) := div_no m j v hv (by rw [HB.out, hx, hy]; rfl)
          clear hv
          rcases to_eight hlt with rfl | rfl | rfl | rfl | rfl | rfl | rfl | rfl
          all_goals
            go_wp2
            exact ⟨relB_mk HE.out (by omega) (by omega) (by decide), by simp [down, intOf]⟩
        · have HE : Hid (m / 2 ^ j = 2 * v + 1) := div_yes m j v hv (by rw [HB.out, hx, hy]; rfl)
          clear hv
          rcases to_eight hlt with rfl | rfl | rfl | rfl | rfl | rfl | rfl | rfl
          all_goals
            go_wp2
            exact ⟨relB_mk HE.out (by omega) (by omega) (by decide), by simp [down, intOf]⟩
end Go.Proofs.Ytgfmoefbofenhaa

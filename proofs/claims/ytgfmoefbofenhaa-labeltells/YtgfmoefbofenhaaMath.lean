/- Plain facts on numbers below 256 and their bits. No Go in sight. -/
import Derived.WalkKit
import Derived.Laws.BitsAllLaws
namespace Go.Proofs.Ytgfmoefbofenhaa
open Go.RowKit

theorem wrap_i64_nat (n : Nat) (h : n < 9223372036854775808) : IntKind.i64.wrap (n : Int) = (n : Int) := by
  rw [IntKind.wrap_i64]
  omega
theorem ofInt_i64 (a : Nat) (ha : a < 18446744073709551616) : (BitVec.ofInt 64 (a : Int)).toNat = a := by
  rw [BitVec.ofInt_natCast, BitVec.toNat_ofNat]; exact Nat.mod_eq_of_lt (by omega)
theorem i64_and (a b : Nat) (ha : a < 4294967296) (hb : b < 4294967296) : bits .and .i64 (a : Int) (b : Int) = ((a &&& b : Nat) : Int) := by
  have hx : a &&& b < 2 ^ 32 := Nat.and_lt_two_pow _ (by omega)
  show IntKind.i64.wrap ((BitVec.ofInt 64 (a : Int) &&& BitVec.ofInt 64 (b : Int)).toNat : Int) = _
  rw [BitVec.toNat_and, ofInt_i64 a (by omega), ofInt_i64 b (by omega), wrap_i64_nat _ (by omega)]
theorem i64_or (a b : Nat) (ha : a < 4294967296) (hb : b < 4294967296) : bits .or .i64 (a : Int) (b : Int) = ((a ||| b : Nat) : Int) := by
  have hx : a ||| b < 2 ^ 32 := Nat.or_lt_two_pow (by omega) (by omega)
  show IntKind.i64.wrap ((BitVec.ofInt 64 (a : Int) ||| BitVec.ofInt 64 (b : Int)).toNat : Int) = _
  rw [BitVec.toNat_or, ofInt_i64 a (by omega), ofInt_i64 b (by omega), wrap_i64_nat _ (by omega)]
theorem and_not (a b : Nat) (ha : a < 256) (hb : b < 256) : a &&& (18446744073709551615 - b) = a ^^^ (a &&& b) := by
  apply Nat.eq_of_testBit_eq
  intro i
  rw [Nat.testBit_and, Nat.testBit_xor, Nat.testBit_and]
  have e : (18446744073709551615 - b) = 2 ^ 64 - (b + 1) := by omega
  rw [e, Nat.testBit_two_pow_sub_succ (by omega)]
  by_cases h : i < 64
  · simp [h]
    cases a.testBit i <;> cases b.testBit i <;> rfl
  · have : a.testBit i = false := Nat.testBit_lt_two_pow (Nat.lt_of_lt_of_le ha (Nat.le_trans (by decide : 256 ≤ 2 ^ 64) (Nat.pow_le_pow_right (by omega) (by omega))))
    simp [this]
theorem i64_andNot (a b : Nat) (ha : a < 256) (hb : b < 256) : bits .andNot .i64 (a : Int) (b : Int) = ((a ^^^ (a &&& b) : Nat) : Int) := by
  have hx : a &&& b < 2 ^ 8 := Nat.and_lt_two_pow _ (by omega)
  have hy : a ^^^ (a &&& b) < 2 ^ 8 := Nat.xor_lt_two_pow (by omega) hx
  show IntKind.i64.wrap ((BitVec.ofInt 64 (a : Int) &&& ~~~BitVec.ofInt 64 (b : Int)).toNat : Int) = _
  rw [BitVec.toNat_and, BitVec.toNat_not, ofInt_i64 a (by omega), ofInt_i64 b (by omega)]
  have e : 2 ^ 64 - 1 - b = 18446744073709551615 - b := by omega
  rw [e, and_not a b ha hb, wrap_i64_nat _ (by omega)]

/-- All tags of a are b's. -/
def fl (a b : Nat) : Bool := (a &&& b) == a
theorem fl_iff (a b : Nat) : fl a b = true ↔ ∀ i, a.testBit i = true → b.testBit i = true := by
  unfold fl
  rw [beq_iff_eq]
  constructor
  · intro h i hi
    have := congrArg (fun n => n.testBit i) h
    simp only [Nat.testBit_and, hi, Bool.true_and] at this
    exact this
  · intro h
    apply Nat.eq_of_testBit_eq
    intro i
    rw [Nat.testBit_and]
    cases e : a.testBit i
    · rfl
    · simp [h i e]
theorem xor_zero_iff (a b : Nat) : (a ^^^ b) = 0 ↔ a = b := by
  constructor
  · intro h
    apply Nat.eq_of_testBit_eq
    intro i
    have := congrArg (fun n => n.testBit i) h
    simp only [Nat.testBit_xor, Nat.zero_testBit] at this
    cases h1 : a.testBit i <;> cases h2 : b.testBit i <;> simp_all
  · intro h; rw [h]; exact Nat.xor_self _
theorem fl_not (a b : Nat) (ha : a < 256) (hb : b < 256) : (bits .andNot .i64 (a : Int) (b : Int) == 0) = fl a b := by
  rw [i64_andNot a b ha hb]
  unfold fl
  rw [Bool.eq_iff_iff]
  simp only [beq_iff_eq]
  rw [show ((a ^^^ (a &&& b) : Nat) : Int) = 0 ↔ (a ^^^ (a &&& b)) = 0 from by omega, xor_zero_iff]
  exact eq_comm
theorem fl_refl (a : Nat) : fl a a = true := by rw [fl_iff]; exact fun _ h => h
theorem fl_anti (a b : Nat) (h : fl a b = true) (k : fl b a = true) : a = b := by
  rw [fl_iff] at h k
  apply Nat.eq_of_testBit_eq
  intro i
  rw [Bool.eq_iff_iff]
  exact ⟨h i, k i⟩
theorem fl_trans (a b c : Nat) (h : fl a b = true) (k : fl b c = true) : fl a c = true := by
  rw [fl_iff] at h k ⊢
  exact fun i x => k i (h i x)
theorem fl_join_l (a b : Nat) : fl a (a ||| b) = true := by
  rw [fl_iff]; intro i h; rw [Nat.testBit_or, h]; rfl
theorem fl_join_r (a b : Nat) : fl b (a ||| b) = true := by
  rw [fl_iff]; intro i h; rw [Nat.testBit_or, h]; simp
theorem fl_join (a b c : Nat) (h : fl a c = true) : fl b c = fl (a ||| b) c := by
  rw [Bool.eq_iff_iff, fl_iff, fl_iff]
  rw [fl_iff] at h
  constructor
  · intro k i; rw [Nat.testBit_or, Bool.or_eq_true]; rintro (x | x)
    · exact h i x
    · exact k i x
  · intro k i x; apply k i; rw [Nat.testBit_or, x]; simp
theorem fl_meet_l (a b : Nat) : fl (a &&& b) a = true := by
  rw [fl_iff]; intro i; rw [Nat.testBit_and, Bool.and_eq_true]; exact fun h => h.1
theorem fl_meet_r (a b : Nat) : fl (a &&& b) b = true := by
  rw [fl_iff]; intro i; rw [Nat.testBit_and, Bool.and_eq_true]; exact fun h => h.2
theorem fl_meet (a b c : Nat) (h : fl c a = true) : fl c b = fl c (a &&& b) := by
  rw [Bool.eq_iff_iff, fl_iff, fl_iff]
  rw [fl_iff] at h
  constructor
  · intro k i x; rw [Nat.testBit_and, h i x, k i x]; rfl
  · intro k i x; have := k i x; rw [Nat.testBit_and, Bool.and_eq_true] at this; exact this.2
theorem absorb (a b : Nat) : a ||| (a &&& b) = a := by
  apply Nat.eq_of_testBit_eq
  intro i
  rw [Nat.testBit_or, Nat.testBit_and]
  cases a.testBit i <;> simp
theorem or_lt (a b : Nat) (ha : a < 256) (hb : b < 256) : a ||| b < 256 := Nat.or_lt_two_pow (n := 8) ha hb
theorem and_lt (a b : Nat) (ha : a < 256) : a &&& b < 256 := Nat.lt_of_le_of_lt Nat.and_le_left ha
theorem i64_mask (a : Nat) (ha : a < 256) : bits .and .i64 (a : Int) 255 = (a : Int) := by
  have h := i64_and a 255 (by omega) (by omega)
  have e : a &&& 255 = a := by
    have := Nat.and_two_pow_sub_one_eq_mod a 8
    simp at this; omega
  rw [e] at h
  exact h
end Go.Proofs.Ytgfmoefbofenhaa

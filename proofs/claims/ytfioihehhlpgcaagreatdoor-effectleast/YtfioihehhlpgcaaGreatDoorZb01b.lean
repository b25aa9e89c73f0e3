/- Texts of this seat, one behind the other: Base, FilKnown, AlvMath, LabMath, AtoiMath. -/
import Derived.Test.YtfioihehhlpgcaaGreatDoorRows
import Derived.WalkKit
import Derived.WalkSpells
import Derived.WalkLawsBesides
import Derived.Below
import Derived.Deep.Draws
import Derived.Test.YtfioihehhlpgcaaGreatDoorZb01
import Derived.Maps.OwnSet
import Derived.Laws.BitsAllLaws
import Derived.Lib.AtoiAllCases
namespace Go.Proofs.YtfioihehhlpgcaaGreatDoor
open Go.RowKit
theorem ret_int {k : IntKind} {a b : Int} (h : a = b) : Ending.returned (.int k a) = .returned (.int k b) := by rw [h]
theorem ret_bool {a b : Bool} (h : a = b) : Ending.returned (.bool a) = .returned (.bool b) := by rw [h]
def upN (n : Nat) (v : Value) : Nat := n - (intOf v).toNat
theorem below_drewN {B : Nat} {a w : World} (h : Below B a w) (n : Nat) : Below B a (w.drewN n) := ⟨h.os, h.tape, h.output, h.size, h.block⟩
theorem bcell {W w1 : World} (hb : Below W.heap.size W w1) : (∀ b o, b < W.heap.size → w1.cell? ⟨b, o, none⟩ = W.cell? ⟨b, o, none⟩) ∧ (∀ b o, b < W.heap.size → w1.frozen? ⟨b, o, none⟩ = W.frozen? ⟨b, o, none⟩) :=
  ⟨fun b o h => hb.cell (p := ⟨b, o, none⟩) h, fun b o h => hb.frozen (p := ⟨b, o, none⟩) h⟩
theorem bstay {wr w2 : World} (hb : Below wr.drew.heap.size wr.drew w2) : ∀ b o u, b < wr.heap.size → wr.cell? ⟨b, o, none⟩ = some u → w2.cell? ⟨b, o, none⟩ = some u :=
  fun b o _ h e => (hb.cell (p := ⟨b, o, none⟩) h).trans e
theorem bstayN {W1 w2 : World} {m : Nat} (hb : Below (W1.drewN m).heap.size (W1.drewN m) w2) : ∀ b o u, b < W1.heap.size → W1.cell? ⟨b, o, none⟩ = some u → w2.cell? ⟨b, o, none⟩ = some u :=
  fun b o _ h e => (hb.cell (p := ⟨b, o, none⟩) h).trans e
theorem cell_alloc {w : World} {a : Addr} {u : Value} (h : w.cell? a = some u) : ∀ o, (w.alloc o).cell? a = some u :=
  fun o => (((Below.refl _ w).alloc (Nat.le_refl _) o).cell (World.block_lt_of_cell? w a h)).trans h
theorem wrap_id (x : Int) (h1 : -9223372036854775808 ≤ x) (h2 : x ≤ 9223372036854775807) : IntKind.i64.wrap x = x := by
  simp [IntKind.wrap, IntKind.signed, IntKind.bits]; omega
end Go.Proofs.YtfioihehhlpgcaaGreatDoor
namespace Go.Proofs.YtfioihehhlpgcaaGreatDoor
open Go.RowKit
/-- The text of item i. -/
def txI (s : ByteArray) (i : Nat) : ByteArray := s.extract (cn s i) (cn s (i + 1))
theorem itI_tx (s : ByteArray) (i : Nat) : itI s i = itm (txI s i) := rfl
theorem itI_same {s t : ByteArray} {i k : Nat} (h : txI t k = txI s i) : itI s i = itI t k := by rw [itI_tx, itI_tx, h]
def kyB (x : ByteArray) : Lit := .string x.data.toList
theorem kyB_inj {x y : ByteArray} (h : kyB x = kyB y) : x = y := by
  unfold kyB at h
  injection h with h
  exact ByteArray.ext (Array.toList_inj.1 h)
/-- The first k items' texts, and their numbers. -/
def knD (s : ByteArray) : Nat → DataW Unit
  | 0 => .map []
  | k + 1 => (knD s k).put (kyB (txI s k)) (.lit (.int .i64 (k : Int)))
theorem knD_map (s : ByteArray) (k : Nat) : Maps.IsMap (knD s k) := by
  induction k with
  | zero => exact Maps.isMap_empty
  | succ k ih => exact ih.put _ _
theorem kyB_lit (x : ByteArray) : WideAt.IsKeyLit (kyB x) := by first | trivial | simp [WideAt.IsKeyLit, kyB]
/-- Is this the text of one of the first k items? -/
def knB (s : ByteArray) (k : Nat) (x : ByteArray) : Bool := Maps.has (knD s k) (kyB x)
theorem knB_zero (s x : ByteArray) : knB s 0 x = false := rfl
theorem knB_succ (s : ByteArray) (k : Nat) (x : ByteArray) : knB s (k + 1) x = (decide (x = txI s k) || knB s k x) := by
  unfold knB
  by_cases h : x = txI s k
  · subst h
    simp only [decide_true, Bool.true_or]
    exact Maps.has_put_same (knD_map s k) (kyB_lit _) _
  · rw [decide_eq_false h, Bool.false_or]
    exact Maps.has_put_other (fun e => h (kyB_inj e)) _
theorem knB_iff (s : ByteArray) (k : Nat) (x : ByteArray) : knB s k x = true ↔ ∃ i, i < k ∧ x = txI s i := by
  induction k with
  | zero => rw [knB_zero]; constructor
            · intro h; cases h
            · rintro ⟨i, h, _⟩; omega
  | succ k ih =>
    rw [knB_succ, Bool.or_eq_true, decide_eq_true_eq, ih]
    constructor
    · rintro (h | ⟨i, h1, h2⟩)
      · exact ⟨k, by omega, h⟩
      · exact ⟨i, by omega, h2⟩
    · rintro ⟨i, h1, h2⟩
      rcases Nat.lt_or_ge i k with h3 | h3
      · exact .inr ⟨i, h3, h2⟩
      · obtain rfl : i = k := by omega
        exact .inl h2
/-- What stands at a text that is known: the number of an item that has it. -/
theorem knD_at (s : ByteArray) (k : Nat) (x : ByteArray) (c : Int) (h : knB s k x = true) (hc : (knD s k).atKey (kyB x) (.lit (.int .i64 0)) = .lit (.int .i64 c)) : ∃ i, i < k ∧ x = txI s i ∧ c = (i : Int) := by
  induction k with
  | zero => rw [knB_zero] at h; cases h
  | succ k ih =>
    by_cases hx : x = txI s k
    · subst hx
      have e : (knD s (k + 1)).atKey (kyB (txI s k)) (.lit (.int .i64 0)) = .lit (.int .i64 (k : Int)) := Maps.atKey_put_same (knD_map s k) (kyB_lit _) _ _
      rw [e] at hc
      injection hc with hc
      injection hc with _ hc
      exact ⟨k, by omega, rfl, hc.symm⟩
    · rw [knB_succ, decide_eq_false hx, Bool.false_or] at h
      have e : (knD s (k + 1)).atKey (kyB x) (.lit (.int .i64 0)) = (knD s k).atKey (kyB x) (.lit (.int .i64 0)) := Maps.atKey_put_other (fun e => hx (kyB_inj e)) _ _
      rw [e] at hc
      obtain ⟨i, h1, h2, h3⟩ := ih h hc
      exact ⟨i, by omega, h2, h3⟩
/-- How many of t's first k items are none of s's. -/
def nwN (s t : ByteArray) : Nat → Nat
  | 0 => 0
  | k + 1 => nwN s t k + (if knB s (cts s).length (txI t k) then 0 else 1)
theorem nwN_le (s t : ByteArray) (k : Nat) : nwN s t k ≤ k := by
  induction k with
  | zero => exact Nat.le_refl _
  | succ k ih => unfold nwN; split <;> omega
theorem nwN_same (s : ByteArray) (k : Nat) (h : k ≤ (cts s).length) : nwN s s k = 0 := by
  induction k with
  | zero => rfl
  | succ k ih =>
    unfold nwN
    rw [ih (by omega), if_pos ((knB_iff s _ _).2 ⟨k, by omega, rfl⟩)]
/-- Why a text has no file. -/
def flE (s : ByteArray) : Nat := if 4000 < s.size then 4 else if 30 < (cts s).length then 5 else 0
theorem flE_ok {s : ByteArray} (h : flE s = 0) : s.size ≤ 4000 ∧ (cts s).length ≤ 30 := by
  unfold flE at h
  split at h
  · cases h
  · split at h
    · cases h
    · exact ⟨by omega, by omega⟩
theorem noB_cts : cts noB = [] := nil_cts _ (by decide +kernel)
theorem noB_fil : fil noB = [] := by unfold fil; rw [noB_cts]; rfl
end Go.Proofs.YtfioihehhlpgcaaGreatDoor
namespace Go.Proofs.YtfioihehhlpgcaaGreatDoor
/-- chan net, fn f. -/
def alT : ByteArray := ⟨#[99, 104, 97, 110, 32, 110, 101, 116, 58, 32, 123, 125, 59, 10, 102, 110, 32, 102, 40, 120, 58, 32, 123, 97, 125, 41, 58, 32, 123, 125, 32, 115, 101, 110, 100, 115, 32, 110, 101, 116, 32, 123, 32, 115, 101, 110, 100, 32, 110, 101, 116, 32, 49, 32, 43, 32, 50, 59, 32, 125]⟩
theorem alT_err : flE alT = 0 := by decide +kernel
theorem alT_cts : (cts alT).length = 2 := by decide +kernel
theorem alT_it0 : (itI alT 0).ds.length = 0 := by decide +kernel
theorem alT_it1 : (itI alT 1).ds.length = 0 ∧ (itI alT 1).bd.length = 1 ∧ (itI alT 1).ps.map (fun p => p.l) = [1] := by decide +kernel
end Go.Proofs.YtfioihehhlpgcaaGreatDoor
namespace Go.Proofs.YtfioihehhlpgcaaGreatDoor
open Go.RowKit

theorem wrap_i64_nat (n : Nat) (h : n < 9223372036854775808) : IntKind.i64.wrap (n : Int) = (n : Int) := by
  rw [IntKind.wrap_i64]
  omega
theorem ofInt_i64 (a : Nat) (ha : a < 18446744073709551616) : (BitVec.ofInt 64 (a : Int)).toNat = a := by
  rw [BitVec.ofInt_natCast, BitVec.toNat_ofNat]; exact Nat.mod_eq_of_lt (by omega)
theorem i64_and (a b : Nat) (ha : a < 4294967296) (hb : b < 4294967296) : bits .and .i64 (a : Int) (b : Int) = ((a &&& b : Nat) : Int) := by
  have hx : a &&& b < 2 ^ 32 := Nat.and_lt_two_pow _ (by omega)
  show IntKind.i64.wrap ((BitVec.ofInt 64 (a : Int) &&& BitVec.ofInt 64 (b : Int)).toNat : Int) = _
  rw [BitVec.toNat_and, ofInt_i64 a (by omega), ofInt_i64 b (by omega), wrap_i64_nat _ (by omega)]
theorem i64_or (a b : Nat) (ha : a < 4294967296) (hb : b < 4294967296) : bits .or .i64 (a : Int) (b : Int) = ((a ||| b : Nat) : Int) := by
  have hx : a ||| b < 2 ^ 32 := Nat.or_lt_two_pow (by omega) (by omega)
  show IntKind.i64.wrap ((BitVec.ofInt 64 (a : Int) ||| BitVec.ofInt 64 (b : Int)).toNat : Int) = _
  rw [BitVec.toNat_or, ofInt_i64 a (by omega), ofInt_i64 b (by omega), wrap_i64_nat _ (by omega)]
theorem and_not (a b : Nat) (ha : a < 256) (hb : b < 256) : a &&& (18446744073709551615 - b) = a ^^^ (a &&& b) := by
  apply Nat.eq_of_testBit_eq
  intro i
  rw [Nat.testBit_and, Nat.testBit_xor, Nat.testBit_and]
  have e : (18446744073709551615 - b) = 2 ^ 64 - (b + 1) := by omega
  rw [e, Nat.testBit_two_pow_sub_succ (by omega)]
  by_cases h : i < 64
  · simp [h]
    cases a.testBit i <;> cases b.testBit i <;> rfl
  · have : a.testBit i = false := Nat.testBit_lt_two_pow (Nat.lt_of_lt_of_le ha (Nat.le_trans (by decide : 256 ≤ 2 ^ 64) (Nat.pow_le_pow_right (by omega) (by omega))))
    simp [this]
theorem i64_andNot (a b : Nat) (ha : a < 256) (hb : b < 256) : bits .andNot .i64 (a : Int) (b : Int) = ((a ^^^ (a &&& b) : Nat) : Int) := by
  have hx : a &&& b < 2 ^ 8 := Nat.and_lt_two_pow _ (by omega)
  have hy : a ^^^ (a &&& b) < 2 ^ 8 := Nat.xor_lt_two_pow (by omega) hx
  show IntKind.i64.wrap ((BitVec.ofInt 64 (a : Int) &&& ~~~BitVec.ofInt 64 (b : Int)).toNat : Int) = _
  rw [BitVec.toNat_and, BitVec.toNat_not, ofInt_i64 a (by omega), ofInt_i64 b (by omega)]
  have e : 2 ^ 64 - 1 - b = 18446744073709551615 - b := by omega
  rw [e, and_not a b ha hb, wrap_i64_nat _ (by omega)]

/-- All tags of a are b's. -/
def fl (a b : Nat) : Bool := (a &&& b) == a
theorem fl_iff (a b : Nat) : fl a b = true ↔ ∀ i, a.testBit i = true → b.testBit i = true := by
  unfold fl
  rw [beq_iff_eq]
  constructor
  · intro h i hi
    have := congrArg (fun n => n.testBit i) h
    simp only [Nat.testBit_and, hi, Bool.true_and] at this
    exact this
  · intro h
    apply Nat.eq_of_testBit_eq
    intro i
    rw [Nat.testBit_and]
    cases e : a.testBit i
    · rfl
    · simp [h i e]
theorem xor_zero_iff (a b : Nat) : (a ^^^ b) = 0 ↔ a = b := by
  constructor
  · intro h
    apply Nat.eq_of_testBit_eq
    intro i
    have := congrArg (fun n => n.testBit i) h
    simp only [Nat.testBit_xor, Nat.zero_testBit] at this
    cases h1 : a.testBit i <;> cases h2 : b.testBit i <;> simp_all
  · intro h; rw [h]; exact Nat.xor_self _
theorem fl_not (a b : Nat) (ha : a < 256) (hb : b < 256) : (bits .andNot .i64 (a : Int) (b : Int) == 0) = fl a b := by
  rw [i64_andNot a b ha hb]
  unfold fl
  rw [Bool.eq_iff_iff]
  simp only [beq_iff_eq]
  rw [show ((a ^^^ (a &&& b) : Nat) : Int) = 0 ↔ (a ^^^ (a &&& b)) = 0 from by omega, xor_zero_iff]
  exact eq_comm
theorem fl_refl (a : Nat) : fl a a = true := by rw [fl_iff]; exact fun _ h => h
theorem fl_anti (a b : Nat) (h : fl a b = true) (k : fl b a = true) : a = b := by
  rw [fl_iff] at h k
  apply Nat.eq_of_testBit_eq
  intro i
  rw [Bool.eq_iff_iff]
  exact ⟨h i, k i⟩
theorem fl_trans (a b c : Nat) (h : fl a b = true) (k : fl b c = true) : fl a c = true := by
  rw [fl_iff] at h k ⊢
  exact fun i x => k i (h i x)
theorem fl_join_l (a b : Nat) : fl a (a ||| b) = true := by
  rw [fl_iff]; intro i h; rw [Nat.testBit_or, h]; rfl
theorem fl_join_r (a b : Nat) : fl b (a ||| b) = true := by
  rw [fl_iff]; intro i h; rw [Nat.testBit_or, h]; simp
theorem fl_join (a b c : Nat) (h : fl a c = true) : fl b c = fl (a ||| b) c := by
  rw [Bool.eq_iff_iff, fl_iff, fl_iff]
  rw [fl_iff] at h
  constructor
  · intro k i; rw [Nat.testBit_or, Bool.or_eq_true]; rintro (x | x)
    · exact h i x
    · exact k i x
  · intro k i x; apply k i; rw [Nat.testBit_or, x]; simp
theorem fl_meet_l (a b : Nat) : fl (a &&& b) a = true := by
  rw [fl_iff]; intro i; rw [Nat.testBit_and, Bool.and_eq_true]; exact fun h => h.1
theorem fl_meet_r (a b : Nat) : fl (a &&& b) b = true := by
  rw [fl_iff]; intro i; rw [Nat.testBit_and, Bool.and_eq_true]; exact fun h => h.2
theorem fl_meet (a b c : Nat) (h : fl c a = true) : fl c b = fl c (a &&& b) := by
  rw [Bool.eq_iff_iff, fl_iff, fl_iff]
  rw [fl_iff] at h
  constructor
  · intro k i x; rw [Nat.testBit_and, h i x, k i x]; rfl
  · intro k i x; have := k i x; rw [Nat.testBit_and, Bool.and_eq_true] at this; exact this.2
theorem absorb (a b : Nat) : a ||| (a &&& b) = a := by
  apply Nat.eq_of_testBit_eq
  intro i
  rw [Nat.testBit_or, Nat.testBit_and]
  cases a.testBit i <;> simp
theorem or_lt (a b : Nat) (ha : a < 256) (hb : b < 256) : a ||| b < 256 := Nat.or_lt_two_pow (n := 8) ha hb
theorem and_lt (a b : Nat) (ha : a < 256) : a &&& b < 256 := Nat.lt_of_le_of_lt Nat.and_le_left ha
theorem i64_mask (a : Nat) (ha : a < 256) : bits .and .i64 (a : Int) 255 = (a : Int) := by
  have h := i64_and a 255 (by omega) (by omega)
  have e : a &&& 255 = a := by
    have := Nat.and_two_pow_sub_one_eq_mod a 8
    simp at this; omega
  rw [e] at h
  exact h
end Go.Proofs.YtfioihehhlpgcaaGreatDoor
namespace Go.Proofs.YtfioihehhlpgcaaGreatDoor
open Go.Lib
/-- What digits spell. -/
def dv (n : Nat) : List UInt8 → Nat
  | [] => n
  | c :: r => dv (n * 10 + (c.toNat - 48)) r
theorem dv_ge (l : List UInt8) : ∀ n, n ≤ dv n l := by
  induction l with
  | nil => intro n; exact Nat.le_refl _
  | cons c r ih => intro n; have := ih (n * 10 + (c.toNat - 48)); unfold dv; omega
theorem num_big (l : List UInt8) : ∀ n, 1000000000 < n → num l n = n := by
  induction l with
  | nil => intro n _; rfl
  | cons c r ih => intro n h; unfold num; rw [if_neg (by omega)]; exact ih n h
theorem num_dv (l : List UInt8) : ∀ n, n ≤ 1000000000 → (dv n l ≤ 1000000000 → num l n = dv n l) ∧ (1000000000 < dv n l → 1000000000 < num l n) := by
  induction l with
  | nil => intro n h; exact ⟨fun _ => rfl, fun h => h⟩
  | cons c r ih =>
    intro n h
    have hg := dv_ge r (n * 10 + (c.toNat - 48))
    have e : num (c :: r) n = num r (n * 10 + (c.toNat - 48)) := by
      show num r (if n ≤ 1000000000 then 10 * n + (c.toNat - 48) else n) = _
      rw [if_pos h, Nat.mul_comm]
    have e2 : dv n (c :: r) = dv (n * 10 + (c.toNat - 48)) r := rfl
    rw [e, e2]
    rcases Nat.lt_or_ge 1000000000 (n * 10 + (c.toNat - 48)) with h1 | h1
    · exact ⟨fun h2 => by omega, fun _ => by rw [num_big r _ h1]; exact h1⟩
    · exact ih _ h1
theorem uint_dv (l : List UInt8) (hd : ∀ c ∈ l, 48 ≤ c.toNat ∧ c.toNat ≤ 57) : ∀ n, (∃ u, parseUint10 n l = .ok u ∧ u = dv n l) ∨ (parseUint10 n l = .range ∧ 1000000000 < dv n l) := by
  induction l with
  | nil => intro n; exact .inl ⟨n, rfl, rfl⟩
  | cons c r ih =>
    intro n
    have hc := hd c (List.mem_cons_self ..)
    have hg := dv_ge r (n * 10 + (c.toNat - 48))
    have e2 : dv n (c :: r) = dv (n * 10 + (c.toNat - 48)) r := rfl
    rw [e2]
    unfold parseUint10
    rw [if_pos hc]
    split
    · exact .inr ⟨rfl, by omega⟩
    · split
      · exact .inr ⟨rfl, by omega⟩
      · exact ih (fun x hx => hd x (List.mem_cons_of_mem _ hx)) _
/-- Digits: a number that fits, or one that is too great. -/
theorem atoi_num (l : List UInt8) (h0 : l ≠ []) (hd : ∀ c ∈ l, 48 ≤ c.toNat ∧ c.toNat ≤ 57) :
    (∃ v : Nat, atoiAll l = .ok (v : Int) ∧ v < 9223372036854775808 ∧ (v ≤ 1000000000 → num l 0 = v) ∧ (1000000000 < v → 1000000000 < num l 0)) ∨ (atoiAll l = .range ∧ 1000000000 < num l 0) := by
  have hn := num_dv l 0 (by omega)
  cases l with
  | nil => exact absurd rfl h0
  | cons c r =>
    have hc := hd c (List.mem_cons_self ..)
    rcases uint_dv (c :: r) hd 0 with ⟨u, h1, h2⟩ | ⟨h1, h2⟩
    · have hm : parseMag (c :: r) = .ok u := by unfold parseMag; rw [if_neg (by simp)]; exact h1
      unfold atoiAll
      simp only
      rw [if_neg (by omega), hm]
      simp only
      rcases Nat.lt_or_ge u 9223372036854775808 with h3 | h3
      · rw [if_neg (by omega), if_neg (by omega), if_neg (by omega)]
        exact .inl ⟨u, rfl, h3, fun h => by rw [h2] at h ⊢; exact hn.1 h, fun h => hn.2 (by omega)⟩
      · rw [if_pos ⟨by omega, h3⟩]
        exact .inr ⟨rfl, hn.2 (by omega)⟩
    · have hm : parseMag (c :: r) = .range := by unfold parseMag; rw [if_neg (by simp)]; exact h1
      unfold atoiAll
      simp only
      rw [if_neg (by omega), hm]
      exact .inr ⟨rfl, hn.2 h2⟩
end Go.Proofs.YtfioihehhlpgcaaGreatDoor

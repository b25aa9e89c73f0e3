/- Texts of this seat, one behind the other: Base, FilKnown, LabMath, RefLexMath. -/
import Derived.Test.YtjpmnholpeidmaaRows
import Derived.WalkKit
import Derived.WalkSpells
import Derived.WalkLawsBesides
import Derived.Below
import Derived.Deep.Draws
import Derived.Test.YtjpmnholpeidmaaZb01
import Derived.Maps.OwnSet
import Derived.Laws.BitsAllLaws
namespace Go.Proofs.Ytjpmnholpeidmaa
open Go.RowKit
theorem ret_int {k : IntKind} {a b : Int} (h : a = b) : Ending.returned (.int k a) = .returned (.int k b) := by rw [h]
theorem ret_bool {a b : Bool} (h : a = b) : Ending.returned (.bool a) = .returned (.bool b) := by rw [h]
def upN (n : Nat) (v : Value) : Nat := n - (intOf v).toNat
theorem below_drewN {B : Nat} {a w : World} (h : Below B a w) (n : Nat) : Below B a (w.drewN n) := ⟨h.os, h.tape, h.output, h.size, h.block⟩
theorem bcell {W w1 : World} (hb : Below W.heap.size W w1) : (∀ b o, b < W.heap.size → w1.cell? ⟨b, o, none⟩ = W.cell? ⟨b, o, none⟩) ∧ (∀ b o, b < W.heap.size → w1.frozen? ⟨b, o, none⟩ = W.frozen? ⟨b, o, none⟩) :=
  ⟨fun b o h => hb.cell (p := ⟨b, o, none⟩) h, fun b o h => hb.frozen (p := ⟨b, o, none⟩) h⟩
theorem bstay {wr w2 : World} (hb : Below wr.drew.heap.size wr.drew w2) : ∀ b o u, b < wr.heap.size → wr.cell? ⟨b, o, none⟩ = some u → w2.cell? ⟨b, o, none⟩ = some u :=
  fun b o _ h e => (hb.cell (p := ⟨b, o, none⟩) h).trans e
theorem bstayN {W1 w2 : World} {m : Nat} (hb : Below (W1.drewN m).heap.size (W1.drewN m) w2) : ∀ b o u, b < W1.heap.size → W1.cell? ⟨b, o, none⟩ = some u → w2.cell? ⟨b, o, none⟩ = some u :=
  fun b o _ h e => (hb.cell (p := ⟨b, o, none⟩) h).trans e
theorem cell_alloc {w : World} {a : Addr} {u : Value} (h : w.cell? a = some u) : ∀ o, (w.alloc o).cell? a = some u :=
  fun o => (((Below.refl _ w).alloc (Nat.le_refl _) o).cell (World.block_lt_of_cell? w a h)).trans h
theorem wrap_id (x : Int) (h1 : -9223372036854775808 ≤ x) (h2 : x ≤ 9223372036854775807) : IntKind.i64.wrap x = x := by
  simp [IntKind.wrap, IntKind.signed, IntKind.bits]; omega
end Go.Proofs.Ytjpmnholpeidmaa
namespace Go.Proofs.Ytjpmnholpeidmaa
open Go.RowKit
/-- The text of item i. -/
def txI (s : ByteArray) (i : Nat) : ByteArray := s.extract (cn s i) (cn s (i + 1))
theorem itI_tx (s : ByteArray) (i : Nat) : itI s i = itm (txI s i) := rfl
theorem itI_same {s t : ByteArray} {i k : Nat} (h : txI t k = txI s i) : itI s i = itI t k := by rw [itI_tx, itI_tx, h]
def kyB (x : ByteArray) : Lit := .string x.data.toList
theorem kyB_inj {x y : ByteArray} (h : kyB x = kyB y) : x = y := by
  unfold kyB at h
  injection h with h
  exact ByteArray.ext (Array.toList_inj.1 h)
/-- The first k items' texts, and their numbers. -/
def knD (s : ByteArray) : Nat → DataW Unit
  | 0 => .map []
  | k + 1 => (knD s k).put (kyB (txI s k)) (.lit (.int .i64 (k : Int)))
theorem knD_map (s : ByteArray) (k : Nat) : Maps.IsMap (knD s k) := by
  induction k with
  | zero => exact Maps.isMap_empty
  | succ k ih => exact ih.put _ _
theorem kyB_lit (x : ByteArray) : WideAt.IsKeyLit (kyB x) := by first | trivial | simp [WideAt.IsKeyLit, kyB]
/-- Is this the text of one of the first k items? -/
def knB (s : ByteArray) (k : Nat) (x : ByteArray) : Bool := Maps.has (knD s k) (kyB x)
theorem knB_zero (s x : ByteArray) : knB s 0 x = false := rfl
theorem knB_succ (s : ByteArray) (k : Nat) (x : ByteArray) : knB s (k + 1) x = (decide (x = txI s k) || knB s k x) := by
  unfold knB
  by_cases h : x = txI s k
  · subst h
    simp only [decide_true, Bool.true_or]
    exact Maps.has_put_same (knD_map s k) (kyB_lit _) _
  · rw [decide_eq_false h, Bool.false_or]
    exact Maps.has_put_other (fun e => h (kyB_inj e)) _
theorem knB_iff (s : ByteArray) (k : Nat) (x : ByteArray) : knB s k x = true ↔ ∃ i, i < k ∧ x = txI s i := by
  induction k with
  | zero => rw [knB_zero]; constructor
            · intro h; cases h
            · rintro ⟨i, h, _⟩; omega
  | succ k ih =>
    rw [knB_succ, Bool.or_eq_true, decide_eq_true_eq, ih]
    constructor
    · rintro (h | ⟨i, h1, h2⟩)
      · exact ⟨k, by omega, h⟩
      · exact ⟨i, by omega, h2⟩
    · rintro ⟨i, h1, h2⟩
      rcases Nat.lt_or_ge i k with h3 | h3
      · exact .inr ⟨i, h3, h2⟩
      · obtain rfl : i = k := by omega
        exact .inl h2
/-- What stands at a text that is known: the number of an item that has it. -/
theorem knD_at (s : ByteArray) (k : Nat) (x : ByteArray) (c : Int) (h : knB s k x = true) (hc : (knD s k).atKey (kyB x) (.lit (.int .i64 0)) = .lit (.int .i64 c)) : ∃ i, i < k ∧ x = txI s i ∧ c = (i : Int) := by
  induction k with
  | zero => rw [knB_zero] at h; cases h
  | succ k ih =>
    by_cases hx : x = txI s k
    · subst hx
      have e : (knD s (k + 1)).atKey (kyB (txI s k)) (.lit (.int .i64 0)) = .lit (.int .i64 (k : Int)) := Maps.atKey_put_same (knD_map s k) (kyB_lit _) _ _
      rw [e] at hc
      injection hc with hc
      injection hc with _ hc
      exact ⟨k, by omega, rfl, hc.symm⟩
    · rw [knB_succ, decide_eq_false hx, Bool.false_or] at h
      have e : (knD s (k + 1)).atKey (kyB x) (.lit (.int .i64 0)) = (knD s k).atKey (kyB x) (.lit (.int .i64 0)) := Maps.atKey_put_other (fun e => hx (kyB_inj e)) _ _
      rw [e] at hc
      obtain ⟨i, h1, h2, h3⟩ := ih h hc
      exact ⟨i, by omega, h2, h3⟩
/-- How many of t's first k items are none of s's. -/
def nwN (s t : ByteArray) : Nat → Nat
  | 0 => 0
  | k + 1 => nwN s t k + (if knB s (cts s).length (txI t k) then 0 else 1)
theorem nwN_le (s t : ByteArray) (k : Nat) : nwN s t k ≤ k := by
  induction k with
  | zero => exact Nat.le_refl _
  | succ k ih => unfold nwN; split <;> omega
theorem nwN_same (s : ByteArray) (k : Nat) (h : k ≤ (cts s).length) : nwN s s k = 0 := by
  induction k with
  | zero => rfl
  | succ k ih =>
    unfold nwN
    rw [ih (by omega), if_pos ((knB_iff s _ _).2 ⟨k, by omega, rfl⟩)]
/-- Why a text has no file. -/
def flE (s : ByteArray) : Nat := if 4000 < s.size then 4 else if 30 < (cts s).length then 5 else 0
theorem flE_ok {s : ByteArray} (h : flE s = 0) : s.size ≤ 4000 ∧ (cts s).length ≤ 30 := by
  unfold flE at h
  split at h
  · cases h
  · split at h
    · cases h
    · exact ⟨by omega, by omega⟩
theorem noB_cts : cts noB = [] := nil_cts _ (by decide +kernel)
theorem noB_fil : fil noB = [] := by unfold fil; rw [noB_cts]; rfl
end Go.Proofs.Ytjpmnholpeidmaa

namespace Go.Proofs.Ytjpmnholpeidmaa
open Go.RowKit

theorem wrap_i64_nat (n : Nat) (h : n < 9223372036854775808) : IntKind.i64.wrap (n : Int) = (n : Int) := by
  rw [IntKind.wrap_i64]
  omega
theorem ofInt_i64 (a : Nat) (ha : a < 18446744073709551616) : (BitVec.ofInt 64 (a : Int)).toNat = a := by
  rw [BitVec.ofInt_natCast, BitVec.toNat_ofNat]; exact Nat.mod_eq_of_lt (by omega)
theorem i64_and (a b : Nat) (ha : a < 4294967296) (hb : b < 4294967296) : bits .and .i64 (a : Int) (b : Int) = ((a &&& b : Nat) : Int) := by
  have hx : a &&& b < 2 ^ 32 := Nat.and_lt_two_pow _ (by omega)
  show IntKind.i64.wrap ((BitVec.ofInt 64 (a : Int) &&& BitVec.ofInt 64 (b : Int)).toNat : Int) = _
  rw [BitVec.toNat_and, ofInt_i64 a (by omega), ofInt_i64 b (by omega), wrap_i64_nat _ (by omega)]
theorem i64_or (a b : Nat) (ha : a < 4294967296) (hb : b < 4294967296) : bits .or .i64 (a : Int) (b : Int) = ((a ||| b : Nat) : Int) := by
  have hx : a ||| b < 2 ^ 32 := Nat.or_lt_two_pow (by omega) (by omega)
  show IntKind.i64.wrap ((BitVec.ofInt 64 (a : Int) ||| BitVec.ofInt 64 (b : Int)).toNat : Int) = _
  rw [BitVec.toNat_or, ofInt_i64 a (by omega), ofInt_i64 b (by omega), wrap_i64_nat _ (by omega)]
theorem and_not (a b : Nat) (ha : a < 256) (hb : b < 256) : a &&& (18446744073709551615 - b) = a ^^^ (a &&& b) := by
  apply Nat.eq_of_testBit_eq
  intro i
  rw [Nat.testBit_and, Nat.testBit_xor, Nat.testBit_and]
  have e : (18446744073709551615 - b) = 2 ^ 64 - (b + 1) := by omega
  rw [e, Nat.testBit_two_pow_sub_succ (by omega)]
  by_cases h : i < 64
  · simp [h]
    cases a.testBit i <;> cases b.testBit i <;> rfl
  · have : a.testBit i = false := Nat.testBit_lt_two_pow (Nat.lt_of_lt_of_le ha (Nat.le_trans (by decide : 256 ≤ 2 ^ 64) (Nat.pow_le_pow_right (by omega) (by omega))))
    simp [this]
theorem i64_andNot (a b : Nat) (ha : a < 256) (hb : b < 256) : bits .andNot .i64 (a : Int) (b : Int) = ((a ^^^ (a &&& b) : Nat) : Int) := by
  have hx : a &&& b < 2 ^ 8 := Nat.and_lt_two_pow _ (by omega)
  have hy : a ^^^ (a &&& b) < 2 ^ 8 := Nat.xor_lt_two_pow (by omega) hx
  show IntKind.i64.wrap ((BitVec.ofInt 64 (a : Int) &&& ~~~BitVec.ofInt 64 (b : Int)).toNat : Int) = _
  rw [BitVec.toNat_and, BitVec.toNat_not, ofInt_i64 a (by omega), ofInt_i64 b (by omega)]
  have e : 2 ^ 64 - 1 - b = 18446744073709551615 - b := by omega
  rw [e, and_not a b ha hb, wrap_i64_nat _ (by omega)]

/-- All tags of a are b's. -/
def fl (a b : Nat) : Bool := (a &&& b) == a
theorem fl_iff (a b : Nat) : fl a b = true ↔ ∀ i, a.testBit i = true → b.testBit i = true := by
  unfold fl
  rw [beq_iff_eq]
  constructor
  · intro h i hi
    have := congrArg (fun n => n.testBit i) h
    simp only [Nat.testBit_and, hi, Bool.true_and] at this
    exact this
  · intro h
    apply Nat.eq_of_testBit_eq
    intro i
    rw [Nat.testBit_and]
    cases e : a.testBit i
    · rfl
    · simp [h i e]
theorem xor_zero_iff (a b : Nat) : (a ^^^ b) = 0 ↔ a = b := by
  constructor
  · intro h
    apply Nat.eq_of_testBit_eq
    intro i
    have := congrArg (fun n => n.testBit i) h
    simp only [Nat.testBit_xor, Nat.zero_testBit] at this
    cases h1 : a.testBit i <;> cases h2 : b.testBit i <;> simp_all
  · intro h; rw [h]; exact Nat.xor_self _
theorem fl_not (a b : Nat) (ha : a < 256) (hb : b < 256) : (bits .andNot .i64 (a : Int) (b : Int) == 0) = fl a b := by
  rw [i64_andNot a b ha hb]
  unfold fl
  rw [Bool.eq_iff_iff]
  simp only [beq_iff_eq]
  rw [show ((a ^^^ (a &&& b) : Nat) : Int) = 0 ↔ (a ^^^ (a &&& b)) = 0 from by omega, xor_zero_iff]
  exact eq_comm
theorem fl_refl (a : Nat) : fl a a = true := by rw [fl_iff]; exact fun _ h => h
theorem fl_anti (a b : Nat) (h : fl a b = true) (k : fl b a = true) : a = b := by
  rw [fl_iff] at h k
  apply Nat.eq_of_testBit_eq
  intro i
  rw [Bool.eq_iff_iff]
  exact ⟨h i, k i⟩
theorem fl_trans (a b c : Nat) (h : fl a b = true) (k : fl b c = true) : fl a c = true := by
  rw [fl_iff] at h k ⊢
  exact fun i x => k i (h i x)
theorem fl_join_l (a b : Nat) : fl a (a ||| b) = true := by
  rw [fl_iff]; intro i h; rw [Nat.testBit_or, h]; rfl
theorem fl_join_r (a b : Nat) : fl b (a ||| b) = true := by
  rw [fl_iff]; intro i h; rw [Nat.testBit_or, h]; simp
theorem fl_join (a b c : Nat) (h : fl a c = true) : fl b c = fl (a ||| b) c := by
  rw [Bool.eq_iff_iff, fl_iff, fl_iff]
  rw [fl_iff] at h
  constructor
  · intro k i; rw [Nat.testBit_or, Bool.or_eq_true]; rintro (x | x)
    · exact h i x
    · exact k i x
  · intro k i x; apply k i; rw [Nat.testBit_or, x]; simp
theorem fl_meet_l (a b : Nat) : fl (a &&& b) a = true := by
  rw [fl_iff]; intro i; rw [Nat.testBit_and, Bool.and_eq_true]; exact fun h => h.1
theorem fl_meet_r (a b : Nat) : fl (a &&& b) b = true := by
  rw [fl_iff]; intro i; rw [Nat.testBit_and, Bool.and_eq_true]; exact fun h => h.2
theorem fl_meet (a b c : Nat) (h : fl c a = true) : fl c b = fl c (a &&& b) := by
  rw [Bool.eq_iff_iff, fl_iff, fl_iff]
  rw [fl_iff] at h
  constructor
  · intro k i x; rw [Nat.testBit_and, h i x, k i x]; rfl
  · intro k i x; have := k i x; rw [Nat.testBit_and, Bool.and_eq_true] at this; exact this.2
theorem absorb (a b : Nat) : a ||| (a &&& b) = a := by
  apply Nat.eq_of_testBit_eq
  intro i
  rw [Nat.testBit_or, Nat.testBit_and]
  cases a.testBit i <;> simp
theorem or_lt (a b : Nat) (ha : a < 256) (hb : b < 256) : a ||| b < 256 := Nat.or_lt_two_pow (n := 8) ha hb
theorem and_lt (a b : Nat) (ha : a < 256) : a &&& b < 256 := Nat.lt_of_le_of_lt Nat.and_le_left ha
theorem i64_mask (a : Nat) (ha : a < 256) : bits .and .i64 (a : Int) 255 = (a : Int) := by
  have h := i64_and a 255 (by omega) (by omega)
  have e : a &&& 255 = a := by
    have := Nat.and_two_pow_sub_one_eq_mod a 8
    simp at this; omega
  rw [e] at h
  exact h
end Go.Proofs.Ytjpmnholpeidmaa
namespace Go.Proofs.Ytjpmnholpeidmaa
/-- What stands behind i bytes: the list so far, and in what the next byte may go on. -/
def Inv (s : ByteArray) (i : Nat) (l : List Tok) (st : Nat) : Prop :=
  (st = 0 ∧ tks s = l ++ toks s (skE s false i)) ∨ (st = 9 ∧ tks s = l ++ toks s (skE s true i)) ∨
  (∃ l0 a, st = 1 ∧ a < i ∧ l = l0 ++ [⟨1, s.extract a i, a⟩] ∧ tks s = l0 ++ ⟨1, s.extract a (spE wrd s i), a⟩ :: toks s (skE s false (spE wrd s i))) ∨
  (∃ l0 a, st = 2 ∧ a < i ∧ l = l0 ++ [⟨2, s.extract a i, a⟩] ∧ tks s = l0 ++ ⟨2, s.extract a (spE dgt s i), a⟩ :: toks s (skE s false (spE dgt s i)))
theorem inv_start (s : ByteArray) : Inv s 0 [] 0 := .inl ⟨rfl, rfl⟩
theorem inv_end (s : ByteArray) (l : List Tok) (st : Nat) (h : Inv s s.size l st) : tks s = l := by
  rcases h with ⟨_, h⟩ | ⟨_, h⟩ | ⟨l0, a, _, _, hl, h⟩ | ⟨l0, a, _, _, hl, h⟩
  · rw [h, skE_out s _ _ (Nat.le_refl _), toks_out s _ (Nat.le_refl _), List.append_nil]
  · rw [h, skE_out s _ _ (Nat.le_refl _), toks_out s _ (Nat.le_refl _), List.append_nil]
  · rw [h, hl, spE_out _ s _ (Nat.le_refl _), skE_out s _ _ (Nat.le_refl _), toks_out s _ (Nat.le_refl _)]
  · rw [h, hl, spE_out _ s _ (Nat.le_refl _), skE_out s _ _ (Nat.le_refl _), toks_out s _ (Nat.le_refl _)]
theorem inv_note (s : ByteArray) (i : Nat) (l : List Tok) (h : Inv s i l 9) (hi : i < s.size) (hc : byt s i ≠ 10) : Inv s (i + 1) l 9 := by
  rcases h with ⟨h0, _⟩ | ⟨_, h⟩ | ⟨_, _, h0, _⟩ | ⟨_, _, h0, _⟩
  · cases h0
  · refine .inr (.inl ⟨rfl, ?_⟩)
    rw [h, skE_eq s true i hi]
    have : nnl (byt s i) = true := by simpa [nnl] using hc
    simp [this]
  · cases h0
  · cases h0
theorem ext_step (s : ByteArray) (a i : Nat) (ha : a ≤ i) (hi : i < s.size) : s.extract a i ++ s.extract i (i + 1) = s.extract a (i + 1) := by
  have h1 := ext_size' s a i (by omega)
  apply eq_of_byt
  · rw [app_size, h1, ext_size' s _ _ (by omega), ext_size' s _ _ (by omega)]; omega
  · intro j hj
    rw [app_size, h1, ext_size' s _ _ (by omega)] at hj
    rw [byt_ext s a (i + 1) j (by omega)]
    by_cases h : j < i - a
    · rw [byt_app_l _ _ _ (by omega), byt_ext s a i j (by omega)]
    · have : j = (s.extract a i).size + 0 := by omega
      conv => lhs; rw [this, byt_app_r]
      rw [byt_ext s _ _ _ (by omega)]
      congr 1
      omega
theorem inv_word (s : ByteArray) (i : Nat) (l : List Tok) (h : Inv s i l 1) (hi : i < s.size) (hc : wrd (byt s i) = true) :
    ∃ l0 a, a < i ∧ l = l0 ++ [⟨1, s.extract a i, a⟩] ∧ Inv s (i + 1) (l0 ++ [⟨1, s.extract a i ++ s.extract i (i + 1), a⟩]) 1 := by
  rcases h with ⟨h0, _⟩ | ⟨h0, h⟩ | ⟨l0, a, _, ha, hl, h⟩ | ⟨_, _, h0, _⟩
  · cases h0
  · cases h0
  · refine ⟨l0, a, ha, hl, .inr (.inr (.inl ⟨l0, a, rfl, by omega, by rw [ext_step s a i (by omega) hi], ?_⟩))⟩
    rw [h, spE_go wrd s i hi hc]
  · cases h0
theorem inv_int (s : ByteArray) (i : Nat) (l : List Tok) (h : Inv s i l 2) (hi : i < s.size) (hc : dgt (byt s i) = true) :
    ∃ l0 a, a < i ∧ l = l0 ++ [⟨2, s.extract a i, a⟩] ∧ Inv s (i + 1) (l0 ++ [⟨2, s.extract a i ++ s.extract i (i + 1), a⟩]) 2 := by
  rcases h with ⟨h0, _⟩ | ⟨h0, h⟩ | ⟨_, _, h0, _⟩ | ⟨l0, a, _, ha, hl, h⟩
  · cases h0
  · cases h0
  · cases h0
  · refine ⟨l0, a, ha, hl, .inr (.inr (.inr ⟨l0, a, rfl, by omega, by rw [ext_step s a i (by omega) hi], ?_⟩))⟩
    rw [h, spE_go dgt s i hi hc]
/-- Where nothing goes on. -/
theorem inv_zero (s : ByteArray) (i : Nat) (l : List Tok) (st : Nat) (h : Inv s i l st) (hi : i < s.size) (h9 : ¬ (st = 9 ∧ byt s i ≠ 10)) (h1 : ¬ (st = 1 ∧ wrd (byt s i) = true)) (h2 : ¬ (st = 2 ∧ dgt (byt s i) = true)) :
    tks s = l ++ toks s (skE s false i) := by
  rcases h with ⟨_, h⟩ | ⟨h0, h⟩ | ⟨l0, a, h0, _, hl, h⟩ | ⟨l0, a, h0, _, hl, h⟩
  · exact h
  · have hc : byt s i = 10 := by
      rcases Nat.decEq (byt s i) 10 with hc | hc
      · exact absurd ⟨h0, hc⟩ h9
      · exact hc
    rw [h, skE_eq s true i hi, skE_eq s false i hi, hc]
    simp [nnl, blk]
  · have hc : wrd (byt s i) = false := by
      cases hw : wrd (byt s i)
      · rfl
      · exact absurd ⟨h0, hw⟩ h1
    rw [h, hl, spE_stop wrd s i hi hc]
    simp
  · have hc : dgt (byt s i) = false := by
      cases hw : dgt (byt s i)
      · rfl
      · exact absurd ⟨h0, hw⟩ h2
    rw [h, hl, spE_stop dgt s i hi hc]
    simp
theorem go_blank (s : ByteArray) (i : Nat) (l : List Tok) (h : tks s = l ++ toks s (skE s false i)) (hi : i < s.size) (hc : blk (byt s i) = true) : Inv s (i + 1) l 0 :=
  .inl ⟨rfl, by rw [h, skE_blk s i hi hc]⟩
theorem go_hash (s : ByteArray) (i : Nat) (l : List Tok) (h : tks s = l ++ toks s (skE s false i)) (hi : i < s.size) (hc : byt s i = 35) : Inv s (i + 1) l 9 := by
  refine .inr (.inl ⟨rfl, ?_⟩)
  rw [h, skE_eq s false i hi, hc]
  simp [blk]
theorem ltr_not (c : Nat) (h : ltr c = true) : blk c = false ∧ c ≠ 35 ∧ dgt c = false := by
  unfold ltr at h
  unfold blk dgt
  simp at h ⊢
  omega
theorem dgt_not (c : Nat) (h : dgt c = true) : blk c = false ∧ c ≠ 35 ∧ ltr c = false := by
  unfold dgt at h
  unfold blk ltr
  simp at h ⊢
  omega
theorem go_word (s : ByteArray) (i : Nat) (l : List Tok) (h : tks s = l ++ toks s (skE s false i)) (hi : i < s.size) (hc : ltr (byt s i) = true) : Inv s (i + 1) (l ++ [⟨1, s.extract i (i + 1), i⟩]) 1 := by
  have hn := ltr_not _ hc
  have hw : wrd (byt s i) = true := by unfold wrd; rw [hc]; rfl
  refine .inr (.inr (.inl ⟨l, i, rfl, by omega, rfl, ?_⟩))
  rw [h, skE_stop s i hi hn.1 hn.2.1, toks_eq s i hi]
  unfold tok tnd tkd
  rw [if_pos hc, if_pos hc, spE_go wrd s i hi hw]
theorem go_int (s : ByteArray) (i : Nat) (l : List Tok) (h : tks s = l ++ toks s (skE s false i)) (hi : i < s.size) (hc : dgt (byt s i) = true) : Inv s (i + 1) (l ++ [⟨2, s.extract i (i + 1), i⟩]) 2 := by
  have hn := dgt_not _ hc
  refine .inr (.inr (.inr ⟨l, i, rfl, by omega, rfl, ?_⟩))
  rw [h, skE_stop s i hi hn.1 hn.2.1, toks_eq s i hi]
  unfold tok tnd tkd
  rw [spE_go dgt s i hi hc]
  simp [hn.2.2, hc]
theorem go_one (s : ByteArray) (i : Nat) (l : List Tok) (h : tks s = l ++ toks s (skE s false i)) (hi : i < s.size) (hb : blk (byt s i) = false) (h35 : byt s i ≠ 35) (h1 : ltr (byt s i) = false) (h2 : dgt (byt s i) = false) :
    Inv s (i + 1) (l ++ [⟨if sgn (byt s i) then 3 else 4, s.extract i (i + 1), i⟩]) 0 := by
  refine .inl ⟨rfl, ?_⟩
  rw [h, skE_stop s i hi hb h35, toks_eq s i hi]
  unfold tok tnd tkd
  simp [h1, h2]
theorem inv_len (s : ByteArray) (i : Nat) (l : List Tok) (st : Nat) (h : Inv s i l st) : l.length ≤ s.size := by
  have hn := tks_len s
  rcases h with ⟨_, h⟩ | ⟨_, h⟩ | ⟨l0, a, _, _, hl, h⟩ | ⟨l0, a, _, _, hl, h⟩
  · rw [h] at hn; simp at hn; omega
  · rw [h] at hn; simp at hn; omega
  · rw [h] at hn; rw [hl]; simp at hn ⊢; omega
  · rw [h] at hn; rw [hl]; simp at hn ⊢; omega
theorem inv_st (s : ByteArray) (i : Nat) (l : List Tok) (st : Nat) (h : Inv s i l st) : st = 0 ∨ st = 9 ∨ st = 1 ∨ st = 2 := by
  rcases h with ⟨h, _⟩ | ⟨h, _⟩ | ⟨_, _, h, _⟩ | ⟨_, _, h, _⟩
  · exact .inl h
  · exact .inr (.inl h)
  · exact .inr (.inr (.inl h))
  · exact .inr (.inr (.inr h))
end Go.Proofs.Ytjpmnholpeidmaa

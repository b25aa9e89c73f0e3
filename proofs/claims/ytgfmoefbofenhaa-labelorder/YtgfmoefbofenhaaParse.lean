/- Parse: a text's label, or what is wrong with it. -/
import Derived.Test.YtgfmoefbofenhaaForm
namespace Go.Proofs.Ytgfmoefbofenhaa
open Go.RowKit
/-- The tag at place t. -/
def tagAt (s : ByteArray) (t : Nat) : Nat := 2 ^ (byt s (2 * t + 1) - 97)
/-- The tags of the first t places, if none stands twice. -/
def acc (s : ByteArray) : Nat → Option Nat
  | 0 => some 0
  | t + 1 => match acc s t with
    | none => none
    | some n => if n &&& tagAt s t = 0 then some (n ||| tagAt s t) else none
theorem acc_none (s : ByteArray) (t u : Nat) (h : acc s t = none) : acc s (t + u) = none := by
  induction u with
  | zero => exact h
  | succ u ih => rw [← Nat.add_assoc]; simp [acc, ih]
theorem acc_dup (s : ByteArray) (t m : Nat) (h : acc s t = some m) (k : ¬ m &&& tagAt s t = 0) : acc s (t + 1) = none := by
  simp [acc, h, k]
theorem acc_new (s : ByteArray) (t m : Nat) (h : acc s t = some m) (k : m &&& tagAt s t = 0) : acc s (t + 1) = some (m ||| tagAt s t) := by
  simp [acc, h, k]
/-- What Parse tells: a label and no error, or nought and an error. -/
def parseOf (s : ByteArray) : Nat × Nat :=
  if fmB s = true then match acc s ((s.size - 1) / 2) with
    | some n => (n, 0)
    | none => (0, 7)
  else (0, 2)
def pN (s : ByteArray) : Nat := (parseOf s).1
def pE (s : ByteArray) : Nat := (parseOf s).2
theorem shl_form : ∀ x, x < 8 → wrap64 (2 ^ x) = ((2 ^ x : Nat) : Int) := by decide +kernel
theorem pow_lt : ∀ x, x < 8 → 2 ^ x < 256 := by decide +kernel
theorem p_no {s : ByteArray} (h : fmB s = false) : pN s = 0 ∧ pE s = 2 := by simp [pN, pE, parseOf, h]
theorem p_dup {s : ByteArray} (h : fmB s = true) (k : acc s ((s.size - 1) / 2) = none) : pN s = 0 ∧ pE s = 7 := by simp [pN, pE, parseOf, h, k]
theorem p_yes {s : ByteArray} {m : Nat} (h : fmB s = true) (k : acc s ((s.size - 1) / 2) = some m) : pN s = m ∧ pE s = 0 := by simp [pN, pE, parseOf, h, k]
theorem fm_out {s : ByteArray} (h : fmB s = true) : Formed s := @of_decide_eq_true _ (formedDec s) h
theorem fm_tag {s : ByteArray} (h : fmB s = true) {t : Nat} (ht : 2 * t + 1 < s.size - 1) : 97 ≤ byt s (2 * t + 1) ∧ byt s (2 * t + 1) < 105 := by
  obtain ⟨h2, _, _, e | ⟨_, k⟩⟩ := fm_out h
  · omega
  · have := (k (2 * t) (by omega)).1 (by omega)
    rwa [Nat.add_comm 1 (2 * t)] at this
theorem fm_size {s : ByteArray} (h : fmB s = true) : 2 ≤ s.size ∧ (s.size = 2 ∨ s.size % 2 = 1) := by
  obtain ⟨h2, _, _, e | ⟨e, _⟩⟩ := fm_out h
  · exact ⟨h2, .inl e⟩
  · exact ⟨h2, .inr e⟩
theorem tuple_ret {a b c d : Nat} (h : a = c) (k : b = d) : Ending.returned (.tuple #[.int .i64 (a : Int), .int .i64 (b : Int)]) = .returned (.tuple #[.int .i64 (c : Int), .int .i64 (d : Int)]) := by rw [h, k]
set_option maxHeartbeats 800000 in
theorem parse_any (s : ByteArray) (w : World) (hs : s.size ≤ maxLen) :
    Calls Try.prog 6 #[.string s] w fun e w' => e = .returned (.tuple #[.int .i64 (pN s : Int), .int .i64 (pE s : Int)]) ∧ w' = w := by
  unfold maxLen at hs
  cases hf : fmB s
  · have P : Hid (pN s = 0 ∧ pE s = 2) := p_no hf
    go_enter Try.func6, Try.ntmps6
    go_wp2_with (go_at_call 19; refine (formed_any _ _ (by assumption)).mono ?_; rintro e w' ⟨rfl, hw'⟩; subst w')
    go_ret2
    exact ⟨tuple_ret P.out.1.symm P.out.2.symm, rfl⟩
  · have HF : Hid (fmB s = true) := hf
    have hsz := fm_size hf
    have h2 : 2 ≤ s.size := hsz.1
    have HZ : Hid (2 ≤ s.size ∧ (s.size = 2 ∨ s.size % 2 = 1)) := hsz
    clear hsz
    go_enter Try.func6, Try.ntmps6
    go_wp2_with (go_at_call 19; refine (formed_any _ _ (by assumption)).mono ?_; rintro e w' ⟨rfl, hw'⟩; subst w')
    clear hf
    go_loop [4, 5] (fun n i => ∃ t m : Nat, 2 * t + 1 ≤ s.size ∧ i = .int .i64 ((2 * t + 1 : Nat) : Int) ∧ n = .int .i64 (m : Int) ∧ m < 256 ∧ acc s t = some m) (fun _ i => s.size - (intOf i).toNat)
    case atStart => exact ⟨0, 0, by omega, rfl, rfl, by omega, rfl⟩
    case round =>
      obtain ⟨t, m, ht, rfl, rfl, hm, ha⟩ := hrel
      have HA : Hid (acc s t = some m) := ha
      clear ha
      by_cases hlt : 2 * t + 1 < s.size - 1
      · have hb := byt_get s (2 * t + 1) (by omega)
        have HB : Hid (byt s (2 * t + 1) = s[2 * t + 1].toNat) := hb
        have hc := fm_tag HF.out hlt
        rw [hb] at hc
        clear hb
        obtain ⟨hc1, hc2⟩ := hc
        have HT : Hid (tagAt s t = 2 ^ (s[2 * t + 1].toNat - 97)) := by show _ = _; unfold tagAt; rw [HB.out]
        have SH := shl_form (s[2 * t + 1].toNat - 97) (by omega)
        have PL := pow_lt (s[2 * t + 1].toNat - 97) (by omega)
        rw [← HT.out] at SH PL
        have AND := i64_and m (tagAt s t) (by omega) (by omega)
        have OR := i64_or m (tagAt s t) (by omega) (by omega)
        have OL := or_lt m (tagAt s t) hm PL
        by_cases hd : m &&& tagAt s t = 0
        · have htest : (bits BinOp.and IntKind.i64 (m : Int) (wrap64 (2 ^ (s[2 * t + 1].toNat - 97))) != 0) = false := by
            rw [SH, AND, hd]; rfl
          have HN : Hid (acc s (t + 1) = some (m ||| tagAt s t)) := acc_new s t m HA.out hd
          have HO : Hid (bits BinOp.or IntKind.i64 (m : Int) (wrap64 (2 ^ (s[2 * t + 1].toNat - 97))) = ((m ||| tagAt s t : Nat) : Int)) := by show _ = _; rw [SH, OR]
          have HL : Hid (m ||| tagAt s t < 256) := OL
          clear SH PL AND OR OL hd
          go_wp2
          go_round
          case rel => exact ⟨t + 1, _, by omega, by go_num, by rw [HO.out], HL.out, HN.out⟩
          case measure => simp [intOf]; omega
        · have htest : (bits BinOp.and IntKind.i64 (m : Int) (wrap64 (2 ^ (s[2 * t + 1].toNat - 97))) != 0) = true := by
            rw [SH, AND]; simp only [bne_iff_ne, ne_eq]; omega
          have HN : acc s (t + 1) = none := acc_dup s t m HA.out hd
          have P : Hid (pN s = 0 ∧ pE s = 7) := by
            refine p_dup HF.out ?_
            have e : (s.size - 1) / 2 = t + 1 + ((s.size - 1) / 2 - (t + 1)) := by have := HZ.out.2; omega
            rw [e]
            exact acc_none s _ _ HN
          clear SH PL AND OR OL HN
          go_wp2
          go_ret2
          exact ⟨tuple_ret P.out.1.symm P.out.2.symm, rfl⟩
      · have P : Hid (pN s = m ∧ pE s = 0) := by
          refine p_yes HF.out ?_
          have e : (s.size - 1) / 2 = t := by have := HZ.out.2; omega
          rw [e]
          exact HA.out
        go_wp2
        go_ret2
        exact ⟨tuple_ret P.out.1.symm P.out.2.symm, rfl⟩
end Go.Proofs.Ytgfmoefbofenhaa

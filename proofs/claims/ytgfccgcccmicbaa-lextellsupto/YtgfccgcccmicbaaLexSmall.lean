/- The small functions of package lex, and their fellows of the document: what each call answers. -/
import Derived.Test.YtgfccgcccmicbaaRows
import Derived.Test.YtgfccgcccmicbaaLexMath
import Derived.WalkKit
import Derived.WalkSpells
import Derived.WalkLawsBesides
import Derived.Lib.Bytealg
namespace Go.Proofs.Ytgfccgcccmicbaa
open Go.RowKit

theorem ret_int {k : IntKind} {a b : Int} (h : a = b) : Ending.returned (.int k a) = .returned (.int k b) := by rw [h]
theorem ret_bool {a b : Bool} (h : a = b) : Ending.returned (.bool a) = .returned (.bool b) := by rw [h]

set_option maxHeartbeats 400000 in
theorem letter_any (c : Nat) (w : World) :
    Calls Try.prog 33 #[.int .u8 (c : Int)] w fun e w' => e = .returned (.bool (ltr c)) ∧ w' = w := by
  go_enter Try.func33, Try.ntmps33
  go_wp2
  all_goals
    go_ret
    exact ⟨ret_bool (by unfold ltr; rw [Bool.eq_iff_iff]; simp; omega), rfl⟩
set_option maxHeartbeats 400000 in
theorem digit_any (c : Nat) (w : World) :
    Calls Try.prog 35 #[.int .u8 (c : Int)] w fun e w' => e = .returned (.bool (dgt c)) ∧ w' = w := by
  go_enter Try.func35, Try.ntmps35
  go_wp2
  all_goals
    go_ret
    exact ⟨ret_bool (by unfold dgt; rw [Bool.eq_iff_iff]; simp; omega), rfl⟩
set_option maxHeartbeats 400000 in
theorem blank_any (c : Nat) (w : World) :
    Calls Try.prog 37 #[.int .u8 (c : Int)] w fun e w' => e = .returned (.bool (blk c)) ∧ w' = w := by
  go_enter Try.func37, Try.ntmps37
  go_wp2
  all_goals
    go_ret
    exact ⟨ret_bool (by unfold blk; rw [Bool.eq_iff_iff]; simp; omega), rfl⟩
set_option maxHeartbeats 400000 in
theorem nnl_any (c : Nat) (w : World) :
    Calls Try.prog 54 #[.int .u8 (c : Int)] w fun e w' => e = .returned (.bool (nnl c)) ∧ w' = w := by
  go_enter Try.func54, Try.ntmps54
  go_wp2
  all_goals
    go_ret
    exact ⟨ret_bool (by unfold nnl; rw [Bool.eq_iff_iff]; simp; omega), rfl⟩
set_option maxHeartbeats 400000 in
theorem wrd_any (c : Nat) (w : World) :
    Calls Try.prog 57 #[.int .u8 (c : Int)] w fun e w' => e = .returned (.bool (wrd c)) ∧ w' = w := by
  go_enter Try.func57, Try.ntmps57
  go_wp2_with (first
    | (go_at_call 33; refine (letter_any _ _).mono ?_; rintro e w' ⟨rfl, hw'⟩; subst w')
    | (go_at_call 35; refine (digit_any _ _).mono ?_; rintro e w' ⟨rfl, hw'⟩; subst w'))
  all_goals
    go_ret
    exact ⟨ret_bool (by unfold wrd; simp_all), rfl⟩
/-- Where a byte stands among the signs, or none. -/
def sgI (c : Nat) : Int := Lib.indexByte [40, 41, 123, 125, 44, 58, 59, 61, 43, 45, 42, 60] (UInt8.ofNat c)
theorem sgI_sgn (c : Nat) (h : c < 256) : decide (0 ≤ sgI c) = sgn c := by
  have : ∀ c, c < 256 → decide (0 ≤ sgI c) = sgn c := by decide +kernel
  exact this c h
set_option maxHeartbeats 400000 in
theorem sgIx_any (c : Nat) (w : World) :
    Calls Try.prog 55 #[.string ⟨#[40, 41, 123, 125, 44, 58, 59, 61, 43, 45, 42, 60]⟩, .int .u8 (c : Int)] w fun e w' => e = .returned (.int .i64 (sgI c)) ∧ w' = w := by
  go_enter Try.func55, Try.ntmps55
  go_wp2
  rw [run_callFunc_extern Try.func60 (by kernel_rfl) (by kernel_rfl) (by kernel_rfl) (e := Extern.BytealgIndexByte.indexByte) (by kernel_rfl), Lib.run_indexByteString]
  simp only [Result.andThen]
  rw [Oper.upon_value]
  go_wp2
  go_ret
  refine ⟨ret_int ?_, rfl⟩
  unfold sgI
  congr 1

/-! A span. -/
def RelSp (p : Nat → Bool) (s : ByteArray) (i : Nat) (v : Value) : Prop := ∃ k : Nat, i ≤ k ∧ k ≤ s.size ∧ v = .int .i64 (k : Int) ∧ spE p s k = spE p s i
def upS (s : ByteArray) (v : Value) : Nat := s.size - (intOf v).toNat
set_option maxHeartbeats 1000000 in
theorem span_nnl (s : ByteArray) (i : Nat) (w : World) (hs : s.size ≤ maxLen) (hi : i ≤ s.size) :
    Calls Try.prog 53 #[.string s, .int .i64 (i : Int), .func (.func 54) #[] #[]] w fun e w' => e = .returned (.int .i64 (spE nnl s i : Nat)) ∧ w' = w := by
  unfold maxLen at hs
  go_enter Try.func53, Try.ntmps53
  go_wp2
  go_loop [1] (fun v => RelSp nnl s i v) (fun v => upS s v)
  case atStart => exact ⟨i, Nat.le_refl _, hi, rfl, rfl⟩
  case round =>
    obtain ⟨k, h1, h2, rfl, h3⟩ := hrel
    have H3 : Hid (spE nnl s k = spE nnl s i) := h3
    clear h3
    by_cases hlt : k < s.size
    · have HG : Hid (byt s k = (s[k]'hlt).toNat) := byt_get s k hlt
      by_cases hp : nnl ((s[k]'hlt).toNat) = true
      · go_wp2_with (go_at_call 54; refine (nnl_any _ _).mono ?_; rintro e w' ⟨rfl, hw'⟩; subst w')
        go_round
        case rel => exact ⟨k + 1, by omega, by omega, by go_num, by rw [← spE_go nnl s k hlt (by rw [HG.out]; exact hp), H3.out]⟩
        case measure => simp [upS, intOf]; omega
      · have hp' : nnl ((s[k]'hlt).toNat) = false := by simpa using hp
        go_wp2_with (go_at_call 54; refine (nnl_any _ _).mono ?_; rintro e w' ⟨rfl, hw'⟩; subst w')
        go_ret
        exact ⟨ret_int (by rw [← H3.out, spE_stop nnl s k hlt (by rw [HG.out]; exact hp')]), rfl⟩
    · go_wp2
      go_ret
      exact ⟨ret_int (by rw [← H3.out, spE_out nnl s k (by omega)]), rfl⟩
set_option maxHeartbeats 1000000 in
theorem span_wrd (s : ByteArray) (i : Nat) (w : World) (hs : s.size ≤ maxLen) (hi : i ≤ s.size) :
    Calls Try.prog 53 #[.string s, .int .i64 (i : Int), .func (.func 57) #[] #[]] w fun e w' => e = .returned (.int .i64 (spE wrd s i : Nat)) ∧ w' = w := by
  unfold maxLen at hs
  go_enter Try.func53, Try.ntmps53
  go_wp2
  go_loop [1] (fun v => RelSp wrd s i v) (fun v => upS s v)
  case atStart => exact ⟨i, Nat.le_refl _, hi, rfl, rfl⟩
  case round =>
    obtain ⟨k, h1, h2, rfl, h3⟩ := hrel
    have H3 : Hid (spE wrd s k = spE wrd s i) := h3
    clear h3
    by_cases hlt : k < s.size
    · have HG : Hid (byt s k = (s[k]'hlt).toNat) := byt_get s k hlt
      by_cases hp : wrd ((s[k]'hlt).toNat) = true
      · go_wp2_with (go_at_call 57; refine (wrd_any _ _).mono ?_; rintro e w' ⟨rfl, hw'⟩; subst w')
        go_round
        case rel => exact ⟨k + 1, by omega, by omega, by go_num, by rw [← spE_go wrd s k hlt (by rw [HG.out]; exact hp), H3.out]⟩
        case measure => simp [upS, intOf]; omega
      · have hp' : wrd ((s[k]'hlt).toNat) = false := by simpa using hp
        go_wp2_with (go_at_call 57; refine (wrd_any _ _).mono ?_; rintro e w' ⟨rfl, hw'⟩; subst w')
        go_ret
        exact ⟨ret_int (by rw [← H3.out, spE_stop wrd s k hlt (by rw [HG.out]; exact hp')]), rfl⟩
    · go_wp2
      go_ret
      exact ⟨ret_int (by rw [← H3.out, spE_out wrd s k (by omega)]), rfl⟩
set_option maxHeartbeats 1000000 in
theorem span_dgt (s : ByteArray) (i : Nat) (w : World) (hs : s.size ≤ maxLen) (hi : i ≤ s.size) :
    Calls Try.prog 53 #[.string s, .int .i64 (i : Int), .func (.func 35) #[] #[]] w fun e w' => e = .returned (.int .i64 (spE dgt s i : Nat)) ∧ w' = w := by
  unfold maxLen at hs
  go_enter Try.func53, Try.ntmps53
  go_wp2
  go_loop [1] (fun v => RelSp dgt s i v) (fun v => upS s v)
  case atStart => exact ⟨i, Nat.le_refl _, hi, rfl, rfl⟩
  case round =>
    obtain ⟨k, h1, h2, rfl, h3⟩ := hrel
    have H3 : Hid (spE dgt s k = spE dgt s i) := h3
    clear h3
    by_cases hlt : k < s.size
    · have HG : Hid (byt s k = (s[k]'hlt).toNat) := byt_get s k hlt
      by_cases hp : dgt ((s[k]'hlt).toNat) = true
      · go_wp2_with (go_at_call 35; refine (digit_any _ _).mono ?_; rintro e w' ⟨rfl, hw'⟩; subst w')
        go_round
        case rel => exact ⟨k + 1, by omega, by omega, by go_num, by rw [← spE_go dgt s k hlt (by rw [HG.out]; exact hp), H3.out]⟩
        case measure => simp [upS, intOf]; omega
      · have hp' : dgt ((s[k]'hlt).toNat) = false := by simpa using hp
        go_wp2_with (go_at_call 35; refine (digit_any _ _).mono ?_; rintro e w' ⟨rfl, hw'⟩; subst w')
        go_ret
        exact ⟨ret_int (by rw [← H3.out, spE_stop dgt s k hlt (by rw [HG.out]; exact hp')]), rfl⟩
    · go_wp2
      go_ret
      exact ⟨ret_int (by rw [← H3.out, spE_out dgt s k (by omega)]), rfl⟩

set_option maxHeartbeats 1000000 in
theorem wordEnd_any (s : ByteArray) (i : Nat) (w : World) (hs : s.size ≤ maxLen) (hi : i ≤ s.size) :
    Calls Try.prog 48 #[.string s, .int .i64 (i : Int)] w fun e w' => e = .returned (.int .i64 (spE wrd s i : Nat)) ∧ w' = w := by
  go_enter Try.func48, Try.ntmps48
  go_wp2_with (go_at_call 53; refine (span_wrd s i _ hs hi).mono ?_; rintro e w' ⟨rfl, hw'⟩; subst w')
  go_ret
  exact ⟨rfl, rfl⟩

/-! What is skipped. -/
def RelSk (s : ByteArray) (i : Nat) (v : Value) : Prop := ∃ k : Nat, i ≤ k ∧ k ≤ s.size ∧ v = .int .i64 (k : Int) ∧ skE s false k = skE s false i
set_option maxHeartbeats 1000000 in
theorem skip_any (s : ByteArray) (i : Nat) (w : World) (hs : s.size ≤ maxLen) (hi : i ≤ s.size) :
    Calls Try.prog 44 #[.string s, .int .i64 (i : Int)] w fun e w' => e = .returned (.int .i64 (skE s false i : Nat)) ∧ w' = w := by
  have hs0 : s.size ≤ maxLen := hs
  unfold maxLen at hs
  go_enter Try.func44, Try.ntmps44
  go_wp2
  go_loop [1] (fun v => RelSk s i v) (fun v => upS s v)
  case atStart => exact ⟨i, Nat.le_refl _, hi, rfl, rfl⟩
  case round =>
    obtain ⟨k, h1, h2, rfl, h3⟩ := hrel
    have H3 : Hid (skE s false k = skE s false i) := h3
    clear h3
    by_cases hlt : k < s.size
    · have HG : Hid (byt s k = (s[k]'hlt).toNat) := byt_get s k hlt
      by_cases hp : blk ((s[k]'hlt).toNat) = true
      · go_wp2_with (go_at_call 37; refine (blank_any _ _).mono ?_; rintro e w' ⟨rfl, hw'⟩; subst w')
        go_round
        case rel => exact ⟨k + 1, by omega, by omega, by go_num, by rw [← skE_blk s k hlt (by rw [HG.out]; exact hp), H3.out]⟩
        case measure => simp [upS, intOf]; omega
      · have hp' : blk ((s[k]'hlt).toNat) = false := by simpa using hp
        clear hp
        by_cases h35 : (s[k]'hlt).toNat = 35
        · have hb : (((s[k]'hlt).toNat : Int) == 35) = true := by simp [h35]
          have HS : Hid (k < spE nnl s k ∧ spE nnl s k ≤ s.size ∧ skE s false k = skE s false (spE nnl s k)) :=
            ⟨spE_gt nnl s k hlt (by rw [HG.out, h35]; decide), spE_le nnl s k h2, skE_hash s k hlt (by rw [HG.out, h35])⟩
          clear h35
          go_wp2_with (first
            | (go_at_call 37; refine (blank_any _ _).mono ?_; rintro e w' ⟨rfl, hw'⟩; subst w')
            | (go_at_call 53; refine (span_nnl s k _ hs0 h2).mono ?_; rintro e w' ⟨rfl, hw'⟩; subst w'))
          go_round
          case rel => exact ⟨spE nnl s k, by have := HS.out.1; omega, HS.out.2.1, rfl, by rw [← HS.out.2.2, H3.out]⟩
          case measure => have := HS.out.1; simp [upS, intOf]; omega
        · have hb : (((s[k]'hlt).toNat : Int) == 35) = false := by simp; omega
          have HN : Hid (¬ (s[k]'hlt).toNat = 35) := h35
          clear h35
          go_wp2_with (go_at_call 37; refine (blank_any _ _).mono ?_; rintro e w' ⟨rfl, hw'⟩; subst w')
          go_ret
          exact ⟨ret_int (by rw [← H3.out, skE_stop s k hlt (by rw [HG.out]; exact hp') (by rw [HG.out]; exact HN.out)]), rfl⟩
    · go_wp2
      go_ret
      exact ⟨ret_int (by rw [← H3.out, skE_out s false k (by omega)]), rfl⟩

/-! One token. -/
set_option maxHeartbeats 1000000 in
theorem read_any (s : ByteArray) (i : Nat) (w : World) (hs : s.size ≤ maxLen) (hi : i < s.size) :
    Calls Try.prog 45 #[.string s, .int .i64 (i : Int)] w fun e w' => e = .returned (.tuple #[.int .i64 (tkd (byt s i) : Nat), .int .i64 (tnd s i : Nat)]) ∧ w' = w := by
  have hs0 : s.size ≤ maxLen := hs
  unfold maxLen at hs
  have HG : Hid (byt s i = (s[i]'hi).toNat) := byt_get s i hi
  have HL : Hid ((s[i]'hi).toNat < 256) := by rw [← HG.out]; exact byt_lt s i
  have HS := sgI_sgn _ HL.out
  have HS' : Hid (decide (0 ≤ sgI (s[i]'hi).toNat) = sgn (s[i]'hi).toNat) := HS
  clear HS
  go_enter Try.func45, Try.ntmps45
  by_cases h1 : ltr ((s[i]'hi).toNat) = true
  · go_wp2_with (first
      | (go_at_call 33; refine (letter_any _ _).mono ?_; rintro e w' ⟨rfl, hw'⟩; subst w')
      | (go_at_call 48; refine (wordEnd_any s i _ hs0 (by omega)).mono ?_; rintro e w' ⟨rfl, hw'⟩; subst w'))
    go_ret2
    refine ⟨?_, rfl⟩
    unfold tkd tnd
    rw [HG.out, if_pos h1, if_pos h1]
    rfl
  · have h1' : ltr ((s[i]'hi).toNat) = false := by simpa using h1
    by_cases h2 : dgt ((s[i]'hi).toNat) = true
    · go_wp2_with (first
        | (go_at_call 33; refine (letter_any _ _).mono ?_; rintro e w' ⟨rfl, hw'⟩; subst w')
        | (go_at_call 35; refine (digit_any _ _).mono ?_; rintro e w' ⟨rfl, hw'⟩; subst w')
        | (go_at_call 53; refine (span_dgt s i _ hs0 (by omega)).mono ?_; rintro e w' ⟨rfl, hw'⟩; subst w'))
      go_ret2
      refine ⟨?_, rfl⟩
      unfold tkd tnd
      rw [HG.out, if_neg h1, if_neg h1, if_pos h2, if_pos h2]
      rfl
    · have h2' : dgt ((s[i]'hi).toNat) = false := by simpa using h2
      by_cases h3 : 0 ≤ sgI ((s[i]'hi).toNat)
      · go_wp2_with (first
          | (go_at_call 33; refine (letter_any _ _).mono ?_; rintro e w' ⟨rfl, hw'⟩; subst w')
          | (go_at_call 35; refine (digit_any _ _).mono ?_; rintro e w' ⟨rfl, hw'⟩; subst w')
          | (go_at_call 55; refine (sgIx_any _ _).mono ?_; rintro e w' ⟨rfl, hw'⟩; subst w'))
        go_ret2
        refine ⟨?_, rfl⟩
        have h4 : sgn ((s[i]'hi).toNat) = true := by rw [← HS'.out]; simpa using h3
        unfold tkd tnd
        rw [HG.out, if_neg h1, if_neg h1, if_neg h2, if_neg h2, if_pos h4]
        rfl
      · go_wp2_with (first
          | (go_at_call 33; refine (letter_any _ _).mono ?_; rintro e w' ⟨rfl, hw'⟩; subst w')
          | (go_at_call 35; refine (digit_any _ _).mono ?_; rintro e w' ⟨rfl, hw'⟩; subst w')
          | (go_at_call 55; refine (sgIx_any _ _).mono ?_; rintro e w' ⟨rfl, hw'⟩; subst w'))
        go_ret2
        refine ⟨?_, rfl⟩
        have h4 : ¬ sgn ((s[i]'hi).toNat) = true := by rw [← HS'.out]; simpa using h3
        unfold tkd tnd
        rw [HG.out, if_neg h1, if_neg h1, if_neg h2, if_neg h2, if_neg h4]
        rfl
end Go.Proofs.Ytgfccgcccmicbaa

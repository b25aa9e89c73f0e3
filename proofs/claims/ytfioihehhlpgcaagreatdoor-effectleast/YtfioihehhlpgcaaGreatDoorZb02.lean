/- Texts of this seat, one behind the other: LexSmall, LexClone, LexTokens, LexWords, LexCuts, LexRead. -/
import Derived.Test.YtfioihehhlpgcaaGreatDoorZb01b
import Derived.Test.YtfioihehhlpgcaaGreatDoorZb01
import Derived.WalkKit
import Derived.WalkSpells
import Derived.WalkLawsBesides
import Derived.Lib.Bytealg
import Derived.Lib.Walk
import Derived.Lib.BufferWrite
import Derived.Lib.UnsafeStr
import Derived.Laws.MakeOwn
import Derived.Deep.AppendLies
import Derived.Deep.QuietTactic
import Derived.BigQuiet
namespace Go.Proofs.YtfioihehhlpgcaaGreatDoor
open Go.RowKit

set_option maxHeartbeats 400000 in
set_option maxRecDepth 100000 in
theorem letter_any (c : Nat) (w : World) :
    Calls Tryz.prog 139 #[.int .u8 (c : Int)] w fun e w' => e = .returned (.bool (ltr c)) ∧ w' = w := by
  go_enter Tryz.func139, Tryz.ntmps139
  go_wp2
  all_goals
    go_ret
    exact ⟨ret_bool (by unfold ltr; rw [Bool.eq_iff_iff]; simp; omega), rfl⟩
set_option maxHeartbeats 400000 in
set_option maxRecDepth 100000 in
theorem digit_any (c : Nat) (w : World) :
    Calls Tryz.prog 141 #[.int .u8 (c : Int)] w fun e w' => e = .returned (.bool (dgt c)) ∧ w' = w := by
  go_enter Tryz.func141, Tryz.ntmps141
  go_wp2
  all_goals
    go_ret
    exact ⟨ret_bool (by unfold dgt; rw [Bool.eq_iff_iff]; simp; omega), rfl⟩
set_option maxHeartbeats 400000 in
set_option maxRecDepth 100000 in
theorem blank_any (c : Nat) (w : World) :
    Calls Tryz.prog 136 #[.int .u8 (c : Int)] w fun e w' => e = .returned (.bool (blk c)) ∧ w' = w := by
  go_enter Tryz.func136, Tryz.ntmps136
  go_wp2
  all_goals
    go_ret
    exact ⟨ret_bool (by unfold blk; rw [Bool.eq_iff_iff]; simp; omega), rfl⟩
set_option maxHeartbeats 400000 in
set_option maxRecDepth 100000 in
theorem nnl_any (c : Nat) (w : World) :
    Calls Tryz.prog 138 #[.int .u8 (c : Int)] w fun e w' => e = .returned (.bool (nnl c)) ∧ w' = w := by
  go_enter Tryz.func138, Tryz.ntmps138
  go_wp2
  all_goals
    go_ret
    exact ⟨ret_bool (by unfold nnl; rw [Bool.eq_iff_iff]; simp; omega), rfl⟩
set_option maxHeartbeats 400000 in
set_option maxRecDepth 100000 in
theorem wrd_any (c : Nat) (w : World) :
    Calls Tryz.prog 167 #[.int .u8 (c : Int)] w fun e w' => e = .returned (.bool (wrd c)) ∧ w' = w := by
  go_enter Tryz.func167, Tryz.ntmps167
  go_wp2_with (first
    | (go_at_call 139; refine (letter_any _ _).mono ?_; rintro e w' ⟨rfl, hw'⟩; subst w')
    | (go_at_call 141; refine (digit_any _ _).mono ?_; rintro e w' ⟨rfl, hw'⟩; subst w'))
  all_goals
    go_ret
    exact ⟨ret_bool (by unfold wrd; simp_all), rfl⟩
/-- Where a byte stands among the signs, or none. -/
def sgI (c : Nat) : Int := Lib.indexByte [40, 41, 123, 125, 44, 58, 59, 61, 43, 45, 42, 60] (UInt8.ofNat c)
theorem sgI_sgn (c : Nat) (h : c < 256) : decide (0 ≤ sgI c) = sgn c := by
  have : ∀ c, c < 256 → decide (0 ≤ sgI c) = sgn c := by decide +kernel
  exact this c h
set_option maxHeartbeats 400000 in
set_option maxRecDepth 100000 in
theorem sgIx_any (c : Nat) (w : World) :
    Calls Tryz.prog 142 #[.string ⟨#[40, 41, 123, 125, 44, 58, 59, 61, 43, 45, 42, 60]⟩, .int .u8 (c : Int)] w fun e w' => e = .returned (.int .i64 (sgI c)) ∧ w' = w := by
  go_enter Tryz.func142, Tryz.ntmps142
  go_wp2
  rw [run_callFunc_extern Tryz.func186 (by kernel_rfl) (by kernel_rfl) (by kernel_rfl) (e := Extern.BytealgIndexByte.indexByte) (by kernel_rfl), Lib.run_indexByteString]
  simp only [Result.andThen]
  rw [Oper.upon_value]
  go_wp2
  go_ret
  refine ⟨ret_int ?_, rfl⟩
  unfold sgI
  congr 1

/-! A span. -/
def RelSp (p : Nat → Bool) (s : ByteArray) (i : Nat) (v : Value) : Prop := ∃ k : Nat, i ≤ k ∧ k ≤ s.size ∧ v = .int .i64 (k : Int) ∧ spE p s k = spE p s i
def upS (s : ByteArray) (v : Value) : Nat := s.size - (intOf v).toNat
set_option maxHeartbeats 1000000 in
set_option maxRecDepth 100000 in
theorem span_nnl (s : ByteArray) (i : Nat) (w : World) (hs : s.size ≤ maxLen) (hi : i ≤ s.size) :
    Calls Tryz.prog 137 #[.string s, .int .i64 (i : Int), .func (.func 138) #[] #[]] w fun e w' => e = .returned (.int .i64 (spE nnl s i : Nat)) ∧ w' = w := by
  unfold maxLen at hs
  go_enter Tryz.func137, Tryz.ntmps137
  go_wp2
  go_loop [1] (fun v => RelSp nnl s i v) (fun v => upS s v)
  case atStart => exact ⟨i, Nat.le_refl _, hi, rfl, rfl⟩
  case round =>
    obtain ⟨k, h1, h2, rfl, h3⟩ := hrel
    have H3 : Hid (spE nnl s k = spE nnl s i) := h3
    clear h3
    by_cases hlt : k < s.size
    · have HG : Hid (byt s k = (s[k]'hlt).toNat) := byt_get s k hlt
      by_cases hp : nnl ((s[k]'hlt).toNat) = true
      · go_wp2_with (go_at_call 138; refine (nnl_any _ _).mono ?_; rintro e w' ⟨rfl, hw'⟩; subst w')
        go_round
        case rel => exact ⟨k + 1, by omega, by omega, by go_num, by rw [← spE_go nnl s k hlt (by rw [HG.out]; exact hp), H3.out]⟩
        case measure => simp [upS, intOf]; omega
      · have hp' : nnl ((s[k]'hlt).toNat) = false := by simpa using hp
        go_wp2_with (go_at_call 138; refine (nnl_any _ _).mono ?_; rintro e w' ⟨rfl, hw'⟩; subst w')
        go_ret
        exact ⟨ret_int (by rw [← H3.out, spE_stop nnl s k hlt (by rw [HG.out]; exact hp')]), rfl⟩
    · go_wp2
      go_ret
      exact ⟨ret_int (by rw [← H3.out, spE_out nnl s k (by omega)]), rfl⟩
set_option maxHeartbeats 1000000 in
set_option maxRecDepth 100000 in
theorem span_wrd (s : ByteArray) (i : Nat) (w : World) (hs : s.size ≤ maxLen) (hi : i ≤ s.size) :
    Calls Tryz.prog 137 #[.string s, .int .i64 (i : Int), .func (.func 167) #[] #[]] w fun e w' => e = .returned (.int .i64 (spE wrd s i : Nat)) ∧ w' = w := by
  unfold maxLen at hs
  go_enter Tryz.func137, Tryz.ntmps137
  go_wp2
  go_loop [1] (fun v => RelSp wrd s i v) (fun v => upS s v)
  case atStart => exact ⟨i, Nat.le_refl _, hi, rfl, rfl⟩
  case round =>
    obtain ⟨k, h1, h2, rfl, h3⟩ := hrel
    have H3 : Hid (spE wrd s k = spE wrd s i) := h3
    clear h3
    by_cases hlt : k < s.size
    · have HG : Hid (byt s k = (s[k]'hlt).toNat) := byt_get s k hlt
      by_cases hp : wrd ((s[k]'hlt).toNat) = true
      · go_wp2_with (go_at_call 167; refine (wrd_any _ _).mono ?_; rintro e w' ⟨rfl, hw'⟩; subst w')
        go_round
        case rel => exact ⟨k + 1, by omega, by omega, by go_num, by rw [← spE_go wrd s k hlt (by rw [HG.out]; exact hp), H3.out]⟩
        case measure => simp [upS, intOf]; omega
      · have hp' : wrd ((s[k]'hlt).toNat) = false := by simpa using hp
        go_wp2_with (go_at_call 167; refine (wrd_any _ _).mono ?_; rintro e w' ⟨rfl, hw'⟩; subst w')
        go_ret
        exact ⟨ret_int (by rw [← H3.out, spE_stop wrd s k hlt (by rw [HG.out]; exact hp')]), rfl⟩
    · go_wp2
      go_ret
      exact ⟨ret_int (by rw [← H3.out, spE_out wrd s k (by omega)]), rfl⟩
set_option maxHeartbeats 1000000 in
set_option maxRecDepth 100000 in
theorem span_dgt (s : ByteArray) (i : Nat) (w : World) (hs : s.size ≤ maxLen) (hi : i ≤ s.size) :
    Calls Tryz.prog 137 #[.string s, .int .i64 (i : Int), .func (.func 141) #[] #[]] w fun e w' => e = .returned (.int .i64 (spE dgt s i : Nat)) ∧ w' = w := by
  unfold maxLen at hs
  go_enter Tryz.func137, Tryz.ntmps137
  go_wp2
  go_loop [1] (fun v => RelSp dgt s i v) (fun v => upS s v)
  case atStart => exact ⟨i, Nat.le_refl _, hi, rfl, rfl⟩
  case round =>
    obtain ⟨k, h1, h2, rfl, h3⟩ := hrel
    have H3 : Hid (spE dgt s k = spE dgt s i) := h3
    clear h3
    by_cases hlt : k < s.size
    · have HG : Hid (byt s k = (s[k]'hlt).toNat) := byt_get s k hlt
      by_cases hp : dgt ((s[k]'hlt).toNat) = true
      · go_wp2_with (go_at_call 141; refine (digit_any _ _).mono ?_; rintro e w' ⟨rfl, hw'⟩; subst w')
        go_round
        case rel => exact ⟨k + 1, by omega, by omega, by go_num, by rw [← spE_go dgt s k hlt (by rw [HG.out]; exact hp), H3.out]⟩
        case measure => simp [upS, intOf]; omega
      · have hp' : dgt ((s[k]'hlt).toNat) = false := by simpa using hp
        go_wp2_with (go_at_call 141; refine (digit_any _ _).mono ?_; rintro e w' ⟨rfl, hw'⟩; subst w')
        go_ret
        exact ⟨ret_int (by rw [← H3.out, spE_stop dgt s k hlt (by rw [HG.out]; exact hp')]), rfl⟩
    · go_wp2
      go_ret
      exact ⟨ret_int (by rw [← H3.out, spE_out dgt s k (by omega)]), rfl⟩

set_option maxHeartbeats 1000000 in
set_option maxRecDepth 100000 in
theorem wordEnd_any (s : ByteArray) (i : Nat) (w : World) (hs : s.size ≤ maxLen) (hi : i ≤ s.size) :
    Calls Tryz.prog 140 #[.string s, .int .i64 (i : Int)] w fun e w' => e = .returned (.int .i64 (spE wrd s i : Nat)) ∧ w' = w := by
  go_enter Tryz.func140, Tryz.ntmps140
  go_wp2_with (go_at_call 137; refine (span_wrd s i _ hs hi).mono ?_; rintro e w' ⟨rfl, hw'⟩; subst w')
  go_ret
  exact ⟨rfl, rfl⟩

/-! What is skipped. -/
def RelSk (s : ByteArray) (i : Nat) (v : Value) : Prop := ∃ k : Nat, i ≤ k ∧ k ≤ s.size ∧ v = .int .i64 (k : Int) ∧ skE s false k = skE s false i
set_option maxHeartbeats 1000000 in
set_option maxRecDepth 100000 in
theorem skip_any (s : ByteArray) (i : Nat) (w : World) (hs : s.size ≤ maxLen) (hi : i ≤ s.size) :
    Calls Tryz.prog 102 #[.string s, .int .i64 (i : Int)] w fun e w' => e = .returned (.int .i64 (skE s false i : Nat)) ∧ w' = w := by
  have hs0 : s.size ≤ maxLen := hs
  unfold maxLen at hs
  go_enter Tryz.func102, Tryz.ntmps102
  go_wp2
  go_loop [1] (fun v => RelSk s i v) (fun v => upS s v)
  case atStart => exact ⟨i, Nat.le_refl _, hi, rfl, rfl⟩
  case round =>
    obtain ⟨k, h1, h2, rfl, h3⟩ := hrel
    have H3 : Hid (skE s false k = skE s false i) := h3
    clear h3
    by_cases hlt : k < s.size
    · have HG : Hid (byt s k = (s[k]'hlt).toNat) := byt_get s k hlt
      by_cases hp : blk ((s[k]'hlt).toNat) = true
      · go_wp2_with (go_at_call 136; refine (blank_any _ _).mono ?_; rintro e w' ⟨rfl, hw'⟩; subst w')
        go_round
        case rel => exact ⟨k + 1, by omega, by omega, by go_num, by rw [← skE_blk s k hlt (by rw [HG.out]; exact hp), H3.out]⟩
        case measure => simp [upS, intOf]; omega
      · have hp' : blk ((s[k]'hlt).toNat) = false := by simpa using hp
        clear hp
        by_cases h35 : (s[k]'hlt).toNat = 35
        · have hb : (((s[k]'hlt).toNat : Int) == 35) = true := by simp [h35]
          have HS : Hid (k < spE nnl s k ∧ spE nnl s k ≤ s.size ∧ skE s false k = skE s false (spE nnl s k)) :=
            ⟨spE_gt nnl s k hlt (by rw [HG.out, h35]; decide), spE_le nnl s k h2, skE_hash s k hlt (by rw [HG.out, h35])⟩
          clear h35
          go_wp2_with (first
            | (go_at_call 136; refine (blank_any _ _).mono ?_; rintro e w' ⟨rfl, hw'⟩; subst w')
            | (go_at_call 137; refine (span_nnl s k _ hs0 h2).mono ?_; rintro e w' ⟨rfl, hw'⟩; subst w'))
          go_round
          case rel => exact ⟨spE nnl s k, by have := HS.out.1; omega, HS.out.2.1, rfl, by rw [← HS.out.2.2, H3.out]⟩
          case measure => have := HS.out.1; simp [upS, intOf]; omega
        · have hb : (((s[k]'hlt).toNat : Int) == 35) = false := by simp; omega
          have HN : Hid (¬ (s[k]'hlt).toNat = 35) := h35
          clear h35
          go_wp2_with (go_at_call 136; refine (blank_any _ _).mono ?_; rintro e w' ⟨rfl, hw'⟩; subst w')
          go_ret
          exact ⟨ret_int (by rw [← H3.out, skE_stop s k hlt (by rw [HG.out]; exact hp') (by rw [HG.out]; exact HN.out)]), rfl⟩
    · go_wp2
      go_ret
      exact ⟨ret_int (by rw [← H3.out, skE_out s false k (by omega)]), rfl⟩

/-! One token. -/
set_option maxHeartbeats 1000000 in
set_option maxRecDepth 100000 in
theorem read_any (s : ByteArray) (i : Nat) (w : World) (hs : s.size ≤ maxLen) (hi : i < s.size) :
    Calls Tryz.prog 103 #[.string s, .int .i64 (i : Int)] w fun e w' => e = .returned (.tuple #[.int .i64 (tkd (byt s i) : Nat), .int .i64 (tnd s i : Nat)]) ∧ w' = w := by
  have hs0 : s.size ≤ maxLen := hs
  unfold maxLen at hs
  have HG : Hid (byt s i = (s[i]'hi).toNat) := byt_get s i hi
  have HL : Hid ((s[i]'hi).toNat < 256) := by rw [← HG.out]; exact byt_lt s i
  have HS := sgI_sgn _ HL.out
  have HS' : Hid (decide (0 ≤ sgI (s[i]'hi).toNat) = sgn (s[i]'hi).toNat) := HS
  clear HS
  go_enter Tryz.func103, Tryz.ntmps103
  by_cases h1 : ltr ((s[i]'hi).toNat) = true
  · go_wp2_with (first
      | (go_at_call 139; refine (letter_any _ _).mono ?_; rintro e w' ⟨rfl, hw'⟩; subst w')
      | (go_at_call 140; refine (wordEnd_any s i _ hs0 (by omega)).mono ?_; rintro e w' ⟨rfl, hw'⟩; subst w'))
    go_ret2
    refine ⟨?_, rfl⟩
    unfold tkd tnd
    rw [HG.out, if_pos h1, if_pos h1]
    rfl
  · have h1' : ltr ((s[i]'hi).toNat) = false := by simpa using h1
    by_cases h2 : dgt ((s[i]'hi).toNat) = true
    · go_wp2_with (first
        | (go_at_call 139; refine (letter_any _ _).mono ?_; rintro e w' ⟨rfl, hw'⟩; subst w')
        | (go_at_call 141; refine (digit_any _ _).mono ?_; rintro e w' ⟨rfl, hw'⟩; subst w')
        | (go_at_call 137; refine (span_dgt s i _ hs0 (by omega)).mono ?_; rintro e w' ⟨rfl, hw'⟩; subst w'))
      go_ret2
      refine ⟨?_, rfl⟩
      unfold tkd tnd
      rw [HG.out, if_neg h1, if_neg h1, if_pos h2, if_pos h2]
      rfl
    · have h2' : dgt ((s[i]'hi).toNat) = false := by simpa using h2
      by_cases h3 : 0 ≤ sgI ((s[i]'hi).toNat)
      · go_wp2_with (first
          | (go_at_call 139; refine (letter_any _ _).mono ?_; rintro e w' ⟨rfl, hw'⟩; subst w')
          | (go_at_call 141; refine (digit_any _ _).mono ?_; rintro e w' ⟨rfl, hw'⟩; subst w')
          | (go_at_call 142; refine (sgIx_any _ _).mono ?_; rintro e w' ⟨rfl, hw'⟩; subst w'))
        go_ret2
        refine ⟨?_, rfl⟩
        have h4 : sgn ((s[i]'hi).toNat) = true := by rw [← HS'.out]; simpa using h3
        unfold tkd tnd
        rw [HG.out, if_neg h1, if_neg h1, if_neg h2, if_neg h2, if_pos h4]
        rfl
      · go_wp2_with (first
          | (go_at_call 139; refine (letter_any _ _).mono ?_; rintro e w' ⟨rfl, hw'⟩; subst w')
          | (go_at_call 141; refine (digit_any _ _).mono ?_; rintro e w' ⟨rfl, hw'⟩; subst w')
          | (go_at_call 142; refine (sgIx_any _ _).mono ?_; rintro e w' ⟨rfl, hw'⟩; subst w'))
        go_ret2
        refine ⟨?_, rfl⟩
        have h4 : ¬ sgn ((s[i]'hi).toNat) = true := by rw [← HS'.out]; simpa using h3
        unfold tkd tnd
        rw [HG.out, if_neg h1, if_neg h1, if_neg h2, if_neg h2, if_neg h4]
        rfl
end Go.Proofs.YtfioihehhlpgcaaGreatDoor
namespace Go.Proofs.YtfioihehhlpgcaaGreatDoor
open Go.RowKit
theorem Tryz.infoByte : (Tryz.prog.info? 5).map (fun i => (i.zero, i.size, i.bytes)) = some (some (.int .u8 0), 1, 1) := by kernel_rfl
set_option maxHeartbeats 1000000 in
set_option maxRecDepth 100000 in
theorem cloneIn_any (s : ByteArray) (w : World) (hlim : s.size ≤ 281474976710656) :
    Calls Tryz.prog 143 #[.string s] w fun e w' => e = .returned (.string s) ∧ Below w.heap.size w w' := by
  by_cases h0 : s.size = 0
  · have hs : s = ⟨#[]⟩ := ByteArray.ext (Array.eq_empty_of_size_eq_zero h0)
    subst hs
    go_enter Tryz.func143, Tryz.ntmps143
    go_wp2
    go_ret
    exact ⟨rfl, Below.refl _ _⟩
  · obtain ⟨i0, hi, hz0, hz1, hz2⟩ := info_parts Tryz.infoByte
    have hsz : (Tryz.prog.info? 5).map (·.size) = some 1 := by rw [hi]; simp [hz1]
    have hco : Tryz.prog.cellsOf 5 = 1 := by simp [Program.cellsOf, hi, hz1]
    obtain ⟨M, hM⟩ : ∃ M, M = madeCells (Value.int .u8 0).cells (((s.size : Nat) : Int).toNat * i0.size) := ⟨_, rfl⟩
    have hMs : M.size = s.size := by rw [hM, size_madeCells, hz1]; simp
    have hmk : ∀ W : World, (Instr.makeSlice 229 (.int .i64 (s.size : Int)) (.int .i64 (s.size : Int))).run Tryz.prog W = .ok (.slice (some ⟨W.heap.size, 0, none⟩) s.size s.size) (W.alloc (.cells M 5)) := fun W => by
      have h := run_make (P := Tryz.prog) W 229 5 i0 (.int .u8 0) Tryz.underlying229 hi hz0 .i64 .i64 (s.size : Int) (s.size : Int) (by omega) (by omega) (by rw [hz2]; omega) (by omega)
      rw [← hM] at h
      simpa using h
    clear hM
    have hcp := Lib.run_copy_row_string (P := Tryz.prog) (w.alloc (.cells M 5)) 229 9 3 5 w.heap.size 0 s.size s.size s M 5 Tryz.underlying229 hsz (heap_alloc_new w _) (Nat.le_refl _) (by omega)
    obtain ⟨Y, hY⟩ : ∃ Y, Y = (M.toList.take 0 ++ Lib.byteCells s.data.toList ++ M.toList.drop (0 + s.size)).toArray := ⟨_, rfl⟩
    rw [← hY] at hcp
    have hYl : Y.toList = Lib.byteCells s.data.toList := by
      rw [hY, List.toList_toArray, List.take_zero, List.nil_append, List.drop_of_length_le (by rw [Array.length_toList]; omega), List.append_nil]
    have hYs : Y.size = s.size := by rw [← Array.length_toList, hYl, Lib.byteCells_length, ← Lib.size_eq]
    have hgY : ((w.alloc (.cells M 5)).setRow w.heap.size Y).heap[w.heap.size]? = some (.cells Y 5 (0, 0)) := setRow_heap _ _ M _ 5 (0, 0) (heap_alloc_new w _)
    have hne : s.data.toList ≠ [] := fun e => h0 (by rw [Lib.size_eq, e]; rfl)
    have hUS := Lib.run_unsafeString_row (P := Tryz.prog) ((w.alloc (.cells M 5)).setRow w.heap.size Y) 230 3 9 5 Tryz.underlying230 hco w.heap.size Y.size (by unfold World.shape?; rw [hgY]) s.data.toList hne (by rw [← Lib.size_eq]; omega) (by rw [← Lib.size_eq]; omega)
      (fun j x hx => Lib.cells_of_row hgY Y.size j _ (by rw [List.take_of_length_le (by rw [Array.length_toList]; exact Nat.le_refl _), hYl]; simp [Lib.byteCells, hx]))
    rw [← Lib.size_eq] at hUS
    clear hY
    go_enter Tryz.func143, Tryz.ntmps143
    go_wp2
    go_ret
    have hb1 : Below w.heap.size w (w.alloc (.cells M 5)) := (Below.refl _ w).alloc (Nat.le_refl _) _
    have hb2 : Below w.heap.size (w.alloc (.cells M 5)) ((w.alloc (.cells M 5)).setRow w.heap.size Y) := ⟨rfl, rfl, rfl, by simp, fun k hk => setRow_other _ _ _ _ (by omega)⟩
    exact ⟨rfl, Lib.below_freeze (hb1.trans hb2) (p := ⟨w.heap.size, 0, none⟩) (Nat.le_refl _) _⟩
theorem clone_any (s : ByteArray) (w : World) (hlim : s.size ≤ 281474976710656) :
    Calls Tryz.prog 104 #[.string s] w fun e w' => e = .returned (.string s) ∧ Below w.heap.size w w' := by
  go_enter Tryz.func104, Tryz.ntmps104
  go_wp2_with (go_at_call 143; refine (cloneIn_any _ _ hlim).mono ?_; rintro e w1 ⟨rfl, hb1⟩)
  go_ret
  exact ⟨rfl, hb1⟩
end Go.Proofs.YtfioihehhlpgcaaGreatDoor
namespace Go.Proofs.YtfioihehhlpgcaaGreatDoor
open Go.RowKit
theorem own_below {w w1 : World} {base size n : Nat} {e : TypeId} {v : Value} {xs : List Value} (h : w.ownsRow base e size v n xs) (hb : Below w.heap.size w w1) : w1.ownsRow base e size v n xs :=
  h.kept (row := none) ⟨hb.os, hb.tape, hb.output, hb.size, fun k hk _ => hb.block k hk⟩ (by cases hv : v.ownBlock <;> simp)
theorem own_ge {w : World} {base size n : Nat} {e : TypeId} {v : Value} {xs : List Value} (h : w.ownsRow base e size v n xs) : ∀ k, v.ownBlock = some k → base ≤ k :=
  fun k hk => (h.lt k hk).1
theorem Tryz.infoTok : (Tryz.prog.info? 175).map (fun i => (i.zero, i.size, i.bytes)) = some (some (.agg #[.int .i64 0, .string ⟨#[]⟩, .int .i64 0]), 3, 32) := by kernel_rfl
/-- A token's cells. -/
def tc (t : Tok) : List Value := [.int .i64 (t.k : Int), .string t.x, .int .i64 (t.a : Int)]
def tsC (l : List Tok) : List Value := l.flatMap tc
theorem tsC_len (l : List Tok) : (tsC l).length = l.length * 3 := by
  induction l with
  | nil => rfl
  | cons t l ih => simp only [tsC, List.flatMap_cons, List.length_append, List.length_cons] at ih ⊢; rw [ih]; simp [tc]; omega
theorem tsC_snoc (l : List Tok) (t : Tok) : tsC (l ++ [t]) = tsC l ++ tc t := by simp [tsC]
theorem tsC_at (l : List Tok) (j : Nat) (t : Tok) (h : l[j]? = some t) : (tsC l)[j * 3]? = some (.int .i64 (t.k : Int)) ∧ (tsC l)[j * 3 + 1]? = some (.string t.x) ∧ (tsC l)[j * 3 + 2]? = some (.int .i64 (t.a : Int)) := by
  induction l generalizing j with
  | nil => cases h
  | cons u l ih =>
    cases j with
    | zero => simp at h; subst h; simp [tsC, tc]
    | succ j =>
      simp at h
      have := ih j h
      have e : tsC (u :: l) = tc u ++ tsC l := rfl
      rw [e, show (j + 1) * 3 = (tc u).length + j * 3 by simp [tc]; omega, show (tc u).length + j * 3 + 1 = (tc u).length + (j * 3 + 1) by omega, show (tc u).length + j * 3 + 2 = (tc u).length + (j * 3 + 2) by omega]
      simp only [List.getElem?_append_right (Nat.le_add_right _ _), Nat.add_sub_cancel_left]
      exact this
theorem tok_cell (t : Tok) : ∀ u ∈ tc t, u.oneCell' = true := by
  intro u hu
  simp [tc] at hu
  rcases hu with rfl | rfl | rfl <;> rfl
def RelT (s : ByteArray) (w : World) (v a : Value) (wr : World) : Prop :=
  ∃ (k : Nat) (l : List Tok), k ≤ s.size ∧ a = .int .i64 (k : Int) ∧ tks s = l ++ toks s k ∧ wr.ownsRow w.heap.size 175 3 v l.length (tsC l) ∧ Below w.heap.size w wr
set_option maxHeartbeats 1000000 in
set_option maxRecDepth 100000 in
theorem tokens_any (s : ByteArray) (w : World) (hs : s.size ≤ 1099511627776) :
    Calls Tryz.prog 81 #[.string s] w fun e w' => ∃ v, e = .returned v ∧ w'.ownsRow w.heap.size 175 3 v (tks s).length (tsC (tks s)) ∧ Below w.heap.size w w' := by
  obtain ⟨i0, hi, hz0, hz1, hz2⟩ := info_parts Tryz.infoTok
  have hs0 : s.size ≤ maxLen := by unfold maxLen; omega
  go_enter Tryz.func81, Tryz.ntmps81
  go_wp2_with (go_at_call 102; refine (skip_any s 0 _ hs0 (by omega)).mono ?_; rintro e w' ⟨rfl, hw'⟩; subst w')
  go_loopw [3, 4] (fun v a wr => RelT s w v a wr) (fun _ a _ => upS s a)
  case atStart => exact ⟨skE s false 0, [], skE_le s false 0 (by omega), rfl, rfl, World.ownsRow_nil _ _ _ _, Below.refl _ _⟩
  case round =>
    obtain ⟨k, l, hk, rfl, hl, hown, hbel⟩ := hrel
    have HL : Hid (tks s = l ++ toks s k) := hl
    clear hl
    have hlen : l.length ≤ s.size := by
      have := tks_len s
      rw [HL.out] at this
      simp at this
      omega
    have hsz := hbel.size
    by_cases hlt : k < s.size
    · have h1 := tnd_gt s k hlt
      have h2 := tnd_le s k hlt
      have hx : (s.extract k (tnd s k)).size ≤ 281474976710656 := by rw [ext_size]; omega
      have HE : Hid (toks s k = tok s k :: toks s (skE s false (tnd s k))) := toks_eq s k hlt
      have HS : Hid (tnd s k ≤ skE s false (tnd s k) ∧ skE s false (tnd s k) ≤ s.size) := ⟨skE_ge _ _ _, skE_le _ _ _ h2⟩
      go_wp2_with (first
        | (go_at_call 103; refine (read_any s k _ hs0 hlt).mono ?_; rintro e w' ⟨rfl, hw'⟩; subst w')
        | (go_at_call 102; refine (skip_any s _ _ hs0 h2).mono ?_; rintro e w' ⟨rfl, hw'⟩; subst w')
        | (go_at_call 104; refine (clone_any _ _ hx).mono ?_; rintro e w1 ⟨rfl, hb1⟩; have hown1 := own_below hown hb1; have hsz1 := hb1.size)
        | (at_builtin; refine wpList_append_own _ rfl (.tmp 19) (.tmp 28) 147 rfl w.heap.size 175 i0 _ 3 32 Tryz.underlying147 hi hz0 hz1 hz2 rfl (by decide) _ _ _ rfl (hown1.alloc _) ⟨w1.heap.size, 0, none⟩ 1 1 (tc (tok s k)) rfl rfl (World.news_of_block (heap_alloc_new w1 _)) (tok_cell _) (by unfold maxLen; omega) (by omega) (by simp; omega) ?_; intro v2 w2 hown2 hgrow2 _))
      go_roundw
      case rel =>
        refine ⟨skE s false (tnd s k), l ++ [tok s k], HS.out.2, rfl, by rw [HL.out, HE.out]; simp, by rw [tsC_snoc]; simpa using hown2, ?_⟩
        exact ((hbel.trans (hb1.mono (by omega))).alloc (by omega) _).grown hgrow2 (by simp; omega) (own_ge hown1)
      case measure => have := HS.out; simp [upS, intOf]; omega
    · go_wp2
      have e : tks s = l := by rw [HL.out, toks_out s k (by omega)]; simp
      go_ret
      exact ⟨_, rfl, by rw [e]; exact hown, hbel⟩
end Go.Proofs.YtfioihehhlpgcaaGreatDoor
namespace Go.Proofs.YtfioihehhlpgcaaGreatDoor
open Go.RowKit
def ownO : Obj := .cells #[.string ⟨#[102, 110]⟩, .string ⟨#[99, 104, 97, 110]⟩, .string ⟨#[108, 101, 116]⟩, .string ⟨#[105, 102]⟩, .string ⟨#[101, 108, 115, 101]⟩, .string ⟨#[119, 104, 105, 108, 101]⟩, .string ⟨#[115, 101, 110, 100]⟩, .string ⟨#[114, 101, 116, 117, 114, 110]⟩, .string ⟨#[115, 101, 110, 100, 115]⟩] 9
theorem own_cell (w : World) (j : Nat) (hj : j < 9) : (w.alloc ownO).cell? ⟨w.heap.size, j, none⟩ = some (.string (ownL.getD j ByteArray.empty)) := by
  have h := cell_of_row (w.alloc ownO) w.heap.size j _ 9 (0, 0) (heap_alloc_new w _)
  rw [h]
  have : j = 0 ∨ j = 1 ∨ j = 2 ∨ j = 3 ∨ j = 4 ∨ j = 5 ∨ j = 6 ∨ j = 7 ∨ j = 8 := by omega
  rcases this with rfl | rfl | rfl | rfl | rfl | rfl | rfl | rfl | rfl <;> rfl
set_option maxHeartbeats 1000000 in
set_option maxRecDepth 100000 in
theorem own_any (w : World) :
    Calls Tryz.prog 189 #[] w fun e w' => e = .returned (.slice (some ⟨w.heap.size, 0, none⟩) 9 9) ∧ w' = w.alloc ownO := by
  go_enter Tryz.func189, Tryz.ntmps189
  go_wp2
  go_ret
  exact ⟨rfl, rfl⟩
def RelI (zs : List ByteArray) (n : Nat) (x : ByteArray) (i : Value) : Prop := ∃ k : Nat, k ≤ n ∧ i = .int .i64 (k : Int) ∧ ∀ j, j < k → zs.getD j ByteArray.empty ≠ x
set_option maxHeartbeats 1000000 in
set_option maxRecDepth 100000 in
theorem indexS_any (b n c : Nat) (zs : List ByteArray) (x : ByteArray) (w : World) (hz : n ≤ zs.length) (hbig : n ≤ maxLen) (hc : ∀ j, j < n → w.cell? ⟨b, j, none⟩ = some (.string (zs.getD j ByteArray.empty))) :
    Calls Tryz.prog 199 #[.slice (some ⟨b, 0, none⟩) n c, .string x] w fun e w' => e = .returned (.int .i64 (Lib.idxOfS (zs.take n) x)) ∧ w' = w := by
  unfold maxLen at hbig
  go_enter Tryz.func199, Tryz.ntmps199
  go_wp2
  go_loop [5, 8] (fun _ i => RelI zs n x i) (fun _ i => upN n i)
  case atStart => exact ⟨0, Nat.zero_le _, rfl, fun j hj => absurd hj (Nat.not_lt_zero _)⟩
  case round =>
    obtain ⟨k, hk, rfl, hne⟩ := hrel
    by_cases hlt : k < n
    · have hcell := hc k hlt
      clear hc
      generalize hy : zs.getD k ByteArray.empty = y at hcell
      have HY : Hid (zs.getD k ByteArray.empty = y) := hy
      clear hy
      by_cases he : x = y
      · have hb : (x.toList == y.toList) = true := (Lib.bytes_beq_iff _ _).2 he
        go_wp2
        go_ret
        subst he
        exact ⟨ret_int (Lib.idxOfS_hit zs n k x hlt hz HY.out hne).symm, rfl⟩
      · have hb : (x.toList == y.toList) = false := (Lib.bytes_beq_false_iff _ _).2 he
        have HN : Hid (¬ x = y) := he
        clear he
        go_wp2
        go_round
        case rel =>
          refine ⟨k + 1, by omega, by go_num, fun j hj => ?_⟩
          by_cases e : j = k
          · subst e; rw [HY.out]; exact fun h => HN.out h.symm
          · exact hne j (by omega)
        case measure => simp [upN, intOf]; omega
    · have hkn : k = n := by omega
      subst hkn
      go_wp2
      go_ret
      exact ⟨ret_int (Lib.idxOfS_miss zs k x hne).symm, rfl⟩
set_option maxHeartbeats 1000000 in
set_option maxRecDepth 100000 in
theorem containsS_any (b n c : Nat) (zs : List ByteArray) (x : ByteArray) (w : World) (hz : n ≤ zs.length) (hbig : n ≤ maxLen) (hc : ∀ j, j < n → w.cell? ⟨b, j, none⟩ = some (.string (zs.getD j ByteArray.empty))) :
    Calls Tryz.prog 188 #[.slice (some ⟨b, 0, none⟩) n c, .string x] w fun e w' => e = .returned (.bool (Lib.containsS (zs.take n) x)) ∧ w' = w := by
  unfold Lib.containsS
  go_enter Tryz.func188, Tryz.ntmps188
  go_wp2_with (go_at_call 199; refine (indexS_any b n c zs x _ hz hbig hc).mono ?_; rintro e w' ⟨rfl, hw'⟩; subst w')
  go_ret
  exact ⟨rfl, rfl⟩

theorem list_ne (s : ByteArray) (h : 0 < s.size) : s.toList ≠ [] := by
  rw [Lib.toList_data]
  intro e
  rw [Lib.size_eq, e] at h
  exact absurd h (Nat.lt_irrefl _)
theorem list_isE (s : ByteArray) (h : 0 < s.size) : s.toList.isEmpty = false := by
  have := list_ne s h
  cases hl : s.toList with
  | nil => exact absurd hl this
  | cons a l => rfl
set_option maxHeartbeats 1000000 in
set_option maxRecDepth 100000 in
theorem word_any (s : ByteArray) (w : World) (hs : s.size ≤ maxLen) :
    Calls Tryz.prog 187 #[.string s] w fun e w' => e = .returned (.bool (wdB s)) ∧ w' = w := by
  have hs0 : s.size ≤ maxLen := hs
  unfold maxLen at hs
  go_enter Tryz.func187, Tryz.ntmps187
  by_cases h0 : 0 < s.size
  · have HG : Hid (byt s 0 = (s[0]'h0).toNat) := byt_get s 0 h0
    have hE := list_isE s h0
    have hE2 := list_ne s h0
    by_cases h12 : s.size ≤ 12
    · by_cases hl : ltr ((s[0]'h0).toNat) = true
      · have hb : ((spE wrd s 0 : Int) == (s.size : Int)) = decide (spE wrd s 0 = s.size) := by rw [Bool.eq_iff_iff]; simp; omega
        have HB : Hid (((spE wrd s 0 : Int) == (s.size : Int)) = decide (spE wrd s 0 = s.size)) := hb
        clear hb
        go_wp2_with (first
          | (go_at_call 139; refine (letter_any _ _).mono ?_; rintro e w' ⟨rfl, hw'⟩; subst w')
          | (go_at_call 140; refine (wordEnd_any s 0 _ hs0 (by omega)).mono ?_; rintro e w' ⟨rfl, hw'⟩; subst w'))
        go_ret
        refine ⟨ret_bool ?_, rfl⟩
        unfold wdB
        rw [HG.out, hl]
        first | rw [HB.out] | simp only [HB.out]
        simp [h0, h12]
      · go_wp2_with (go_at_call 139; refine (letter_any _ _).mono ?_; rintro e w' ⟨rfl, hw'⟩; subst w')
        go_ret
        refine ⟨ret_bool ?_, rfl⟩
        unfold wdB
        rw [HG.out]
        simp [hl]
    · go_wp2
      go_ret
      refine ⟨ret_bool ?_, rfl⟩
      unfold wdB
      simp [h12]
  · have hE : s = ⟨#[]⟩ := ByteArray.ext (Array.eq_empty_of_size_eq_zero (by simpa using h0))
    subst hE
    go_wp2
    go_ret
    exact ⟨rfl, rfl⟩
set_option maxHeartbeats 1000000 in
set_option maxRecDepth 100000 in
theorem name_any (s : ByteArray) (w : World) (hs : s.size ≤ maxLen) :
    Calls Tryz.prog 169 #[.string s] w fun e w' => e = .returned (.bool (nmB s)) ∧ Below w.heap.size w w' := by
  go_enter Tryz.func169, Tryz.ntmps169
  have hw : ∀ W : World, Calls Tryz.prog 188 #[.slice (some ⟨W.heap.size, 0, none⟩) 9 9, .string s] (W.alloc ownO) fun e w' => e = .returned (.bool (Lib.containsS ownL s)) ∧ w' = W.alloc ownO :=
    fun W => containsS_any W.heap.size 9 9 ownL s (W.alloc ownO) (by decide) (by decide) (fun j hj => own_cell W j hj)
  by_cases h : wdB s = true
  · go_wp2_with (first
      | (go_at_call 187; refine (word_any s _ hs).mono ?_; rintro e w' ⟨rfl, hw'⟩; subst w')
      | (go_at_call 189; refine (own_any _).mono ?_; rintro e w' ⟨rfl, hw'⟩; subst w')
      | (go_at_call 188; refine (hw _).mono ?_; rintro e w' ⟨rfl, hw'⟩; subst w'))
    go_ret
    exact ⟨ret_bool (by unfold nmB; rw [h]; simp), (Below.refl _ _).alloc (Nat.le_refl _) _⟩
  · have h' : wdB s = false := by simpa using h
    go_wp2_with (go_at_call 187; refine (word_any s _ hs).mono ?_; rintro e w' ⟨rfl, hw'⟩; subst w')
    go_ret
    exact ⟨ret_bool (by unfold nmB; rw [h']; simp), Below.refl _ _⟩
end Go.Proofs.YtfioihehhlpgcaaGreatDoor

namespace Go.Proofs.YtfioihehhlpgcaaGreatDoor
open Go.RowKit
/-- Tokens in memory, as a slice's cells from a place on. -/
def TokAt (w : World) (g o : Nat) (l : List Tok) : Prop := ∀ j t, l[j]? = some t → w.cell? ⟨g, o + j * 3, none⟩ = some (.int .i64 (t.k : Int)) ∧ w.cell? ⟨g, o + j * 3 + 1, none⟩ = some (.string t.x) ∧ w.cell? ⟨g, o + j * 3 + 2, none⟩ = some (.int .i64 (t.a : Int))
theorem own_toks {w : World} {base : Nat} {v : Value} {l : List Tok} (h : w.ownsRow base 175 3 v l.length (tsC l)) (hl : 0 < l.length) :
    ∃ g cap, v = .slice (some ⟨g, 0, none⟩) l.length cap ∧ base ≤ g ∧ g < w.heap.size ∧ l.length ≤ cap ∧ TokAt w g 0 l := by
  have hc : ∀ g, v.ownBlock = some g → ∀ j u, (tsC l)[j]? = some u → w.cell? ((⟨g, 0, none⟩ : Addr).add j) = some u := fun g hg => h.cells hg
  obtain ⟨_, ⟨_, h0⟩ | ⟨g, cap, cur, rfl, hb, hg, hcap, _⟩⟩ := h
  · omega
  · refine ⟨g, cap, rfl, hb, (Array.getElem?_eq_some_iff.1 hg).1, hcap, fun j t ht => ?_⟩
    have h3 := tsC_at l j t ht
    have hc := hc g rfl
    have e : ∀ i, (⟨g, 0, none⟩ : Addr).add i = ⟨g, i, none⟩ := by intro i; simp only [Addr.add, Nat.zero_add]; split <;> simp_all
    have c0 := hc _ _ h3.1
    have c1 := hc _ _ h3.2.1
    have c2 := hc _ _ h3.2.2
    rw [e] at c0 c1 c2
    rw [Nat.zero_add]
    exact ⟨c0, c1, c2⟩
theorem TokAt.below {w w1 : World} {g o : Nat} {l : List Tok} (h : TokAt w g o l) {B : Nat} (hb : Below B w w1) (hg : g < B) : TokAt w1 g o l := by
  intro j t ht
  have := h j t ht
  rw [hb.cell (p := ⟨g, o + j * 3, none⟩) hg, hb.cell (p := ⟨g, o + j * 3 + 1, none⟩) hg, hb.cell (p := ⟨g, o + j * 3 + 2, none⟩) hg]
  exact this
def intC (l : List Nat) : List Value := l.map fun (c : Nat) => Value.int .i64 (c : Int)
theorem bne_of (x y : ByteArray) (h : x ≠ y) : (x.toList == y.data.toList) = false := by
  have := (Lib.bytes_beq_false_iff x y).2 h
  rw [Lib.toList_data y] at this
  exact this
set_option maxHeartbeats 1000000 in
set_option maxRecDepth 100000 in
theorem opens_any (x : ByteArray) (w : World) :
    Calls Tryz.prog 101 #[.string x] w fun e w' => e = .returned (.bool (opn x)) ∧ w' = w := by
  go_enter Tryz.func101, Tryz.ntmps101
  by_cases h1 : x = ⟨#[102, 110]⟩
  · subst h1
    go_wp2
    go_ret
    exact ⟨rfl, rfl⟩
  · have b1 : (x.toList == [102, 110]) = false := bne_of x ⟨#[102, 110]⟩ h1
    by_cases h2 : x = ⟨#[99, 104, 97, 110]⟩
    · subst h2
      go_wp2
      go_ret
      exact ⟨rfl, rfl⟩
    · have b2 : (x.toList == [99, 104, 97, 110]) = false := bne_of x ⟨#[99, 104, 97, 110]⟩ h2
      have e1 : ¬ x.toList = [102, 110] := fun h => by rw [h] at b1; simp at b1
      go_wp2
      go_ret
      exact ⟨ret_bool (by unfold opn; simp [h1, h2]), rfl⟩
theorem news2 (w : World) (o : Obj) (cs : Array Value) (t : TypeId) : ∀ j u, cs.toList[j]? = some u → ((w.alloc o).alloc (.cells cs t)).cell? ((⟨w.heap.size + 1, 0, none⟩ : Addr).add j) = some u := by
  have := World.news_of_block (heap_alloc_new (w.alloc o) (.cells cs t))
  simpa using this
theorem own_base {w : World} {base base' size n : Nat} {e : TypeId} {v : Value} {xs : List Value} (h : w.ownsRow base e size v n xs) (hb : base' ≤ base) : w.ownsRow base' e size v n xs := by
  refine ⟨h.1, ?_⟩
  rcases h.2 with h | ⟨g, cap, cur, rfl, h1, h2⟩
  · exact .inl h
  · exact .inr ⟨g, cap, cur, rfl, Nat.le_trans hb h1, h2⟩
theorem own_len {w : World} {base size n : Nat} {e : TypeId} {v : Value} {xs : List Value} (h : w.ownsRow base e size v n xs) : ∃ p cap, v = .slice p n cap := by
  rcases h.2 with ⟨rfl, rfl⟩ | ⟨g, cap, cur, rfl, _⟩
  · exact ⟨_, _, rfl⟩
  · exact ⟨_, _, rfl⟩
theorem Tryz.infoInt : (Tryz.prog.info? 3).map (fun i => (i.zero, i.size, i.bytes)) = some (some (.int .i64 0), 1, 8) := by kernel_rfl
def RelC (s : ByteArray) (wt : World) (v i : Value) (wr : World) : Prop :=
  ∃ k : Nat, k ≤ (tks s).length ∧ i = .int .i64 (k : Int) ∧ wr.ownsRow wt.heap.size 3 1 v (cutK s (tks s) k).length (intC (cutK s (tks s) k)) ∧ Below wt.heap.size wt wr
set_option maxHeartbeats 1000000 in
set_option maxRecDepth 100000 in
theorem cuts_any (s : ByteArray) (w : World) (hs : s.size ≤ 1099511627776) :
    Calls Tryz.prog 80 #[.string s] w fun e w' => ∃ v, e = .returned v ∧ w'.ownsRow w.heap.size 3 1 v (cts s).length (intC (cts s)) ∧ Below w.heap.size w w' := by
  obtain ⟨i0, hi, hz0, hz1, hz2⟩ := info_parts Tryz.infoInt
  have hs0 : s.size ≤ maxLen := by unfold maxLen; omega
  go_enter Tryz.func80, Tryz.ntmps80
  by_cases hn : (tks s).length = 0
  · have he : tks s = [] := List.length_eq_zero_iff.1 hn
    have HC : Hid (cts s = []) := by show cts s = []; unfold cts; rw [he]; rfl
    clear he
    go_wp2_with (go_at_call 81; refine (tokens_any s _ hs).mono ?_; rintro e wt ⟨v, rfl, hown, hbt⟩; obtain ⟨p, cap, rfl⟩ := own_len hown)
    go_loopw [3, 9] (fun v i wr => v = .slice none 0 0 ∧ i = .int .i64 0 ∧ wr = wt) (fun _ i _ => 0)
    case atStart => exact ⟨rfl, rfl, rfl⟩
    case round =>
      obtain ⟨rfl, rfl, rfl⟩ := hrel
      go_wp2
      go_ret
      exact ⟨_, rfl, by rw [HC.out]; exact World.ownsRow_nil _ _ _ _, hbt⟩
  · have hn' : 0 < (tks s).length := by omega
    go_wp2_with (go_at_call 81; refine (tokens_any s _ hs).mono ?_; rintro e wt ⟨v, rfl, hown, hbt⟩; obtain ⟨g, cap, rfl, hg1, hg2, hcap, htok⟩ := own_toks hown hn')
    go_loopw [3, 9] (fun v i wr => RelC s wt v i wr) (fun _ i _ => upN (tks s).length i)
    case atStart => exact ⟨0, Nat.zero_le _, rfl, World.ownsRow_nil _ _ _ _, Below.refl _ _⟩
    case round =>
      obtain ⟨k, hk, rfl, hown1, hbel⟩ := hrel
      have hsz := hbel.size
      by_cases hlt : k < (tks s).length
      · obtain ⟨t, ht⟩ : ∃ t, (tks s)[k]? = some t := ⟨_, List.getElem?_eq_getElem hlt⟩
        have ⟨c0, c1, c2⟩ := htok.below hbel hg2 k t ht
        rw [Nat.zero_add] at c0 c1 c2
        obtain ⟨tk, tx, ta⟩ := t
        have hta : skE s false 0 + k ≤ ta ∧ ta < s.size := by have := tok_at s (skE s false 0) k _ ht; exact ⟨this.1, this.2.1⟩
        have hcl := cutK_len s (tks s) k
        have hll := tks_len s
        have HT : Hid ((tks s)[k]? = some ⟨tk, tx, ta⟩) := ht
        have HC : Hid ((cutK s (tks s) k).length ≤ k ∧ (tks s).length ≤ s.size) := ⟨hcl, hll⟩
        clear ht hcl hll
        simp only at c0 c1 c2
        have hlen : (cutK s (tks s) k).length ≤ 1099511627776 := by have := HC.out; omega
        by_cases hk0 : k = 0
        · have HE : Hid (cutK s (tks s) (k + 1) = cutK s (tks s) k ++ [ta]) := cutK_yes s _ k _ HT.out (by simp [cutB, hk0])
          have hb0 : ((k : Int) == 0) = true := by simp [hk0]
          have HK : Hid (k = 0) := hk0
          clear hk0
          go_wp2_with (first
            | (at_builtin; refine wpList_append_own _ rfl (.tmp 29) (.tmp 32) 48 rfl wt.heap.size 3 i0 _ 1 8 Tryz.underlying48 hi hz0 hz1 hz2 rfl (by decide) _ _ _ rfl ((hown1.alloc _).alloc _) ⟨wr.heap.size + 1, 0, none⟩ 1 1 [.int .i64 ((ta : Int))] rfl rfl (news2 _ _ _ _) (by intro u hu; simp at hu; subst hu; rfl) (by unfold maxLen; omega) (by omega) (by simp; omega) ?_; intro v2 w2 hown2 hgrow2 _))
          go_roundw
          case rel => exact ⟨k + 1, by omega, by go_num, by rw [HE.out]; simpa [intC] using hown2, ((hbel.alloc (by omega) _).alloc (by simp; omega) _).grown hgrow2 (by simp; omega) (own_ge hown1)⟩
          case measure => simp [upN, intOf]; omega
        · obtain ⟨b, rfl⟩ : ∃ b, ta = b + 1 := ⟨ta - 1, by omega⟩
          have hb : b < s.size := by omega
          have HG : Hid (byt s b = (s[b]'hb).toNat) := byt_get s b hb
          by_cases ho : opn tx = true
          · by_cases h10 : (s[b]'hb).toNat = 10
            · have HE : Hid (cutK s (tks s) (k + 1) = cutK s (tks s) k ++ [b + 1]) := cutK_yes s _ k _ HT.out (by simp [cutB, ho, HG.out, h10])
              go_wp2_with (first
                | (go_at_call 101; refine (opens_any _ _).mono ?_; rintro e w' ⟨rfl, hw'⟩; subst w')
                | (at_builtin; refine wpList_append_own _ rfl (.tmp 29) (.tmp 32) 48 rfl wt.heap.size 3 i0 _ 1 8 Tryz.underlying48 hi hz0 hz1 hz2 rfl (by decide) _ _ _ rfl ((hown1.alloc _).alloc _) ⟨wr.heap.size + 1, 0, none⟩ 1 1 [.int .i64 (((b : Int) + 1))] rfl rfl (news2 _ _ _ _) (by intro u hu; simp at hu; subst hu; rfl) (by unfold maxLen; omega) (by omega) (by simp; omega) ?_; intro v2 w2 hown2 hgrow2 _))
              go_roundw
              case rel => exact ⟨k + 1, by omega, by go_num, by rw [HE.out]; simpa [intC] using hown2, ((hbel.alloc (by omega) _).alloc (by simp; omega) _).grown hgrow2 (by simp; omega) (own_ge hown1)⟩
              case measure => simp [upN, intOf]; omega
            · have HE : Hid (cutK s (tks s) (k + 1) = cutK s (tks s) k) := cutK_no s _ k _ HT.out (by simp [cutB, ho, HG.out, h10, hk0])
              have hb10 : (((s[b]'hb).toNat : Int) == 10) = false := by simp; omega
              have HN : Hid (¬ (s[b]'hb).toNat = 10) := h10
              clear h10
              go_wp2_with (first
                | (go_at_call 101; refine (opens_any _ _).mono ?_; rintro e w' ⟨rfl, hw'⟩; subst w'))
              go_roundw
              case rel => exact ⟨k + 1, by omega, by go_num, by rw [HE.out]; exact hown1.alloc _, hbel.alloc (by omega) _⟩
              case measure => simp [upN, intOf]; omega
          · have ho' : opn tx = false := by simpa using ho
            have HE : Hid (cutK s (tks s) (k + 1) = cutK s (tks s) k) := cutK_no s _ k _ HT.out (by simp [cutB, ho', hk0])
            clear ho
            go_wp2_with (first
              | (go_at_call 101; refine (opens_any _ _).mono ?_; rintro e w' ⟨rfl, hw'⟩; subst w'))
            go_roundw
            case rel => exact ⟨k + 1, by omega, by go_num, by rw [HE.out]; exact hown1.alloc _, hbel.alloc (by omega) _⟩
            case measure => simp [upN, intOf]; omega
      · have hkn : k = (tks s).length := by omega
        subst hkn
        go_wp2
        go_ret
        exact ⟨_, rfl, own_base hown1 hbt.size, hbt.trans (hbel.mono hbt.size)⟩
end Go.Proofs.YtfioihehhlpgcaaGreatDoor
namespace Go.Proofs.YtfioihehhlpgcaaGreatDoor
open Go.RowKit
/-- Tokens, as their reader meets them: a slice of so many, and where they lie if there are any. -/
theorem tokens_read (s : ByteArray) (w : World) (hs : s.size ≤ 1099511627776) :
    Calls Tryz.prog 81 #[.string s] w fun e w' => ∃ p cap, e = .returned (.slice p (tks s).length cap) ∧ (tks s).length ≤ cap ∧ (0 < (tks s).length → ∃ g, p = some ⟨g, 0, none⟩ ∧ w.heap.size ≤ g ∧ g < w'.heap.size ∧ TokAt w' g 0 (tks s)) ∧ Below w.heap.size w w' := by
  refine (tokens_any s w hs).mono ?_
  rintro e w' ⟨v, rfl, hown, hb⟩
  by_cases hn : 0 < (tks s).length
  · obtain ⟨g, cap, rfl, h1, h2, h3, h4⟩ := own_toks hown hn
    exact ⟨_, cap, rfl, h3, fun _ => ⟨g, rfl, h1, h2, h4⟩, hb⟩
  · obtain ⟨p, cap, rfl⟩ := own_len hown
    exact ⟨p, cap, rfl, by omega, fun h => absurd h hn, hb⟩
end Go.Proofs.YtfioihehhlpgcaaGreatDoor

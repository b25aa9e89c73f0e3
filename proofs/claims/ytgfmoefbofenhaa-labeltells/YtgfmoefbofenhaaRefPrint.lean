/- The document's Print. -/
import Derived.Test.YtgfmoefbofenhaaRefBits
import Derived.Test.YtgfmoefbofenhaaPrint
import Derived.Lib.Strings
namespace Go.Proofs.Ytgfmoefbofenhaa
open Go.RowKit
def RelP (n : Nat) (s i : Value) : Prop := ∃ k : Nat, k ≤ 8 ∧ i = .int .i64 (k : Int) ∧ s = .string (bytesOf (prL n k).tail)
def up8 (i : Value) : Nat := 8 - (intOf i).toNat
theorem arr0 (x0 x1 x2 x3 x4 x5 x6 x7 : Value) (w : World) : (Instr.index 26 (.agg #[x0, x1, x2, x3, x4, x5, x6, x7]) (.int .i64 0)).run Try.prog w = .ok x0 w := by kernel_rfl
theorem arr1 (x0 x1 x2 x3 x4 x5 x6 x7 : Value) (w : World) : (Instr.index 26 (.agg #[x0, x1, x2, x3, x4, x5, x6, x7]) (.int .i64 1)).run Try.prog w = .ok x1 w := by kernel_rfl
theorem arr2 (x0 x1 x2 x3 x4 x5 x6 x7 : Value) (w : World) : (Instr.index 26 (.agg #[x0, x1, x2, x3, x4, x5, x6, x7]) (.int .i64 2)).run Try.prog w = .ok x2 w := by kernel_rfl
theorem arr3 (x0 x1 x2 x3 x4 x5 x6 x7 : Value) (w : World) : (Instr.index 26 (.agg #[x0, x1, x2, x3, x4, x5, x6, x7]) (.int .i64 3)).run Try.prog w = .ok x3 w := by kernel_rfl
theorem arr4 (x0 x1 x2 x3 x4 x5 x6 x7 : Value) (w : World) : (Instr.index 26 (.agg #[x0, x1, x2, x3, x4, x5, x6, x7]) (.int .i64 4)).run Try.prog w = .ok x4 w := by kernel_rfl
theorem arr5 (x0 x1 x2 x3 x4 x5 x6 x7 : Value) (w : World) : (Instr.index 26 (.agg #[x0, x1, x2, x3, x4, x5, x6, x7]) (.int .i64 5)).run Try.prog w = .ok x5 w := by kernel_rfl
theorem arr6 (x0 x1 x2 x3 x4 x5 x6 x7 : Value) (w : World) : (Instr.index 26 (.agg #[x0, x1, x2, x3, x4, x5, x6, x7]) (.int .i64 6)).run Try.prog w = .ok x6 w := by kernel_rfl
theorem arr7 (x0 x1 x2 x3 x4 x5 x6 x7 : Value) (w : World) : (Instr.index 26 (.agg #[x0, x1, x2, x3, x4, x5, x6, x7]) (.int .i64 7)).run Try.prog w = .ok x7 w := by kernel_rfl
theorem bytes_app (a b : List Nat) : bytesOf a ++ bytesOf b = bytesOf (a ++ b) := by
  apply ByteArray.ext
  rw [ByteArray.data_append]
  simp [bytesOf]
theorem letter : ∀ k, k < 8 → (⟨#[97, 98, 99, 100, 101, 102, 103, 104]⟩ : ByteArray).extract k (k + 1) = bytesOf [97 + k] := by decide +kernel
theorem prL_head (n k : Nat) : prL n k = 123 :: (prL n k).tail := by
  induction k with
  | zero => rfl
  | succ k ih =>
    conv => lhs; unfold prL
    conv => rhs; unfold prL
    split
    · exact ih
    · split
      · rw [ih]; rfl
      · rw [ih]; rfl
theorem tail_app (n k : Nat) (l : List Nat) : (prL n k ++ l).tail = (prL n k).tail ++ l := by
  rw [prL_head]; rfl
theorem bytes_size (l : List Nat) : (bytesOf l).size = l.length := by simp [bytesOf, ByteArray.size]
theorem tail_size (n k : Nat) : (bytesOf (prL n k).tail).size + 1 = (prL n k).length := by
  rw [bytes_size]
  conv => rhs; rw [prL_head]
  simp
theorem tail_empty (n k : Nat) : (bytesOf (prL n k).tail).toList.isEmpty = decide (¬ 1 < (prL n k).length) := by
  have h := tail_size n k
  rw [Lib.toList_data, Bool.eq_iff_iff, List.isEmpty_iff_length_eq_zero]
  have e : (bytesOf (prL n k).tail).data.toList.length = (bytesOf (prL n k).tail).size := rfl
  rw [e, decide_eq_true_iff]
  omega
theorem bt_no {n k : Nat} (h : bt n k = false) : n / 2 ^ k % 2 = 0 := by
  unfold bt at h
  have : ¬ n / 2 ^ k % 2 = 1 := by simpa using h
  omega
theorem bt_yes {n k : Nat} (h : bt n k = true) : ¬ n / 2 ^ k % 2 = 0 := by
  unfold bt at h
  have : n / 2 ^ k % 2 = 1 := by simpa using h
  omega
theorem relP_no {n k : Nat} {t : ByteArray} (ht : bytesOf (prL n k).tail = t) (h : bt n k = false) (hk : k < 8) : RelP n (.string t) (.int .i64 ((k + 1 : Nat) : Int)) :=
  ⟨k + 1, by omega, rfl, by rw [prL_no n k (bt_no h), ht]⟩
theorem relP_one {n k : Nat} {t : ByteArray} (ht : bytesOf (prL n k).tail = t) (h : bt n k = true) (hk : k < 8) (h1 : ¬ 1 < (prL n k).length) :
    RelP n (.string (t ++ (⟨#[97, 98, 99, 100, 101, 102, 103, 104]⟩ : ByteArray).extract k (k + 1))) (.int .i64 ((k + 1 : Nat) : Int)) :=
  ⟨k + 1, by omega, rfl, by rw [prL_one n k (bt_yes h) h1, tail_app, ← bytes_app, ht, letter k hk]⟩
theorem relP_two {n k : Nat} {t : ByteArray} (ht : bytesOf (prL n k).tail = t) (h : bt n k = true) (hk : k < 8) (h1 : 1 < (prL n k).length) :
    RelP n (.string (t ++ (⟨#[44]⟩ : ByteArray) ++ (⟨#[97, 98, 99, 100, 101, 102, 103, 104]⟩ : ByteArray).extract k (k + 1))) (.int .i64 ((k + 1 : Nat) : Int)) :=
  ⟨k + 1, by omega, rfl, by
    rw [prL_two n k (bt_yes h) h1, List.append_assoc, tail_app, ← List.append_assoc, ← bytes_app, ← bytes_app, ht, letter k hk]; rfl⟩
theorem p_end {n : Nat} {t : ByteArray} (ht : bytesOf (prL n 8).tail = t) : (⟨#[123]⟩ : ByteArray) ++ t ++ (⟨#[125]⟩ : ByteArray) = prS n := by
  have e1 : (⟨#[123]⟩ : ByteArray) = bytesOf [123] := rfl
  have e2 : (⟨#[125]⟩ : ByteArray) = bytesOf [125] := rfl
  rw [e1, e2, ← ht, bytes_app, bytes_app]
  unfold prS
  conv => rhs; rw [prL_head]
  rfl
theorem ret_str {a b : ByteArray} (h : a = b) : Ending.returned (.string a) = .returned (.string b) := by rw [h]
set_option maxHeartbeats 8000000 in
theorem rprint_any (n : Nat) (w : World) (hn : n < 256) :
    Calls Try.prog 17 #[.int .i64 (n : Int)] w fun e w' => e = .returned (.string (prS n)) ∧ Below w.heap.size w w' := by
  go_enter Try.func17, Try.ntmps17
  go_wp2_with (go_at_call 9; refine (bits_any _ _ (by assumption)).mono ?_; rintro e w1 ⟨rfl, hb1⟩)
  go_loop [3, 8] (fun s i => RelP n s i) (fun _ i => up8 i)
  case atStart => exact ⟨0, by omega, rfl, rfl⟩
  case round =>
    obtain ⟨k, hk, rfl, rfl⟩ := hrel
    have hts := tail_size n k
    have hle := prL_len n k
    have hem := tail_empty n k
    obtain ⟨t, ht⟩ : ∃ t, bytesOf (prL n k).tail = t := ⟨_, rfl⟩
    rw [ht] at hts hem ⊢
    have htl : t.size ≤ 16 := by omega
    have HT : Hid (bytesOf (prL n k).tail = t) := ht
    clear ht hts hle
    by_cases hlt : k < 8
    · cases hx : bt n k
      · have HR : Hid (RelP n (.string t) (.int .i64 ((k + 1 : Nat) : Int))) := relP_no HT.out hx hlt
        clear hem
        rcases to_eight hlt with rfl | rfl | rfl | rfl | rfl | rfl | rfl | rfl
        · have ax := arr0
          go_wp2
          exact ⟨HR.out, by simp [up8, intOf]⟩
        · have ax := arr1
          go_wp2
          exact ⟨HR.out, by simp [up8, intOf]⟩
        · have ax := arr2
          go_wp2
          exact ⟨HR.out, by simp [up8, intOf]⟩
        · have ax := arr3
          go_wp2
          exact ⟨HR.out, by simp [up8, intOf]⟩
        · have ax := arr4
          go_wp2
          exact ⟨HR.out, by simp [up8, intOf]⟩
        · have ax := arr5
          go_wp2
          exact ⟨HR.out, by simp [up8, intOf]⟩
        · have ax := arr6
          go_wp2
          exact ⟨HR.out, by simp [up8, intOf]⟩
        · have ax := arr7
          go_wp2
          exact ⟨HR.out, by simp [up8, intOf]⟩
      · by_cases h1 : 1 < (prL n k).length
        · have hem1 : t.toList.isEmpty = false := by rw [hem]; simpa using h1
          have HR : Hid (RelP n (.string (t ++ (⟨#[44]⟩ : ByteArray) ++ (⟨#[97, 98, 99, 100, 101, 102, 103, 104]⟩ : ByteArray).extract k (k + 1))) (.int .i64 ((k + 1 : Nat) : Int))) := relP_two HT.out hx hlt h1
          clear hem h1
          rcases to_eight hlt with rfl | rfl | rfl | rfl | rfl | rfl | rfl | rfl
          · have ax := arr0
            go_wp2
            exact ⟨HR.out, by simp [up8, intOf]⟩
          · have ax := arr1
            go_wp2
            exact ⟨HR.out, by simp [up8, intOf]⟩
          · have ax := arr2
            go_wp2
            exact ⟨HR.out, by simp [up8, intOf]⟩
          · have ax := arr3
            go_wp2
            exact ⟨HR.out, by simp [up8, intOf]⟩
          · have ax := arr4
            go_wp2
            exact ⟨HR.out, by simp [up8, intOf]⟩
          · have ax := arr5
            go_wp2
            exact ⟨HR.out, by simp [up8, intOf]⟩
          · have ax := arr6
            go_wp2
            exact ⟨HR.out, by simp [up8, intOf]⟩
          · have ax := arr7
            go_wp2
            exact ⟨HR.out, by simp [up8, intOf]⟩
        · have hem1 : t.toList.isEmpty = true := by rw [hem]; simpa using h1
          have HR : Hid (RelP n (.string (t ++ (⟨#[97, 98, 99, 100, 101, 102, 103, 104]⟩ : ByteArray).extract k (k + 1))) (.int .i64 ((k + 1 : Nat) : Int))) := relP_one HT.out hx hlt h1
          clear hem h1
          rcases to_eight hlt with rfl | rfl | rfl | rfl | rfl | rfl | rfl | rfl
          · have ax := arr0
            go_wp2
            exact ⟨HR.out, by simp [up8, intOf]⟩
          · have ax := arr1
            go_wp2
            exact ⟨HR.out, by simp [up8, intOf]⟩
          · have ax := arr2
            go_wp2
            exact ⟨HR.out, by simp [up8, intOf]⟩
          · have ax := arr3
            go_wp2
            exact ⟨HR.out, by simp [up8, intOf]⟩
          · have ax := arr4
            go_wp2
            exact ⟨HR.out, by simp [up8, intOf]⟩
          · have ax := arr5
            go_wp2
            exact ⟨HR.out, by simp [up8, intOf]⟩
          · have ax := arr6
            go_wp2
            exact ⟨HR.out, by simp [up8, intOf]⟩
          · have ax := arr7
            go_wp2
            exact ⟨HR.out, by simp [up8, intOf]⟩
    · have h8 : k = 8 := by omega
      subst h8
      have HP : Hid ((⟨#[123]⟩ : ByteArray) ++ t ++ (⟨#[125]⟩ : ByteArray) = prS n) := p_end HT.out
      clear hem
      go_wp2
      go_ret
      exact ⟨ret_str HP.out, hb1⟩
end Go.Proofs.Ytgfmoefbofenhaa

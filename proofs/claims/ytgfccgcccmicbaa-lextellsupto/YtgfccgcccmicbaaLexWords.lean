/- Word, Own and Name: what each call answers. -/
import Derived.Test.YtgfccgcccmicbaaLexTokens
import Derived.Lib.SlicesS
namespace Go.Proofs.Ytgfccgcccmicbaa
open Go.RowKit
/-- The language's own words. -/
def ownL : List ByteArray := [⟨#[102, 110]⟩, ⟨#[99, 104, 97, 110]⟩, ⟨#[108, 101, 116]⟩, ⟨#[105, 102]⟩, ⟨#[101, 108, 115, 101]⟩, ⟨#[119, 104, 105, 108, 101]⟩, ⟨#[115, 101, 110, 100]⟩, ⟨#[114, 101, 116, 117, 114, 110]⟩, ⟨#[115, 101, 110, 100, 115]⟩]
def ownO : Obj := .cells #[.string ⟨#[102, 110]⟩, .string ⟨#[99, 104, 97, 110]⟩, .string ⟨#[108, 101, 116]⟩, .string ⟨#[105, 102]⟩, .string ⟨#[101, 108, 115, 101]⟩, .string ⟨#[119, 104, 105, 108, 101]⟩, .string ⟨#[115, 101, 110, 100]⟩, .string ⟨#[114, 101, 116, 117, 114, 110]⟩, .string ⟨#[115, 101, 110, 100, 115]⟩] 9
theorem own_cell (w : World) (j : Nat) (hj : j < 9) : (w.alloc ownO).cell? ⟨w.heap.size, j, none⟩ = some (.string (ownL.getD j ByteArray.empty)) := by
  have h := cell_of_row (w.alloc ownO) w.heap.size j _ 9 (0, 0) (heap_alloc_new w _)
  rw [h]
  have : j = 0 ∨ j = 1 ∨ j = 2 ∨ j = 3 ∨ j = 4 ∨ j = 5 ∨ j = 6 ∨ j = 7 ∨ j = 8 := by omega
  rcases this with rfl | rfl | rfl | rfl | rfl | rfl | rfl | rfl | rfl <;> rfl
set_option maxHeartbeats 1000000 in
theorem own_any (w : World) :
    Calls Try.prog 31 #[] w fun e w' => e = .returned (.slice (some ⟨w.heap.size, 0, none⟩) 9 9) ∧ w' = w.alloc ownO := by
  go_enter Try.func31, Try.ntmps31
  go_wp2
  go_ret
  exact ⟨rfl, rfl⟩
set_option maxHeartbeats 1000000 in
theorem refOwn_any (w : World) :
    Calls Try.prog 32 #[] w fun e w' => e = .returned (.slice (some ⟨w.heap.size, 0, none⟩) 9 9) ∧ w' = w.alloc ownO := by
  go_enter Try.func32, Try.ntmps32
  go_wp2
  go_ret
  exact ⟨rfl, rfl⟩
def RelI (zs : List ByteArray) (n : Nat) (x : ByteArray) (i : Value) : Prop := ∃ k : Nat, k ≤ n ∧ i = .int .i64 (k : Int) ∧ ∀ j, j < k → zs.getD j ByteArray.empty ≠ x
def upN (n : Nat) (v : Value) : Nat := n - (intOf v).toNat
set_option maxHeartbeats 1000000 in
theorem indexS_any (b n c : Nat) (zs : List ByteArray) (x : ByteArray) (w : World) (hz : n ≤ zs.length) (hbig : n ≤ maxLen) (hc : ∀ j, j < n → w.cell? ⟨b, j, none⟩ = some (.string (zs.getD j ByteArray.empty))) :
    Calls Try.prog 58 #[.slice (some ⟨b, 0, none⟩) n c, .string x] w fun e w' => e = .returned (.int .i64 (Lib.idxOfS (zs.take n) x)) ∧ w' = w := by
  unfold maxLen at hbig
  go_enter Try.func58, Try.ntmps58
  go_wp2
  go_loop [5, 8] (fun _ i => RelI zs n x i) (fun _ i => upN n i)
  case atStart => exact ⟨0, Nat.zero_le _, rfl, fun j hj => absurd hj (Nat.not_lt_zero _)⟩
  case round =>
    obtain ⟨k, hk, rfl, hne⟩ := hrel
    by_cases hlt : k < n
    · have hcell := hc k hlt
      clear hc
      generalize hy : zs.getD k ByteArray.empty = y at hcell
      have HY : Hid (zs.getD k ByteArray.empty = y) := hy
      clear hy
      by_cases he : x = y
      · have hb : (x.toList == y.toList) = true := (Lib.bytes_beq_iff _ _).2 he
        go_wp2
        go_ret
        subst he
        exact ⟨ret_int (Lib.idxOfS_hit zs n k x hlt hz HY.out hne).symm, rfl⟩
      · have hb : (x.toList == y.toList) = false := (Lib.bytes_beq_false_iff _ _).2 he
        have HN : Hid (¬ x = y) := he
        clear he
        go_wp2
        go_round
        case rel =>
          refine ⟨k + 1, by omega, by go_num, fun j hj => ?_⟩
          by_cases e : j = k
          · subst e; rw [HY.out]; exact fun h => HN.out h.symm
          · exact hne j (by omega)
        case measure => simp [upN, intOf]; omega
    · have hkn : k = n := by omega
      subst hkn
      go_wp2
      go_ret
      exact ⟨ret_int (Lib.idxOfS_miss zs k x hne).symm, rfl⟩
set_option maxHeartbeats 1000000 in
theorem containsS_any (b n c : Nat) (zs : List ByteArray) (x : ByteArray) (w : World) (hz : n ≤ zs.length) (hbig : n ≤ maxLen) (hc : ∀ j, j < n → w.cell? ⟨b, j, none⟩ = some (.string (zs.getD j ByteArray.empty))) :
    Calls Try.prog 49 #[.slice (some ⟨b, 0, none⟩) n c, .string x] w fun e w' => e = .returned (.bool (Lib.containsS (zs.take n) x)) ∧ w' = w := by
  unfold Lib.containsS
  go_enter Try.func49, Try.ntmps49
  go_wp2_with (go_at_call 58; refine (indexS_any b n c zs x _ hz hbig hc).mono ?_; rintro e w' ⟨rfl, hw'⟩; subst w')
  go_ret
  exact ⟨rfl, rfl⟩

/-! Word. -/
def wdB (s : ByteArray) : Bool := decide (0 < s.size ∧ s.size ≤ 12) && (ltr (byt s 0) && decide (spE wrd s 0 = s.size))
theorem list_ne (s : ByteArray) (h : 0 < s.size) : s.toList ≠ [] := by
  rw [Lib.toList_data]
  intro e
  rw [Lib.size_eq, e] at h
  exact absurd h (Nat.lt_irrefl _)
theorem list_isE (s : ByteArray) (h : 0 < s.size) : s.toList.isEmpty = false := by
  have := list_ne s h
  cases hl : s.toList with
  | nil => exact absurd hl this
  | cons a l => rfl
set_option maxHeartbeats 1000000 in
theorem word_any (s : ByteArray) (w : World) (hs : s.size ≤ maxLen) :
    Calls Try.prog 27 #[.string s] w fun e w' => e = .returned (.bool (wdB s)) ∧ w' = w := by
  have hs0 : s.size ≤ maxLen := hs
  unfold maxLen at hs
  go_enter Try.func27, Try.ntmps27
  by_cases h0 : 0 < s.size
  · have HG : Hid (byt s 0 = (s[0]'h0).toNat) := byt_get s 0 h0
    have hE := list_isE s h0
    have hE2 := list_ne s h0
    by_cases h12 : s.size ≤ 12
    · by_cases hl : ltr ((s[0]'h0).toNat) = true
      · have hb : ((spE wrd s 0 : Int) == (s.size : Int)) = decide (spE wrd s 0 = s.size) := by rw [Bool.eq_iff_iff]; simp; omega
        have HB : Hid (((spE wrd s 0 : Int) == (s.size : Int)) = decide (spE wrd s 0 = s.size)) := hb
        clear hb
        go_wp2_with (first
          | (go_at_call 33; refine (letter_any _ _).mono ?_; rintro e w' ⟨rfl, hw'⟩; subst w')
          | (go_at_call 48; refine (wordEnd_any s 0 _ hs0 (by omega)).mono ?_; rintro e w' ⟨rfl, hw'⟩; subst w'))
        go_ret
        refine ⟨ret_bool ?_, rfl⟩
        unfold wdB
        rw [HG.out, hl]
        first | rw [HB.out] | simp only [HB.out]
        simp [h0, h12]
      · go_wp2_with (go_at_call 33; refine (letter_any _ _).mono ?_; rintro e w' ⟨rfl, hw'⟩; subst w')
        go_ret
        refine ⟨ret_bool ?_, rfl⟩
        unfold wdB
        rw [HG.out]
        simp [hl]
    · go_wp2
      go_ret
      refine ⟨ret_bool ?_, rfl⟩
      unfold wdB
      simp [h12]
  · have hE : s = ⟨#[]⟩ := ByteArray.ext (Array.eq_empty_of_size_eq_zero (by simpa using h0))
    subst hE
    go_wp2
    go_ret
    exact ⟨rfl, rfl⟩
/-- A word that is none of the language's own. -/
def nmB (s : ByteArray) : Bool := wdB s && !(Lib.containsS ownL s)
set_option maxHeartbeats 1000000 in
theorem name_any (s : ByteArray) (w : World) (hs : s.size ≤ maxLen) :
    Calls Try.prog 29 #[.string s] w fun e w' => e = .returned (.bool (nmB s)) ∧ Below w.heap.size w w' := by
  go_enter Try.func29, Try.ntmps29
  have hw : ∀ W : World, Calls Try.prog 49 #[.slice (some ⟨W.heap.size, 0, none⟩) 9 9, .string s] (W.alloc ownO) fun e w' => e = .returned (.bool (Lib.containsS ownL s)) ∧ w' = W.alloc ownO :=
    fun W => containsS_any W.heap.size 9 9 ownL s (W.alloc ownO) (by decide) (by decide) (fun j hj => own_cell W j hj)
  by_cases h : wdB s = true
  · go_wp2_with (first
      | (go_at_call 27; refine (word_any s _ hs).mono ?_; rintro e w' ⟨rfl, hw'⟩; subst w')
      | (go_at_call 31; refine (own_any _).mono ?_; rintro e w' ⟨rfl, hw'⟩; subst w')
      | (go_at_call 49; refine (hw _).mono ?_; rintro e w' ⟨rfl, hw'⟩; subst w'))
    go_ret
    exact ⟨ret_bool (by unfold nmB; rw [h]; simp), (Below.refl _ _).alloc (Nat.le_refl _) _⟩
  · have h' : wdB s = false := by simpa using h
    go_wp2_with (go_at_call 27; refine (word_any s _ hs).mono ?_; rintro e w' ⟨rfl, hw'⟩; subst w')
    go_ret
    exact ⟨ret_bool (by unfold nmB; rw [h']; simp), Below.refl _ _⟩
end Go.Proofs.Ytgfccgcccmicbaa

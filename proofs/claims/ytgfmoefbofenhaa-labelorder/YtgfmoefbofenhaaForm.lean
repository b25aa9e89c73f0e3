/- formed: whether a text is a brace, tags with commas between (or none), a brace. -/
import Derived.Test.YtgfmoefbofenhaaSmall
import Derived.Lib.Strings
namespace Go.Proofs.Ytgfmoefbofenhaa
open Go.RowKit
/-- Byte i of a text. -/
def byt (s : ByteArray) (i : Nat) : Nat := (s.data.toList.getD i 0).toNat
theorem byt_get (s : ByteArray) (i : Nat) (h : i < s.size) : byt s i = (s[i]'h).toNat := by
  unfold byt
  have h' : i < s.data.toList.length := by simpa using h
  rw [List.getD_eq_getElem?_getD, List.getElem?_eq_getElem h']
  rfl
theorem byt_lt (s : ByteArray) (i : Nat) : byt s i < 256 := by
  unfold byt
  exact UInt8.toNat_lt _
theorem byt_ext (s t : ByteArray) (a b k : Nat) (ht : s.extract a b = t) (hk : k < t.size) : byt t k = byt s (a + k) := by
  subst ht
  unfold byt
  rw [Lib.extract_data, List.getD_eq_getElem?_getD, List.getD_eq_getElem?_getD, List.getElem?_take, List.getElem?_drop]
  have hs : (s.extract a b).size = min b s.size - a := by simp
  rw [if_pos (by omega)]
/-- Place i between the braces has what it must have. -/
def okb (s : ByteArray) (i : Nat) : Prop := (i % 2 = 0 → 97 ≤ byt s i ∧ byt s i < 105) ∧ (i % 2 = 1 → byt s i = 44)
def okc (s : ByteArray) (i : Nat) : Prop := (i % 2 = 0 → 97 ≤ byt s (1 + i) ∧ byt s (1 + i) < 105) ∧ (i % 2 = 1 → byt s (1 + i) = 44)
def Formed (s : ByteArray) : Prop :=
  2 ≤ s.size ∧ byt s 0 = 123 ∧ byt s (s.size - 1) = 125 ∧ (s.size = 2 ∨ s.size % 2 = 1 ∧ ∀ i, i < s.size - 2 → okc s i)
def formedDec (s : ByteArray) : Decidable (Formed s) := by
  haveI : ∀ i, Decidable (okc s i) := fun i => by unfold okc; exact inferInstance
  unfold Formed
  exact inferInstance
/-- Whether a text is a brace, tags with commas between (or none), a brace. -/
def fmB (s : ByteArray) : Bool := @decide (Formed s) (formedDec s)
theorem fm_no {s : ByteArray} (h : ¬ Formed s) : false = fmB s := (@decide_eq_false _ (formedDec s) h).symm
theorem fm_yes {s : ByteArray} (h : Formed s) : true = fmB s := (@decide_eq_true _ (formedDec s) h).symm
theorem okb_okc {s t : ByteArray} (ht : s.extract 1 (s.size - 1) = t) {i : Nat} (hi : i < t.size) : okb t i ↔ okc s i := by
  unfold okb okc
  rw [byt_ext s t 1 (s.size - 1) i ht hi]
theorem tag_yes (c : Int) (w : World) (h : 97 ≤ c ∧ c < 105) :
    Calls Try.prog 22 #[.int .u8 c] w fun e w' => e = .returned (.bool true) ∧ w' = w := by
  have := isTag_any c w
  rwa [decide_eq_true h] at this
theorem tag_no (c : Int) (w : World) (h : ¬ (97 ≤ c ∧ c < 105)) :
    Calls Try.prog 22 #[.int .u8 c] w fun e w' => e = .returned (.bool false) ∧ w' = w := by
  have := isTag_any c w
  rwa [decide_eq_false h] at this
theorem ext_empty (s : ByteArray) (h : 2 ≤ s.size) : (s.extract 1 (s.size - 1)).toList.isEmpty = decide (s.size = 2) := by
  rw [Bool.eq_iff_iff]
  have hsz : (s.extract 1 (s.size - 1)).size = s.size - 2 := by simp; omega
  have hl : (s.extract 1 (s.size - 1)).toList.length = s.size - 2 := by
    rw [← hsz, Lib.toList_data]; rfl
  rw [List.isEmpty_iff_length_eq_zero, hl]
  simp
  omega
set_option maxHeartbeats 800000 in
theorem formed_long (s : ByteArray) (w : World) (hs : s.size ≤ maxLen) (h2 : 2 < s.size) (h0 : (s[0].toNat : Int) = 123) (h1 : (s[s.size - 1].toNat : Int) = 125) :
    Calls Try.prog 19 #[.string s] w fun e w' => e = .returned (.bool (fmB s)) ∧ w' = w := by
  unfold maxLen at hs
  have h3 : (s.extract 1 (s.size - 1)).toList.isEmpty = false := by rw [ext_empty s (by omega)]; simp; omega
  have h4 : ((s[s.size - 1].toNat : Int) != 125) = false := by simpa using h1
  have H0 : Hid (byt s 0 = 123) := by show _ = _; rw [byt_get s 0 (by omega)]; omega
  have H1 : Hid (byt s (s.size - 1) = 125) := by show _ = _; rw [byt_get s _ (by omega)]; omega
  go_enter Try.func19, Try.ntmps19
  go_wp2
  clear h0 h1 h4
  generalize hT : s.extract 1 (s.size - 1) = t at *
  have HT : Hid (s.extract 1 (s.size - 1) = t) := hT
  have hsz : s.size = t.size + 2 := by rw [← hT]; simp; omega
  have HS : Hid (s.size = t.size + 2) := hsz
  clear hT h3
  go_loop [30] (fun i => ∃ k : Nat, k ≤ t.size ∧ i = .int .i64 k ∧ ∀ j, j < k → okb t j) (fun i => t.size - (intOf i).toNat)
  case atStart => exact ⟨0, by omega, rfl, fun j h => by omega⟩
  case round =>
    obtain ⟨k, hk, rfl, hall⟩ := hrel
    have HA : Hid (∀ j, j < k → okb t j) := hall
    clear hall
    by_cases hlt : k < t.size
    · have HB := byt_get t k hlt
      have HG : Hid (byt t k = (t[k]'hlt).toNat) := HB
      clear HB
      rcases Nat.mod_two_eq_zero_or_one k with hp | hp
      · have hp1 : ((k : Int) % 2 == 0) = true := by simp; omega
        have hp2 : ((k : Int) % 2 == 1) = false := by simp; omega
        by_cases hc : 97 ≤ (t[k].toNat : Int) ∧ (t[k].toNat : Int) < 105
        · obtain ⟨hc1, hc2⟩ := hc
          go_wp2
          go_round
          case rel =>
            refine ⟨k + 1, by omega, by go_num, ?_⟩
            intro j hj
            by_cases e : j = k
            · subst e; exact ⟨fun _ => by rw [HG.out]; omega, fun h => by omega⟩
            · exact HA.out j (by omega)
          case measure => simp [intOf]; omega
        · go_wp2_with (go_at_call 22; refine (tag_no _ _ (by assumption)).mono ?_; rintro e w' ⟨rfl, hw'⟩; subst w')
          go_ret
          refine ⟨ret_bool (fm_no ?_), rfl⟩
          rintro ⟨_, _, _, h | ⟨_, h⟩⟩
          · have := HS.out; omega
          · have := (okb_okc HT.out hlt).2 (h k (by have := HS.out; omega))
            have := this.1 hp
            rw [HG.out] at this
            omega
      · have hp1 : ((k : Int) % 2 == 0) = false := by simp; omega
        have hp2 : ((k : Int) % 2 == 1) = true := by simp; omega
        by_cases hc : (t[k].toNat : Int) = 44
        · have hc2 : ((t[k].toNat : Int) != 44) = false := by simpa using hc
          go_wp2
          go_round
          case rel =>
            refine ⟨k + 1, by omega, by go_num, ?_⟩
            intro j hj
            by_cases e : j = k
            · subst e; exact ⟨fun h => by omega, fun _ => by rw [HG.out]; omega⟩
            · exact HA.out j (by omega)
          case measure => simp [intOf]; omega
        · have hc2 : ((t[k].toNat : Int) != 44) = true := by simpa using hc
          go_wp2
          go_ret
          refine ⟨ret_bool (fm_no ?_), rfl⟩
          rintro ⟨_, _, _, h | ⟨_, h⟩⟩
          · have := HS.out; omega
          · have := (okb_okc HT.out hlt).2 (h k (by have := HS.out; omega))
            have := this.2 hp
            rw [HG.out] at this
            omega
    · go_wp2
      go_ret
      refine ⟨ret_bool ?_, rfl⟩
      have hkt : k = t.size := by omega
      by_cases hp : t.size % 2 = 1
      · have e : ((t.size : Int) % 2 == 1) = true := by simp; omega
        rw [e]
        refine fm_yes ⟨by omega, H0.out, H1.out, .inr ⟨by have := HS.out; omega, fun i hi => ?_⟩⟩
        have hi' : i < t.size := by have := HS.out; omega
        exact (okb_okc HT.out hi').1 (HA.out i (by omega))
      · have e : ((t.size : Int) % 2 == 1) = false := by simp; omega
        rw [e]
        refine fm_no ?_
        rintro ⟨_, _, _, h | ⟨h, _⟩⟩
        · have := HS.out; omega
        · have := HS.out; omega
set_option maxHeartbeats 400000 in
theorem formed_any (s : ByteArray) (w : World) (hs : s.size ≤ maxLen) :
    Calls Try.prog 19 #[.string s] w fun e w' => e = .returned (.bool (fmB s)) ∧ w' = w := by
  by_cases h2 : s.size < 2
  · unfold maxLen at hs
    have hf : fmB s = false := (fm_no (fun h => by have := h.1; omega)).symm
    go_enter Try.func19, Try.ntmps19
    go_wp2
    go_ret
    exact ⟨rfl, rfl⟩
  · have h2' : 2 ≤ s.size := by omega
    by_cases h0 : (s[0].toNat : Int) = 123
    · by_cases h1 : (s[s.size - 1].toNat : Int) = 125
      · have h4 : ((s[s.size - 1].toNat : Int) != 125) = false := by simpa using h1
        by_cases h3 : s.size = 2
        · have h3' : (s.extract 1 (s.size - 1)).toList.isEmpty = true := by rw [ext_empty s (by omega)]; simpa using h3
          have hf : fmB s = true := (fm_yes ⟨by omega, by rw [byt_get s 0 (by omega)]; omega, by rw [byt_get s _ (by omega)]; omega, .inl h3⟩).symm
          unfold maxLen at hs
          have H3 : Hid (s.size = 2) := h3
          clear h3
          go_enter Try.func19, Try.ntmps19
          go_wp2
          go_ret
          exact ⟨ret_bool hf.symm, rfl⟩
        · exact formed_long s w hs (by omega) h0 h1
      · have h4 : ((s[s.size - 1].toNat : Int) != 125) = true := by simpa using h1
        have hf : fmB s = false := (fm_no (fun h => h1 (by have := h.2.2.1; rw [byt_get s _ (by omega)] at this; omega))).symm
        unfold maxLen at hs
        go_enter Try.func19, Try.ntmps19
        go_wp2
        go_ret
        exact ⟨ret_bool hf.symm, rfl⟩
    · have hf : fmB s = false := (fm_no (fun h => h0 (by have := h.2.1; rw [byt_get s _ (by omega)] at this; omega))).symm
      unfold maxLen at hs
      go_enter Try.func19, Try.ntmps19
      go_wp2
      go_ret
      exact ⟨ret_bool hf.symm, rfl⟩
end Go.Proofs.Ytgfmoefbofenhaa

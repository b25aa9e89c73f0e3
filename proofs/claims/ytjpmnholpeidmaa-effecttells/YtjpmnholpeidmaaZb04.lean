/- Texts of this seat, one behind the other: LabSmall, LabForm, LabParse, LabTag. -/
import Derived.Test.YtjpmnholpeidmaaZb01b
import Derived.WalkKit
import Derived.WalkSpells
import Derived.WalkLawsBesides
import Derived.Test.YtjpmnholpeidmaaZb01
import Derived.Lib.Strings
namespace Go.Proofs.Ytjpmnholpeidmaa
open Go.RowKit

set_option maxHeartbeats 400000 in
theorem tags_any (a : Nat) (w : World) (ha : a < 256) :
    Calls Try.prog 115 #[.int .i64 (a : Int)] w fun e w' => e = .returned (.int .i64 (a : Int)) ∧ w' = w := by
  go_enter Try.func115, Try.ntmps115
  go_wp2
  go_ret
  exact ⟨ret_int (i64_mask a ha), rfl⟩

set_option maxHeartbeats 400000 in
theorem flows_any (a b : Nat) (w : World) (ha : a < 256) (hb : b < 256) :
    Calls Try.prog 126 #[.int .i64 (a : Int), .int .i64 (b : Int)] w fun e w' => e = .returned (.bool (fl a b)) ∧ w' = w := by
  go_enter Try.func126, Try.ntmps126
  go_wp2_with (go_at_call 115; refine (tags_any _ _ (by assumption)).mono ?_; rintro e w' ⟨rfl, rfl⟩)
  go_ret
  exact ⟨ret_bool (fl_not a b ha hb), rfl⟩

set_option maxHeartbeats 400000 in
theorem join_any (a b : Nat) (w : World) (ha : a < 256) (hb : b < 256) :
    Calls Try.prog 123 #[.int .i64 (a : Int), .int .i64 (b : Int)] w fun e w' => e = .returned (.int .i64 ((a ||| b : Nat) : Int)) ∧ w' = w := by
  go_enter Try.func123, Try.ntmps123
  go_wp2_with (go_at_call 115; refine (tags_any _ _ (by assumption)).mono ?_; rintro e w' ⟨rfl, rfl⟩)
  go_ret
  exact ⟨ret_int (i64_or a b (by omega) (by omega)), rfl⟩

end Go.Proofs.Ytjpmnholpeidmaa

namespace Go.Proofs.Ytjpmnholpeidmaa
open Go.RowKit
/-- Place i between the braces has what it must have. -/
def okb (s : ByteArray) (i : Nat) : Prop := (i % 2 = 0 → 97 ≤ byt s i ∧ byt s i < 105) ∧ (i % 2 = 1 → byt s i = 44)
def okc (s : ByteArray) (i : Nat) : Prop := (i % 2 = 0 → 97 ≤ byt s (1 + i) ∧ byt s (1 + i) < 105) ∧ (i % 2 = 1 → byt s (1 + i) = 44)
def Formed (s : ByteArray) : Prop :=
  2 ≤ s.size ∧ byt s 0 = 123 ∧ byt s (s.size - 1) = 125 ∧ (s.size = 2 ∨ s.size % 2 = 1 ∧ ∀ i, i < s.size - 2 → okc s i)
def formedDec (s : ByteArray) : Decidable (Formed s) := by
  haveI : ∀ i, Decidable (okc s i) := fun i => by unfold okc; exact inferInstance
  unfold Formed
  exact inferInstance
/-- Whether a text is a brace, tags with commas between (or none), a brace. -/
def fmB (s : ByteArray) : Bool := @decide (Formed s) (formedDec s)
theorem fm_no {s : ByteArray} (h : ¬ Formed s) : false = fmB s := (@decide_eq_false _ (formedDec s) h).symm
theorem fm_yes {s : ByteArray} (h : Formed s) : true = fmB s := (@decide_eq_true _ (formedDec s) h).symm
theorem okb_okc {s t : ByteArray} (ht : s.extract 1 (s.size - 1) = t) {i : Nat} (hi : i < t.size) : okb t i ↔ okc s i := by
  subst ht
  have hs : (s.extract 1 (s.size - 1)).size = min (s.size - 1) s.size - 1 := by simp
  unfold okb okc
  rw [byt_ext s 1 (s.size - 1) i (by omega)]
theorem ext_empty (s : ByteArray) (h : 2 ≤ s.size) : (s.extract 1 (s.size - 1)).toList.isEmpty = decide (s.size = 2) := by
  rw [Bool.eq_iff_iff]
  have hsz : (s.extract 1 (s.size - 1)).size = s.size - 2 := by simp; omega
  have hl : (s.extract 1 (s.size - 1)).toList.length = s.size - 2 := by
    rw [← hsz, Lib.toList_data]; rfl
  rw [List.isEmpty_iff_length_eq_zero, hl]
  simp
  omega
end Go.Proofs.Ytjpmnholpeidmaa

namespace Go.Proofs.Ytjpmnholpeidmaa
open Go.RowKit
/-- The tag at place t. -/
def tagAt (s : ByteArray) (t : Nat) : Nat := 2 ^ (byt s (2 * t + 1) - 97)
/-- The tags of the first t places, if none stands twice. -/
def lacc (s : ByteArray) : Nat → Option Nat
  | 0 => some 0
  | t + 1 => match lacc s t with
    | none => none
    | some n => if n &&& tagAt s t = 0 then some (n ||| tagAt s t) else none
theorem lacc_none (s : ByteArray) (t u : Nat) (h : lacc s t = none) : lacc s (t + u) = none := by
  induction u with
  | zero => exact h
  | succ u ih => rw [← Nat.add_assoc]; simp [lacc, ih]
theorem lacc_dup (s : ByteArray) (t m : Nat) (h : lacc s t = some m) (k : ¬ m &&& tagAt s t = 0) : lacc s (t + 1) = none := by
  simp [lacc, h, k]
theorem lacc_new (s : ByteArray) (t m : Nat) (h : lacc s t = some m) (k : m &&& tagAt s t = 0) : lacc s (t + 1) = some (m ||| tagAt s t) := by
  simp [lacc, h, k]
/-- What Parse tells: a label and no error, or nought and an error. -/
def parseOf (s : ByteArray) : Nat × Nat :=
  if fmB s = true then match lacc s ((s.size - 1) / 2) with
    | some n => (n, 0)
    | none => (0, 7)
  else (0, 2)
def lbN (s : ByteArray) : Nat := (parseOf s).1
def lbE (s : ByteArray) : Nat := (parseOf s).2
theorem shl_form : ∀ x, x < 8 → wrap64 (2 ^ x) = ((2 ^ x : Nat) : Int) := by decide +kernel
theorem pow_lt8 : ∀ x, x < 8 → 2 ^ x < 256 := by decide +kernel
theorem p_no {s : ByteArray} (h : fmB s = false) : lbN s = 0 ∧ lbE s = 2 := by simp [lbN, lbE, parseOf, h]
theorem p_dup {s : ByteArray} (h : fmB s = true) (k : lacc s ((s.size - 1) / 2) = none) : lbN s = 0 ∧ lbE s = 7 := by simp [lbN, lbE, parseOf, h, k]
theorem p_yes {s : ByteArray} {m : Nat} (h : fmB s = true) (k : lacc s ((s.size - 1) / 2) = some m) : lbN s = m ∧ lbE s = 0 := by simp [lbN, lbE, parseOf, h, k]
theorem fm_out {s : ByteArray} (h : fmB s = true) : Formed s := @of_decide_eq_true _ (formedDec s) h
theorem fm_tag {s : ByteArray} (h : fmB s = true) {t : Nat} (ht : 2 * t + 1 < s.size - 1) : 97 ≤ byt s (2 * t + 1) ∧ byt s (2 * t + 1) < 105 := by
  obtain ⟨h2, _, _, e | ⟨_, k⟩⟩ := fm_out h
  · omega
  · have := (k (2 * t) (by omega)).1 (by omega)
    rwa [Nat.add_comm 1 (2 * t)] at this
theorem fm_size {s : ByteArray} (h : fmB s = true) : 2 ≤ s.size ∧ (s.size = 2 ∨ s.size % 2 = 1) := by
  obtain ⟨h2, _, _, e | ⟨e, _⟩⟩ := fm_out h
  · exact ⟨h2, .inl e⟩
  · exact ⟨h2, .inr e⟩
theorem tuple_ret {a b c d : Nat} (h : a = c) (k : b = d) : Ending.returned (.tuple #[.int .i64 (a : Int), .int .i64 (b : Int)]) = .returned (.tuple #[.int .i64 (c : Int), .int .i64 (d : Int)]) := by rw [h, k]
end Go.Proofs.Ytjpmnholpeidmaa

namespace Go.Proofs.Ytjpmnholpeidmaa
/-- The label of a tag, or nought. -/
def tgN (x : ByteArray) : Nat := if tagB x then 2 ^ (byt x 0 - 97) else 0
def brc (x : ByteArray) : ByteArray := ⟨#[123]⟩ ++ x ++ ⟨#[125]⟩
theorem brc_size (x : ByteArray) : (brc x).size = x.size + 2 := by
  unfold brc
  rw [app_size, app_size]
  show 1 + x.size + 1 = _
  omega
theorem brc_0 (x : ByteArray) : byt (brc x) 0 = 123 := by
  unfold brc
  rw [byt_app_l _ _ 0 (by rw [app_size]; show 0 < 1 + x.size; omega), byt_app_l _ _ 0 (by decide)]
  rfl
theorem brc_m (x : ByteArray) (i : Nat) (h : i < x.size) : byt (brc x) (1 + i) = byt x i := by
  unfold brc
  rw [byt_app_l _ _ (1 + i) (by rw [app_size]; show 1 + i < 1 + x.size; omega)]
  exact byt_app_r ⟨#[123]⟩ x i
theorem brc_e (x : ByteArray) : byt (brc x) (x.size + 1) = 125 := by
  unfold brc
  have := byt_app_r (⟨#[123]⟩ ++ x) ⟨#[125]⟩ 0
  rw [app_size, show (⟨#[123]⟩ : ByteArray).size + x.size + 0 = x.size + 1 by show 1 + x.size + 0 = _; omega] at this
  rw [this]
  rfl
theorem tag_lb (x : ByteArray) (h : 1 < x.size → byt x 1 ≠ 44) : lbN (brc x) = tgN x := by
  have hz := brc_size x
  rcases Nat.lt_or_ge 1 x.size with h1 | h1
  · have hf : fmB (brc x) = false := (fm_no (fun hF => by
      obtain ⟨_, _, _, e | ⟨_, k⟩⟩ := hF
      · omega
      · have := (k 1 (by omega)).2 rfl
        rw [brc_m x 1 h1] at this
        exact h h1 this)).symm
    rw [(p_no hf).1]
    unfold tgN
    rw [if_neg (by unfold tagB; simp; omega)]
  · rcases Nat.eq_zero_or_pos x.size with h0 | h0
    · have hf : fmB (brc x) = true := (fm_yes ⟨by omega, brc_0 x, by rw [hz, h0]; have := brc_e x; rw [h0] at this; exact this, .inl (by omega)⟩).symm
      rw [(p_yes (m := 0) hf (by rw [hz, h0]; rfl)).1]
      unfold tgN
      rw [if_neg (by unfold tagB; simp; omega)]
    · have h2 : x.size = 1 := by omega
      have hm := brc_m x 0 h0
      by_cases ht : tagB x = true
      · have ht' : x.size = 1 ∧ 97 ≤ byt x 0 ∧ byt x 0 ≤ 104 := by simpa [tagB] using ht
        have hf : fmB (brc x) = true := (fm_yes ⟨by omega, brc_0 x, by rw [hz]; have := brc_e x; exact this, .inr ⟨by omega, fun i hi => by
          have hi0 : i = 0 := by omega
          subst hi0
          exact ⟨fun _ => by rw [hm]; omega, fun h => by omega⟩⟩⟩).symm
        have ha : lacc (brc x) 1 = some (2 ^ (byt x 0 - 97)) := by
          simp [lacc, tagAt]
          rw [show (1 : Nat) = 1 + 0 from rfl, hm]
        rw [(p_yes hf (by rw [hz, h2]; exact ha)).1]
        unfold tgN
        rw [if_pos ht]
      · have hf : fmB (brc x) = false := (fm_no (fun hF => by
          obtain ⟨_, _, _, e | ⟨_, k⟩⟩ := hF
          · omega
          · have := (k 0 (by omega)).1 rfl
            rw [hm] at this
            exact ht (by unfold tagB; simp; omega))).symm
        rw [(p_no hf).1]
        unfold tgN
        rw [if_neg ht]
theorem tag_bits : ∀ k, k < 8 → ∀ m, m < 256 → fl (2 ^ k) m = decide (m / 2 ^ k % 2 = 1) ∧ (m ||| 2 ^ k) = (if m / 2 ^ k % 2 = 1 then m else m + 2 ^ k) ∧ (m ||| 2 ^ k) < 256 := by decide +kernel
section
variable (L : List Tok) (sz : Nat)
/-- The rest of a label. -/
def pLr (j m : Nat) : R Nat := pLabs L sz (L.length + 1 - j) j m
variable {L : List Tok} {sz : Nat}
/-- What is told of a tag that stands there already. -/
def dupD (L : List Tok) (sz j m : Nat) : List Dg := if fl (tgN (tk L sz j).x) m then [bad L sz j 7] else []
theorem tgN_k {x : ByteArray} (h : tagB x = true) : ∃ k, k < 8 ∧ tgN x = 2 ^ k ∧ byt x 0 - 97 = k := by
  have ht' : x.size = 1 ∧ 97 ≤ byt x 0 ∧ byt x 0 ≤ 104 := by simpa [tagB] using h
  exact ⟨byt x 0 - 97, by omega, by unfold tgN; rw [if_pos h], rfl⟩
theorem tgN_no {x : ByteArray} (h : tagB x = false) : tgN x = 0 := by unfold tgN; rw [h]; rfl
theorem is_tag {j : Nat} (h : tagB (tk L sz j).x = true) (s : ByteArray) (hs : tagB s = false) : isT L j s = false := by
  cases hI : isT L j s
  · rfl
  · obtain ⟨h1, t, h2, h3⟩ := isT_lt hI
    rw [tk_some (sz := sz) h1] at h2
    injection h2 with h2
    rw [h2, h3, hs] at h
    cases h
theorem pLr_end {j m : Nat} (hj : j ≤ L.length) (h : tagB (tk L sz j).x = false) : pLr L sz j m = ⟨m, (pNeed L sz j (bs1 125)).i, (pNeed L sz j (bs1 125)).d⟩ := by
  unfold pLr
  rw [show L.length + 1 - j = (L.length - j) + 1 by omega]
  unfold pLabs pNeed
  split
  · rfl
  · rw [if_neg (by rw [h]; decide)]
theorem pLr_tag {j m : Nat} (hm : m < 256) (h : tagB (tk L sz j).x = true) : pLr L sz j m =
    (if isT L (j + 1) (bs1 44) then ⟨(pLr L sz (j + 2) (m ||| tgN (tk L sz j).x)).v, (pLr L sz (j + 2) (m ||| tgN (tk L sz j).x)).i, dupD L sz j m ++ (pLr L sz (j + 2) (m ||| tgN (tk L sz j).x)).d⟩
    else ⟨m ||| tgN (tk L sz j).x, (pNeed L sz (j + 1) (bs1 125)).i, dupD L sz j m ++ (pNeed L sz (j + 1) (bs1 125)).d⟩) := by
  have hj := tag_lt h
  obtain ⟨k, hk, e1, e2⟩ := tgN_k h
  obtain ⟨b1, b2, b3⟩ := tag_bits k hk m hm
  have hd : dupD L sz j m = if m / 2 ^ k % 2 = 1 then [bad L sz j 7] else [] := by
    unfold dupD
    rw [e1, b1]
    simp
  rw [hd, e1, b2]
  have e0 : pLr L sz j m = pLabs L sz ((L.length - j) + 1) j m := by
    unfold pLr
    rw [show L.length + 1 - j = (L.length - j) + 1 by omega]
  rw [e0]
  unfold pLabs
  rw [if_neg (by rw [is_tag h (bs1 125) (by decide +kernel)]; decide), if_pos h]
  simp only [e2]
  by_cases hc : isT L (j + 1) (bs1 125) = true
  · rw [if_pos hc, if_neg (show ¬ isT L (j + 1) (bs1 44) = true by
      intro h4
      obtain ⟨_, t, h2, h3⟩ := isT_lt hc
      obtain ⟨_, t', h2', h3'⟩ := isT_lt h4
      rw [h2] at h2'
      injection h2' with h2'
      rw [← h2', h3] at h3'
      exact absurd h3' (by decide))]
    rw [show L.length - j = (L.length - j - 1) + 1 by omega]
    unfold pLabs pNeed
    rw [if_pos hc, if_pos hc]
  · rw [if_neg hc]
    by_cases h4 : isT L (j + 1) (bs1 44) = true
    · rw [if_pos h4, if_pos h4]
      have hl := (isT_lt h4).1
      unfold pLr
      rw [labs_fuel (L.length - j) (L.length + 1 - (j + 2)) (j + 2) _ (by omega) (by omega) (by omega)]
    · rw [if_neg h4, if_neg h4]
      unfold pNeed
      rw [if_neg hc]
end
end Go.Proofs.Ytjpmnholpeidmaa


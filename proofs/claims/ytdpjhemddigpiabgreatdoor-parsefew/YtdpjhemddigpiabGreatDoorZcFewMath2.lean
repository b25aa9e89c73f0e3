/- A small edit is a small step: at most one item is read anew. -/
import Derived.Test.YtdpjhemddigpiabGreatDoorZcFewMath
namespace Go.Proofs.YtdpjhemddigpiabGreatDoor
theorem cn_mono (s : ByteArray) (j d : Nat) : cn s j ≤ cn s (j + d) := by
  induction d with
  | zero => exact Nat.le_refl _
  | succ d ih =>
    rcases Nat.lt_or_ge (j + d) (cts s).length with h | h
    · exact Nat.le_trans ih (Nat.le_of_lt (cn_lt s _ h))
    · rw [show j + (d + 1) = j + d + 1 by omega, cn_end s (j + d + 1) (by omega)]
      exact cn_le s j
theorem pair_idx {l : List Nat} (h : l.Pairwise (· < ·)) {i j x : Nat} (hi : l[i]? = some x) (hj : l[j]? = some x) : i = j := by
  obtain ⟨a1, a2⟩ := List.getElem?_eq_some_iff.1 hi
  obtain ⟨b1, b2⟩ := List.getElem?_eq_some_iff.1 hj
  rcases Nat.lt_trichotomy i j with hl | hl | hl
  · have := List.pairwise_iff_getElem.1 h i j a1 b1 hl; omega
  · exact hl
  · have := List.pairwise_iff_getElem.1 h j i b1 a1 hl; omega
theorem cts_zero (U : ByteArray) {t0 : Tok} (h0 : (tks U)[0]? = some t0) (ha : t0.a = 0) : (cts U)[0]? = some 0 := by
  have hmem : 0 ∈ cts U := by
    have hl : 0 < (tks U).length := (List.getElem?_eq_some_iff.1 h0).1
    have := cutK_zero U (tks U) t0 h0 ((tks U).length - 1)
    rw [show (tks U).length - 1 + 1 = (tks U).length by omega, ha] at this
    exact this
  obtain ⟨j, hj⟩ := List.mem_iff_getElem?.1 hmem
  cases j with
  | zero => exact hj
  | succ j =>
    obtain ⟨b1, b2⟩ := List.getElem?_eq_some_iff.1 hj
    have := List.pairwise_iff_getElem.1 (cts_pair U) 0 (j + 1) (by omega) b1 (by omega)
    omega
/-- A text, cut where an item begins. -/
theorem cts_at (s : ByteArray) (k : Nat) (h1 : 0 < k) (hk : k < (cts s).length) : cts s = cts (s.extract 0 (cn s k - 1)) ++ (cts (s.extract (cn s k) s.size)).map (cn s k + ·) ∧ (cts (s.extract 0 (cn s k - 1))).length = k := by
  obtain ⟨hpos, hs, t0, h0, ha, ho⟩ := cut_jn s k h1 hk
  have hle := cn_le s k
  have hP : (s.extract 0 (cn s k - 1)).size + 1 = cn s k := by rw [ext_size' _ _ _ (by omega)]; omega
  have hc := cts_jn (s.extract 0 (cn s k - 1)) (s.extract (cn s k) s.size) h0 ha ho
  rw [← hs, hP] at hc
  refine ⟨hc, ?_⟩
  have hz := cts_zero _ h0 ha
  have hat : (cts s)[(cts (s.extract 0 (cn s k - 1))).length]? = some (cn s k) := by
    rw [hc, List.getElem?_append_right (Nat.le_refl _), Nat.sub_self, List.getElem?_map, hz]
    rfl
  exact pair_idx (cts_pair s) hat (cn_get s k hk)
theorem cn_left (s : ByteArray) (k : Nat) (h1 : 0 < k) (hk : k < (cts s).length) (j : Nat) (hj : j < k) : (cts s)[j]? = (cts (s.extract 0 (cn s k - 1)))[j]? := by
  obtain ⟨hc, hl⟩ := cts_at s k h1 hk
  have : (cts s)[j]? = (cts (s.extract 0 (cn s k - 1)) ++ (cts (s.extract (cn s k) s.size)).map (cn s k + ·))[j]? := by rw [← hc]
  rw [this, List.getElem?_append_left (by omega)]
theorem cn_right (s : ByteArray) (k : Nat) (h1 : 0 < k) (hk : k < (cts s).length) (j : Nat) : cn s (k + j) = cn s k + cn (s.extract (cn s k) s.size) j ∧ (cts s).length = k + (cts (s.extract (cn s k) s.size)).length := by
  obtain ⟨hc, hl⟩ := cts_at s k h1 hk
  have hle := cn_le s k
  have hU : (s.extract (cn s k) s.size).size = s.size - cn s k := ext_size' _ _ _ (Nat.le_refl _)
  have hlen : (cts s).length = k + (cts (s.extract (cn s k) s.size)).length := by
    have := congrArg List.length hc
    rw [List.length_append, List.length_map, hl] at this
    exact this
  refine ⟨?_, hlen⟩
  rcases Nat.lt_or_ge j (cts (s.extract (cn s k) s.size)).length with h | h
  · have e1 := cn_get s (k + j) (by omega)
    have e2 := cn_get (s.extract (cn s k) s.size) j h
    have : (cts s)[k + j]? = (cts (s.extract 0 (cn s k - 1)) ++ (cts (s.extract (cn s k) s.size)).map (cn s k + ·))[k + j]? := by rw [← hc]
    rw [e1, List.getElem?_append_right (by omega), hl, Nat.add_sub_cancel_left, List.getElem?_map, e2] at this
    simpa using this
  · rw [cn_end s (k + j) (by omega), cn_end _ j h, hU]
    omega
/-- Two texts that are the same up to where item i begins. -/
theorem few_left {s t : ByteArray} {i : Nat} (h1 : 0 < i) (hs : i < (cts s).length) (ht : i < (cts t).length) (hc : cn t i = cn s i) (hP : s.extract 0 (cn s i - 1) = t.extract 0 (cn s i - 1)) (j : Nat) (hj : j ≤ i) : cn t j = cn s j := by
  rcases Nat.lt_or_ge j i with h | h
  · have e1 := cn_left s i h1 hs j h
    have e2 := cn_left t i h1 ht j h
    rw [hc, ← hP, ← e1] at e2
    unfold cn
    rw [e2]
    rw [cn_get s j (by omega)]
    rfl
  · obtain rfl : j = i := by omega
    exact hc
/-- .. from where item i begins on. -/
theorem few_right {s t : ByteArray} {i : Nat} (h1 : 0 < i) (hs : i < (cts s).length) (ht : i < (cts t).length) (hU : s.extract (cn s i) s.size = t.extract (cn t i) t.size) (j : Nat) : cn t (i + j) + cn s i = cn s (i + j) + cn t i := by
  have e1 := (cn_right s i h1 hs j).1
  have e2 := (cn_right t i h1 ht j).1
  rw [← hU] at e2
  omega
theorem ext_same {s t : ByteArray} {p q p' q' : Nat} (hq : q ≤ s.size) (hq' : q' ≤ t.size) (hl : q - p = q' - p') (h : ∀ y, y < q - p → byt t (p' + y) = byt s (p + y)) : t.extract p' q' = s.extract p q := by
  refine eq_of_byt _ _ (by rw [ext_size' _ _ _ hq, ext_size' _ _ _ hq', hl]) (fun y hy => ?_)
  rw [ext_size' _ _ _ hq'] at hy
  rw [byt_ext _ _ _ _ (by omega), byt_ext _ _ _ _ (by omega)]
  exact h y (by omega)
theorem nwN_one (s t : ByteArray) (i : Nat) (k : Nat) (h : ∀ j, j < k → j ≠ i → knB s (cts s).length (txI t j) = true) : nwN s t k ≤ if i < k then 1 else 0 := by
  induction k with
  | zero => simp [nwN]
  | succ k ih =>
    have ih := ih (fun j hj hne => h j (by omega) hne)
    unfold nwN
    by_cases hk : k = i
    · subst hk
      rw [if_neg (Nat.lt_irrefl k)] at ih
      rw [show (if k < k + 1 then 1 else 0 : Nat) = 1 from if_pos (Nat.lt_succ_self k)]
      split <;> omega
    · rw [if_pos (h k (by omega) hk)]
      split at ih <;> split <;> omega
theorem few {s x t : ByteArray} {a b i : Nat} (hab : a ≤ b) (hb : b ≤ s.size) (ht : t = s.extract 0 a ++ x ++ s.extract b s.size) (hm : (cts t).length = (cts s).length) (hi : i < (cts s).length) (h1 : cn s i ≤ a) (h2 : b ≤ cn s (i + 1)) (h3 : cn t i = cn s i) (h4 : cn t (i + 1) + s.size = cn s (i + 1) + t.size) : nwN s t (cts t).length ≤ 1 := by
  have hz1 : (s.extract 0 a).size = a := by rw [ext_size' _ _ _ (by omega)]; omega
  have hz2 : (s.extract b s.size).size = s.size - b := ext_size' _ _ _ (Nat.le_refl _)
  have htz : t.size = a + x.size + (s.size - b) := by rw [ht, app_size, app_size, hz1, hz2]
  have hlow : ∀ y, y < a → byt t y = byt s y := fun y hy => by rw [ht, byt_app_l _ _ _ (by rw [app_size, hz1]; omega), byt_app_l _ _ _ (by omega), byt_ext _ _ _ _ (by omega), Nat.zero_add]
  have hhigh : ∀ y, b + y < s.size → byt t (a + x.size + y) = byt s (b + y) := fun y hy => by
    have := byt_app_r (s.extract 0 a ++ x) (s.extract b s.size) y
    rw [app_size, hz1] at this
    rw [ht, this, byt_ext _ _ _ _ (by omega)]
  have key : ∀ j, j < (cts t).length → j ≠ i → knB s (cts s).length (txI t j) = true := by
    intro j hj hne
    refine (knB_iff s _ _).2 ⟨j, by omega, ?_⟩
    unfold txI
    rcases Nat.lt_or_gt_of_ne hne with hl | hl
    · have hP : s.extract 0 (cn s i - 1) = t.extract 0 (cn s i - 1) := (ext_same (by have := cn_le s i; omega) (by have := cn_le t i; omega) rfl (fun y hy => by rw [Nat.zero_add]; exact hlow y (by omega))).symm
      have e1 := few_left (by omega) hi (by omega) h3 hP j (by omega)
      have e2 := few_left (by omega) hi (by omega) h3 hP (j + 1) (by omega)
      have hmo := cn_mono s (j + 1) (i - (j + 1))
      rw [show j + 1 + (i - (j + 1)) = i by omega] at hmo
      rw [e1, e2]
      exact ext_same (cn_le s _) (by rw [← e2]; exact cn_le t _) rfl (fun y hy => hlow _ (by omega))
    · have hi1 : i + 1 < (cts s).length := by omega
      have hle1 := cn_le s (i + 1)
      have hle2 := cn_le t (i + 1)
      have hU : s.extract (cn s (i + 1)) s.size = t.extract (cn t (i + 1)) t.size := (ext_same (Nat.le_refl _) (Nat.le_refl _) (by omega) (fun y hy => by
        have := hhigh (cn s (i + 1) - b + y) (by omega)
        rw [show a + x.size + (cn s (i + 1) - b + y) = cn t (i + 1) + y by omega, show b + (cn s (i + 1) - b + y) = cn s (i + 1) + y by omega] at this
        exact this)).symm
      have e1 := few_right (by omega) hi1 (by omega) hU (j - (i + 1))
      have e2 := few_right (by omega) hi1 (by omega) hU (j + 1 - (i + 1))
      rw [show i + 1 + (j - (i + 1)) = j by omega] at e1
      rw [show i + 1 + (j + 1 - (i + 1)) = j + 1 by omega] at e2
      have hmo := cn_mono s (i + 1) (j - (i + 1))
      rw [show i + 1 + (j - (i + 1)) = j by omega] at hmo
      have hl1 := cn_le s (j + 1)
      refine ext_same hl1 (cn_le t _) (by omega) (fun y hy => ?_)
      have := hhigh (cn s j - b + y) (by omega)
      rw [show a + x.size + (cn s j - b + y) = cn t j + y by omega, show b + (cn s j - b + y) = cn s j + y by omega] at this
      exact this
  have := nwN_one s t i _ key
  split at this <;> omega
end Go.Proofs.YtdpjhemddigpiabGreatDoor

/- A small edit is a small step: items ahead of an edit, and behind it, have the texts that they had. -/
import Derived.Test.YtdpjhemddigpiabGreatDoorZb01b
import Derived.Test.YtdpjhemddigpiabGreatDoorZb01
namespace Go.Proofs.YtdpjhemddigpiabGreatDoor
/-- No token begins with a blank, or with a remark. -/
theorem toks_start (s : ByteArray) (n : Nat) : ∀ i, s.size - i ≤ n → (i < s.size → blk (byt s i) = false ∧ byt s i ≠ 35) → ∀ t ∈ toks s i, blk (byt s t.a) = false ∧ byt s t.a ≠ 35 := by
  induction n with
  | zero => intro i h _ t ht; rw [toks_out s i (by omega)] at ht; exact absurd ht (List.not_mem_nil)
  | succ n ih =>
    intro i h h1 t ht
    rcases Nat.lt_or_ge i s.size with hi | hi
    · rw [toks_eq s i hi] at ht
      rcases List.mem_cons.1 ht with rfl | ht
      · exact h1 hi
      · have g1 := tnd_gt s i hi
        have g2 := skE_ge s false (tnd s i)
        exact ih _ (by omega) (fun h => skE_at s false _ h) t ht
    · rw [toks_out s i hi] at ht; exact absurd ht (List.not_mem_nil)
theorem tks_start (s : ByteArray) : ∀ t ∈ tks s, blk (byt s t.a) = false ∧ byt s t.a ≠ 35 := toks_start s s.size _ (by omega) (fun h => skE_at s false 0 h)
/-- Cuts of a text that opens an item behind a line's end. -/
theorem cutK_left (P U : ByteArray) (q : Nat) (hq : q ≤ (tks P).length) : cutK (jn P U) (tks (jn P U)) q = cutK P (tks P) q := by
  induction q with
  | zero => rfl
  | succ q ih =>
    have hl : (tks (jn P U))[q]? = (tks P)[q]? := by rw [tks_jn, List.getElem?_append_left (by omega)]
    obtain ⟨t, ht⟩ : ∃ t, (tks P)[q]? = some t := ⟨_, List.getElem?_eq_getElem (by omega)⟩
    have hta := tok_at P _ q t ht
    have hb : cutB (jn P U) q t = cutB P q t := by
      unfold cutB
      rw [jn_l P U (t.a - 1) (by omega)]
    unfold cutK
    rw [ih (by omega), hl, ht]
    simp only [hb]
theorem cutK_right (P U : ByteArray) {t0 : Tok} (h0 : (tks U)[0]? = some t0) (ha : t0.a = 0) (ho : opn t0.x = true) (k : Nat) (hk : k ≤ (tks U).length) :
    cutK (jn P U) (tks (jn P U)) ((tks P).length + k) = cts P ++ (cutK U (tks U) k).map (P.size + 1 + ·) := by
  induction k with
  | zero => rw [Nat.add_zero, cutK_left P U _ (Nat.le_refl _)]; simp [cutK, cts]
  | succ k ih =>
    obtain ⟨t, ht⟩ : ∃ t, (tks U)[k]? = some t := ⟨_, List.getElem?_eq_getElem (by omega)⟩
    have hl : (tks (jn P U))[(tks P).length + k]? = some (shf (P.size + 1) t) := by
      rw [tks_jn, List.getElem?_append_right (by omega), Nat.add_sub_cancel_left, List.getElem?_map, ht]; rfl
    have hb : cutB (jn P U) ((tks P).length + k) (shf (P.size + 1) t) = cutB U k t := by
      by_cases hk0 : k = 0
      · subst hk0
        rw [h0] at ht
        injection ht with ht
        subst ht
        unfold cutB shf
        simp only [ha, ho]
        have e : byt (jn P U) (P.size + 1 + 0 - 1) = 10 := by rw [show P.size + 1 + 0 - 1 = P.size by omega]; exact jn_m P U
        rw [e]
        simp
      · have hta := tok_at U _ k t ht
        unfold cutB shf
        have e : byt (jn P U) (P.size + 1 + t.a - 1) = byt U (t.a - 1) := by rw [show P.size + 1 + t.a - 1 = P.size + 1 + (t.a - 1) by omega]; exact jn_r P U _
        simp only [e]
        have e1 : ((tks P).length + k == 0) = false := by simp; omega
        have e2 : (k == 0) = false := by simpa using hk0
        rw [e1, e2]
    rw [← Nat.add_assoc]
    rw [cutK, ih (by omega), hl]
    conv => rhs; rw [cutK]
    rw [ht]
    simp only [hb]
    split <;> simp [shf]
theorem cts_jn (P U : ByteArray) {t0 : Tok} (h0 : (tks U)[0]? = some t0) (ha : t0.a = 0) (ho : opn t0.x = true) : cts (jn P U) = cts P ++ (cts U).map (P.size + 1 + ·) := by
  have hl : (tks (jn P U)).length = (tks P).length + (tks U).length := by rw [tks_jn, List.length_append, List.length_map]
  have := cutK_right P U h0 ha ho (tks U).length (Nat.le_refl _)
  unfold cts at this ⊢
  rw [hl]
  exact this
/-- Where an item begins that isn't the first one: a line's end is ahead of it, and its word opens it. -/
theorem cut_jn (s : ByteArray) (k : Nat) (h1 : 0 < k) (hk : k < (cts s).length) : 0 < cn s k ∧ s = jn (s.extract 0 (cn s k - 1)) (s.extract (cn s k) s.size) ∧
    ∃ t0, (tks (s.extract (cn s k) s.size))[0]? = some t0 ∧ t0.a = 0 ∧ opn t0.x = true := by
  have hc := cn_get s k hk
  obtain ⟨j, t, hj, htj, hca, hcut⟩ := cutK_mem s _ _ _ (List.mem_of_getElem? hc)
  have h0 := cn_get s 0 (by omega)
  obtain ⟨j0, t0, _, ht0, hca0, _⟩ := cutK_mem s _ _ _ (List.mem_of_getElem? h0)
  have hlt : cn s 0 < cn s k := by
    obtain ⟨a1, a2⟩ := List.getElem?_eq_some_iff.1 h0
    obtain ⟨b1, b2⟩ := List.getElem?_eq_some_iff.1 hc
    rw [← a2, ← b2]
    exact List.pairwise_iff_getElem.1 (cts_pair s) 0 k a1 b1 h1
  have hj0 : j ≠ 0 := by
    rintro rfl
    rcases Nat.eq_zero_or_pos j0 with rfl | hp
    · rw [htj] at ht0
      injection ht0 with ht0
      rw [hca, hca0, ht0] at hlt
      omega
    · have := pair_get (tks_pair s) htj ht0 hp
      omega
  have hpos : 0 < cn s k := by omega
  have hlts : cn s k < s.size := cts_lt s _ (List.mem_of_getElem? hc)
  unfold cutB at hcut
  rw [show (j == 0) = false by simpa using hj0, Bool.false_or, Bool.and_eq_true, beq_iff_eq] at hcut
  rw [← hca] at hcut
  have hP : (s.extract 0 (cn s k - 1)).size = cn s k - 1 := by rw [ext_size' _ _ _ (by omega)]; omega
  have hU : (s.extract (cn s k) s.size).size = s.size - cn s k := ext_size' _ _ _ (Nat.le_refl _)
  have hs : s = jn (s.extract 0 (cn s k - 1)) (s.extract (cn s k) s.size) := by
    refine eq_of_byt _ _ (by rw [jn_size, hP, hU]; omega) (fun i hi => ?_)
    rcases Nat.lt_trichotomy i (cn s k - 1) with h | h | h
    · rw [jn_l _ _ _ (by omega), byt_ext _ _ _ _ (by omega), Nat.zero_add]
    · subst h
      have := jn_m (s.extract 0 (cn s k - 1)) (s.extract (cn s k) s.size)
      rw [hP] at this
      rw [this]
      exact hcut.2
    · have := jn_r (s.extract 0 (cn s k - 1)) (s.extract (cn s k) s.size) (i - cn s k)
      rw [hP, show cn s k - 1 + 1 + (i - cn s k) = i by omega] at this
      rw [this, byt_ext _ _ _ _ (by omega), show cn s k + (i - cn s k) = i by omega]
  have hst := tks_start s t (List.mem_of_getElem? htj)
  rw [← hca] at hst
  have hb0 : byt (s.extract (cn s k) s.size) 0 = byt s (cn s k) := by rw [byt_ext _ _ _ _ (by omega), Nat.add_zero]
  have hsk : skE (s.extract (cn s k) s.size) false 0 = 0 := skE_stop _ 0 (by omega) (by rw [hb0]; exact hst.1) (by rw [hb0]; exact hst.2)
  refine ⟨hpos, hs, tok (s.extract (cn s k) s.size) 0, ?_, rfl, ?_⟩
  · unfold tks
    rw [hsk, toks_eq _ 0 (by omega)]
    rfl
  · have hr := tok_r (s.extract 0 (cn s k - 1)) (s.extract (cn s k) s.size) 0 (by omega)
    rw [← hs, hP, show cn s k - 1 + 1 + 0 = cn s k by omega] at hr
    have htt := (tok_at s _ j t htj).2.2
    rw [← hca, hr] at htt
    have : t.x = (tok (s.extract (cn s k) s.size) 0).x := by rw [htt]; rfl
    rw [← this]
    exact hcut.1
end Go.Proofs.YtdpjhemddigpiabGreatDoor

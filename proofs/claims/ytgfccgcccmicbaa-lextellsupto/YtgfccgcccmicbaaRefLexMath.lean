/- The document's reading of tokens, byte by byte, comes to the same list. -/
import Derived.Test.YtgfccgcccmicbaaLexJoinMath
namespace Go.Proofs.Ytgfccgcccmicbaa
/-- What stands behind i bytes: the list so far, and in what the next byte may go on. -/
def Inv (s : ByteArray) (i : Nat) (l : List Tok) (st : Nat) : Prop :=
  (st = 0 ∧ tks s = l ++ toks s (skE s false i)) ∨ (st = 9 ∧ tks s = l ++ toks s (skE s true i)) ∨
  (∃ l0 a, st = 1 ∧ a < i ∧ l = l0 ++ [⟨1, s.extract a i, a⟩] ∧ tks s = l0 ++ ⟨1, s.extract a (spE wrd s i), a⟩ :: toks s (skE s false (spE wrd s i))) ∨
  (∃ l0 a, st = 2 ∧ a < i ∧ l = l0 ++ [⟨2, s.extract a i, a⟩] ∧ tks s = l0 ++ ⟨2, s.extract a (spE dgt s i), a⟩ :: toks s (skE s false (spE dgt s i)))
theorem inv_start (s : ByteArray) : Inv s 0 [] 0 := .inl ⟨rfl, rfl⟩
theorem inv_end (s : ByteArray) (l : List Tok) (st : Nat) (h : Inv s s.size l st) : tks s = l := by
  rcases h with ⟨_, h⟩ | ⟨_, h⟩ | ⟨l0, a, _, _, hl, h⟩ | ⟨l0, a, _, _, hl, h⟩
  · rw [h, skE_out s _ _ (Nat.le_refl _), toks_out s _ (Nat.le_refl _), List.append_nil]
  · rw [h, skE_out s _ _ (Nat.le_refl _), toks_out s _ (Nat.le_refl _), List.append_nil]
  · rw [h, hl, spE_out _ s _ (Nat.le_refl _), skE_out s _ _ (Nat.le_refl _), toks_out s _ (Nat.le_refl _)]
  · rw [h, hl, spE_out _ s _ (Nat.le_refl _), skE_out s _ _ (Nat.le_refl _), toks_out s _ (Nat.le_refl _)]
theorem inv_note (s : ByteArray) (i : Nat) (l : List Tok) (h : Inv s i l 9) (hi : i < s.size) (hc : byt s i ≠ 10) : Inv s (i + 1) l 9 := by
  rcases h with ⟨h0, _⟩ | ⟨_, h⟩ | ⟨_, _, h0, _⟩ | ⟨_, _, h0, _⟩
  · cases h0
  · refine .inr (.inl ⟨rfl, ?_⟩)
    rw [h, skE_eq s true i hi]
    have : nnl (byt s i) = true := by simpa [nnl] using hc
    simp [this]
  · cases h0
  · cases h0
theorem ext_step (s : ByteArray) (a i : Nat) (ha : a ≤ i) (hi : i < s.size) : s.extract a i ++ s.extract i (i + 1) = s.extract a (i + 1) := by
  have h1 := ext_size' s a i (by omega)
  apply eq_of_byt
  · rw [app_size, h1, ext_size' s _ _ (by omega), ext_size' s _ _ (by omega)]; omega
  · intro j hj
    rw [app_size, h1, ext_size' s _ _ (by omega)] at hj
    rw [byt_ext s a (i + 1) j (by omega)]
    by_cases h : j < i - a
    · rw [byt_app_l _ _ _ (by omega), byt_ext s a i j (by omega)]
    · have : j = (s.extract a i).size + 0 := by omega
      conv => lhs; rw [this, byt_app_r]
      rw [byt_ext s _ _ _ (by omega)]
      congr 1
      omega
theorem inv_word (s : ByteArray) (i : Nat) (l : List Tok) (h : Inv s i l 1) (hi : i < s.size) (hc : wrd (byt s i) = true) :
    ∃ l0 a, a < i ∧ l = l0 ++ [⟨1, s.extract a i, a⟩] ∧ Inv s (i + 1) (l0 ++ [⟨1, s.extract a i ++ s.extract i (i + 1), a⟩]) 1 := by
  rcases h with ⟨h0, _⟩ | ⟨h0, h⟩ | ⟨l0, a, _, ha, hl, h⟩ | ⟨_, _, h0, _⟩
  · cases h0
  · cases h0
  · refine ⟨l0, a, ha, hl, .inr (.inr (.inl ⟨l0, a, rfl, by omega, by rw [ext_step s a i (by omega) hi], ?_⟩))⟩
    rw [h, spE_go wrd s i hi hc]
  · cases h0
theorem inv_int (s : ByteArray) (i : Nat) (l : List Tok) (h : Inv s i l 2) (hi : i < s.size) (hc : dgt (byt s i) = true) :
    ∃ l0 a, a < i ∧ l = l0 ++ [⟨2, s.extract a i, a⟩] ∧ Inv s (i + 1) (l0 ++ [⟨2, s.extract a i ++ s.extract i (i + 1), a⟩]) 2 := by
  rcases h with ⟨h0, _⟩ | ⟨h0, h⟩ | ⟨_, _, h0, _⟩ | ⟨l0, a, _, ha, hl, h⟩
  · cases h0
  · cases h0
  · cases h0
  · refine ⟨l0, a, ha, hl, .inr (.inr (.inr ⟨l0, a, rfl, by omega, by rw [ext_step s a i (by omega) hi], ?_⟩))⟩
    rw [h, spE_go dgt s i hi hc]
/-- Where nothing goes on. -/
theorem inv_zero (s : ByteArray) (i : Nat) (l : List Tok) (st : Nat) (h : Inv s i l st) (hi : i < s.size) (h9 : ¬ (st = 9 ∧ byt s i ≠ 10)) (h1 : ¬ (st = 1 ∧ wrd (byt s i) = true)) (h2 : ¬ (st = 2 ∧ dgt (byt s i) = true)) :
    tks s = l ++ toks s (skE s false i) := by
  rcases h with ⟨_, h⟩ | ⟨h0, h⟩ | ⟨l0, a, h0, _, hl, h⟩ | ⟨l0, a, h0, _, hl, h⟩
  · exact h
  · have hc : byt s i = 10 := by
      rcases Nat.decEq (byt s i) 10 with hc | hc
      · exact absurd ⟨h0, hc⟩ h9
      · exact hc
    rw [h, skE_eq s true i hi, skE_eq s false i hi, hc]
    simp [nnl, blk]
  · have hc : wrd (byt s i) = false := by
      cases hw : wrd (byt s i)
      · rfl
      · exact absurd ⟨h0, hw⟩ h1
    rw [h, hl, spE_stop wrd s i hi hc]
    simp
  · have hc : dgt (byt s i) = false := by
      cases hw : dgt (byt s i)
      · rfl
      · exact absurd ⟨h0, hw⟩ h2
    rw [h, hl, spE_stop dgt s i hi hc]
    simp
theorem go_blank (s : ByteArray) (i : Nat) (l : List Tok) (h : tks s = l ++ toks s (skE s false i)) (hi : i < s.size) (hc : blk (byt s i) = true) : Inv s (i + 1) l 0 :=
  .inl ⟨rfl, by rw [h, skE_blk s i hi hc]⟩
theorem go_hash (s : ByteArray) (i : Nat) (l : List Tok) (h : tks s = l ++ toks s (skE s false i)) (hi : i < s.size) (hc : byt s i = 35) : Inv s (i + 1) l 9 := by
  refine .inr (.inl ⟨rfl, ?_⟩)
  rw [h, skE_eq s false i hi, hc]
  simp [blk]
theorem ltr_not (c : Nat) (h : ltr c = true) : blk c = false ∧ c ≠ 35 ∧ dgt c = false := by
  unfold ltr at h
  unfold blk dgt
  simp at h ⊢
  omega
theorem dgt_not (c : Nat) (h : dgt c = true) : blk c = false ∧ c ≠ 35 ∧ ltr c = false := by
  unfold dgt at h
  unfold blk ltr
  simp at h ⊢
  omega
theorem go_word (s : ByteArray) (i : Nat) (l : List Tok) (h : tks s = l ++ toks s (skE s false i)) (hi : i < s.size) (hc : ltr (byt s i) = true) : Inv s (i + 1) (l ++ [⟨1, s.extract i (i + 1), i⟩]) 1 := by
  have hn := ltr_not _ hc
  have hw : wrd (byt s i) = true := by unfold wrd; rw [hc]; rfl
  refine .inr (.inr (.inl ⟨l, i, rfl, by omega, rfl, ?_⟩))
  rw [h, skE_stop s i hi hn.1 hn.2.1, toks_eq s i hi]
  unfold tok tnd tkd
  rw [if_pos hc, if_pos hc, spE_go wrd s i hi hw]
theorem go_int (s : ByteArray) (i : Nat) (l : List Tok) (h : tks s = l ++ toks s (skE s false i)) (hi : i < s.size) (hc : dgt (byt s i) = true) : Inv s (i + 1) (l ++ [⟨2, s.extract i (i + 1), i⟩]) 2 := by
  have hn := dgt_not _ hc
  refine .inr (.inr (.inr ⟨l, i, rfl, by omega, rfl, ?_⟩))
  rw [h, skE_stop s i hi hn.1 hn.2.1, toks_eq s i hi]
  unfold tok tnd tkd
  rw [spE_go dgt s i hi hc]
  simp [hn.2.2, hc]
theorem go_one (s : ByteArray) (i : Nat) (l : List Tok) (h : tks s = l ++ toks s (skE s false i)) (hi : i < s.size) (hb : blk (byt s i) = false) (h35 : byt s i ≠ 35) (h1 : ltr (byt s i) = false) (h2 : dgt (byt s i) = false) :
    Inv s (i + 1) (l ++ [⟨if sgn (byt s i) then 3 else 4, s.extract i (i + 1), i⟩]) 0 := by
  refine .inl ⟨rfl, ?_⟩
  rw [h, skE_stop s i hi hb h35, toks_eq s i hi]
  unfold tok tnd tkd
  simp [h1, h2]
theorem inv_len (s : ByteArray) (i : Nat) (l : List Tok) (st : Nat) (h : Inv s i l st) : l.length ≤ s.size := by
  have hn := tks_len s
  rcases h with ⟨_, h⟩ | ⟨_, h⟩ | ⟨l0, a, _, _, hl, h⟩ | ⟨l0, a, _, _, hl, h⟩
  · rw [h] at hn; simp at hn; omega
  · rw [h] at hn; simp at hn; omega
  · rw [h] at hn; rw [hl]; simp at hn ⊢; omega
  · rw [h] at hn; rw [hl]; simp at hn ⊢; omega
theorem inv_st (s : ByteArray) (i : Nat) (l : List Tok) (st : Nat) (h : Inv s i l st) : st = 0 ∨ st = 9 ∨ st = 1 ∨ st = 2 := by
  rcases h with ⟨h, _⟩ | ⟨h, _⟩ | ⟨_, _, h, _⟩ | ⟨_, _, h, _⟩
  · exact .inl h
  · exact .inr (.inl h)
  · exact .inr (.inr (.inl h))
  · exact .inr (.inr (.inr h))
end Go.Proofs.Ytgfccgcccmicbaa

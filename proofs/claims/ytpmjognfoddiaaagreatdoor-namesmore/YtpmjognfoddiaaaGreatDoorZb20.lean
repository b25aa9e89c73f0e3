/- Texts of this seat, one behind the other: FewMath, FewMath2, NamSim, NamSim2, NamMore. -/
import Derived.Test.YtpmjognfoddiaaaGreatDoorZb01b
import Derived.Test.YtpmjognfoddiaaaGreatDoorZb01
import Derived.Test.YtpmjognfoddiaaaGreatDoorZb19
namespace Go.Proofs.YtpmjognfoddiaaaGreatDoor
/-- No token begins with a blank, or with a remark. -/
theorem toks_start (s : ByteArray) (n : Nat) : ∀ i, s.size - i ≤ n → (i < s.size → blk (byt s i) = false ∧ byt s i ≠ 35) → ∀ t ∈ toks s i, blk (byt s t.a) = false ∧ byt s t.a ≠ 35 := by
  induction n with
  | zero => intro i h _ t ht; rw [toks_out s i (by omega)] at ht; exact absurd ht (List.not_mem_nil)
  | succ n ih =>
    intro i h h1 t ht
    rcases Nat.lt_or_ge i s.size with hi | hi
    · rw [toks_eq s i hi] at ht
      rcases List.mem_cons.1 ht with rfl | ht
      · exact h1 hi
      · have g1 := tnd_gt s i hi
        have g2 := skE_ge s false (tnd s i)
        exact ih _ (by omega) (fun h => skE_at s false _ h) t ht
    · rw [toks_out s i hi] at ht; exact absurd ht (List.not_mem_nil)
theorem tks_start (s : ByteArray) : ∀ t ∈ tks s, blk (byt s t.a) = false ∧ byt s t.a ≠ 35 := toks_start s s.size _ (by omega) (fun h => skE_at s false 0 h)
/-- Cuts of a text that opens an item behind a line's end. -/
theorem cutK_left (P U : ByteArray) (q : Nat) (hq : q ≤ (tks P).length) : cutK (jn P U) (tks (jn P U)) q = cutK P (tks P) q := by
  induction q with
  | zero => rfl
  | succ q ih =>
    have hl : (tks (jn P U))[q]? = (tks P)[q]? := by rw [tks_jn, List.getElem?_append_left (by omega)]
    obtain ⟨t, ht⟩ : ∃ t, (tks P)[q]? = some t := ⟨_, List.getElem?_eq_getElem (by omega)⟩
    have hta := tok_at P _ q t ht
    have hb : cutB (jn P U) q t = cutB P q t := by
      unfold cutB
      rw [jn_l P U (t.a - 1) (by omega)]
    unfold cutK
    rw [ih (by omega), hl, ht]
    simp only [hb]
theorem cutK_right (P U : ByteArray) {t0 : Tok} (h0 : (tks U)[0]? = some t0) (ha : t0.a = 0) (ho : opn t0.x = true) (k : Nat) (hk : k ≤ (tks U).length) :
    cutK (jn P U) (tks (jn P U)) ((tks P).length + k) = cts P ++ (cutK U (tks U) k).map (P.size + 1 + ·) := by
  induction k with
  | zero => rw [Nat.add_zero, cutK_left P U _ (Nat.le_refl _)]; simp [cutK, cts]
  | succ k ih =>
    obtain ⟨t, ht⟩ : ∃ t, (tks U)[k]? = some t := ⟨_, List.getElem?_eq_getElem (by omega)⟩
    have hl : (tks (jn P U))[(tks P).length + k]? = some (shf (P.size + 1) t) := by
      rw [tks_jn, List.getElem?_append_right (by omega), Nat.add_sub_cancel_left, List.getElem?_map, ht]; rfl
    have hb : cutB (jn P U) ((tks P).length + k) (shf (P.size + 1) t) = cutB U k t := by
      by_cases hk0 : k = 0
      · subst hk0
        rw [h0] at ht
        injection ht with ht
        subst ht
        unfold cutB shf
        simp only [ha, ho]
        have e : byt (jn P U) (P.size + 1 + 0 - 1) = 10 := by rw [show P.size + 1 + 0 - 1 = P.size by omega]; exact jn_m P U
        rw [e]
        simp
      · have hta := tok_at U _ k t ht
        unfold cutB shf
        have e : byt (jn P U) (P.size + 1 + t.a - 1) = byt U (t.a - 1) := by rw [show P.size + 1 + t.a - 1 = P.size + 1 + (t.a - 1) by omega]; exact jn_r P U _
        simp only [e]
        have e1 : ((tks P).length + k == 0) = false := by simp; omega
        have e2 : (k == 0) = false := by simpa using hk0
        rw [e1, e2]
    rw [← Nat.add_assoc]
    rw [cutK, ih (by omega), hl]
    conv => rhs; rw [cutK]
    rw [ht]
    simp only [hb]
    split <;> simp [shf]
theorem cts_jn (P U : ByteArray) {t0 : Tok} (h0 : (tks U)[0]? = some t0) (ha : t0.a = 0) (ho : opn t0.x = true) : cts (jn P U) = cts P ++ (cts U).map (P.size + 1 + ·) := by
  have hl : (tks (jn P U)).length = (tks P).length + (tks U).length := by rw [tks_jn, List.length_append, List.length_map]
  have := cutK_right P U h0 ha ho (tks U).length (Nat.le_refl _)
  unfold cts at this ⊢
  rw [hl]
  exact this
/-- Where an item begins that isn't the first one: a line's end is ahead of it, and its word opens it. -/
theorem cut_jn (s : ByteArray) (k : Nat) (h1 : 0 < k) (hk : k < (cts s).length) : 0 < cn s k ∧ s = jn (s.extract 0 (cn s k - 1)) (s.extract (cn s k) s.size) ∧
    ∃ t0, (tks (s.extract (cn s k) s.size))[0]? = some t0 ∧ t0.a = 0 ∧ opn t0.x = true := by
  have hc := cn_get s k hk
  obtain ⟨j, t, hj, htj, hca, hcut⟩ := cutK_mem s _ _ _ (List.mem_of_getElem? hc)
  have h0 := cn_get s 0 (by omega)
  obtain ⟨j0, t0, _, ht0, hca0, _⟩ := cutK_mem s _ _ _ (List.mem_of_getElem? h0)
  have hlt : cn s 0 < cn s k := by
    obtain ⟨a1, a2⟩ := List.getElem?_eq_some_iff.1 h0
    obtain ⟨b1, b2⟩ := List.getElem?_eq_some_iff.1 hc
    rw [← a2, ← b2]
    exact List.pairwise_iff_getElem.1 (cts_pair s) 0 k a1 b1 h1
  have hj0 : j ≠ 0 := by
    rintro rfl
    rcases Nat.eq_zero_or_pos j0 with rfl | hp
    · rw [htj] at ht0
      injection ht0 with ht0
      rw [hca, hca0, ht0] at hlt
      omega
    · have := pair_get (tks_pair s) htj ht0 hp
      omega
  have hpos : 0 < cn s k := by omega
  have hlts : cn s k < s.size := cts_lt s _ (List.mem_of_getElem? hc)
  unfold cutB at hcut
  rw [show (j == 0) = false by simpa using hj0, Bool.false_or, Bool.and_eq_true, beq_iff_eq] at hcut
  rw [← hca] at hcut
  have hP : (s.extract 0 (cn s k - 1)).size = cn s k - 1 := by rw [ext_size' _ _ _ (by omega)]; omega
  have hU : (s.extract (cn s k) s.size).size = s.size - cn s k := ext_size' _ _ _ (Nat.le_refl _)
  have hs : s = jn (s.extract 0 (cn s k - 1)) (s.extract (cn s k) s.size) := by
    refine eq_of_byt _ _ (by rw [jn_size, hP, hU]; omega) (fun i hi => ?_)
    rcases Nat.lt_trichotomy i (cn s k - 1) with h | h | h
    · rw [jn_l _ _ _ (by omega), byt_ext _ _ _ _ (by omega), Nat.zero_add]
    · subst h
      have := jn_m (s.extract 0 (cn s k - 1)) (s.extract (cn s k) s.size)
      rw [hP] at this
      rw [this]
      exact hcut.2
    · have := jn_r (s.extract 0 (cn s k - 1)) (s.extract (cn s k) s.size) (i - cn s k)
      rw [hP, show cn s k - 1 + 1 + (i - cn s k) = i by omega] at this
      rw [this, byt_ext _ _ _ _ (by omega), show cn s k + (i - cn s k) = i by omega]
  have hst := tks_start s t (List.mem_of_getElem? htj)
  rw [← hca] at hst
  have hb0 : byt (s.extract (cn s k) s.size) 0 = byt s (cn s k) := by rw [byt_ext _ _ _ _ (by omega), Nat.add_zero]
  have hsk : skE (s.extract (cn s k) s.size) false 0 = 0 := skE_stop _ 0 (by omega) (by rw [hb0]; exact hst.1) (by rw [hb0]; exact hst.2)
  refine ⟨hpos, hs, tok (s.extract (cn s k) s.size) 0, ?_, rfl, ?_⟩
  · unfold tks
    rw [hsk, toks_eq _ 0 (by omega)]
    rfl
  · have hr := tok_r (s.extract 0 (cn s k - 1)) (s.extract (cn s k) s.size) 0 (by omega)
    rw [← hs, hP, show cn s k - 1 + 1 + 0 = cn s k by omega] at hr
    have htt := (tok_at s _ j t htj).2.2
    rw [← hca, hr] at htt
    have : t.x = (tok (s.extract (cn s k) s.size) 0).x := by rw [htt]; rfl
    rw [← this]
    exact hcut.1
end Go.Proofs.YtpmjognfoddiaaaGreatDoor
namespace Go.Proofs.YtpmjognfoddiaaaGreatDoor
theorem cn_mono (s : ByteArray) (j d : Nat) : cn s j ≤ cn s (j + d) := by
  induction d with
  | zero => exact Nat.le_refl _
  | succ d ih =>
    rcases Nat.lt_or_ge (j + d) (cts s).length with h | h
    · exact Nat.le_trans ih (Nat.le_of_lt (cn_lt s _ h))
    · rw [show j + (d + 1) = j + d + 1 by omega, cn_end s (j + d + 1) (by omega)]
      exact cn_le s j
theorem pair_idx {l : List Nat} (h : l.Pairwise (· < ·)) {i j x : Nat} (hi : l[i]? = some x) (hj : l[j]? = some x) : i = j := by
  obtain ⟨a1, a2⟩ := List.getElem?_eq_some_iff.1 hi
  obtain ⟨b1, b2⟩ := List.getElem?_eq_some_iff.1 hj
  rcases Nat.lt_trichotomy i j with hl | hl | hl
  · have := List.pairwise_iff_getElem.1 h i j a1 b1 hl; omega
  · exact hl
  · have := List.pairwise_iff_getElem.1 h j i b1 a1 hl; omega
theorem cts_zero (U : ByteArray) {t0 : Tok} (h0 : (tks U)[0]? = some t0) (ha : t0.a = 0) : (cts U)[0]? = some 0 := by
  have hmem : 0 ∈ cts U := by
    have hl : 0 < (tks U).length := (List.getElem?_eq_some_iff.1 h0).1
    have := cutK_zero U (tks U) t0 h0 ((tks U).length - 1)
    rw [show (tks U).length - 1 + 1 = (tks U).length by omega, ha] at this
    exact this
  obtain ⟨j, hj⟩ := List.mem_iff_getElem?.1 hmem
  cases j with
  | zero => exact hj
  | succ j =>
    obtain ⟨b1, b2⟩ := List.getElem?_eq_some_iff.1 hj
    have := List.pairwise_iff_getElem.1 (cts_pair U) 0 (j + 1) (by omega) b1 (by omega)
    omega
/-- A text, cut where an item begins. -/
theorem cts_at (s : ByteArray) (k : Nat) (h1 : 0 < k) (hk : k < (cts s).length) : cts s = cts (s.extract 0 (cn s k - 1)) ++ (cts (s.extract (cn s k) s.size)).map (cn s k + ·) ∧ (cts (s.extract 0 (cn s k - 1))).length = k := by
  obtain ⟨hpos, hs, t0, h0, ha, ho⟩ := cut_jn s k h1 hk
  have hle := cn_le s k
  have hP : (s.extract 0 (cn s k - 1)).size + 1 = cn s k := by rw [ext_size' _ _ _ (by omega)]; omega
  have hc := cts_jn (s.extract 0 (cn s k - 1)) (s.extract (cn s k) s.size) h0 ha ho
  rw [← hs, hP] at hc
  refine ⟨hc, ?_⟩
  have hz := cts_zero _ h0 ha
  have hat : (cts s)[(cts (s.extract 0 (cn s k - 1))).length]? = some (cn s k) := by
    rw [hc, List.getElem?_append_right (Nat.le_refl _), Nat.sub_self, List.getElem?_map, hz]
    rfl
  exact pair_idx (cts_pair s) hat (cn_get s k hk)
theorem cn_left (s : ByteArray) (k : Nat) (h1 : 0 < k) (hk : k < (cts s).length) (j : Nat) (hj : j < k) : (cts s)[j]? = (cts (s.extract 0 (cn s k - 1)))[j]? := by
  obtain ⟨hc, hl⟩ := cts_at s k h1 hk
  have : (cts s)[j]? = (cts (s.extract 0 (cn s k - 1)) ++ (cts (s.extract (cn s k) s.size)).map (cn s k + ·))[j]? := by rw [← hc]
  rw [this, List.getElem?_append_left (by omega)]
theorem cn_right (s : ByteArray) (k : Nat) (h1 : 0 < k) (hk : k < (cts s).length) (j : Nat) : cn s (k + j) = cn s k + cn (s.extract (cn s k) s.size) j ∧ (cts s).length = k + (cts (s.extract (cn s k) s.size)).length := by
  obtain ⟨hc, hl⟩ := cts_at s k h1 hk
  have hle := cn_le s k
  have hU : (s.extract (cn s k) s.size).size = s.size - cn s k := ext_size' _ _ _ (Nat.le_refl _)
  have hlen : (cts s).length = k + (cts (s.extract (cn s k) s.size)).length := by
    have := congrArg List.length hc
    rw [List.length_append, List.length_map, hl] at this
    exact this
  refine ⟨?_, hlen⟩
  rcases Nat.lt_or_ge j (cts (s.extract (cn s k) s.size)).length with h | h
  · have e1 := cn_get s (k + j) (by omega)
    have e2 := cn_get (s.extract (cn s k) s.size) j h
    have : (cts s)[k + j]? = (cts (s.extract 0 (cn s k - 1)) ++ (cts (s.extract (cn s k) s.size)).map (cn s k + ·))[k + j]? := by rw [← hc]
    rw [e1, List.getElem?_append_right (by omega), hl, Nat.add_sub_cancel_left, List.getElem?_map, e2] at this
    simpa using this
  · rw [cn_end s (k + j) (by omega), cn_end _ j h, hU]
    omega
/-- Two texts that are the same up to where item i begins. -/
theorem few_left {s t : ByteArray} {i : Nat} (h1 : 0 < i) (hs : i < (cts s).length) (ht : i < (cts t).length) (hc : cn t i = cn s i) (hP : s.extract 0 (cn s i - 1) = t.extract 0 (cn s i - 1)) (j : Nat) (hj : j ≤ i) : cn t j = cn s j := by
  rcases Nat.lt_or_ge j i with h | h
  · have e1 := cn_left s i h1 hs j h
    have e2 := cn_left t i h1 ht j h
    rw [hc, ← hP, ← e1] at e2
    unfold cn
    rw [e2]
    rw [cn_get s j (by omega)]
    rfl
  · obtain rfl : j = i := by omega
    exact hc
/-- .. from where item i begins on. -/
theorem few_right {s t : ByteArray} {i : Nat} (h1 : 0 < i) (hs : i < (cts s).length) (ht : i < (cts t).length) (hU : s.extract (cn s i) s.size = t.extract (cn t i) t.size) (j : Nat) : cn t (i + j) + cn s i = cn s (i + j) + cn t i := by
  have e1 := (cn_right s i h1 hs j).1
  have e2 := (cn_right t i h1 ht j).1
  rw [← hU] at e2
  omega
theorem ext_same {s t : ByteArray} {p q p' q' : Nat} (hq : q ≤ s.size) (hq' : q' ≤ t.size) (hl : q - p = q' - p') (h : ∀ y, y < q - p → byt t (p' + y) = byt s (p + y)) : t.extract p' q' = s.extract p q := by
  refine eq_of_byt _ _ (by rw [ext_size' _ _ _ hq, ext_size' _ _ _ hq', hl]) (fun y hy => ?_)
  rw [ext_size' _ _ _ hq'] at hy
  rw [byt_ext _ _ _ _ (by omega), byt_ext _ _ _ _ (by omega)]
  exact h y (by omega)
theorem nwN_one (s t : ByteArray) (i : Nat) (k : Nat) (h : ∀ j, j < k → j ≠ i → knB s (cts s).length (txI t j) = true) : nwN s t k ≤ if i < k then 1 else 0 := by
  induction k with
  | zero => simp [nwN]
  | succ k ih =>
    have ih := ih (fun j hj hne => h j (by omega) hne)
    unfold nwN
    by_cases hk : k = i
    · subst hk
      rw [if_neg (Nat.lt_irrefl k)] at ih
      rw [show (if k < k + 1 then 1 else 0 : Nat) = 1 from if_pos (Nat.lt_succ_self k)]
      split <;> omega
    · rw [if_pos (h k (by omega) hk)]
      split at ih <;> split <;> omega
theorem few {s x t : ByteArray} {a b i : Nat} (hab : a ≤ b) (hb : b ≤ s.size) (ht : t = s.extract 0 a ++ x ++ s.extract b s.size) (hm : (cts t).length = (cts s).length) (hi : i < (cts s).length) (h1 : cn s i ≤ a) (h2 : b ≤ cn s (i + 1)) (h3 : cn t i = cn s i) (h4 : cn t (i + 1) + s.size = cn s (i + 1) + t.size) : nwN s t (cts t).length ≤ 1 := by
  have hz1 : (s.extract 0 a).size = a := by rw [ext_size' _ _ _ (by omega)]; omega
  have hz2 : (s.extract b s.size).size = s.size - b := ext_size' _ _ _ (Nat.le_refl _)
  have htz : t.size = a + x.size + (s.size - b) := by rw [ht, app_size, app_size, hz1, hz2]
  have hlow : ∀ y, y < a → byt t y = byt s y := fun y hy => by rw [ht, byt_app_l _ _ _ (by rw [app_size, hz1]; omega), byt_app_l _ _ _ (by omega), byt_ext _ _ _ _ (by omega), Nat.zero_add]
  have hhigh : ∀ y, b + y < s.size → byt t (a + x.size + y) = byt s (b + y) := fun y hy => by
    have := byt_app_r (s.extract 0 a ++ x) (s.extract b s.size) y
    rw [app_size, hz1] at this
    rw [ht, this, byt_ext _ _ _ _ (by omega)]
  have key : ∀ j, j < (cts t).length → j ≠ i → knB s (cts s).length (txI t j) = true := by
    intro j hj hne
    refine (knB_iff s _ _).2 ⟨j, by omega, ?_⟩
    unfold txI
    rcases Nat.lt_or_gt_of_ne hne with hl | hl
    · have hP : s.extract 0 (cn s i - 1) = t.extract 0 (cn s i - 1) := (ext_same (by have := cn_le s i; omega) (by have := cn_le t i; omega) rfl (fun y hy => by rw [Nat.zero_add]; exact hlow y (by omega))).symm
      have e1 := few_left (by omega) hi (by omega) h3 hP j (by omega)
      have e2 := few_left (by omega) hi (by omega) h3 hP (j + 1) (by omega)
      have hmo := cn_mono s (j + 1) (i - (j + 1))
      rw [show j + 1 + (i - (j + 1)) = i by omega] at hmo
      rw [e1, e2]
      exact ext_same (cn_le s _) (by rw [← e2]; exact cn_le t _) rfl (fun y hy => hlow _ (by omega))
    · have hi1 : i + 1 < (cts s).length := by omega
      have hle1 := cn_le s (i + 1)
      have hle2 := cn_le t (i + 1)
      have hU : s.extract (cn s (i + 1)) s.size = t.extract (cn t (i + 1)) t.size := (ext_same (Nat.le_refl _) (Nat.le_refl _) (by omega) (fun y hy => by
        have := hhigh (cn s (i + 1) - b + y) (by omega)
        rw [show a + x.size + (cn s (i + 1) - b + y) = cn t (i + 1) + y by omega, show b + (cn s (i + 1) - b + y) = cn s (i + 1) + y by omega] at this
        exact this)).symm
      have e1 := few_right (by omega) hi1 (by omega) hU (j - (i + 1))
      have e2 := few_right (by omega) hi1 (by omega) hU (j + 1 - (i + 1))
      rw [show i + 1 + (j - (i + 1)) = j by omega] at e1
      rw [show i + 1 + (j + 1 - (i + 1)) = j + 1 by omega] at e2
      have hmo := cn_mono s (i + 1) (j - (i + 1))
      rw [show i + 1 + (j - (i + 1)) = j by omega] at hmo
      have hl1 := cn_le s (j + 1)
      refine ext_same hl1 (cn_le t _) (by omega) (fun y hy => ?_)
      have := hhigh (cn s j - b + y) (by omega)
      rw [show a + x.size + (cn s j - b + y) = cn t j + y by omega, show b + (cn s j - b + y) = cn s j + y by omega] at this
      exact this
  have := nwN_one s t i _ key
  split at this <;> omega
end Go.Proofs.YtpmjognfoddiaaaGreatDoor
namespace Go.Proofs.YtpmjognfoddiaaaGreatDoor
def all2 (P : Tr → Tr → Prop) : List Tr → List Tr → Prop
  | [], [] => True
  | a :: r, b :: q => P a b ∧ all2 P r q
  | _, _ => False
theorem all2_up {P Q : Tr → Tr → Prop} (h : ∀ a b, P a b → Q a b) : ∀ (l m : List Tr), all2 P l m → all2 Q l m := by
  intro l
  induction l with
  | nil => intro m hm; cases m with
    | nil => trivial
    | cons b q => exact hm.elim
  | cons a r ih => intro m hm; cases m with
    | nil => exact hm.elim
    | cons b q => exact ⟨h a b hm.1, ih q hm.2⟩
theorem all2_snoc {P : Tr → Tr → Prop} : ∀ (l m : List Tr) (a b : Tr), all2 P l m → P a b → all2 P (l ++ [a]) (m ++ [b]) := by
  intro l
  induction l with
  | nil => intro m a b hm hp; cases m with
    | nil => exact ⟨hp, trivial⟩
    | cons b q => exact hm.elim
  | cons a r ih => intro m c d hm hp; cases m with
    | nil => exact hm.elim
    | cons b q => exact ⟨hm.1, ih q c d hm.2 hp⟩
theorem all2_len {P : Tr → Tr → Prop} : ∀ (l m : List Tr), all2 P l m → l.length = m.length := by
  intro l
  induction l with
  | nil => intro m hm; cases m with
    | nil => rfl
    | cons b q => exact hm.elim
  | cons a r ih => intro m hm; cases m with
    | nil => exact hm.elim
    | cons b q => rw [List.length_cons, List.length_cons, ih q hm.2]
def siE : Nat → Tr → Tr → Prop
  | 0, _, _ => False
  | n + 1, e, e' => ∃ (k : Nat) (x : ByteArray) (m : Nat) (al al' : List Tr) (f f' t t' : Nat), e = exMk k x m al f t ∧ e' = exMk k x m al' f' t' ∧ (k = 2 ∨ k = 4 → f = f') ∧ all2 (siE n) al al'
theorem siE_up (n : Nat) : ∀ (m : Nat) (e e' : Tr), n ≤ m → siE n e e' → siE m e e' := by
  induction n with
  | zero => intro m e e' _ h; exact h.elim
  | succ n ih =>
    intro m e e' hm h
    obtain ⟨m, rfl⟩ : ∃ q, m = q + 1 := ⟨m - 1, by omega⟩
    obtain ⟨k, x, q, al, al', f, f', t, t', h1, h2, h3, h4⟩ := h
    exact ⟨k, x, q, al, al', f, f', t, t', h1, h2, h3, all2_up (fun a b => ih m a b (by omega)) al al' h4⟩
/-- Names are the same, and, if there is one, stand at the same place. -/
def siX (x : ByteArray) (a a' : Nat) : Prop := x = noB ∨ a = a'
def siS : Nat → Tr → Tr → Prop
  | 0, _, _ => False
  | n + 1, s, s' => ∃ (k : Nat) (x : ByteArray) (a a' lb : Nat) (o : Bool) (e e' : Tr) (th th' el el' : List Tr) (f f' t t' : Nat), s = stMk k x a lb o e th el f t ∧ s' = stMk k x a' lb o e' th' el' f' t' ∧ siX x a a' ∧ (∃ m, siE m e e') ∧ all2 (siS n) th th' ∧ all2 (siS n) el el'
theorem siS_up (n : Nat) : ∀ (m : Nat) (e e' : Tr), n ≤ m → siS n e e' → siS m e e' := by
  induction n with
  | zero => intro m e e' _ h; exact h.elim
  | succ n ih =>
    intro m e e' hm h
    obtain ⟨m, rfl⟩ : ∃ q, m = q + 1 := ⟨m - 1, by omega⟩
    obtain ⟨k, x, a, a', lb, o, e, e', th, th', el, el', f, f', t, t', h1, h2, h3, h4, h5, h6⟩ := h
    exact ⟨k, x, a, a', lb, o, e, e', th, th', el, el', f, f', t, t', h1, h2, h3, h4, all2_up (fun a b => ih m a b (by omega)) th th' h5, all2_up (fun a b => ih m a b (by omega)) el el' h6⟩
section
variable (L : List Tok) (sz sz' : Nat)
theorem tk_x (i : Nat) : (tk L sz i).x = (tk L sz' i).x ∧ (tk L sz i).k = (tk L sz' i).k := by unfold tk; cases L[i]? <;> exact ⟨rfl, rfl⟩
theorem tk_in {i : Nat} (h : i < L.length) : tk L sz i = tk L sz' i := by unfold tk; rw [List.getElem?_eq_getElem h]; rfl
theorem need_sim (i : Nat) (s : ByteArray) : (pNeed L sz i s).i = (pNeed L sz' i s).i ∧ (pNeed L sz i s).v = (pNeed L sz' i s).v := by unfold pNeed; split <;> exact ⟨rfl, rfl⟩
theorem named_sim (i : Nat) : (pNamed L sz i).i = (pNamed L sz' i).i ∧ (pNamed L sz i).v = (pNamed L sz' i).v ∧ siX (pNamed L sz i).v (tk L sz i).a (tk L sz' i).a := by
  have h1 := tk_x L sz sz' i
  unfold pNamed
  rw [h1.1, h1.2]
  split
  · rename_i h
    exact ⟨rfl, rfl, .inr (by rw [tk_in L sz sz' (nm_lt h)])⟩
  · split
    · exact ⟨rfl, rfl, .inl rfl⟩
    · exact ⟨rfl, rfl, .inl rfl⟩
theorem labs_sim (f : Nat) : ∀ (i n : Nat), (pLabs L sz f i n).i = (pLabs L sz' f i n).i ∧ (pLabs L sz f i n).v = (pLabs L sz' f i n).v := by
  induction f with
  | zero => intro i n; exact ⟨rfl, rfl⟩
  | succ f ih =>
    intro i n
    have h1 := tk_x L sz sz' i
    unfold pLabs
    rw [h1.1]
    split
    · exact ⟨rfl, rfl⟩
    · split
      · simp only
        split
        · exact ih _ _
        · split
          · exact ih _ _
          · exact ⟨rfl, rfl⟩
      · exact ⟨rfl, rfl⟩
theorem lab_sim (i : Nat) : (pLab L sz i).i = (pLab L sz' i).i ∧ (pLab L sz i).v = (pLab L sz' i).v := by
  unfold pLab
  split
  · exact labs_sim L sz sz' _ _ _
  · exact ⟨rfl, rfl⟩
theorem op_sim (i : Nat) : opB (tk L sz i) = opB (tk L sz' i) := by unfold opB; rw [(tk_x L sz sz' i).1, (tk_x L sz sz' i).2]
theorem exNo_sim (i : Nat) : siE 1 (exNo L sz i) (exNo L sz' i) := ⟨5, noB, 0, [], [], _, _, _, _, rfl, rfl, fun h => by omega, trivial⟩
theorem expr_sim (f : Nat) :
    (∀ d i, (pAtom L sz f d i).i = (pAtom L sz' f d i).i ∧ ∃ n, siE n (pAtom L sz f d i).v (pAtom L sz' f d i).v) ∧
    (∀ d i l l' m, (∃ n, all2 (siE n) l l') → (pArgs L sz f d i l m).i = (pArgs L sz' f d i l' m).i ∧ ∃ n, all2 (siE n) (pArgs L sz f d i l m).v (pArgs L sz' f d i l' m).v) ∧
    (∀ d i w, (pExpr L sz f d i w).i = (pExpr L sz' f d i w).i ∧ ∃ n, siE n (pExpr L sz f d i w).v (pExpr L sz' f d i w).v) ∧
    (∀ d e e' i w, (∃ n, siE n e e') → (pOps L sz f d e i w).i = (pOps L sz' f d e' i w).i ∧ ∃ n, siE n (pOps L sz f d e i w).v (pOps L sz' f d e' i w).v) := by
  induction f with
  | zero =>
    refine ⟨fun d i => ?_, fun d i l l' m h => ?_, fun d i w => ?_, fun d e e' i w h => ?_⟩
    · rw [pAtom_zero, pAtom_zero]; exact ⟨rfl, 1, exNo_sim L sz sz' i⟩
    · rw [pArgs_zero, pArgs_zero]; exact ⟨rfl, h⟩
    · rw [pExpr_zero, pExpr_zero]; exact ⟨rfl, 1, exNo_sim L sz sz' i⟩
    · rw [pOps_zero, pOps_zero]; exact ⟨rfl, h⟩
  | succ f ih =>
    obtain ⟨hA, hG, hE, hO⟩ := ih
    refine ⟨fun d i => ?_, fun d i l l' m h => ?_, fun d i w => ?_, fun d e e' i w h => ?_⟩
    · have h1 := tk_x L sz sz' i
      have h2 := op_sim L sz sz' i
      rw [pAtom_succ, pAtom_succ, h2]
      simp only [h1.1, h1.2]
      split
      · rename_i hop
        have hl := op_lt hop
        rw [tk_in L sz sz' hl]
        split
        · obtain ⟨e1, n, e2⟩ := hE (d + 1) (i + 1) 0
          rw [e1]
          exact ⟨(need_sim L sz sz' _ _).1, n, e2⟩
        · split
          · split
            · exact ⟨rfl, 1, 1, _, _, [], [], _, _, _, _, rfl, rfl, fun _ => rfl, trivial⟩
            · exact ⟨rfl, 1, 1, _, _, [], [], _, _, _, _, rfl, rfl, fun _ => rfl, trivial⟩
          · split
            · obtain ⟨e1, n, e2⟩ := hG (d + 1) (i + 2) [] [] (moreB L (i + 2)) ⟨0, trivial⟩
              rw [e1]
              exact ⟨(need_sim L sz sz' _ _).1, n + 1, 4, _, _, _, _, _, _, _, _, rfl, rfl, fun _ => rfl, e2⟩
            · exact ⟨rfl, 1, 2, _, _, [], [], _, _, _, _, rfl, rfl, fun _ => rfl, trivial⟩
      · exact ⟨rfl, 1, exNo_sim L sz sz' i⟩
    · obtain ⟨n, hn⟩ := h
      have hll := all2_len l l' hn
      rw [pArgs_succ, pArgs_succ, hll]
      split
      · split
        · exact ⟨rfl, n, hn⟩
        · obtain ⟨e1, n1, e2⟩ := hE d i 0
          have hs : all2 (siE (max n n1)) (l ++ [(pExpr L sz f d i 0).v]) (l' ++ [(pExpr L sz' f d i 0).v]) := all2_snoc _ _ _ _ (all2_up (fun a b => siE_up n _ a b (Nat.le_max_left _ _)) l l' hn) (siE_up n1 _ _ _ (Nat.le_max_right _ _) e2)
          rw [e1]
          split
          · exact hG _ _ _ _ _ ⟨_, hs⟩
          · exact ⟨rfl, _, hs⟩
      · exact ⟨rfl, n, hn⟩
    · rcases Nat.eq_zero_or_pos w with hw | hw
      · subst hw
        rw [pExpr_nul, pExpr_nul]
        split
        · exact ⟨rfl, 1, exNo_sim L sz sz' i⟩
        · exact hE d i 1
      · rcases Nat.lt_or_ge w 4 with h4 | h4
        · rw [pExpr_mid _ _ _ _ _ _ hw h4, pExpr_mid _ _ _ _ _ _ hw h4]
          simp only
          obtain ⟨e1, e2⟩ := hE d i (w + 1)
          rw [e1]
          exact hO d _ _ _ w e2
        · rw [pExpr_top _ _ _ _ _ _ h4, pExpr_top _ _ _ _ _ _ h4]
          exact hA d i
    · have h1 := tk_x L sz sz' i
      rw [pOps_succ, pOps_succ]
      simp only [h1.1]
      split
      · obtain ⟨n, hn⟩ := h
        obtain ⟨e1, n1, e2⟩ := hE d (i + 1) (w + 1)
        rw [e1]
        refine hO d _ _ _ w ⟨max n n1 + 1, 3, _, _, _, _, _, _, _, _, rfl, rfl, fun h => by omega, siE_up n _ _ _ (Nat.le_max_left _ _) hn, siE_up n1 _ _ _ (Nat.le_max_right _ _) e2, trivial⟩
      · exact ⟨rfl, h⟩
theorem pE_sim (d i : Nat) : (pE L sz d i).i = (pE L sz' d i).i ∧ ∃ n, siE n (pE L sz d i).v (pE L sz' d i).v := (expr_sim L sz sz' _).2.2.1 d i 0
theorem exZ_sim : siE 1 exZ exZ := ⟨0, noB, 0, [], [], _, _, _, _, rfl, rfl, fun h => by omega, trivial⟩
theorem st_sim {k : Nat} {x : ByteArray} {a a' lb : Nat} {o : Bool} {e e' : Tr} {f f' t t' : Nat} (hx : siX x a a') (he : ∃ n, siE n e e') : ∃ n, siS n (stMk k x a lb o e [] [] f t) (stMk k x a' lb o e' [] [] f' t') :=
  ⟨1, k, x, a, a', lb, o, e, e', [], [], [], [], f, f', t, t', rfl, rfl, hx, he, trivial, trivial⟩
theorem st_sim2 {k : Nat} {x : ByteArray} {a a' lb : Nat} {o : Bool} {e e' : Tr} {th th' el el' : List Tr} {f f' t t' : Nat} (hx : siX x a a') (he : ∃ n, siE n e e') (ht : ∃ n, all2 (siS n) th th') (hl : ∃ n, all2 (siS n) el el') : ∃ n, siS n (stMk k x a lb o e th el f t) (stMk k x a' lb o e' th' el' f' t') := by
  obtain ⟨n1, h1⟩ := ht
  obtain ⟨n2, h2⟩ := hl
  exact ⟨max n1 n2 + 1, k, x, a, a', lb, o, e, e', th, th', el, el', f, f', t, t', rfl, rfl, hx, he, all2_up (fun a b => siS_up n1 _ a b (Nat.le_max_left _ _)) _ _ h1, all2_up (fun a b => siS_up n2 _ a b (Nat.le_max_right _ _)) _ _ h2⟩
theorem stmt_sim (f : Nat) :
    (∀ d i, (pBlock L sz f d i).i = (pBlock L sz' f d i).i ∧ ∃ n, all2 (siS n) (pBlock L sz f d i).v (pBlock L sz' f d i).v) ∧
    (∀ d i l l', (∃ n, all2 (siS n) l l') → (pStmts L sz f d i l).i = (pStmts L sz' f d i l').i ∧ ∃ n, all2 (siS n) (pStmts L sz f d i l).v (pStmts L sz' f d i l').v) ∧
    (∀ d i, (pStmt L sz f d i).i = (pStmt L sz' f d i).i ∧ ∃ n, siS n (pStmt L sz f d i).v (pStmt L sz' f d i).v) := by
  induction f with
  | zero =>
    refine ⟨fun d i => ?_, fun d i l l' h => ?_, fun d i => ?_⟩
    · rw [pBlock_zero, pBlock_zero]; exact ⟨rfl, 0, trivial⟩
    · rw [pStmts_zero, pStmts_zero]; exact ⟨rfl, h⟩
    · rw [pStmt_zero, pStmt_zero]; exact ⟨rfl, st_sim (.inl rfl) ⟨1, exZ_sim⟩⟩
  | succ f ih =>
    obtain ⟨hB, hS, hT⟩ := ih
    refine ⟨fun d i => ?_, fun d i l l' h => ?_, fun d i => ?_⟩
    · rw [pBlock_succ, pBlock_succ]
      split
      · split
        · exact ⟨rfl, 0, trivial⟩
        · obtain ⟨e1, e2⟩ := hS (d + 1) (i + 1) [] [] ⟨0, trivial⟩
          rw [e1]
          exact ⟨(need_sim L sz sz' _ _).1, e2⟩
      · exact ⟨rfl, 0, trivial⟩
    · obtain ⟨n, hn⟩ := h
      have hll := all2_len l l' hn
      rw [pStmts_succ, pStmts_succ, hll]
      split
      · split
        · exact ⟨rfl, n, hn⟩
        · obtain ⟨e1, n1, e2⟩ := hT d i
          have hs : all2 (siS (max n n1)) (l ++ [(pStmt L sz f d i).v]) (l' ++ [(pStmt L sz' f d i).v]) := all2_snoc _ _ _ _ (all2_up (fun a b => siS_up n _ a b (Nat.le_max_left _ _)) l l' hn) (siS_up n1 _ _ _ (Nat.le_max_right _ _) e2)
          simp only
          rw [e1]
          exact hS _ _ _ _ ⟨_, hs⟩
      · exact ⟨rfl, n, hn⟩
    · have h1 := tk_x L sz sz' i
      rw [pStmt_succ, pStmt_succ]
      simp only [h1.1]
      split
      · obtain ⟨n1, n2, n3⟩ := named_sim L sz sz' (i + 1)
        have hb : (if (!isT L (pNamed L sz (i + 1)).i (bs1 58)) = true then (⟨0, (pNamed L sz (i + 1)).i, []⟩ : R Nat) else pLab L sz ((pNamed L sz (i + 1)).i + 1)).i = (if (!isT L (pNamed L sz' (i + 1)).i (bs1 58)) = true then (⟨0, (pNamed L sz' (i + 1)).i, []⟩ : R Nat) else pLab L sz' ((pNamed L sz' (i + 1)).i + 1)).i ∧ (if (!isT L (pNamed L sz (i + 1)).i (bs1 58)) = true then (⟨0, (pNamed L sz (i + 1)).i, []⟩ : R Nat) else pLab L sz ((pNamed L sz (i + 1)).i + 1)).v = (if (!isT L (pNamed L sz' (i + 1)).i (bs1 58)) = true then (⟨0, (pNamed L sz' (i + 1)).i, []⟩ : R Nat) else pLab L sz' ((pNamed L sz' (i + 1)).i + 1)).v := by
          rw [n1]
          split
          · exact ⟨rfl, rfl⟩
          · exact lab_sim L sz sz' _
        rw [hb.1, hb.2, n1]
        rw [n2] at n3 ⊢
        obtain ⟨c1, _⟩ := need_sim L sz sz' (if (!isT L (pNamed L sz' (i + 1)).i (bs1 58)) = true then (⟨0, (pNamed L sz' (i + 1)).i, []⟩ : R Nat) else pLab L sz' ((pNamed L sz' (i + 1)).i + 1)).i (bs1 61)
        rw [c1]
        obtain ⟨e1, e2⟩ := pE_sim L sz sz' d (pNeed L sz' (if (!isT L (pNamed L sz' (i + 1)).i (bs1 58)) = true then (⟨0, (pNamed L sz' (i + 1)).i, []⟩ : R Nat) else pLab L sz' ((pNamed L sz' (i + 1)).i + 1)).i (bs1 61)).i
        rw [e1]
        exact ⟨(need_sim L sz sz' _ _).1, st_sim n3 e2⟩
      · split
        · obtain ⟨e1, e2⟩ := pE_sim L sz sz' d (i + 1)
          rw [e1]
          obtain ⟨b1, b2⟩ := hB d (pE L sz' d (i + 1)).i
          rw [b1]
          split
          · obtain ⟨c1, c2⟩ := hB d ((pBlock L sz' f d (pE L sz' d (i + 1)).i).i + 1)
            exact ⟨c1, st_sim2 (.inl rfl) e2 b2 c2⟩
          · exact ⟨rfl, st_sim2 (.inl rfl) e2 b2 ⟨0, trivial⟩⟩
        · split
          · obtain ⟨e1, e2⟩ := pE_sim L sz sz' d (i + 1)
            rw [e1]
            obtain ⟨b1, b2⟩ := hB d (pE L sz' d (i + 1)).i
            exact ⟨b1, st_sim2 (.inl rfl) e2 b2 ⟨0, trivial⟩⟩
          · split
            · obtain ⟨n1, n2, n3⟩ := named_sim L sz sz' (i + 1)
              rw [n1]
              rw [n2] at n3 ⊢
              obtain ⟨e1, e2⟩ := pE_sim L sz sz' d (pNamed L sz' (i + 1)).i
              rw [e1]
              exact ⟨(need_sim L sz sz' _ _).1, st_sim n3 e2⟩
            · split
              · obtain ⟨e1, e2⟩ := pE_sim L sz sz' d (i + 1)
                rw [e1]
                exact ⟨(need_sim L sz sz' _ _).1, st_sim (.inl rfl) e2⟩
              · split
                · rename_i hn
                  split
                  · obtain ⟨e1, e2⟩ := pE_sim L sz sz' d (i + 2)
                    rw [e1]
                    exact ⟨(need_sim L sz sz' _ _).1, st_sim (.inr (by rw [tk_in L sz sz' (nm_lt (sz := sz') hn)])) e2⟩
                  · obtain ⟨e1, e2⟩ := pE_sim L sz sz' d i
                    rw [e1]
                    exact ⟨(need_sim L sz sz' _ _).1, st_sim (.inl rfl) e2⟩
                · exact ⟨rfl, st_sim (.inl rfl) ⟨1, exZ_sim⟩⟩
end
end Go.Proofs.YtpmjognfoddiaaaGreatDoor
namespace Go.Proofs.YtpmjognfoddiaaaGreatDoor
def pm2 : List Pm → List Pm → Prop
  | [], [] => True
  | a :: r, b :: q => (a.x = b.x ∧ a.l = b.l ∧ siX a.x a.a b.a) ∧ pm2 r q
  | _, _ => False
def rf2 : List Rf → List Rf → Prop
  | [], [] => True
  | a :: r, b :: q => (a.x = b.x ∧ siX a.x a.a b.a) ∧ rf2 r q
  | _, _ => False
theorem pm2_snoc : ∀ (l m : List Pm) (a b : Pm), pm2 l m → (a.x = b.x ∧ a.l = b.l ∧ siX a.x a.a b.a) → pm2 (l ++ [a]) (m ++ [b]) := by
  intro l
  induction l with
  | nil => intro m a b hm hp; cases m with
    | nil => exact ⟨hp, trivial⟩
    | cons b q => exact hm.elim
  | cons a r ih => intro m c d hm hp; cases m with
    | nil => exact hm.elim
    | cons b q => exact ⟨hm.1, ih q c d hm.2 hp⟩
theorem pm2_len : ∀ (l m : List Pm), pm2 l m → l.length = m.length := by
  intro l
  induction l with
  | nil => intro m hm; cases m with
    | nil => rfl
    | cons b q => exact hm.elim
  | cons a r ih => intro m hm; cases m with
    | nil => exact hm.elim
    | cons b q => rw [List.length_cons, List.length_cons, ih q hm.2]
theorem rf2_snoc : ∀ (l m : List Rf) (a b : Rf), rf2 l m → (a.x = b.x ∧ siX a.x a.a b.a) → rf2 (l ++ [a]) (m ++ [b]) := by
  intro l
  induction l with
  | nil => intro m a b hm hp; cases m with
    | nil => exact ⟨hp, trivial⟩
    | cons b q => exact hm.elim
  | cons a r ih => intro m c d hm hp; cases m with
    | nil => exact hm.elim
    | cons b q => exact ⟨hm.1, ih q c d hm.2 hp⟩
theorem rf2_len : ∀ (l m : List Rf), rf2 l m → l.length = m.length := by
  intro l
  induction l with
  | nil => intro m hm; cases m with
    | nil => rfl
    | cons b q => exact hm.elim
  | cons a r ih => intro m hm; cases m with
    | nil => exact hm.elim
    | cons b q => rw [List.length_cons, List.length_cons, ih q hm.2]
theorem rf2_get : ∀ (l m : List Rf) (k : Nat) (a : Rf), rf2 l m → l[k]? = some a → ∃ b, m[k]? = some b ∧ a.x = b.x ∧ siX a.x a.a b.a := by
  intro l
  induction l with
  | nil => intro m k a _ h; simp at h
  | cons c r ih => intro m k a hm h; cases m with
    | nil => exact hm.elim
    | cons b q => cases k with
      | zero => simp at h; subst h; exact ⟨b, rfl, hm.1⟩
      | succ k => simp at h; obtain ⟨d, h1, h2⟩ := ih q k a hm.2 h; exact ⟨d, by simpa using h1, h2⟩
/-- Two items that are the same, but for where what is missing stands. -/
structure SmI (it it' : It) : Prop where
  k : it.k = it'.k
  x : it.x = it'.x
  mrk : siX it.x it.mrk it'.mrk
  ps : pm2 it.ps it'.ps
  ss : rf2 it.ss it'.ss
  bd : ∃ n, all2 (siS n) it.bd it'.bd
section
variable (L : List Tok) (sz sz' : Nat)
theorem params_sim (f : Nat) : ∀ (i : Nat) (l l' : List Pm), pm2 l l' → (pParams L sz f i l).i = (pParams L sz' f i l').i ∧ pm2 (pParams L sz f i l).v (pParams L sz' f i l').v := by
  induction f with
  | zero => intro i l l' h; exact ⟨rfl, h⟩
  | succ f ih =>
    intro i l l' h
    have hll := pm2_len l l' h
    obtain ⟨n1, n2, n3⟩ := named_sim L sz sz' i
    unfold pParams
    rw [hll]
    split
    · split
      · exact ⟨rfl, h⟩
      · simp only
        rw [n1, n2]
        rw [n2] at n3
        obtain ⟨c1, c2⟩ := need_sim L sz sz' (pNamed L sz' i).i (bs1 58)
        rw [c1, c2]
        obtain ⟨b1, b2⟩ := lab_sim L sz sz' (pNeed L sz' (pNamed L sz' i).i (bs1 58)).i
        rw [b1, b2]
        have hs := pm2_snoc l l' (⟨(pNamed L sz' i).v, (pLab L sz' (pNeed L sz' (pNamed L sz' i).i (bs1 58)).i).v, (tk L sz i).a⟩ : Pm) (⟨(pNamed L sz' i).v, (pLab L sz' (pNeed L sz' (pNamed L sz' i).i (bs1 58)).i).v, (tk L sz' i).a⟩ : Pm) h ⟨rfl, rfl, n3⟩
        split
        · split
          · exact ih _ _ _ hs
          · exact ⟨rfl, hs⟩
        · exact ⟨rfl, h⟩
    · exact ⟨rfl, h⟩
theorem sends_sim (f : Nat) : ∀ (i : Nat) (l l' : List Rf), rf2 l l' → (pSends L sz f i l).i = (pSends L sz' f i l').i ∧ rf2 (pSends L sz f i l).v (pSends L sz' f i l').v := by
  induction f with
  | zero => intro i l l' h; exact ⟨rfl, h⟩
  | succ f ih =>
    intro i l l' h
    have hll := rf2_len l l' h
    obtain ⟨n1, n2, n3⟩ := named_sim L sz sz' i
    unfold pSends
    rw [hll]
    split
    · exact ⟨rfl, h⟩
    · simp only
      rw [n1, n2]
      rw [n2] at n3
      have hs := rf2_snoc l l' (⟨(pNamed L sz' i).v, (tk L sz i).a⟩ : Rf) (⟨(pNamed L sz' i).v, (tk L sz' i).a⟩ : Rf) h ⟨rfl, n3⟩
      split
      · exact ih _ _ _ hs
      · exact ⟨rfl, hs⟩
theorem it_sim : SmI (pIt L sz) (pIt L sz') := by
  unfold pIt
  split
  · simp only
    obtain ⟨n1, n2, n3⟩ := named_sim L sz sz' 1
    rw [n1]
    obtain ⟨c1, _⟩ := need_sim L sz sz' (pNamed L sz' 1).i (bs1 40)
    rw [c1]
    obtain ⟨p1, p2⟩ := params_sim L sz sz' 6 (pNeed L sz' (pNamed L sz' 1).i (bs1 40)).i [] [] trivial
    rw [p1]
    obtain ⟨c2, _⟩ := need_sim L sz sz' (pParams L sz' 6 (pNeed L sz' (pNamed L sz' 1).i (bs1 40)).i []).i (bs1 41)
    rw [c2]
    obtain ⟨c3, _⟩ := need_sim L sz sz' (pNeed L sz' (pParams L sz' 6 (pNeed L sz' (pNamed L sz' 1).i (bs1 40)).i []).i (bs1 41)).i (bs1 58)
    rw [c3]
    obtain ⟨b1, b2⟩ := lab_sim L sz sz' (pNeed L sz' (pNeed L sz' (pParams L sz' 6 (pNeed L sz' (pNamed L sz' 1).i (bs1 40)).i []).i (bs1 41)).i (bs1 58)).i
    rw [b1]
    have hsd : ∀ j, (if isT L j kSends = true then pSends L sz 8 (j + 1) [] else (⟨[], j, []⟩ : R (List Rf))).i = (if isT L j kSends = true then pSends L sz' 8 (j + 1) [] else (⟨[], j, []⟩ : R (List Rf))).i ∧ rf2 (if isT L j kSends = true then pSends L sz 8 (j + 1) [] else (⟨[], j, []⟩ : R (List Rf))).v (if isT L j kSends = true then pSends L sz' 8 (j + 1) [] else (⟨[], j, []⟩ : R (List Rf))).v := by
      intro j
      split
      · exact sends_sim L sz sz' 8 _ [] [] trivial
      · exact ⟨rfl, trivial⟩
    obtain ⟨s1, s2⟩ := hsd (pLab L sz' (pNeed L sz' (pNeed L sz' (pParams L sz' 6 (pNeed L sz' (pNamed L sz' 1).i (bs1 40)).i []).i (bs1 41)).i (bs1 58)).i).i
    rw [s1]
    exact ⟨rfl, n2, n3, p2, s2, ((stmt_sim L sz sz' (50 * L.length + 100)).1 0 _).2⟩
  · split
    · simp only
      obtain ⟨n1, n2, n3⟩ := named_sim L sz sz' 1
      exact ⟨rfl, n2, n3, trivial, trivial, 0, trivial⟩
    · exact ⟨rfl, rfl, .inl rfl, trivial, trivial, 0, trivial⟩
end
/-- What means something means the same there. -/
def HitUp (l l' : List (Int × It)) : Prop := ∀ kd x q, hit l kd x = some q → ∃ q', hit l' kd x = some q' ∧ q'.1 = q.1 ∧ q'.2.mrk = q.2.mrk
def YesIn (A B : List Ev) : Prop := ∀ ev ∈ A, ev.b = false → ev ∈ B
def EnvN (env : Env) : Prop := envL env noB = none
theorem YesIn.app {A B C D : List Ev} (h : YesIn A B) (k : YesIn C D) : YesIn (A ++ C) (B ++ D) := by
  intro ev hev hb
  rcases List.mem_append.1 hev with hev | hev
  · exact List.mem_append.2 (.inl (h ev hev hb))
  · exact List.mem_append.2 (.inr (k ev hev hb))
theorem YesIn.none {A B : List Ev} (h : ∀ ev ∈ A, ev.b = true) : YesIn A B := fun ev hev hb => by rw [h ev hev] at hb; cases hb
theorem YesIn.refl (A : List Ev) : YesIn A A := fun _ h _ => h
section
variable {l l' : List (Int × It)} {p : Int}
theorem EnvN.mk {env : Env} (h : EnvN env) (x : ByteArray) (a : Nat) : EnvN (scMk env x a) := by
  unfold scMk EnvN
  split
  · exact h
  · rename_i hx
    unfold envL
    rw [if_neg (fun e => hx e.symm)]
    exact h
theorem sc_same (env : Env) {x : ByteArray} {a a' : Nat} (h : siX x a a') : scMk env x a = scMk env x a' := by
  rcases h with h | h
  · unfold scMk; rw [if_pos h, if_pos h]
  · rw [h]
theorem up_local {env : Env} (he : EnvN env) {x : ByteArray} {a a' : Nat} (h : siX x a a') : YesIn (evLocal p env x a) (evLocal p env x a') := by
  rcases h with h | h
  · unfold evLocal; rw [h, he]; exact YesIn.none (fun ev hev => by rw [List.mem_singleton] at hev; rw [hev]; rfl)
  · rw [h]; exact YesIn.refl _
theorem hit_noB (l : List (Int × It)) (kd : Nat) : hit l kd noB = none := by unfold hit fnd; rw [if_pos rfl]; rfl
theorem up_item (H : HitUp l l') {kd : Nat} {x : ByteArray} {a a' : Nat} (h : siX x a a') : YesIn (evItem l kd x a) (evItem l' kd x a') := by
  unfold evItem
  cases hq : hit l kd x with
  | none => exact YesIn.none (fun ev hev => by rw [List.mem_singleton] at hev; rw [hev]; rfl)
  | some q =>
    obtain ⟨q', h1, h2, h3⟩ := H kd x q hq
    rw [h1]
    rcases h with h | h
    · rw [h, hit_noB] at hq; cases hq
    · rw [h]
      intro ev hev _
      simp only [List.mem_singleton] at hev ⊢
      rw [hev, h2, h3]
theorem up_call (H : HitUp l l') {x : ByteArray} {a a' n n' : Nat} (h : siX x a a') : YesIn (evCall l x a n) (evCall l' x a' n') := by
  unfold evCall
  refine (up_item H h).app (YesIn.none (fun ev hev => ?_))
  split at hev
  · split at hev
    · exact absurd hev (List.not_mem_nil)
    · rw [List.mem_singleton] at hev; rw [hev]; rfl
  · exact absurd hev (List.not_mem_nil)
theorem up_chan (H : HitUp l l') {x : ByteArray} {a a' : Nat} (h : siX x a a') : YesIn (evChan l x a) (evChan l' x a') := by
  unfold evChan
  split
  · exact YesIn.none (fun ev h => absurd h (List.not_mem_nil))
  · exact up_item H h
theorem up_mk (env env' : Env) (x : ByteArray) (a a' : Nat) : YesIn (evMk env x a) (evMk env' x a') := by
  refine YesIn.none (fun ev hev => ?_)
  unfold evMk at hev
  split at hev
  · exact absurd hev (List.not_mem_nil)
  · split at hev
    · rw [List.mem_singleton] at hev; rw [hev]; rfl
    · exact absurd hev (List.not_mem_nil)
theorem up_flat {P : Tr → Tr → Prop} {f g : Tr → List Ev} (h : ∀ a b, P a b → YesIn (f a) (g b)) : ∀ (al bl : List Tr), all2 P al bl → YesIn (al.flatMap f) (bl.flatMap g) := by
  intro al
  induction al with
  | nil => intro bl _; exact YesIn.none (fun ev h => absurd h (List.not_mem_nil))
  | cons a r ih => intro bl hb; cases bl with
    | nil => exact hb.elim
    | cons b q => rw [List.flatMap_cons, List.flatMap_cons]; exact (h a b hb.1).app (ih q hb.2)
theorem up_expr (H : HitUp l l') (n : Nat) : ∀ (e e' : Tr) (env : Env), EnvN env → siE n e e' → YesIn (evX l p env e) (evX l' p env e') := by
  induction n with
  | zero => intro e e' env _ h; exact h.elim
  | succ n ih =>
    intro e e' env he h
    obtain ⟨k, x, m, al, al', f, f', t, t', rfl, rfl, h3, h4⟩ := h
    rw [evX_mk, evX_mk]
    split
    · rename_i hk
      exact up_local he (.inr (h3 (.inl hk)))
    · split
      · exact up_flat (fun a b => ih a b env he) al al' h4
      · split
        · rename_i hk
          exact (up_call H (.inr (h3 (.inr hk)))).app (up_flat (fun a b => ih a b env he) al al' h4)
        · exact YesIn.refl _
theorem up_block {P : Tr → Tr → Prop} (h : ∀ a b env, EnvN env → P a b → EnvN (scS env a) ∧ scS env a = scS env b ∧ YesIn (evY l p env a) (evY l' p env b)) : ∀ (al bl : List Tr) (env : Env), EnvN env → all2 P al bl → YesIn (evB l p env al) (evB l' p env bl) := by
  intro al
  induction al with
  | nil => intro bl env _ _; exact YesIn.none (fun ev h => absurd h (List.not_mem_nil))
  | cons a r ih => intro bl env he hb; cases bl with
    | nil => exact hb.elim
    | cons b q =>
      obtain ⟨h1, h2, h3⟩ := h a b env he hb.1
      rw [evB_cons, evB_cons, ← h2]
      exact h3.app (ih q _ h1 hb.2)
theorem up_stmt (H : HitUp l l') (n : Nat) : ∀ (s s' : Tr) (env : Env), EnvN env → siS n s s' → EnvN (scS env s) ∧ scS env s = scS env s' ∧ YesIn (evY l p env s) (evY l' p env s') := by
  induction n with
  | zero => intro e e' env _ h; exact h.elim
  | succ n ih =>
    intro s s' env he h
    obtain ⟨k, x, a, a', lb, o, e, e', th, th', el, el', f, f', t, t', rfl, rfl, hx, ⟨m, hE⟩, hT, hX⟩ := h
    rw [scS_mk, scS_mk, evY_mk, evY_mk]
    have h0 := up_expr (p := p) H m e e' env he hE
    have hT := up_block (fun a b env => ih a b env) th th' env he hT
    have hX := up_block (fun a b env => ih a b env) el el' env he hX
    refine ⟨?_, ?_, h0.app ?_⟩
    · split
      · exact he.mk x a
      · exact he
    · split
      · exact sc_same env hx
      · rfl
    · split
      · exact up_mk env env x a a'
      · split
        · exact up_local he hx
        · split
          · exact up_chan H hx
          · split
            · exact hT.app hX
            · split
              · exact hT
              · exact YesIn.refl _
theorem up_par : ∀ (ps ps' : List Pm) (env : Env), pm2 ps ps' → EnvN env → EnvN (scP env ps) ∧ scP env ps = scP env ps' ∧ YesIn (evP env ps) (evP env ps') := by
  intro ps
  induction ps with
  | nil => intro ps' env h he; cases ps' with
    | nil => exact ⟨he, rfl, YesIn.refl _⟩
    | cons b q => exact h.elim
  | cons a r ih => intro ps' env h he; cases ps' with
    | nil => exact h.elim
    | cons b q =>
      obtain ⟨⟨h1, h2, h3⟩, h4⟩ := h
      have hs : scMk env a.x a.a = scMk env b.x b.a := by rw [← h1]; exact sc_same env h3
      obtain ⟨i1, i2, i3⟩ := ih q (scMk env a.x a.a) h4 (he.mk _ _)
      refine ⟨i1, ?_, ?_⟩
      · show scP (scMk env a.x a.a) r = scP (scMk env b.x b.a) q
        rw [← hs]; exact i2
      · unfold evP
        rw [← hs, ← h1]
        exact (up_mk env env _ _ _).app i3
theorem sk_mem (l : List (Int × It)) (ss : List Rf) (n : Nat) (ev : Ev) : ev ∈ evSk l ss n ↔ ∃ k, k < n ∧ ev ∈ evSd l ss k := by
  induction n with
  | zero => constructor
            · intro h; exact absurd h (List.not_mem_nil)
            · rintro ⟨k, h, _⟩; omega
  | succ n ih =>
    unfold evSk
    rw [List.mem_append, ih]
    constructor
    · rintro (⟨k, h1, h2⟩ | h)
      · exact ⟨k, by omega, h2⟩
      · exact ⟨n, by omega, h⟩
    · rintro ⟨k, h1, h2⟩
      rcases Nat.lt_or_ge k n with h | h
      · exact .inl ⟨k, h, h2⟩
      · obtain rfl : k = n := by omega
        exact .inr h2
theorem up_send (H : HitUp l l') (ss ss' : List Rf) (h : rf2 ss ss') : YesIn (evSk l ss ss.length) (evSk l' ss' ss'.length) := by
  intro ev hev hb
  rw [sk_mem] at hev ⊢
  obtain ⟨k, h1, h2⟩ := hev
  refine ⟨k, by rw [← rf2_len ss ss' h]; exact h1, ?_⟩
  obtain ⟨r, hr⟩ : ∃ r, ss[k]? = some r := ⟨_, List.getElem?_eq_getElem h1⟩
  obtain ⟨r', hr', e1, e2⟩ := rf2_get ss ss' k r h hr
  unfold evSd at h2 ⊢
  rw [hr] at h2
  rw [hr']
  simp only at h2 ⊢
  rcases List.mem_append.1 h2 with h2 | h2
  · refine List.mem_append.2 (.inl ?_)
    rw [← e1]
    exact up_chan H e2 ev h2 hb
  · split at h2
    · rw [List.mem_singleton] at h2; rw [h2] at hb; cases hb
    · exact absurd h2 (List.not_mem_nil)
theorem up_it (H : HitUp l l') {it it' : It} (h : SmI it it') : YesIn (evF l p it) (evF l' p it') := by
  obtain ⟨n, hb⟩ := h.bd
  obtain ⟨h1, h2, h3⟩ := up_par it.ps it'.ps [] h.ps rfl
  unfold evF
  rw [← h2]
  exact (h3.app (up_send H _ _ h.ss)).app (up_block (fun a b env => up_stmt H n a b env) _ _ _ h1 hb)
theorem up_I (H : HitUp l l') {i : Nat} {q q' : Int × It} (h1 : l[i]? = some q) (h2 : l'[i]? = some q') (ha : q.1 = q'.1) (hs : SmI q.2 q'.2) : YesIn (evI l i) (evI l' i) := by
  unfold evI
  rw [h1, h2]
  simp only
  refine YesIn.app ?_ ?_
  · refine YesIn.none (fun ev hev => ?_)
    split at hev
    · rw [List.mem_singleton] at hev; rw [hev]; rfl
    · exact absurd hev (List.not_mem_nil)
  · rw [hs.k, ha]
    split
    · exact up_it H hs
    · exact YesIn.refl _
end
/-- Two files, of which the second has what the first has. -/
theorem hit_up {l l' : List (Int × It)} (h : ∀ (i : Nat) (q : Int × It), l[i]? = some q → ∃ q' : Int × It, l'[i]? = some q' ∧ q.1 = q'.1 ∧ SmI q.2 q'.2) : HitUp l l' := by
  intro kd x q hq
  obtain ⟨_, hx, hkd⟩ := hit_nm hq
  unfold hit fnd at hq
  by_cases hn : x = noB
  · rw [if_pos hn, if_pos (by decide)] at hq; cases hq
  · rw [if_neg hn] at hq
    unfold fidx at hq
    cases hi : l.findIdx? (fun e => isIt kd x e.2) with
    | none => rw [hi, if_pos (by decide)] at hq; cases hq
    | some i =>
      rw [hi] at hq
      simp only at hq
      rw [if_neg (by omega), Int.toNat_natCast] at hq
      obtain ⟨g1, g2, g3⟩ := List.findIdx?_eq_some_iff_getElem.1 hi
      obtain ⟨q', h1, h2, h3⟩ := h i q hq
      have key : ∀ (a b : Int × It), SmI a.2 b.2 → isIt kd x a.2 = isIt kd x b.2 := fun a b hs => by unfold isIt; rw [hs.k, hs.x]
      have hl' := (List.getElem?_eq_some_iff.1 h1)
      have hi' : l'.findIdx? (fun e => isIt kd x e.2) = some i := by
        rw [List.findIdx?_eq_some_iff_getElem]
        refine ⟨hl'.1, ?_, fun j hj => ?_⟩
        · rw [hl'.2, ← key q q' h3]
          rw [List.getElem?_eq_getElem g1] at hq
          injection hq with hq
          rw [← hq]
          exact g2
        · obtain ⟨r, r1, r2, r3⟩ := h j _ (List.getElem?_eq_getElem (by omega))
          have := (List.getElem?_eq_some_iff.1 r1).2
          rw [this, ← key _ r r3]
          exact g3 j hj
      refine ⟨q', ?_, h2.symm, ?_⟩
      · unfold hit fnd
        rw [if_neg hn]
        unfold fidx
        rw [hi']
        simp only
        rw [if_neg (by omega), Int.toNat_natCast]
        exact h1
      · rcases h3.mrk with e | e
        · rw [hx] at e; exact absurd e hn
        · exact e.symm
theorem us_mem (l : List (Int × It)) (n : Nat) (u : Int × Ev) : u ∈ usE l n ↔ ∃ i q, i < n ∧ l[i]? = some q ∧ u.1 = q.1 ∧ u.2 ∈ evI l i ∧ u.2.b = false := by
  induction n with
  | zero => constructor
            · intro h; exact absurd h (List.not_mem_nil)
            · rintro ⟨i, q, h, _⟩; omega
  | succ n ih =>
    unfold usE
    rw [List.mem_append, ih]
    constructor
    · rintro (⟨i, q, h1, h2⟩ | h)
      · exact ⟨i, q, by omega, h2⟩
      · cases hq : l[n]? with
        | none => rw [hq] at h; exact absurd h (List.not_mem_nil)
        | some q =>
          rw [hq] at h
          simp only [usI, yesL] at h
          obtain ⟨ev, h1, rfl⟩ := List.mem_map.1 h
          obtain ⟨h2, h3⟩ := List.mem_filter.1 h1
          exact ⟨n, q, by omega, hq, rfl, h2, by simpa using h3⟩
    · rintro ⟨i, q, h1, h2, h3, h4, h5⟩
      rcases Nat.lt_or_ge i n with h | h
      · exact .inl ⟨i, q, h, h2, h3, h4, h5⟩
      · obtain rfl : i = n := by omega
        refine .inr ?_
        rw [h2]
        simp only [usI, yesL]
        refine List.mem_map.2 ⟨u.2, List.mem_filter.2 ⟨h4, by simp [h5]⟩, ?_⟩
        rw [← h3]
theorem us_up {l l' : List (Int × It)} (h : ∀ (i : Nat) (q : Int × It), l[i]? = some q → ∃ q' : Int × It, l'[i]? = some q' ∧ q.1 = q'.1 ∧ SmI q.2 q'.2) : ∀ u ∈ usE l l.length, u ∈ usE l' l'.length := by
  intro u hu
  rw [us_mem] at hu ⊢
  obtain ⟨i, q, h1, h2, h3, h4, h5⟩ := hu
  obtain ⟨q', g1, g2, g3⟩ := h i q h2
  exact ⟨i, q', (List.getElem?_eq_some_iff.1 g1).1, g1, h3.trans g2, up_I (hit_up h) h2 g1 g2 g3 u.2 h4 h5, h5⟩
theorem siE_refl (n : Nat) : ∀ (c : Nat) (L : List Tok) (e : Tr), wfE L n c e → siE n e e := by
  induction n with
  | zero => intro c L e h; exact h.elim
  | succ n ih =>
    intro c L e h
    obtain ⟨k, x, m, al, f, t, rfl, h⟩ := h
    refine ⟨k, x, m, al, al, f, f, t, t, rfl, rfl, fun _ => rfl, ?_⟩
    have key : ∀ (al : List Tr) (c : Nat), wfL (wfE L n) c al → all2 (siE n) al al := by
      intro al
      induction al with
      | nil => intro c _; trivial
      | cons a r ih2 => rintro c ⟨c1, c2, _, h2, h3⟩; exact ⟨ih c1 L a h2, ih2 c2 h3⟩
    rcases h with ⟨_, _, _, h4⟩ | ⟨_, _, h3, _⟩ | ⟨_, _, h3⟩ | ⟨_, _, c2, _, h4⟩
    · rw [h4]; trivial
    · rw [h3]; trivial
    · exact key al c h3
    · exact key al c2 h4
theorem sm_itm (T : ByteArray) : SmI (itm T) (itm (jn T noB)) := by
  have h : tks (jn T noB) = tks T := by rw [tks_jn, show tks noB = [] by rfl]; simp
  unfold itm
  rw [h]
  exact it_sim (tks T) _ _
theorem sm_refl (T : ByteArray) : SmI (itm T) (itm T) := it_sim (tks T) T.size T.size
end Go.Proofs.YtpmjognfoddiaaaGreatDoor
namespace Go.Proofs.YtpmjognfoddiaaaGreatDoor
theorem cuts_more (s t : ByteArray) (k : Nat) (hk : k ≤ (tks t).length) : ∃ X, cutK (jn s t) (tks (jn s t)) ((tks s).length + k) = cts s ++ X ∧ ∀ c ∈ X, s.size + 1 ≤ c := by
  induction k with
  | zero => exact ⟨[], by rw [Nat.add_zero, cutK_left s t _ (Nat.le_refl _), List.append_nil]; rfl, fun c h => absurd h (List.not_mem_nil)⟩
  | succ k ih =>
    obtain ⟨X, h1, h2⟩ := ih (by omega)
    obtain ⟨u, hu⟩ : ∃ u, (tks t)[k]? = some u := ⟨_, List.getElem?_eq_getElem (by omega)⟩
    have hl : (tks (jn s t))[(tks s).length + k]? = some (shf (s.size + 1) u) := by
      rw [tks_jn, List.getElem?_append_right (by omega), Nat.add_sub_cancel_left, List.getElem?_map, hu]; rfl
    cases hc : cutB (jn s t) ((tks s).length + k) (shf (s.size + 1) u)
    · exact ⟨X, by rw [← Nat.add_assoc, cutK_no _ _ _ _ hl hc]; exact h1, h2⟩
    · refine ⟨X ++ [(shf (s.size + 1) u).a], by rw [← Nat.add_assoc, cutK_yes _ _ _ _ hl hc, h1, List.append_assoc], fun c h => ?_⟩
      rcases List.mem_append.1 h with h | h
      · exact h2 c h
      · rw [List.mem_singleton] at h
        rw [h]
        show s.size + 1 ≤ s.size + 1 + u.a
        omega
theorem cts_more (s t : ByteArray) : ∃ X, cts (jn s t) = cts s ++ X ∧ ∀ c ∈ X, s.size + 1 ≤ c := by
  have h := cuts_more s t (tks t).length (Nat.le_refl _)
  have e : (tks s).length + (tks t).length = (tks (jn s t)).length := by rw [tks_jn, List.length_append, List.length_map]
  rw [e] at h
  exact h
theorem cn_more (s t : ByteArray) (i : Nat) (hi : i < (cts s).length) : i < (cts (jn s t)).length ∧ cn (jn s t) i = cn s i := by
  obtain ⟨X, h1, _⟩ := cts_more s t
  refine ⟨by rw [h1, List.length_append]; omega, ?_⟩
  unfold cn
  rw [h1, List.getElem?_append_left hi, List.getElem?_eq_getElem hi]
  rfl
theorem cn_last (s t : ByteArray) : s.size + 1 ≤ cn (jn s t) (cts s).length := by
  obtain ⟨X, h1, h2⟩ := cts_more s t
  unfold cn
  rw [h1, List.getElem?_append_right (Nat.le_refl _), Nat.sub_self]
  cases hx : X[0]? with
  | none =>
    show s.size + 1 ≤ (jn s t).size
    rw [jn_size]
    omega
  | some c => exact h2 c (List.mem_of_getElem? hx)
theorem sm_at (s t : ByteArray) (i : Nat) (hi : i < (cts s).length) (hsz : (itI (jn s t) i).sz ≤ (itI s i).sz + 1) : SmI (itI s i) (itI (jn s t) i) := by
  obtain ⟨_, c2⟩ := cn_more s t i hi
  have hle := cn_le s (i + 1)
  have hJ := jn_size s t
  rcases Nat.lt_or_ge (i + 1) (cts s).length with h | h
  · obtain ⟨_, c3⟩ := cn_more s t (i + 1) h
    have e : txI (jn s t) i = txI s i := by
      unfold txI
      rw [c2, c3]
      exact ext_same (by omega) (by omega) rfl (fun y hy => jn_l s t _ (by omega))
    rw [itI_tx, itI_tx, e]
    exact sm_refl _
  · have hn : i + 1 = (cts s).length := by omega
    have h1 := cn_last s t
    rw [← hn] at h1
    have h2 := hsz
    rw [(itI_sz s i).1, (itI_sz (jn s t) i).1, c2, cn_end s (i + 1) h] at h2
    have h3 := cn_lt s i hi
    rw [cn_end s (i + 1) h] at h3
    have h4 : cn (jn s t) (i + 1) = s.size + 1 := by omega
    have e : txI (jn s t) i = jn (txI s i) noB := by
      have e0 : (txI s i).size = s.size - cn s i := by unfold txI; rw [cn_end s (i + 1) h, ext_size' _ _ _ (Nat.le_refl _)]
      apply eq_of_byt
      · rw [jn_size, e0]
        unfold txI
        rw [c2, h4, ext_size' _ _ _ (by omega)]
        show _ = _ + 1 + 0
        omega
      · intro y hy
        unfold txI at hy ⊢
        rw [c2, h4] at hy ⊢
        rw [ext_size' _ _ _ (by omega)] at hy
        rw [byt_ext _ _ _ _ (by omega)]
        rcases Nat.lt_or_ge y (s.size - cn s i) with hy1 | hy1
        · rw [jn_l s t _ (by omega), jn_l _ _ _ (by rw [cn_end s (i + 1) h, ext_size' _ _ _ (Nat.le_refl _)]; omega), byt_ext _ _ _ _ (by rw [cn_end s (i + 1) h]; omega)]
        · have ey : cn s i + y = s.size := by omega
          rw [ey, jn_m]
          have es : (s.extract (cn s i) (cn s (i + 1))).size = y := by rw [cn_end s (i + 1) h, ext_size' _ _ _ (Nat.le_refl _)]; omega
          have := jn_m (s.extract (cn s i) (cn s (i + 1))) noB
          rw [es] at this
          exact this.symm
    rw [itI_tx, itI_tx, e]
    exact sm_itm _
theorem fil_more (s t : ByteArray) (hsz : ∀ i, i < (cts s).length → (itI (jn s t) i).sz ≤ (itI s i).sz + 1) : ∀ (i : Nat) (q : Int × It), (fil s)[i]? = some q → ∃ q' : Int × It, (fil (jn s t))[i]? = some q' ∧ q.1 = q'.1 ∧ SmI q.2 q'.2 := by
  intro i q hq
  have hi : i < (cts s).length := by rw [← fil_len]; exact (List.getElem?_eq_some_iff.1 hq).1
  obtain ⟨c1, c2⟩ := cn_more s t i hi
  have hs := sm_at s t i hi (hsz i hi)
  have g1 := fil_get s i hi
  have g2 := fil_get (jn s t) i c1
  rw [c2] at g2
  generalize itI s i = a at hs g1
  generalize itI (jn s t) i = b at hs g2
  rw [g1] at hq
  injection hq with hq
  subst hq
  exact ⟨_, g2, rfl, hs⟩
/-- What was known is known. -/
theorem more (s t : ByteArray) (hsz : ∀ i, i < (cts s).length → (itI (jn s t) i).sz ≤ (itI s i).sz + 1) : ∀ u ∈ usE (fil s) (fil s).length, u ∈ usE (fil (jn s t)) (fil (jn s t)).length := us_up (fil_more s t hsz)
end Go.Proofs.YtpmjognfoddiaaaGreatDoor

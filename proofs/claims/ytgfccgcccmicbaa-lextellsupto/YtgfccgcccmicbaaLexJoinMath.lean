/- Tokens of two texts with a line feed between. -/
import Derived.Test.YtgfccgcccmicbaaLexMath
namespace Go.Proofs.Ytgfccgcccmicbaa
theorem app_data (a b : ByteArray) : (a ++ b).data.toList = a.data.toList ++ b.data.toList := by
  rw [ByteArray.data_append, Array.toList_append]
theorem app_size (a b : ByteArray) : (a ++ b).size = a.size + b.size := by
  rw [Lib.size_eq, app_data, List.length_append, ← Lib.size_eq, ← Lib.size_eq]
theorem byt_app_l (a b : ByteArray) (i : Nat) (h : i < a.size) : byt (a ++ b) i = byt a i := by
  unfold byt
  rw [app_data, List.getD_eq_getElem?_getD, List.getD_eq_getElem?_getD, List.getElem?_append_left (by rw [← Lib.size_eq]; exact h)]
theorem byt_app_r (a b : ByteArray) (i : Nat) : byt (a ++ b) (a.size + i) = byt b i := by
  unfold byt
  rw [app_data, List.getD_eq_getElem?_getD, List.getD_eq_getElem?_getD, List.getElem?_append_right (by rw [← Lib.size_eq]; omega), ← Lib.size_eq, Nat.add_sub_cancel_left]
theorem eq_of_byt (a b : ByteArray) (h : a.size = b.size) (hb : ∀ i, i < a.size → byt a i = byt b i) : a = b := by
  apply ByteArray.ext
  apply Array.toList_inj.1
  apply List.ext_getElem
  · rw [← Lib.size_eq, ← Lib.size_eq]; exact h
  · intro i h1 h2
    have := hb i (by rw [Lib.size_eq]; exact h1)
    unfold byt at this
    rw [List.getD_eq_getElem?_getD, List.getD_eq_getElem?_getD, List.getElem?_eq_getElem h1, List.getElem?_eq_getElem h2] at this
    exact UInt8.toNat_inj.1 this

def nlB : ByteArray := ⟨#[10]⟩
/-- Both texts, a line feed between. -/
def jn (s t : ByteArray) : ByteArray := s ++ nlB ++ t
theorem jn_size (s t : ByteArray) : (jn s t).size = s.size + 1 + t.size := by
  unfold jn
  rw [app_size, app_size]
  rfl
theorem jn_l (s t : ByteArray) (i : Nat) (h : i < s.size) : byt (jn s t) i = byt s i := by
  unfold jn
  rw [byt_app_l _ _ _ (by rw [app_size]; omega), byt_app_l _ _ _ h]
theorem jn_m (s t : ByteArray) : byt (jn s t) s.size = 10 := by
  unfold jn
  rw [byt_app_l _ _ _ (by rw [app_size]; show s.size < s.size + 1; omega)]
  have := byt_app_r s nlB 0
  rw [show byt nlB 0 = 10 by decide] at this
  simpa using this
theorem jn_r (s t : ByteArray) (i : Nat) : byt (jn s t) (s.size + 1 + i) = byt t i := by
  unfold jn
  have := byt_app_r (s ++ nlB) t i
  rw [app_size] at this
  exact this
theorem sp_l (p : Nat → Bool) (hp : p 10 = false) (s t : ByteArray) (i : Nat) (h : i ≤ s.size) : spE p (jn s t) i = spE p s i := by
  have hz := jn_size s t
  generalize hn : s.size - i = n
  induction n generalizing i with
  | zero =>
    have : i = s.size := by omega
    subst this
    rw [spE_out p s _ (Nat.le_refl _), spE_stop p _ _ (by omega) (by rw [jn_m]; exact hp)]
  | succ n ih =>
    rw [spE_eq p _ i (by omega), spE_eq p s i (by omega), jn_l s t i (by omega), ih (i + 1) (by omega) (by omega)]
theorem sp_r (p : Nat → Bool) (s t : ByteArray) (i : Nat) : spE p (jn s t) (s.size + 1 + i) = s.size + 1 + spE p t i := by
  have hz := jn_size s t
  generalize hn : t.size - i = n
  induction n generalizing i with
  | zero => rw [spE_out p t i (by omega), spE_out p _ _ (by omega)]
  | succ n ih =>
    rw [spE_eq p _ _ (by omega), spE_eq p t i (by omega), jn_r]
    have := ih (i + 1) (by omega)
    rw [show s.size + 1 + (i + 1) = s.size + 1 + i + 1 by omega] at this
    split
    · exact this
    · rfl
theorem sk_r (s t : ByteArray) (b : Bool) (i : Nat) : skE (jn s t) b (s.size + 1 + i) = s.size + 1 + skE t b i := by
  have hz := jn_size s t
  generalize hn : t.size - i = n
  induction n generalizing i b with
  | zero => rw [skE_out t b i (by omega), skE_out _ b _ (by omega)]
  | succ n ih =>
    rw [skE_eq _ b _ (by omega), skE_eq t b i (by omega), jn_r]
    have e : s.size + 1 + (i + 1) = s.size + 1 + i + 1 := by omega
    have h1 := ih true (i + 1) (by omega)
    have h2 := ih false (i + 1) (by omega)
    rw [e] at h1 h2
    rw [h1, h2]
    split
    · rfl
    · split
      · rfl
      · split <;> rfl
theorem sk_l (s t : ByteArray) (b : Bool) (i : Nat) (h : i ≤ s.size) : skE (jn s t) b i = if skE s b i < s.size then skE s b i else s.size + 1 + skE t false 0 := by
  have hz := jn_size s t
  generalize hn : s.size - i = n
  induction n generalizing i b with
  | zero =>
    have : i = s.size := by omega
    subst this
    rw [skE_out s b _ (Nat.le_refl _), if_neg (by omega), skE_eq _ b _ (by omega), jn_m]
    have := sk_r s t false 0
    simp [nnl, blk]
    exact this
  | succ n ih =>
    rw [skE_eq _ b i (by omega), jn_l s t i (by omega), ih true (i + 1) (by omega) (by omega), ih false (i + 1) (by omega) (by omega)]
    rw [skE_eq s b i (by omega)]
    split
    · rfl
    · split
      · rfl
      · split
        · rfl
        · rw [if_pos (by omega)]
def shf (n : Nat) (t : Tok) : Tok := ⟨t.k, t.x, n + t.a⟩
theorem tnd_l (s t : ByteArray) (i : Nat) (h : i < s.size) : tnd (jn s t) i = tnd s i := by
  unfold tnd
  rw [jn_l s t i h, sp_l wrd (by decide) s t i (by omega), sp_l dgt (by decide) s t i (by omega)]
theorem tnd_r (s t : ByteArray) (i : Nat) : tnd (jn s t) (s.size + 1 + i) = s.size + 1 + tnd t i := by
  unfold tnd
  rw [jn_r, sp_r, sp_r]
  split
  · rfl
  · split <;> rfl
theorem tok_l (s t : ByteArray) (i : Nat) (h : i < s.size) : tok (jn s t) i = tok s i := by
  unfold tok
  rw [jn_l s t i h, tnd_l s t i h]
  have hl := tnd_le s i h
  have hz := jn_size s t
  have e : (jn s t).extract i (tnd s i) = s.extract i (tnd s i) := by
    apply eq_of_byt
    · rw [ext_size' _ _ _ (by omega), ext_size' _ _ _ hl]
    · intro j hj
      rw [ext_size' _ _ _ (by omega)] at hj
      rw [byt_ext _ _ _ _ (by omega), byt_ext _ _ _ _ (by omega), jn_l s t _ (by omega)]
  rw [e]
theorem tok_r (s t : ByteArray) (i : Nat) (h : i < t.size) : tok (jn s t) (s.size + 1 + i) = shf (s.size + 1) (tok t i) := by
  unfold tok shf
  rw [jn_r, tnd_r]
  have hl := tnd_le t i h
  have hz := jn_size s t
  have e : (jn s t).extract (s.size + 1 + i) (s.size + 1 + tnd t i) = t.extract i (tnd t i) := by
    apply eq_of_byt
    · rw [ext_size' _ _ _ (by omega), ext_size' _ _ _ hl]; omega
    · intro j hj
      rw [ext_size' _ _ _ (by omega)] at hj
      rw [byt_ext _ _ _ _ (by omega), byt_ext _ _ _ _ (by omega), show s.size + 1 + i + j = s.size + 1 + (i + j) by omega, jn_r]
  rw [e]
theorem toks_r (s t : ByteArray) (i : Nat) : toks (jn s t) (s.size + 1 + i) = (toks t i).map (shf (s.size + 1)) := by
  have hz := jn_size s t
  generalize hn : t.size - i = n
  induction n using Nat.strongRecOn generalizing i with
  | _ n ih =>
    by_cases h : i < t.size
    · have h1 := tnd_gt t i h
      have h2 := skE_ge t false (tnd t i)
      rw [toks_eq _ _ (by omega), toks_eq t i h, tok_r s t i h, tnd_r, sk_r, ih _ (by omega) (skE t false (tnd t i)) rfl]
      rfl
    · rw [toks_out _ _ (by omega), toks_out _ _ (by omega)]; rfl
theorem toks_l (s t : ByteArray) (i : Nat) (h : i ≤ s.size) : toks (jn s t) (if i < s.size then i else s.size + 1 + skE t false 0) = toks s i ++ (tks t).map (shf (s.size + 1)) := by
  have hz := jn_size s t
  generalize hn : s.size - i = n
  induction n using Nat.strongRecOn generalizing i with
  | _ n ih =>
    by_cases hi : i < s.size
    · have h1 := tnd_gt s i hi
      have h2 := skE_ge s false (tnd s i)
      have h3 := tnd_le s i hi
      have h4 := skE_le s false _ h3
      rw [if_pos hi, toks_eq _ _ (by omega), toks_eq s i hi, tok_l s t i hi, tnd_l s t i hi, sk_l s t false _ h3, ih _ (by omega) (skE s false (tnd s i)) h4 rfl]
      rfl
    · rw [if_neg hi, toks_out s i (by omega), toks_r]
      rfl
theorem tks_jn (s t : ByteArray) : tks (jn s t) = tks s ++ (tks t).map (shf (s.size + 1)) := by
  have := toks_l s t (skE s false 0) (skE_le s false 0 (by omega))
  unfold tks
  rw [sk_l s t false 0 (by omega)]
  exact this
end Go.Proofs.Ytgfccgcccmicbaa

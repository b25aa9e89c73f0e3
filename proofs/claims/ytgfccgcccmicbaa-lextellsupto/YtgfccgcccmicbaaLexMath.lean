/- Tokens of a text as plain functions on its bytes: where a span ends, what is skipped, the list of tokens; gaps, cuts, words, and texts that are joined. -/
import Derived.Lib.Strings
namespace Go.Proofs.Ytgfccgcccmicbaa

def byt (s : ByteArray) (i : Nat) : Nat := (s.data.toList.getD i 0).toNat
theorem byt_get (s : ByteArray) (i : Nat) (h : i < s.size) : byt s i = (s[i]'h).toNat := by
  unfold byt
  have h' : i < s.data.toList.length := by rw [← Lib.size_eq]; exact h
  rw [List.getD_eq_getElem?_getD, List.getElem?_eq_getElem h']
  rfl
theorem byt_lt (s : ByteArray) (i : Nat) : byt s i < 256 := by
  unfold byt
  exact (s.data.toList.getD i 0).toNat_lt
theorem ext_size (s : ByteArray) (a b : Nat) : (s.extract a b).size = min (b - a) (s.size - a) := by
  rw [Lib.size_eq, Lib.extract_data, Lib.size_eq, List.length_take, List.length_drop]
theorem ext_size' (s : ByteArray) (a b : Nat) (hb : b ≤ s.size) : (s.extract a b).size = b - a := by
  rw [ext_size]; omega
theorem byt_ext (s : ByteArray) (a b k : Nat) (hk : a + k < b) : byt (s.extract a b) k = byt s (a + k) := by
  unfold byt
  rw [Lib.extract_data, List.getD_eq_getElem?_getD, List.getD_eq_getElem?_getD, List.getElem?_take, if_pos (by omega), List.getElem?_drop]

/-! Bytes. -/
def ltr (c : Nat) : Bool := decide ((97 ≤ c ∧ c ≤ 122) ∨ (65 ≤ c ∧ c ≤ 90) ∨ c = 95)
def dgt (c : Nat) : Bool := decide (48 ≤ c ∧ c ≤ 57)
def wrd (c : Nat) : Bool := ltr c || dgt c
def blk (c : Nat) : Bool := decide (c = 32 ∨ c = 10 ∨ c = 9)
def nnl (c : Nat) : Bool := decide (c ≠ 10)
def sgn (c : Nat) : Bool := decide (c = 40 ∨ c = 41 ∨ c = 123 ∨ c = 125 ∨ c = 44 ∨ c = 58 ∨ c = 59 ∨ c = 61 ∨ c = 43 ∨ c = 45 ∨ c = 42 ∨ c = 60)

/-! Where a span ends. -/
def spF (p : Nat → Bool) (s : ByteArray) : Nat → Nat → Nat
  | 0, i => i
  | n + 1, i => if p (byt s i) then spF p s n (i + 1) else i
def spE (p : Nat → Bool) (s : ByteArray) (i : Nat) : Nat := spF p s (s.size - i) i
theorem spE_out (p : Nat → Bool) (s : ByteArray) (i : Nat) (h : s.size ≤ i) : spE p s i = i := by
  unfold spE
  rw [show s.size - i = 0 by omega]
  rfl
theorem spE_eq (p : Nat → Bool) (s : ByteArray) (i : Nat) (h : i < s.size) : spE p s i = if p (byt s i) then spE p s (i + 1) else i := by
  unfold spE
  rw [show s.size - i = (s.size - (i + 1)) + 1 by omega]
  rfl
theorem spE_go (p : Nat → Bool) (s : ByteArray) (i : Nat) (h : i < s.size) (hp : p (byt s i) = true) : spE p s i = spE p s (i + 1) := by
  rw [spE_eq p s i h, if_pos hp]
theorem spE_stop (p : Nat → Bool) (s : ByteArray) (i : Nat) (h : i < s.size) (hp : p (byt s i) = false) : spE p s i = i := by
  rw [spE_eq p s i h, if_neg (by simp [hp])]
theorem spE_ge (p : Nat → Bool) (s : ByteArray) (i : Nat) : i ≤ spE p s i := by
  unfold spE
  generalize s.size - i = n
  induction n generalizing i with
  | zero => exact Nat.le_refl _
  | succ n ih =>
    unfold spF
    split
    · exact Nat.le_trans (Nat.le_succ i) (ih (i + 1))
    · exact Nat.le_refl _
theorem spE_le (p : Nat → Bool) (s : ByteArray) (i : Nat) (h : i ≤ s.size) : spE p s i ≤ s.size := by
  generalize hn : s.size - i = n
  induction n generalizing i with
  | zero => rw [spE_out p s i (by omega)]; exact h
  | succ n ih =>
    rw [spE_eq p s i (by omega)]
    split
    · exact ih (i + 1) (by omega) (by omega)
    · exact h
theorem spE_gt (p : Nat → Bool) (s : ByteArray) (i : Nat) (h : i < s.size) (hp : p (byt s i) = true) : i < spE p s i := by
  rw [spE_go p s i h hp]
  exact spE_ge p s (i + 1)

/-! What is skipped. -/
def skF (s : ByteArray) : Nat → Bool → Nat → Nat
  | 0, _, i => i
  | n + 1, b, i => if b && nnl (byt s i) then skF s n true (i + 1) else if blk (byt s i) then skF s n false (i + 1) else if byt s i = 35 then skF s n true (i + 1) else i
def skE (s : ByteArray) (b : Bool) (i : Nat) : Nat := skF s (s.size - i) b i
theorem skE_out (s : ByteArray) (b : Bool) (i : Nat) (h : s.size ≤ i) : skE s b i = i := by
  unfold skE
  rw [show s.size - i = 0 by omega]
  rfl
theorem skE_eq (s : ByteArray) (b : Bool) (i : Nat) (h : i < s.size) : skE s b i = if b && nnl (byt s i) then skE s true (i + 1) else if blk (byt s i) then skE s false (i + 1) else if byt s i = 35 then skE s true (i + 1) else i := by
  unfold skE
  rw [show s.size - i = (s.size - (i + 1)) + 1 by omega]
  rfl
theorem skE_ge (s : ByteArray) (b : Bool) (i : Nat) : i ≤ skE s b i := by
  unfold skE
  generalize s.size - i = n
  induction n generalizing i b with
  | zero => exact Nat.le_refl _
  | succ n ih =>
    unfold skF
    split
    · exact Nat.le_trans (Nat.le_succ i) (ih _ (i + 1))
    · split
      · exact Nat.le_trans (Nat.le_succ i) (ih _ (i + 1))
      · split
        · exact Nat.le_trans (Nat.le_succ i) (ih _ (i + 1))
        · exact Nat.le_refl _
theorem skE_le (s : ByteArray) (b : Bool) (i : Nat) (h : i ≤ s.size) : skE s b i ≤ s.size := by
  generalize hn : s.size - i = n
  induction n generalizing i b with
  | zero => rw [skE_out s b i (by omega)]; exact h
  | succ n ih =>
    rw [skE_eq s b i (by omega)]
    split
    · exact ih _ (i + 1) (by omega) (by omega)
    · split
      · exact ih _ (i + 1) (by omega) (by omega)
      · split
        · exact ih _ (i + 1) (by omega) (by omega)
        · exact h
theorem skE_blk (s : ByteArray) (i : Nat) (h : i < s.size) (hb : blk (byt s i) = true) : skE s false i = skE s false (i + 1) := by
  rw [skE_eq s false i h]; simp [hb]
theorem skE_stop (s : ByteArray) (i : Nat) (h : i < s.size) (hb : blk (byt s i) = false) (h35 : byt s i ≠ 35) : skE s false i = i := by
  rw [skE_eq s false i h]; simp [hb, h35]
theorem skE_note (s : ByteArray) (i : Nat) : skE s true i = skE s false (spE nnl s i) := by
  generalize hn : s.size - i = n
  induction n generalizing i with
  | zero => rw [spE_out _ s i (by omega), skE_out s _ i (by omega), skE_out s _ i (by omega)]
  | succ n ih =>
    by_cases h : nnl (byt s i) = true
    · rw [skE_eq s true i (by omega), spE_go nnl s i (by omega) h]
      simp only [h, Bool.and_true, if_true]
      exact ih (i + 1) (by omega)
    · have h' : nnl (byt s i) = false := by simpa using h
      rw [spE_stop nnl s i (by omega) h', skE_eq s true i (by omega), skE_eq s false i (by omega)]
      simp [h']
theorem skE_hash (s : ByteArray) (i : Nat) (h : i < s.size) (h35 : byt s i = 35) : skE s false i = skE s false (spE nnl s i) := by
  rw [skE_eq s false i h, spE_go nnl s i h (by rw [h35]; decide)]
  simp only [h35, Bool.false_and, show blk 35 = false by decide, if_true]
  simpa using skE_note s (i + 1)
theorem skE_at (s : ByteArray) (b : Bool) (i : Nat) (h : skE s b i < s.size) : blk (byt s (skE s b i)) = false ∧ byt s (skE s b i) ≠ 35 := by
  generalize hn : s.size - i = n
  induction n generalizing i b with
  | zero => rw [skE_out s b i (by omega)] at h; omega
  | succ n ih =>
    rw [skE_eq s b i (by omega)] at h ⊢
    split
    · rw [if_pos (by assumption)] at h; exact ih _ (i + 1) h (by omega)
    · rw [if_neg (by assumption)] at h
      split
      · rw [if_pos (by assumption)] at h; exact ih _ (i + 1) h (by omega)
      · rw [if_neg (by assumption)] at h
        split
        · rw [if_pos (by assumption)] at h; exact ih _ (i + 1) h (by omega)
        · rename_i h1 h2
          exact ⟨by simpa using h1, h2⟩

/-! Tokens. -/
structure Tok where
  k : Nat
  x : ByteArray
  a : Nat
def tkd (c : Nat) : Nat := if ltr c then 1 else if dgt c then 2 else if sgn c then 3 else 4
def tnd (s : ByteArray) (i : Nat) : Nat := if ltr (byt s i) then spE wrd s i else if dgt (byt s i) then spE dgt s i else i + 1
theorem tnd_gt (s : ByteArray) (i : Nat) (h : i < s.size) : i < tnd s i := by
  unfold tnd
  split
  · exact spE_gt wrd s i h (by unfold wrd; simp_all)
  · split
    · exact spE_gt dgt s i h (by assumption)
    · omega
theorem tnd_le (s : ByteArray) (i : Nat) (h : i < s.size) : tnd s i ≤ s.size := by
  unfold tnd
  split
  · exact spE_le _ s i (by omega)
  · split
    · exact spE_le _ s i (by omega)
    · omega
def tok (s : ByteArray) (i : Nat) : Tok := ⟨tkd (byt s i), s.extract i (tnd s i), i⟩
def tkF (s : ByteArray) : Nat → Nat → List Tok
  | 0, _ => []
  | n + 1, i => if i < s.size then tok s i :: tkF s n (skE s false (tnd s i)) else []
def toks (s : ByteArray) (i : Nat) : List Tok := tkF s (s.size - i) i
theorem tkF_fuel (s : ByteArray) (n m i : Nat) (hn : s.size - i ≤ n) (hm : s.size - i ≤ m) : tkF s n i = tkF s m i := by
  induction n generalizing m i with
  | zero => cases m with
    | zero => rfl
    | succ m => unfold tkF; rw [if_neg (by omega)]
  | succ n ih => cases m with
    | zero => unfold tkF; rw [if_neg (by omega)]
    | succ m =>
      unfold tkF
      split
      · rename_i h
        have h1 := tnd_gt s i h
        have h2 := skE_ge s false (tnd s i)
        rw [ih m _ (by omega) (by omega)]
      · rfl
theorem toks_out (s : ByteArray) (i : Nat) (h : s.size ≤ i) : toks s i = [] := by
  unfold toks
  rw [show s.size - i = 0 by omega]
  rfl
theorem toks_eq (s : ByteArray) (i : Nat) (h : i < s.size) : toks s i = tok s i :: toks s (skE s false (tnd s i)) := by
  have h1 := tnd_gt s i h
  have h2 := skE_ge s false (tnd s i)
  unfold toks
  rw [show s.size - i = (s.size - (i + 1)) + 1 by omega]
  conv => lhs; unfold tkF
  rw [if_pos h, tkF_fuel s _ (s.size - skE s false (tnd s i)) _ (by omega) (by omega)]
/-- All tokens of a text. -/
def tks (s : ByteArray) : List Tok := toks s (skE s false 0)
theorem toks_len (s : ByteArray) (i : Nat) : (toks s i).length ≤ s.size - i := by
  unfold toks
  generalize s.size - i = n
  induction n generalizing i with
  | zero => exact Nat.le_refl _
  | succ n ih =>
    unfold tkF
    split
    · simp only [List.length_cons]; exact Nat.succ_le_succ (ih _)
    · simp
theorem tks_len (s : ByteArray) : (tks s).length ≤ s.size := by
  have h := toks_len s (skE s false 0)
  unfold tks; omega
theorem drop_cons {α : Type} {l : List α} {k : Nat} {x : α} {r : List α} (h : l.drop k = x :: r) : l[k]? = some x ∧ l.drop (k + 1) = r ∧ k < l.length := by
  have hk : k < l.length := by
    rcases Nat.lt_or_ge k l.length with h1 | h1
    · exact h1
    · rw [List.drop_of_length_le h1] at h; cases h
  have e := List.drop_eq_getElem_cons hk
  rw [h] at e
  injection e with e1 e2
  exact ⟨by rw [List.getElem?_eq_getElem hk, e1], e2.symm, hk⟩
theorem drop_nil {α : Type} {l : List α} {k : Nat} (h : l.drop k = []) : l.length ≤ k := by simpa using h
theorem tok_at (s : ByteArray) (i k : Nat) (t : Tok) (h : (toks s i)[k]? = some t) : i + k ≤ t.a ∧ t.a < s.size ∧ t = tok s t.a := by
  induction k generalizing i with
  | zero =>
    by_cases hi : i < s.size
    · rw [toks_eq s i hi] at h
      simp at h
      subst h
      exact ⟨by simp [tok], hi, rfl⟩
    · rw [toks_out s i (by omega)] at h; cases h
  | succ k ih =>
    by_cases hi : i < s.size
    · rw [toks_eq s i hi] at h
      simp at h
      have h1 := tnd_gt s i hi
      have h2 := skE_ge s false (tnd s i)
      have := ih _ h
      exact ⟨by omega, this.2⟩
    · rw [toks_out s i (by omega)] at h; cases h

/-! Gaps. -/
def gpF (s : ByteArray) : Nat → Bool → Nat → Bool
  | 0, _, _ => true
  | n + 1, b, i => if byt s i = 10 then gpF s n false (i + 1) else if byt s i = 35 then gpF s n true (i + 1) else if !b && !blk (byt s i) then false else gpF s n b (i + 1)
def gpE (s : ByteArray) (b : Bool) (i : Nat) : Bool := gpF s (s.size - i) b i
theorem gpE_out (s : ByteArray) (b : Bool) (i : Nat) (h : s.size ≤ i) : gpE s b i = true := by
  unfold gpE
  rw [show s.size - i = 0 by omega]
  rfl
theorem gpE_eq (s : ByteArray) (b : Bool) (i : Nat) (h : i < s.size) : gpE s b i = if byt s i = 10 then gpE s false (i + 1) else if byt s i = 35 then gpE s true (i + 1) else if !b && !blk (byt s i) then false else gpE s b (i + 1) := by
  unfold gpE
  rw [show s.size - i = (s.size - (i + 1)) + 1 by omega]
  rfl
theorem gap_of (s : ByteArray) (a e : Nat) (he : e ≤ s.size) (b : Bool) (j : Nat) (haj : a ≤ j) (hje : j ≤ e) (h : skE s b j = e) : gpE (s.extract a e) b (j - a) = true := by
  generalize hn : e - j = n
  induction n generalizing j b with
  | zero => exact gpE_out _ _ _ (by rw [ext_size' s a e he]; omega)
  | succ n ih =>
    rw [gpE_eq _ _ _ (by rw [ext_size' s a e he]; omega), byt_ext s a e _ (by omega), show a + (j - a) = j by omega, show j - a + 1 = j + 1 - a by omega]
    rw [skE_eq s b j (by omega)] at h
    by_cases h10 : byt s j = 10
    · rw [if_pos h10]
      rw [h10] at h
      simp [nnl, blk] at h
      exact ih _ _ (by omega) (by omega) h (by omega)
    · rw [if_neg h10]
      by_cases h35 : byt s j = 35
      · rw [if_pos h35]
        rw [h35] at h
        simp [nnl, blk] at h
        exact ih _ _ (by omega) (by omega) h (by omega)
      · rw [if_neg h35]
        have hnl : nnl (byt s j) = true := by unfold nnl; simpa using h10
        cases b
        · rw [hnl] at h
          simp [h35] at h
          by_cases hb : blk (byt s j) = true
          · rw [if_pos hb] at h
            simp [hb]
            exact ih _ _ (by omega) (by omega) h (by omega)
          · rw [if_neg hb] at h; omega
        · rw [hnl] at h
          simp at h
          simp
          exact ih _ _ (by omega) (by omega) h (by omega)
def gap (s : ByteArray) : Bool := gpE s false 0
theorem gap_skip (s : ByteArray) (i : Nat) (h : i ≤ s.size) : gap (s.extract i (skE s false i)) = true := by
  have := gap_of s i (skE s false i) (skE_le s false i h) false i (Nat.le_refl _) (skE_ge s false i) rfl
  simpa [gap] using this
end Go.Proofs.Ytgfccgcccmicbaa

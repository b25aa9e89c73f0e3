/- Texts of this seat, one behind the other: LexMath, LexJoinMath, LexPure, ParMath, ParProps, ParPrefix, ParCut, LexCut, FilMath, TokFacts. -/
import Derived.Lib.Strings
import Derived.Lib.SlicesS
import GoSem.ClaimJoined
namespace Go.Proofs.Ytjpmnholpeidmaa

def byt (s : ByteArray) (i : Nat) : Nat := (s.data.toList.getD i 0).toNat
theorem byt_get (s : ByteArray) (i : Nat) (h : i < s.size) : byt s i = (s[i]'h).toNat := by
  unfold byt
  have h' : i < s.data.toList.length := by rw [← Lib.size_eq]; exact h
  rw [List.getD_eq_getElem?_getD, List.getElem?_eq_getElem h']
  rfl
theorem byt_lt (s : ByteArray) (i : Nat) : byt s i < 256 := by
  unfold byt
  exact (s.data.toList.getD i 0).toNat_lt
theorem ext_size (s : ByteArray) (a b : Nat) : (s.extract a b).size = min (b - a) (s.size - a) := by
  rw [Lib.size_eq, Lib.extract_data, Lib.size_eq, List.length_take, List.length_drop]
theorem ext_size' (s : ByteArray) (a b : Nat) (hb : b ≤ s.size) : (s.extract a b).size = b - a := by
  rw [ext_size]; omega
theorem byt_ext (s : ByteArray) (a b k : Nat) (hk : a + k < b) : byt (s.extract a b) k = byt s (a + k) := by
  unfold byt
  rw [Lib.extract_data, List.getD_eq_getElem?_getD, List.getD_eq_getElem?_getD, List.getElem?_take, if_pos (by omega), List.getElem?_drop]

/-! Bytes. -/
def ltr (c : Nat) : Bool := decide ((97 ≤ c ∧ c ≤ 122) ∨ (65 ≤ c ∧ c ≤ 90) ∨ c = 95)
def dgt (c : Nat) : Bool := decide (48 ≤ c ∧ c ≤ 57)
def wrd (c : Nat) : Bool := ltr c || dgt c
def blk (c : Nat) : Bool := decide (c = 32 ∨ c = 10 ∨ c = 9)
def nnl (c : Nat) : Bool := decide (c ≠ 10)
def sgn (c : Nat) : Bool := decide (c = 40 ∨ c = 41 ∨ c = 123 ∨ c = 125 ∨ c = 44 ∨ c = 58 ∨ c = 59 ∨ c = 61 ∨ c = 43 ∨ c = 45 ∨ c = 42 ∨ c = 60)

/-! Where a span ends. -/
def spF (p : Nat → Bool) (s : ByteArray) : Nat → Nat → Nat
  | 0, i => i
  | n + 1, i => if p (byt s i) then spF p s n (i + 1) else i
def spE (p : Nat → Bool) (s : ByteArray) (i : Nat) : Nat := spF p s (s.size - i) i
theorem spE_out (p : Nat → Bool) (s : ByteArray) (i : Nat) (h : s.size ≤ i) : spE p s i = i := by
  unfold spE
  rw [show s.size - i = 0 by omega]
  rfl
theorem spE_eq (p : Nat → Bool) (s : ByteArray) (i : Nat) (h : i < s.size) : spE p s i = if p (byt s i) then spE p s (i + 1) else i := by
  unfold spE
  rw [show s.size - i = (s.size - (i + 1)) + 1 by omega]
  rfl
theorem spE_go (p : Nat → Bool) (s : ByteArray) (i : Nat) (h : i < s.size) (hp : p (byt s i) = true) : spE p s i = spE p s (i + 1) := by
  rw [spE_eq p s i h, if_pos hp]
theorem spE_stop (p : Nat → Bool) (s : ByteArray) (i : Nat) (h : i < s.size) (hp : p (byt s i) = false) : spE p s i = i := by
  rw [spE_eq p s i h, if_neg (by simp [hp])]
theorem spE_ge (p : Nat → Bool) (s : ByteArray) (i : Nat) : i ≤ spE p s i := by
  unfold spE
  generalize s.size - i = n
  induction n generalizing i with
  | zero => exact Nat.le_refl _
  | succ n ih =>
    unfold spF
    split
    · exact Nat.le_trans (Nat.le_succ i) (ih (i + 1))
    · exact Nat.le_refl _
theorem spE_le (p : Nat → Bool) (s : ByteArray) (i : Nat) (h : i ≤ s.size) : spE p s i ≤ s.size := by
  generalize hn : s.size - i = n
  induction n generalizing i with
  | zero => rw [spE_out p s i (by omega)]; exact h
  | succ n ih =>
    rw [spE_eq p s i (by omega)]
    split
    · exact ih (i + 1) (by omega) (by omega)
    · exact h
theorem spE_gt (p : Nat → Bool) (s : ByteArray) (i : Nat) (h : i < s.size) (hp : p (byt s i) = true) : i < spE p s i := by
  rw [spE_go p s i h hp]
  exact spE_ge p s (i + 1)

/-! What is skipped. -/
def skF (s : ByteArray) : Nat → Bool → Nat → Nat
  | 0, _, i => i
  | n + 1, b, i => if b && nnl (byt s i) then skF s n true (i + 1) else if blk (byt s i) then skF s n false (i + 1) else if byt s i = 35 then skF s n true (i + 1) else i
def skE (s : ByteArray) (b : Bool) (i : Nat) : Nat := skF s (s.size - i) b i
theorem skE_out (s : ByteArray) (b : Bool) (i : Nat) (h : s.size ≤ i) : skE s b i = i := by
  unfold skE
  rw [show s.size - i = 0 by omega]
  rfl
theorem skE_eq (s : ByteArray) (b : Bool) (i : Nat) (h : i < s.size) : skE s b i = if b && nnl (byt s i) then skE s true (i + 1) else if blk (byt s i) then skE s false (i + 1) else if byt s i = 35 then skE s true (i + 1) else i := by
  unfold skE
  rw [show s.size - i = (s.size - (i + 1)) + 1 by omega]
  rfl
theorem skE_ge (s : ByteArray) (b : Bool) (i : Nat) : i ≤ skE s b i := by
  unfold skE
  generalize s.size - i = n
  induction n generalizing i b with
  | zero => exact Nat.le_refl _
  | succ n ih =>
    unfold skF
    split
    · exact Nat.le_trans (Nat.le_succ i) (ih _ (i + 1))
    · split
      · exact Nat.le_trans (Nat.le_succ i) (ih _ (i + 1))
      · split
        · exact Nat.le_trans (Nat.le_succ i) (ih _ (i + 1))
        · exact Nat.le_refl _
theorem skE_le (s : ByteArray) (b : Bool) (i : Nat) (h : i ≤ s.size) : skE s b i ≤ s.size := by
  generalize hn : s.size - i = n
  induction n generalizing i b with
  | zero => rw [skE_out s b i (by omega)]; exact h
  | succ n ih =>
    rw [skE_eq s b i (by omega)]
    split
    · exact ih _ (i + 1) (by omega) (by omega)
    · split
      · exact ih _ (i + 1) (by omega) (by omega)
      · split
        · exact ih _ (i + 1) (by omega) (by omega)
        · exact h
theorem skE_blk (s : ByteArray) (i : Nat) (h : i < s.size) (hb : blk (byt s i) = true) : skE s false i = skE s false (i + 1) := by
  rw [skE_eq s false i h]; simp [hb]
theorem skE_stop (s : ByteArray) (i : Nat) (h : i < s.size) (hb : blk (byt s i) = false) (h35 : byt s i ≠ 35) : skE s false i = i := by
  rw [skE_eq s false i h]; simp [hb, h35]
theorem skE_note (s : ByteArray) (i : Nat) : skE s true i = skE s false (spE nnl s i) := by
  generalize hn : s.size - i = n
  induction n generalizing i with
  | zero => rw [spE_out _ s i (by omega), skE_out s _ i (by omega), skE_out s _ i (by omega)]
  | succ n ih =>
    by_cases h : nnl (byt s i) = true
    · rw [skE_eq s true i (by omega), spE_go nnl s i (by omega) h]
      simp only [h, Bool.and_true, if_true]
      exact ih (i + 1) (by omega)
    · have h' : nnl (byt s i) = false := by simpa using h
      rw [spE_stop nnl s i (by omega) h', skE_eq s true i (by omega), skE_eq s false i (by omega)]
      simp [h']
theorem skE_hash (s : ByteArray) (i : Nat) (h : i < s.size) (h35 : byt s i = 35) : skE s false i = skE s false (spE nnl s i) := by
  rw [skE_eq s false i h, spE_go nnl s i h (by rw [h35]; decide)]
  simp only [h35, Bool.false_and, show blk 35 = false by decide, if_true]
  simpa using skE_note s (i + 1)
theorem skE_at (s : ByteArray) (b : Bool) (i : Nat) (h : skE s b i < s.size) : blk (byt s (skE s b i)) = false ∧ byt s (skE s b i) ≠ 35 := by
  generalize hn : s.size - i = n
  induction n generalizing i b with
  | zero => rw [skE_out s b i (by omega)] at h; omega
  | succ n ih =>
    rw [skE_eq s b i (by omega)] at h ⊢
    split
    · rw [if_pos (by assumption)] at h; exact ih _ (i + 1) h (by omega)
    · rw [if_neg (by assumption)] at h
      split
      · rw [if_pos (by assumption)] at h; exact ih _ (i + 1) h (by omega)
      · rw [if_neg (by assumption)] at h
        split
        · rw [if_pos (by assumption)] at h; exact ih _ (i + 1) h (by omega)
        · rename_i h1 h2
          exact ⟨by simpa using h1, h2⟩

/-! Tokens. -/
structure Tok where
  k : Nat
  x : ByteArray
  a : Nat
def tkd (c : Nat) : Nat := if ltr c then 1 else if dgt c then 2 else if sgn c then 3 else 4
def tnd (s : ByteArray) (i : Nat) : Nat := if ltr (byt s i) then spE wrd s i else if dgt (byt s i) then spE dgt s i else i + 1
theorem tnd_gt (s : ByteArray) (i : Nat) (h : i < s.size) : i < tnd s i := by
  unfold tnd
  split
  · exact spE_gt wrd s i h (by unfold wrd; simp_all)
  · split
    · exact spE_gt dgt s i h (by assumption)
    · omega
theorem tnd_le (s : ByteArray) (i : Nat) (h : i < s.size) : tnd s i ≤ s.size := by
  unfold tnd
  split
  · exact spE_le _ s i (by omega)
  · split
    · exact spE_le _ s i (by omega)
    · omega
def tok (s : ByteArray) (i : Nat) : Tok := ⟨tkd (byt s i), s.extract i (tnd s i), i⟩
def tkF (s : ByteArray) : Nat → Nat → List Tok
  | 0, _ => []
  | n + 1, i => if i < s.size then tok s i :: tkF s n (skE s false (tnd s i)) else []
def toks (s : ByteArray) (i : Nat) : List Tok := tkF s (s.size - i) i
theorem tkF_fuel (s : ByteArray) (n m i : Nat) (hn : s.size - i ≤ n) (hm : s.size - i ≤ m) : tkF s n i = tkF s m i := by
  induction n generalizing m i with
  | zero => cases m with
    | zero => rfl
    | succ m => unfold tkF; rw [if_neg (by omega)]
  | succ n ih => cases m with
    | zero => unfold tkF; rw [if_neg (by omega)]
    | succ m =>
      unfold tkF
      split
      · rename_i h
        have h1 := tnd_gt s i h
        have h2 := skE_ge s false (tnd s i)
        rw [ih m _ (by omega) (by omega)]
      · rfl
theorem toks_out (s : ByteArray) (i : Nat) (h : s.size ≤ i) : toks s i = [] := by
  unfold toks
  rw [show s.size - i = 0 by omega]
  rfl
theorem toks_eq (s : ByteArray) (i : Nat) (h : i < s.size) : toks s i = tok s i :: toks s (skE s false (tnd s i)) := by
  have h1 := tnd_gt s i h
  have h2 := skE_ge s false (tnd s i)
  unfold toks
  rw [show s.size - i = (s.size - (i + 1)) + 1 by omega]
  conv => lhs; unfold tkF
  rw [if_pos h, tkF_fuel s _ (s.size - skE s false (tnd s i)) _ (by omega) (by omega)]
/-- All tokens of a text. -/
def tks (s : ByteArray) : List Tok := toks s (skE s false 0)
theorem toks_len (s : ByteArray) (i : Nat) : (toks s i).length ≤ s.size - i := by
  unfold toks
  generalize s.size - i = n
  induction n generalizing i with
  | zero => exact Nat.le_refl _
  | succ n ih =>
    unfold tkF
    split
    · simp only [List.length_cons]; exact Nat.succ_le_succ (ih _)
    · simp
theorem tks_len (s : ByteArray) : (tks s).length ≤ s.size := by
  have h := toks_len s (skE s false 0)
  unfold tks; omega
theorem drop_cons {α : Type} {l : List α} {k : Nat} {x : α} {r : List α} (h : l.drop k = x :: r) : l[k]? = some x ∧ l.drop (k + 1) = r ∧ k < l.length := by
  have hk : k < l.length := by
    rcases Nat.lt_or_ge k l.length with h1 | h1
    · exact h1
    · rw [List.drop_of_length_le h1] at h; cases h
  have e := List.drop_eq_getElem_cons hk
  rw [h] at e
  injection e with e1 e2
  exact ⟨by rw [List.getElem?_eq_getElem hk, e1], e2.symm, hk⟩
theorem drop_nil {α : Type} {l : List α} {k : Nat} (h : l.drop k = []) : l.length ≤ k := by simpa using h
theorem tok_at (s : ByteArray) (i k : Nat) (t : Tok) (h : (toks s i)[k]? = some t) : i + k ≤ t.a ∧ t.a < s.size ∧ t = tok s t.a := by
  induction k generalizing i with
  | zero =>
    by_cases hi : i < s.size
    · rw [toks_eq s i hi] at h
      simp at h
      subst h
      exact ⟨by simp [tok], hi, rfl⟩
    · rw [toks_out s i (by omega)] at h; cases h
  | succ k ih =>
    by_cases hi : i < s.size
    · rw [toks_eq s i hi] at h
      simp at h
      have h1 := tnd_gt s i hi
      have h2 := skE_ge s false (tnd s i)
      have := ih _ h
      exact ⟨by omega, this.2⟩
    · rw [toks_out s i (by omega)] at h; cases h

/-! Gaps. -/
def gpF (s : ByteArray) : Nat → Bool → Nat → Bool
  | 0, _, _ => true
  | n + 1, b, i => if byt s i = 10 then gpF s n false (i + 1) else if byt s i = 35 then gpF s n true (i + 1) else if !b && !blk (byt s i) then false else gpF s n b (i + 1)
def gpE (s : ByteArray) (b : Bool) (i : Nat) : Bool := gpF s (s.size - i) b i
theorem gpE_out (s : ByteArray) (b : Bool) (i : Nat) (h : s.size ≤ i) : gpE s b i = true := by
  unfold gpE
  rw [show s.size - i = 0 by omega]
  rfl
theorem gpE_eq (s : ByteArray) (b : Bool) (i : Nat) (h : i < s.size) : gpE s b i = if byt s i = 10 then gpE s false (i + 1) else if byt s i = 35 then gpE s true (i + 1) else if !b && !blk (byt s i) then false else gpE s b (i + 1) := by
  unfold gpE
  rw [show s.size - i = (s.size - (i + 1)) + 1 by omega]
  rfl
theorem gap_of (s : ByteArray) (a e : Nat) (he : e ≤ s.size) (b : Bool) (j : Nat) (haj : a ≤ j) (hje : j ≤ e) (h : skE s b j = e) : gpE (s.extract a e) b (j - a) = true := by
  generalize hn : e - j = n
  induction n generalizing j b with
  | zero => exact gpE_out _ _ _ (by rw [ext_size' s a e he]; omega)
  | succ n ih =>
    rw [gpE_eq _ _ _ (by rw [ext_size' s a e he]; omega), byt_ext s a e _ (by omega), show a + (j - a) = j by omega, show j - a + 1 = j + 1 - a by omega]
    rw [skE_eq s b j (by omega)] at h
    by_cases h10 : byt s j = 10
    · rw [if_pos h10]
      rw [h10] at h
      simp [nnl, blk] at h
      exact ih _ _ (by omega) (by omega) h (by omega)
    · rw [if_neg h10]
      by_cases h35 : byt s j = 35
      · rw [if_pos h35]
        rw [h35] at h
        simp [nnl, blk] at h
        exact ih _ _ (by omega) (by omega) h (by omega)
      · rw [if_neg h35]
        have hnl : nnl (byt s j) = true := by unfold nnl; simpa using h10
        cases b
        · rw [hnl] at h
          simp [h35] at h
          by_cases hb : blk (byt s j) = true
          · rw [if_pos hb] at h
            simp [hb]
            exact ih _ _ (by omega) (by omega) h (by omega)
          · rw [if_neg hb] at h; omega
        · rw [hnl] at h
          simp at h
          simp
          exact ih _ _ (by omega) (by omega) h (by omega)
def gap (s : ByteArray) : Bool := gpE s false 0
theorem gap_skip (s : ByteArray) (i : Nat) (h : i ≤ s.size) : gap (s.extract i (skE s false i)) = true := by
  have := gap_of s i (skE s false i) (skE_le s false i h) false i (Nat.le_refl _) (skE_ge s false i) rfl
  simpa [gap] using this
end Go.Proofs.Ytjpmnholpeidmaa
namespace Go.Proofs.Ytjpmnholpeidmaa
theorem app_data (a b : ByteArray) : (a ++ b).data.toList = a.data.toList ++ b.data.toList := by
  rw [ByteArray.data_append, Array.toList_append]
theorem app_size (a b : ByteArray) : (a ++ b).size = a.size + b.size := by
  rw [Lib.size_eq, app_data, List.length_append, ← Lib.size_eq, ← Lib.size_eq]
theorem byt_app_l (a b : ByteArray) (i : Nat) (h : i < a.size) : byt (a ++ b) i = byt a i := by
  unfold byt
  rw [app_data, List.getD_eq_getElem?_getD, List.getD_eq_getElem?_getD, List.getElem?_append_left (by rw [← Lib.size_eq]; exact h)]
theorem byt_app_r (a b : ByteArray) (i : Nat) : byt (a ++ b) (a.size + i) = byt b i := by
  unfold byt
  rw [app_data, List.getD_eq_getElem?_getD, List.getD_eq_getElem?_getD, List.getElem?_append_right (by rw [← Lib.size_eq]; omega), ← Lib.size_eq, Nat.add_sub_cancel_left]
theorem eq_of_byt (a b : ByteArray) (h : a.size = b.size) (hb : ∀ i, i < a.size → byt a i = byt b i) : a = b := by
  apply ByteArray.ext
  apply Array.toList_inj.1
  apply List.ext_getElem
  · rw [← Lib.size_eq, ← Lib.size_eq]; exact h
  · intro i h1 h2
    have := hb i (by rw [Lib.size_eq]; exact h1)
    unfold byt at this
    rw [List.getD_eq_getElem?_getD, List.getD_eq_getElem?_getD, List.getElem?_eq_getElem h1, List.getElem?_eq_getElem h2] at this
    exact UInt8.toNat_inj.1 this

def nlB : ByteArray := ⟨#[10]⟩
/-- Both texts, a line feed between. -/
def jn (s t : ByteArray) : ByteArray := s ++ nlB ++ t
theorem jn_size (s t : ByteArray) : (jn s t).size = s.size + 1 + t.size := by
  unfold jn
  rw [app_size, app_size]
  rfl
theorem jn_l (s t : ByteArray) (i : Nat) (h : i < s.size) : byt (jn s t) i = byt s i := by
  unfold jn
  rw [byt_app_l _ _ _ (by rw [app_size]; omega), byt_app_l _ _ _ h]
theorem jn_m (s t : ByteArray) : byt (jn s t) s.size = 10 := by
  unfold jn
  rw [byt_app_l _ _ _ (by rw [app_size]; show s.size < s.size + 1; omega)]
  have := byt_app_r s nlB 0
  rw [show byt nlB 0 = 10 by decide] at this
  simpa using this
theorem jn_r (s t : ByteArray) (i : Nat) : byt (jn s t) (s.size + 1 + i) = byt t i := by
  unfold jn
  have := byt_app_r (s ++ nlB) t i
  rw [app_size] at this
  exact this
theorem sp_l (p : Nat → Bool) (hp : p 10 = false) (s t : ByteArray) (i : Nat) (h : i ≤ s.size) : spE p (jn s t) i = spE p s i := by
  have hz := jn_size s t
  generalize hn : s.size - i = n
  induction n generalizing i with
  | zero =>
    have : i = s.size := by omega
    subst this
    rw [spE_out p s _ (Nat.le_refl _), spE_stop p _ _ (by omega) (by rw [jn_m]; exact hp)]
  | succ n ih =>
    rw [spE_eq p _ i (by omega), spE_eq p s i (by omega), jn_l s t i (by omega), ih (i + 1) (by omega) (by omega)]
theorem sp_r (p : Nat → Bool) (s t : ByteArray) (i : Nat) : spE p (jn s t) (s.size + 1 + i) = s.size + 1 + spE p t i := by
  have hz := jn_size s t
  generalize hn : t.size - i = n
  induction n generalizing i with
  | zero => rw [spE_out p t i (by omega), spE_out p _ _ (by omega)]
  | succ n ih =>
    rw [spE_eq p _ _ (by omega), spE_eq p t i (by omega), jn_r]
    have := ih (i + 1) (by omega)
    rw [show s.size + 1 + (i + 1) = s.size + 1 + i + 1 by omega] at this
    split
    · exact this
    · rfl
theorem sk_r (s t : ByteArray) (b : Bool) (i : Nat) : skE (jn s t) b (s.size + 1 + i) = s.size + 1 + skE t b i := by
  have hz := jn_size s t
  generalize hn : t.size - i = n
  induction n generalizing i b with
  | zero => rw [skE_out t b i (by omega), skE_out _ b _ (by omega)]
  | succ n ih =>
    rw [skE_eq _ b _ (by omega), skE_eq t b i (by omega), jn_r]
    have e : s.size + 1 + (i + 1) = s.size + 1 + i + 1 := by omega
    have h1 := ih true (i + 1) (by omega)
    have h2 := ih false (i + 1) (by omega)
    rw [e] at h1 h2
    rw [h1, h2]
    split
    · rfl
    · split
      · rfl
      · split <;> rfl
theorem sk_l (s t : ByteArray) (b : Bool) (i : Nat) (h : i ≤ s.size) : skE (jn s t) b i = if skE s b i < s.size then skE s b i else s.size + 1 + skE t false 0 := by
  have hz := jn_size s t
  generalize hn : s.size - i = n
  induction n generalizing i b with
  | zero =>
    have : i = s.size := by omega
    subst this
    rw [skE_out s b _ (Nat.le_refl _), if_neg (by omega), skE_eq _ b _ (by omega), jn_m]
    have := sk_r s t false 0
    simp [nnl, blk]
    exact this
  | succ n ih =>
    rw [skE_eq _ b i (by omega), jn_l s t i (by omega), ih true (i + 1) (by omega) (by omega), ih false (i + 1) (by omega) (by omega)]
    rw [skE_eq s b i (by omega)]
    split
    · rfl
    · split
      · rfl
      · split
        · rfl
        · rw [if_pos (by omega)]
def shf (n : Nat) (t : Tok) : Tok := ⟨t.k, t.x, n + t.a⟩
theorem tnd_l (s t : ByteArray) (i : Nat) (h : i < s.size) : tnd (jn s t) i = tnd s i := by
  unfold tnd
  rw [jn_l s t i h, sp_l wrd (by decide) s t i (by omega), sp_l dgt (by decide) s t i (by omega)]
theorem tnd_r (s t : ByteArray) (i : Nat) : tnd (jn s t) (s.size + 1 + i) = s.size + 1 + tnd t i := by
  unfold tnd
  rw [jn_r, sp_r, sp_r]
  split
  · rfl
  · split <;> rfl
theorem tok_l (s t : ByteArray) (i : Nat) (h : i < s.size) : tok (jn s t) i = tok s i := by
  unfold tok
  rw [jn_l s t i h, tnd_l s t i h]
  have hl := tnd_le s i h
  have hz := jn_size s t
  have e : (jn s t).extract i (tnd s i) = s.extract i (tnd s i) := by
    apply eq_of_byt
    · rw [ext_size' _ _ _ (by omega), ext_size' _ _ _ hl]
    · intro j hj
      rw [ext_size' _ _ _ (by omega)] at hj
      rw [byt_ext _ _ _ _ (by omega), byt_ext _ _ _ _ (by omega), jn_l s t _ (by omega)]
  rw [e]
theorem tok_r (s t : ByteArray) (i : Nat) (h : i < t.size) : tok (jn s t) (s.size + 1 + i) = shf (s.size + 1) (tok t i) := by
  unfold tok shf
  rw [jn_r, tnd_r]
  have hl := tnd_le t i h
  have hz := jn_size s t
  have e : (jn s t).extract (s.size + 1 + i) (s.size + 1 + tnd t i) = t.extract i (tnd t i) := by
    apply eq_of_byt
    · rw [ext_size' _ _ _ (by omega), ext_size' _ _ _ hl]; omega
    · intro j hj
      rw [ext_size' _ _ _ (by omega)] at hj
      rw [byt_ext _ _ _ _ (by omega), byt_ext _ _ _ _ (by omega), show s.size + 1 + i + j = s.size + 1 + (i + j) by omega, jn_r]
  rw [e]
theorem toks_r (s t : ByteArray) (i : Nat) : toks (jn s t) (s.size + 1 + i) = (toks t i).map (shf (s.size + 1)) := by
  have hz := jn_size s t
  generalize hn : t.size - i = n
  induction n using Nat.strongRecOn generalizing i with
  | _ n ih =>
    by_cases h : i < t.size
    · have h1 := tnd_gt t i h
      have h2 := skE_ge t false (tnd t i)
      rw [toks_eq _ _ (by omega), toks_eq t i h, tok_r s t i h, tnd_r, sk_r, ih _ (by omega) (skE t false (tnd t i)) rfl]
      rfl
    · rw [toks_out _ _ (by omega), toks_out _ _ (by omega)]; rfl
theorem toks_l (s t : ByteArray) (i : Nat) (h : i ≤ s.size) : toks (jn s t) (if i < s.size then i else s.size + 1 + skE t false 0) = toks s i ++ (tks t).map (shf (s.size + 1)) := by
  have hz := jn_size s t
  generalize hn : s.size - i = n
  induction n using Nat.strongRecOn generalizing i with
  | _ n ih =>
    by_cases hi : i < s.size
    · have h1 := tnd_gt s i hi
      have h2 := skE_ge s false (tnd s i)
      have h3 := tnd_le s i hi
      have h4 := skE_le s false _ h3
      rw [if_pos hi, toks_eq _ _ (by omega), toks_eq s i hi, tok_l s t i hi, tnd_l s t i hi, sk_l s t false _ h3, ih _ (by omega) (skE s false (tnd s i)) h4 rfl]
      rfl
    · rw [if_neg hi, toks_out s i (by omega), toks_r]
      rfl
theorem tks_jn (s t : ByteArray) : tks (jn s t) = tks s ++ (tks t).map (shf (s.size + 1)) := by
  have := toks_l s t (skE s false 0) (skE_le s false 0 (by omega))
  unfold tks
  rw [sk_l s t false 0 (by omega)]
  exact this
end Go.Proofs.Ytjpmnholpeidmaa
namespace Go.Proofs.Ytjpmnholpeidmaa
/-- The language's own words. -/
def ownL : List ByteArray := [⟨#[102, 110]⟩, ⟨#[99, 104, 97, 110]⟩, ⟨#[108, 101, 116]⟩, ⟨#[105, 102]⟩, ⟨#[101, 108, 115, 101]⟩, ⟨#[119, 104, 105, 108, 101]⟩, ⟨#[115, 101, 110, 100]⟩, ⟨#[114, 101, 116, 117, 114, 110]⟩, ⟨#[115, 101, 110, 100, 115]⟩]
/-! Word. -/
def wdB (s : ByteArray) : Bool := decide (0 < s.size ∧ s.size ≤ 12) && (ltr (byt s 0) && decide (spE wrd s 0 = s.size))
/-- A word that is none of the language's own. -/
def nmB (s : ByteArray) : Bool := wdB s && !(Lib.containsS ownL s)
/-- Is token k the first, or one that opens an item right behind a line feed? -/
def opn (x : ByteArray) : Bool := decide (x = ⟨#[102, 110]⟩ ∨ x = ⟨#[99, 104, 97, 110]⟩)
def cutB (s : ByteArray) (k : Nat) (t : Tok) : Bool := k == 0 || (opn t.x && byt s (t.a - 1) == 10)
/-- The cuts among the first k tokens. -/
def cutK (s : ByteArray) (l : List Tok) : Nat → List Nat
  | 0 => []
  | k + 1 => cutK s l k ++ (match l[k]? with | some t => if cutB s k t then [t.a] else [] | none => [])
def cts (s : ByteArray) : List Nat := cutK s (tks s) (tks s).length
theorem cutK_len (s : ByteArray) (l : List Tok) (k : Nat) : (cutK s l k).length ≤ k := by
  induction k with
  | zero => exact Nat.le_refl _
  | succ k ih =>
    unfold cutK
    rw [List.length_append]
    have : (match l[k]? with | some t => if cutB s k t then [t.a] else [] | none => []).length ≤ 1 := by
      split
      · split <;> simp
      · simp
    omega
theorem cutK_yes (s : ByteArray) (l : List Tok) (k : Nat) (t : Tok) (h : l[k]? = some t) (hc : cutB s k t = true) : cutK s l (k + 1) = cutK s l k ++ [t.a] := by
  conv => lhs; unfold cutK
  rw [h]; simp [hc]
theorem cutK_no (s : ByteArray) (l : List Tok) (k : Nat) (t : Tok) (h : l[k]? = some t) (hc : cutB s k t = false) : cutK s l (k + 1) = cutK s l k := by
  conv => lhs; unfold cutK
  rw [h]; simp [hc]
end Go.Proofs.Ytjpmnholpeidmaa
namespace Go.Proofs.Ytjpmnholpeidmaa

structure Dg where
  f : Nat
  t : Nat
  e : Nat
  x : ByteArray
/-- Trees: the model's own data. -/
abbrev Tr : Type := DataW Unit
/-- An expression. -/
def exMk (k : Nat) (x : ByteArray) (n : Nat) (al : List Tr) (f t : Nat) : Tr := .agg [.lit (.int .i64 (k : Int)), .lit (.string x.data.toList), .lit (.int .i64 (n : Int)), .slice al [], .lit (.int .i64 (f : Int)), .lit (.int .i64 (t : Int))]
/-- A statement. -/
def stMk (k : Nat) (x : ByteArray) (a lb : Nat) (o : Bool) (e : Tr) (th el : List Tr) (f t : Nat) : Tr := .agg [.lit (.int .i64 (k : Int)), .lit (.string x.data.toList), .lit (.int .i64 (a : Int)), .lit (.int .i64 (lb : Int)), .lit (.bool o), e, .slice th [], .slice el [], .lit (.int .i64 (f : Int)), .lit (.int .i64 (t : Int))]
/-- Where an expression begins, and ends. -/
def exF : Tr → Nat
  | .agg [_, _, _, _, .lit (.int _ f), _] => f.toNat
  | _ => 0
def exT : Tr → Nat
  | .agg [_, _, _, _, _, .lit (.int _ t)] => t.toNat
  | _ => 0
theorem exF_mk (k : Nat) (x : ByteArray) (n : Nat) (al : List Tr) (f t : Nat) : exF (exMk k x n al f t) = f := by simp [exF, exMk]
theorem exT_mk (k : Nat) (x : ByteArray) (n : Nat) (al : List Tr) (f t : Nat) : exT (exMk k x n al f t) = t := by simp [exT, exMk]
structure Pm where
  x : ByteArray
  l : Nat
  a : Nat
structure Rf where
  x : ByteArray
  a : Nat
structure It where
  k : Nat
  x : ByteArray
  l : Nat
  ps : List Pm
  ss : List Rf
  bd : List Tr
  sz : Nat
  mrk : Nat
  ds : List Dg
/-- What a piece of reading comes to: what was read, where the next token stands, what was wrong. -/
structure R (α : Type) where
  v : α
  i : Nat
  d : List Dg

def noB : ByteArray := ⟨#[]⟩
def bs1 (c : UInt8) : ByteArray := ⟨#[c]⟩
def kLet : ByteArray := ⟨#[108, 101, 116]⟩
def kIf : ByteArray := ⟨#[105, 102]⟩
def kElse : ByteArray := ⟨#[101, 108, 115, 101]⟩
def kWhile : ByteArray := ⟨#[119, 104, 105, 108, 101]⟩
def kSend : ByteArray := ⟨#[115, 101, 110, 100]⟩
def kSends : ByteArray := ⟨#[115, 101, 110, 100, 115]⟩
def kReturn : ByteArray := ⟨#[114, 101, 116, 117, 114, 110]⟩
def kFn : ByteArray := ⟨#[102, 110]⟩
def kChan : ByteArray := ⟨#[99, 104, 97, 110]⟩

section
variable (L : List Tok) (sz : Nat)
/-- Token i; one without text at the end. -/
def tk (i : Nat) : Tok := (L[i]?).getD ⟨0, noB, sz⟩
/-- Is token i this one? -/
def isT (i : Nat) (s : ByteArray) : Bool :=
  match L[i]? with
  | some t => decide (t.x = s)
  | none => false
/-- Where the token ahead of i ends. -/
def endT (i : Nat) : Nat := if i = 0 then 0 else (tk L sz (i - 1)).a + (tk L sz (i - 1)).x.size
def bad (i e : Nat) : Dg := ⟨(tk L sz i).a, (tk L sz i).a + (tk L sz i).x.size, e, (tk L sz i).x⟩
def pNeed (i : Nat) (s : ByteArray) : R Bool := if isT L i s then ⟨true, i + 1, []⟩ else ⟨false, i, [bad L sz i 2]⟩
def pNamed (i : Nat) : R ByteArray :=
  if nmB (tk L sz i).x then ⟨(tk L sz i).x, i + 1, []⟩
  else if (tk L sz i).k = 1 then ⟨noB, i + 1, [bad L sz i 7]⟩
  else ⟨noB, i, [bad L sz i 2]⟩
/-- Is this a tag? -/
def tagB (x : ByteArray) : Bool := decide (x.size = 1 ∧ 97 ≤ byt x 0 ∧ byt x 0 ≤ 104)
def pLabs : Nat → Nat → Nat → R Nat
  | 0, i, n => ⟨n, i, []⟩
  | f + 1, i, n =>
    if isT L i (bs1 125) then ⟨n, i + 1, []⟩
    else if tagB (tk L sz i).x then
      let b := 2 ^ (byt (tk L sz i).x 0 - 97)
      let had := n / b % 2 = 1
      let n' := if had then n else n + b
      let d1 := if had then [bad L sz i 7] else []
      if isT L (i + 1) (bs1 125) then
        let r := pLabs f (i + 1) n'
        ⟨r.v, r.i, d1 ++ r.d⟩
      else if isT L (i + 1) (bs1 44) then
        let r := pLabs f (i + 2) n'
        ⟨r.v, r.i, d1 ++ r.d⟩
      else ⟨n', i + 1, d1 ++ [bad L sz (i + 1) 2]⟩
    else ⟨n, i, [bad L sz i 2]⟩
def pLab (i : Nat) : R Nat :=
  if isT L i (bs1 123) then pLabs L sz (L.length + 1 - i) (i + 1) 0 else ⟨0, i, [bad L sz i 2]⟩

/-- A number's value, or one that is too great. -/
def num : List UInt8 → Nat → Nat
  | [], n => n
  | c :: l, n => num l (if n ≤ 1000000000 then 10 * n + (c.toNat - 48) else n)
def tight (x : ByteArray) : Nat :=
  if x = bs1 61 ∨ x = bs1 60 then 1 else if x = bs1 43 ∨ x = bs1 45 then 2 else if x = bs1 42 then 3 else 0
def exNo (i : Nat) : Tr := exMk 5 noB 0 [] (tk L sz i).a (tk L sz i).a
def moreB (i : Nat) : Bool := decide (i < L.length) && !isT L i (bs1 41)

/-- Does this token begin an expression? -/
def opB (t : Tok) : Bool := decide (t.k = 2) || nmB t.x || decide (t.x = bs1 40)
/-- Where a call ends: behind its last token, or where its last part does. -/
def callT (k : Nat) (al : List Tr) : Nat := al.foldl (fun m a => max m (exT a)) (endT L sz k)

/-- Expressions, by a tag: 0 one without signs between, 1 a call's arguments, 2 one with signs between (that bind as tightly as w, or more; w = 0: whatever they are, if it isn't too deep), 3 what stands behind its first part. -/
def pX : Nat → Nat → Nat → Nat → List Tr → Nat → R (List Tr)
  | 0, g, _, i, l, _ => if g = 0 ∨ g = 2 then ⟨[exNo L sz i], i, [bad L sz i 2]⟩ else ⟨l, i, []⟩
  | f + 1, g, d, i, l, w =>
    let t := tk L sz i
    if g = 0 then
      if opB t then
        if t.x = bs1 40 then
          let r := pX f 2 (d + 1) (i + 1) [] 0
          let q := pNeed L sz r.i (bs1 41)
          ⟨r.v, q.i, r.d ++ q.d⟩
        else if t.k = 2 then
          if 1000000000 < num t.x.data.toList 0 then ⟨[exMk 1 noB 0 [] t.a (t.a + t.x.size)], i + 1, [bad L sz i 3]⟩
          else ⟨[exMk 1 noB (num t.x.data.toList 0) [] t.a (t.a + t.x.size)], i + 1, []⟩
        else if isT L (i + 1) (bs1 40) then
          let r := pX f 1 (d + 1) (i + 2) [] (if moreB L (i + 2) then 1 else 0)
          let q := pNeed L sz r.i (bs1 41)
          ⟨[exMk 4 t.x 0 r.v t.a (callT L sz q.i r.v)], q.i, r.d ++ q.d⟩
        else ⟨[exMk 2 t.x 0 [] t.a (t.a + t.x.size)], i + 1, []⟩
      else ⟨[exNo L sz i], i, [bad L sz i 2]⟩
    else if g = 1 then
      if w = 1 then
        if l.length = 5 then ⟨l, i, [bad L sz i 5]⟩
        else
          let r := pX f 2 d i [] 0
          if isT L r.i (bs1 44) then
            let q := pX f 1 d (r.i + 1) (l ++ [r.v.headD (exNo L sz i)]) (if moreB L (r.i + 1) then 1 else 0)
            ⟨q.v, q.i, r.d ++ q.d⟩
          else ⟨l ++ [r.v.headD (exNo L sz i)], r.i, r.d⟩
      else ⟨l, i, []⟩
    else if g = 2 then
      if w = 0 then
        if 12 ≤ d then ⟨[exNo L sz i], i, [bad L sz i (if opB t then 12 else 2)]⟩
        else pX f 2 d i [] 1
      else if 4 ≤ w then pX f 0 d i [] 0
      else
        let a := pX f 2 d i [] (w + 1)
        let q := pX f 3 d a.i [a.v.headD (exNo L sz i)] w
        ⟨q.v, q.i, a.d ++ q.d⟩
    else
      if tight t.x = w ∧ 0 < w then
        let r := pX f 2 d (i + 1) [] (w + 1)
        let e := l.headD (exNo L sz i)
        let e2 := r.v.headD (exNo L sz i)
        let q := pX f 3 d r.i [exMk 3 t.x 0 [e, e2] (exF e) (max (exT e) (exT e2))] w
        ⟨q.v, q.i, r.d ++ q.d⟩
      else ⟨l, i, []⟩
def one (i : Nat) (r : R (List Tr)) : R Tr := ⟨r.v.headD (exNo L sz i), r.i, r.d⟩
def pAtom (f d i : Nat) : R Tr := one L sz i (pX L sz f 0 d i [] 0)
def pArgs (f d i : Nat) (l : List Tr) (m : Bool) : R (List Tr) := pX L sz f 1 d i l (if m then 1 else 0)
def pExpr (f d i w : Nat) : R Tr := one L sz i (pX L sz f 2 d i [] w)
def pOps (f d : Nat) (e : Tr) (i w : Nat) : R Tr := one L sz i (pX L sz f 3 d i [e] w)
theorem pX_len (f : Nat) : ∀ (g d i : Nat) (l : List Tr) (w : Nat), (g = 0 ∨ g = 2 ∨ (g = 3 ∧ l.length = 1)) → (pX L sz f g d i l w).v.length = 1 := by
  induction f with
  | zero =>
    intro g d i l w h
    unfold pX
    rcases h with h | h | ⟨h, hl⟩
    · simp [h]
    · simp [h]
    · simp [h, hl]
  | succ f ih =>
    intro g d i l w h
    unfold pX
    simp only
    rcases h with h | h | ⟨h, hl⟩
    · subst h
      simp only [if_true]
      split
      · split
        · exact ih 2 _ _ _ _ (.inr (.inl rfl))
        · split
          · split <;> rfl
          · split <;> rfl
      · rfl
    · subst h
      simp only [show ¬ (2 = 0) by decide, show ¬ (2 = 1) by decide, if_false, if_true]
      split
      · split
        · rfl
        · exact ih 2 _ _ _ _ (.inr (.inl rfl))
      · split
        · exact ih 0 _ _ _ _ (.inl rfl)
        · exact ih 3 _ _ _ _ (.inr (.inr ⟨rfl, rfl⟩))
    · subst h
      simp only [show ¬ (3 = 0) by decide, show ¬ (3 = 1) by decide, show ¬ (3 = 2) by decide, if_false]
      split
      · exact ih 3 _ _ _ _ (.inr (.inr ⟨rfl, rfl⟩))
      · exact hl
theorem head_one {l : List Tr} (h : l.length = 1) (a b : Tr) : l.headD a = l.headD b := by
  cases l with
  | nil => cases h
  | cons x r => rfl
theorem pAtom_zero (d i : Nat) : pAtom L sz 0 d i = ⟨exNo L sz i, i, [bad L sz i 2]⟩ := by unfold pAtom one pX; rfl
theorem pArgs_zero (d i : Nat) (l : List Tr) (m : Bool) : pArgs L sz 0 d i l m = ⟨l, i, []⟩ := by unfold pArgs pX; rfl
theorem pExpr_zero (d i w : Nat) : pExpr L sz 0 d i w = ⟨exNo L sz i, i, [bad L sz i 2]⟩ := by unfold pExpr one pX; rfl
theorem pOps_zero (d : Nat) (e : Tr) (i w : Nat) : pOps L sz 0 d e i w = ⟨e, i, []⟩ := by unfold pOps one pX; rfl
theorem pAtom_succ (f d i : Nat) : pAtom L sz (f + 1) d i =
    (if opB (tk L sz i) = true then
      if (tk L sz i).x = bs1 40 then ⟨(pExpr L sz f (d + 1) (i + 1) 0).v, (pNeed L sz (pExpr L sz f (d + 1) (i + 1) 0).i (bs1 41)).i, (pExpr L sz f (d + 1) (i + 1) 0).d ++ (pNeed L sz (pExpr L sz f (d + 1) (i + 1) 0).i (bs1 41)).d⟩
      else if (tk L sz i).k = 2 then
        if 1000000000 < num (tk L sz i).x.data.toList 0 then ⟨exMk 1 noB 0 [] (tk L sz i).a ((tk L sz i).a + (tk L sz i).x.size), i + 1, [bad L sz i 3]⟩
        else ⟨exMk 1 noB (num (tk L sz i).x.data.toList 0) [] (tk L sz i).a ((tk L sz i).a + (tk L sz i).x.size), i + 1, []⟩
      else if isT L (i + 1) (bs1 40) then ⟨exMk 4 (tk L sz i).x 0 (pArgs L sz f (d + 1) (i + 2) [] (moreB L (i + 2))).v (tk L sz i).a (callT L sz (pNeed L sz (pArgs L sz f (d + 1) (i + 2) [] (moreB L (i + 2))).i (bs1 41)).i (pArgs L sz f (d + 1) (i + 2) [] (moreB L (i + 2))).v), (pNeed L sz (pArgs L sz f (d + 1) (i + 2) [] (moreB L (i + 2))).i (bs1 41)).i, (pArgs L sz f (d + 1) (i + 2) [] (moreB L (i + 2))).d ++ (pNeed L sz (pArgs L sz f (d + 1) (i + 2) [] (moreB L (i + 2))).i (bs1 41)).d⟩
      else ⟨exMk 2 (tk L sz i).x 0 [] (tk L sz i).a ((tk L sz i).a + (tk L sz i).x.size), i + 1, []⟩
    else ⟨exNo L sz i, i, [bad L sz i 2]⟩) := by
  have hl := pX_len L sz f 2 (d + 1) (i + 1) [] 0 (.inr (.inl rfl))
  unfold pAtom one pExpr one pArgs
  conv => lhs; unfold pX
  simp only [if_true]
  split
  · split
    · rw [head_one hl (exNo L sz i) (exNo L sz (i + 1))]
    · split
      · split <;> rfl
      · split <;> rfl
  · rfl
theorem pArgs_succ (f d i : Nat) (l : List Tr) (m : Bool) : pArgs L sz (f + 1) d i l m =
    (if m = true then
      if l.length = 5 then ⟨l, i, [bad L sz i 5]⟩
      else if isT L (pExpr L sz f d i 0).i (bs1 44) then ⟨(pArgs L sz f d ((pExpr L sz f d i 0).i + 1) (l ++ [(pExpr L sz f d i 0).v]) (moreB L ((pExpr L sz f d i 0).i + 1))).v, (pArgs L sz f d ((pExpr L sz f d i 0).i + 1) (l ++ [(pExpr L sz f d i 0).v]) (moreB L ((pExpr L sz f d i 0).i + 1))).i, (pExpr L sz f d i 0).d ++ (pArgs L sz f d ((pExpr L sz f d i 0).i + 1) (l ++ [(pExpr L sz f d i 0).v]) (moreB L ((pExpr L sz f d i 0).i + 1))).d⟩
      else ⟨l ++ [(pExpr L sz f d i 0).v], (pExpr L sz f d i 0).i, (pExpr L sz f d i 0).d⟩
    else ⟨l, i, []⟩) := by
  unfold pArgs pExpr one
  conv => lhs; unfold pX
  simp only [show ¬ (1 = 0) by decide, if_false, if_true]
  cases m
  · simp
  · simp
theorem pExpr_nul (f d i : Nat) : pExpr L sz (f + 1) d i 0 = if 12 ≤ d then ⟨exNo L sz i, i, [bad L sz i (if opB (tk L sz i) = true then 12 else 2)]⟩ else pExpr L sz f d i 1 := by
  unfold pExpr one
  conv => lhs; unfold pX
  simp only [show ¬ (2 = 0) by decide, show ¬ (2 = 1) by decide, if_false, if_true]
  split <;> rfl
theorem pExpr_top (f d i w : Nat) (h : 4 ≤ w) : pExpr L sz (f + 1) d i w = pAtom L sz f d i := by
  unfold pExpr one pAtom one
  conv => lhs; unfold pX
  simp only [show ¬ (2 = 0) by decide, show ¬ (2 = 1) by decide, if_false, if_true, if_neg (show ¬ w = 0 by omega), if_pos h]
theorem pExpr_mid (f d i w : Nat) (h0 : 0 < w) (h : w < 4) : pExpr L sz (f + 1) d i w = ⟨(pOps L sz f d (pExpr L sz f d i (w + 1)).v (pExpr L sz f d i (w + 1)).i w).v, (pOps L sz f d (pExpr L sz f d i (w + 1)).v (pExpr L sz f d i (w + 1)).i w).i, (pExpr L sz f d i (w + 1)).d ++ (pOps L sz f d (pExpr L sz f d i (w + 1)).v (pExpr L sz f d i (w + 1)).i w).d⟩ := by
  have hl := pX_len L sz f 3 d (pX L sz f 2 d i [] (w + 1)).i [(pX L sz f 2 d i [] (w + 1)).v.headD (exNo L sz i)] w (.inr (.inr ⟨rfl, rfl⟩))
  unfold pExpr one pOps one
  conv => lhs; unfold pX
  simp only [show ¬ (2 = 0) by decide, show ¬ (2 = 1) by decide, if_false, if_true, if_neg (show ¬ w = 0 by omega), if_neg (show ¬ 4 ≤ w by omega)]
  rw [head_one hl (exNo L sz i) (exNo L sz (pX L sz f 2 d i [] (w + 1)).i)]
theorem pOps_succ (f d : Nat) (e : Tr) (i w : Nat) : pOps L sz (f + 1) d e i w =
    (if tight (tk L sz i).x = w ∧ 0 < w then
      ⟨(pOps L sz f d (exMk 3 (tk L sz i).x 0 [e, (pExpr L sz f d (i + 1) (w + 1)).v] (exF e) (max (exT e) (exT (pExpr L sz f d (i + 1) (w + 1)).v))) (pExpr L sz f d (i + 1) (w + 1)).i w).v, (pOps L sz f d (exMk 3 (tk L sz i).x 0 [e, (pExpr L sz f d (i + 1) (w + 1)).v] (exF e) (max (exT e) (exT (pExpr L sz f d (i + 1) (w + 1)).v))) (pExpr L sz f d (i + 1) (w + 1)).i w).i, (pExpr L sz f d (i + 1) (w + 1)).d ++ (pOps L sz f d (exMk 3 (tk L sz i).x 0 [e, (pExpr L sz f d (i + 1) (w + 1)).v] (exF e) (max (exT e) (exT (pExpr L sz f d (i + 1) (w + 1)).v))) (pExpr L sz f d (i + 1) (w + 1)).i w).d⟩
    else ⟨e, i, []⟩) := by
  have hr := pX_len L sz f 2 d (i + 1) [] (w + 1) (.inr (.inl rfl))
  unfold pOps one pExpr one
  conv => lhs; unfold pX
  simp only [show ¬ (3 = 0) by decide, show ¬ (3 = 1) by decide, show ¬ (3 = 2) by decide, if_false, List.headD_cons]
  rw [head_one hr (exNo L sz i) (exNo L sz (i + 1))]
  split
  · simp only
    congr 1
    exact head_one (pX_len L sz f 3 d _ _ w (.inr (.inr ⟨rfl, rfl⟩))) _ _
  · rfl
/-- An expression, read from token i on. -/
def pE (d i : Nat) : R Tr := pExpr L sz (6 * L.length + 10) d i 0
def exZ : Tr := exMk 0 noB 0 [] 0 0
def upTo (f t : Nat) : Nat := max f t

/-- Statements, by a tag: 0 a block, 1 its statements, 2 one statement. -/
def pY : Nat → Nat → Nat → Nat → List Tr → R (List Tr)
  | 0, g, _, i, l => if g = 0 then ⟨[], i, []⟩ else if g = 1 then ⟨l, i, []⟩ else ⟨[stMk 0 noB 0 0 false exZ [] [] 0 0], i, [bad L sz i 2]⟩
  | f + 1, g, d, i, l =>
    let w := (tk L sz i).x
    let fr := (tk L sz i).a
    if g = 0 then
      if isT L i (bs1 123) then
        if 12 ≤ d then ⟨[], i + 1, [bad L sz (i + 1) 12]⟩
        else
          let r := pY f 1 (d + 1) (i + 1) []
          let q := pNeed L sz r.i (bs1 125)
          ⟨r.v, q.i, r.d ++ q.d⟩
      else ⟨[], i, [bad L sz i 2]⟩
    else if g = 1 then
      if i < L.length ∧ isT L i (bs1 125) = false then
        if 40 ≤ l.length then ⟨l, i, [bad L sz i 5]⟩
        else
          let r := pY f 2 d i []
          let q := pY f 1 d r.i (l ++ [r.v.headD exZ])
          ⟨q.v, q.i, r.d ++ q.d⟩
      else ⟨l, i, []⟩
    else if w = kLet then
      let a := pNamed L sz (i + 1)
      let op := !isT L a.i (bs1 58)
      let b : R Nat := if op then ⟨0, a.i, []⟩ else pLab L sz (a.i + 1)
      let c := pNeed L sz b.i (bs1 61)
      let e := pE L sz d c.i
      let g := pNeed L sz e.i (bs1 59)
      ⟨[stMk 1 a.v (tk L sz (i + 1)).a b.v op e.v [] [] fr (upTo fr (endT L sz g.i))], g.i, a.d ++ b.d ++ c.d ++ e.d ++ g.d⟩
    else if w = kIf then
      let e := pE L sz d (i + 1)
      let b := pY f 0 d e.i []
      if isT L b.i kElse then
        let c := pY f 0 d (b.i + 1) []
        ⟨[stMk 3 noB 0 0 false e.v b.v c.v fr (upTo fr (endT L sz c.i))], c.i, e.d ++ b.d ++ c.d⟩
      else ⟨[stMk 3 noB 0 0 false e.v b.v [] fr (upTo fr (endT L sz b.i))], b.i, e.d ++ b.d⟩
    else if w = kWhile then
      let e := pE L sz d (i + 1)
      let b := pY f 0 d e.i []
      ⟨[stMk 4 noB 0 0 false e.v b.v [] fr (upTo fr (endT L sz b.i))], b.i, e.d ++ b.d⟩
    else if w = kSend then
      let a := pNamed L sz (i + 1)
      let e := pE L sz d a.i
      let g := pNeed L sz e.i (bs1 59)
      ⟨[stMk 5 a.v (tk L sz (i + 1)).a 0 false e.v [] [] fr (upTo fr (endT L sz g.i))], g.i, a.d ++ e.d ++ g.d⟩
    else if w = kReturn then
      let e := pE L sz d (i + 1)
      let g := pNeed L sz e.i (bs1 59)
      ⟨[stMk 6 noB 0 0 false e.v [] [] fr (upTo fr (endT L sz g.i))], g.i, e.d ++ g.d⟩
    else if nmB w then
      if isT L (i + 1) (bs1 61) then
        let e := pE L sz d (i + 2)
        let g := pNeed L sz e.i (bs1 59)
        ⟨[stMk 2 w fr 0 false e.v [] [] fr (upTo fr (endT L sz g.i))], g.i, e.d ++ g.d⟩
      else
        let e := pE L sz d i
        let g := pNeed L sz e.i (bs1 59)
        ⟨[stMk 7 noB 0 0 false e.v [] [] fr (upTo fr (endT L sz g.i))], g.i, e.d ++ g.d⟩
    else ⟨[stMk 8 noB 0 0 false exZ [] [] fr fr], i + 1, [bad L sz i 2]⟩
def pBlock (f d i : Nat) : R (List Tr) := pY L sz f 0 d i []
def pStmts (f d i : Nat) (l : List Tr) : R (List Tr) := pY L sz f 1 d i l
def pStmt (f d i : Nat) : R Tr := ⟨(pY L sz f 2 d i []).v.headD exZ, (pY L sz f 2 d i []).i, (pY L sz f 2 d i []).d⟩
theorem pBlock_zero (d i : Nat) : pBlock L sz 0 d i = ⟨[], i, []⟩ := by unfold pBlock pY; rfl
theorem pStmts_zero (d i : Nat) (l : List Tr) : pStmts L sz 0 d i l = ⟨l, i, []⟩ := by unfold pStmts pY; rfl
theorem pStmt_zero (d i : Nat) : pStmt L sz 0 d i = ⟨stMk 0 noB 0 0 false exZ [] [] 0 0, i, [bad L sz i 2]⟩ := by unfold pStmt pY; rfl
theorem pBlock_succ (f d i : Nat) : pBlock L sz (f + 1) d i =
    (if isT L i (bs1 123) then
      if 12 ≤ d then ⟨[], i + 1, [bad L sz (i + 1) 12]⟩
      else ⟨(pStmts L sz f (d + 1) (i + 1) []).v, (pNeed L sz (pStmts L sz f (d + 1) (i + 1) []).i (bs1 125)).i, (pStmts L sz f (d + 1) (i + 1) []).d ++ (pNeed L sz (pStmts L sz f (d + 1) (i + 1) []).i (bs1 125)).d⟩
    else ⟨[], i, [bad L sz i 2]⟩) := by
  unfold pBlock pStmts
  conv => lhs; unfold pY
  simp only [if_true]
theorem pStmts_succ (f d i : Nat) (l : List Tr) : pStmts L sz (f + 1) d i l =
    (if i < L.length ∧ isT L i (bs1 125) = false then
      if 40 ≤ l.length then ⟨l, i, [bad L sz i 5]⟩
      else ⟨(pStmts L sz f d (pStmt L sz f d i).i (l ++ [(pStmt L sz f d i).v])).v, (pStmts L sz f d (pStmt L sz f d i).i (l ++ [(pStmt L sz f d i).v])).i, (pStmt L sz f d i).d ++ (pStmts L sz f d (pStmt L sz f d i).i (l ++ [(pStmt L sz f d i).v])).d⟩
    else ⟨l, i, []⟩) := by
  unfold pStmts pStmt
  conv => lhs; unfold pY
  simp only [show ¬ (1 = 0) by decide, if_false, if_true]
theorem pStmt_succ (f d i : Nat) : pStmt L sz (f + 1) d i =
    (let w := (tk L sz i).x
    let fr := (tk L sz i).a
    if w = kLet then
      let a := pNamed L sz (i + 1)
      let op := !isT L a.i (bs1 58)
      let b : R Nat := if op then ⟨0, a.i, []⟩ else pLab L sz (a.i + 1)
      let c := pNeed L sz b.i (bs1 61)
      let e := pE L sz d c.i
      let g := pNeed L sz e.i (bs1 59)
      ⟨stMk 1 a.v (tk L sz (i + 1)).a b.v op e.v [] [] fr (upTo fr (endT L sz g.i)), g.i, a.d ++ b.d ++ c.d ++ e.d ++ g.d⟩
    else if w = kIf then
      let e := pE L sz d (i + 1)
      let b := pBlock L sz f d e.i
      if isT L b.i kElse then
        let c := pBlock L sz f d (b.i + 1)
        ⟨stMk 3 noB 0 0 false e.v b.v c.v fr (upTo fr (endT L sz c.i)), c.i, e.d ++ b.d ++ c.d⟩
      else ⟨stMk 3 noB 0 0 false e.v b.v [] fr (upTo fr (endT L sz b.i)), b.i, e.d ++ b.d⟩
    else if w = kWhile then
      let e := pE L sz d (i + 1)
      let b := pBlock L sz f d e.i
      ⟨stMk 4 noB 0 0 false e.v b.v [] fr (upTo fr (endT L sz b.i)), b.i, e.d ++ b.d⟩
    else if w = kSend then
      let a := pNamed L sz (i + 1)
      let e := pE L sz d a.i
      let g := pNeed L sz e.i (bs1 59)
      ⟨stMk 5 a.v (tk L sz (i + 1)).a 0 false e.v [] [] fr (upTo fr (endT L sz g.i)), g.i, a.d ++ e.d ++ g.d⟩
    else if w = kReturn then
      let e := pE L sz d (i + 1)
      let g := pNeed L sz e.i (bs1 59)
      ⟨stMk 6 noB 0 0 false e.v [] [] fr (upTo fr (endT L sz g.i)), g.i, e.d ++ g.d⟩
    else if nmB w then
      if isT L (i + 1) (bs1 61) then
        let e := pE L sz d (i + 2)
        let g := pNeed L sz e.i (bs1 59)
        ⟨stMk 2 w fr 0 false e.v [] [] fr (upTo fr (endT L sz g.i)), g.i, e.d ++ g.d⟩
      else
        let e := pE L sz d i
        let g := pNeed L sz e.i (bs1 59)
        ⟨stMk 7 noB 0 0 false e.v [] [] fr (upTo fr (endT L sz g.i)), g.i, e.d ++ g.d⟩
    else ⟨stMk 8 noB 0 0 false exZ [] [] fr fr, i + 1, [bad L sz i 2]⟩) := by
  unfold pStmt pBlock
  conv => lhs; unfold pY
  simp only [show ¬ (2 = 0) by decide, show ¬ (2 = 1) by decide, if_false]
  split
  · rfl
  · split
    · split <;> rfl
    · split
      · rfl
      · split
        · rfl
        · split
          · rfl
          · split
            · split <;> rfl
            · rfl
/-- A block of an item. -/
def pB (i : Nat) : R (List Tr) := pBlock L sz (50 * L.length + 100) 0 i

def pParams : Nat → Nat → List Pm → R (List Pm)
  | 0, i, l => ⟨l, i, []⟩
  | f + 1, i, l =>
    if moreB L i then
      if 5 ≤ l.length then ⟨l, i, [bad L sz i 5]⟩
      else
        let a := pNamed L sz i
        let c := pNeed L sz a.i (bs1 58)
        if c.v then
          let b := pLab L sz c.i
          let l' := l ++ [⟨a.v, b.v, (tk L sz i).a⟩]
          if isT L b.i (bs1 44) then
            let q := pParams f (b.i + 1) l'
            ⟨q.v, q.i, a.d ++ c.d ++ b.d ++ q.d⟩
          else ⟨l', b.i, a.d ++ c.d ++ b.d⟩
        else ⟨l, c.i, a.d ++ c.d⟩
    else ⟨l, i, []⟩
def pSends : Nat → Nat → List Rf → R (List Rf)
  | 0, i, l => ⟨l, i, []⟩
  | f + 1, i, l =>
    if 5 ≤ l.length ∧ i < L.length then ⟨l, i, [bad L sz i 5]⟩
    else
      let a := pNamed L sz i
      let l' := l ++ [⟨a.v, (tk L sz i).a⟩]
      if isT L a.i (bs1 44) then
        let q := pSends f (a.i + 1) l'
        ⟨q.v, q.i, a.d ++ q.d⟩
      else ⟨l', a.i, a.d⟩
/-- What stands behind what was read. -/
def rest (i : Nat) : List Dg := if i < L.length then [bad L sz i 2] else []
def pIt : It :=
  if isT L 0 kFn then
    let a := pNamed L sz 1
    let b := pNeed L sz a.i (bs1 40)
    let c := pParams L sz 6 b.i []
    let g := pNeed L sz c.i (bs1 41)
    let h := pNeed L sz g.i (bs1 58)
    let l := pLab L sz h.i
    let s : R (List Rf) := if isT L l.i kSends then pSends L sz 8 (l.i + 1) [] else ⟨[], l.i, []⟩
    let o := pB L sz s.i
    ⟨2, a.v, l.v, c.v, s.v, o.v, sz, (tk L sz 1).a, a.d ++ b.d ++ c.d ++ g.d ++ h.d ++ l.d ++ s.d ++ o.d ++ rest L sz o.i⟩
  else if isT L 0 kChan then
    let a := pNamed L sz 1
    let b := pNeed L sz a.i (bs1 58)
    let l := pLab L sz b.i
    let g := pNeed L sz l.i (bs1 59)
    ⟨1, a.v, l.v, [], [], [], sz, (tk L sz 1).a, a.d ++ b.d ++ l.d ++ g.d ++ rest L sz g.i⟩
  else ⟨3, noB, 0, [], [], [], sz, 0, [bad L sz 0 2]⟩
end
/-- The item of a text. -/
def itm (s : ByteArray) : It := pIt (tks s) s.size
/-- The items of a text, from the k-th cut on. -/
def itmsF (s : ByteArray) (c : List Nat) : List (Nat × It) :=
  match c with
  | [] => []
  | [a] => [(a, itm (s.extract a s.size))]
  | a :: b :: r => (a, itm (s.extract a b)) :: itmsF s (b :: r)
end Go.Proofs.Ytjpmnholpeidmaa
namespace Go.Proofs.Ytjpmnholpeidmaa
/-- A token's kind is that of its first byte. -/
def okT (t : Tok) : Prop := 0 < t.x.size ∧ t.k = tkd (byt t.x 0)
section
variable (L : List Tok) (sz : Nat)
def goodJ (j : Nat) : Prop := ∀ t, L[j]? = some t → t.k ≠ 4
def IsBad (d : Dg) : Prop := ∃ i e, d = bad L sz i e
/-- What holds of each piece of reading, from token i to token k, with what was wrong. -/
structure Ok (i k : Nat) (l : List Dg) : Prop where
  ge : i ≤ k
  le : k ≤ L.length
  ds : ∀ d ∈ l, IsBad L sz d
  gd : l = [] → ∀ j, i ≤ j → j < k → goodJ L j
end
variable {L : List Tok} {sz : Nat}
theorem Ok.and {i k m : Nat} {a b : List Dg} (h : Ok L sz i k a) (q : Ok L sz k m b) : Ok L sz i m (a ++ b) where
  ge := Nat.le_trans h.ge q.ge
  le := q.le
  ds := by
    intro d hd
    rcases List.mem_append.1 hd with hd | hd
    · exact h.ds d hd
    · exact q.ds d hd
  gd := by
    intro he j h1 h2
    have he := List.append_eq_nil_iff.1 he
    by_cases hj : j < k
    · exact h.gd he.1 j h1 hj
    · exact q.gd he.2 j (by omega) h2
theorem Ok.stay {i : Nat} (hi : i ≤ L.length) : Ok L sz i i [] :=
  ⟨Nat.le_refl _, hi, fun _ h => absurd h (List.not_mem_nil), fun _ j h1 h2 => absurd h2 (by omega)⟩
theorem Ok.err {i : Nat} (hi : i ≤ L.length) (j e : Nat) : Ok L sz i i [bad L sz j e] :=
  ⟨Nat.le_refl _, hi, fun d h => by rw [List.mem_singleton] at h; exact ⟨j, e, h⟩, fun h => by cases h⟩
/-- A token is gone past, with something wrong. -/
theorem Ok.errs {i : Nat} (hi : i < L.length) (j e : Nat) : Ok L sz i (i + 1) [bad L sz j e] :=
  ⟨Nat.le_succ _, hi, fun d h => by rw [List.mem_singleton] at h; exact ⟨j, e, h⟩, fun h => by cases h⟩
/-- A token is gone past. -/
theorem Ok.one {i : Nat} (hi : i < L.length) (hg : goodJ L i) : Ok L sz i (i + 1) [] :=
  ⟨Nat.le_succ _, hi, fun _ h => absurd h (List.not_mem_nil), fun _ j h1 h2 => by
    have : j = i := by omega
    subst this
    exact hg⟩
theorem Ok.step {i k : Nat} {a : List Dg} (h : Ok L sz i k a) (hi : k < L.length) (hg : goodJ L k) : Ok L sz i (k + 1) a := by
  have := h.and (Ok.one (sz := sz) hi hg)
  rwa [List.append_nil] at this
theorem isT_lt {i : Nat} {s : ByteArray} (h : isT L i s = true) : i < L.length ∧ ∃ t, L[i]? = some t ∧ t.x = s := by
  unfold isT at h
  cases hl : L[i]? with
  | none => rw [hl] at h; cases h
  | some t =>
    rw [hl] at h
    exact ⟨(List.getElem?_eq_some_iff.1 hl).1, t, rfl, by simpa using h⟩
theorem good_text (hL : ∀ t ∈ L, okT t) {i : Nat} (h : ∀ t, L[i]? = some t → tkd (byt t.x 0) ≠ 4) : goodJ L i := by
  intro t ht
  rw [(hL t (List.mem_of_getElem? ht)).2]
  exact h t ht
theorem good_is (hL : ∀ t ∈ L, okT t) {i : Nat} {s : ByteArray} (h : isT L i s = true) (hs : tkd (byt s 0) ≠ 4) : goodJ L i := by
  obtain ⟨_, t, ht, hx⟩ := isT_lt h
  exact good_text hL (fun u hu => by rw [ht] at hu; cases hu; rw [hx]; exact hs)
theorem Ok.is (hL : ∀ t ∈ L, okT t) {i : Nat} {s : ByteArray} (h : isT L i s = true) (hs : tkd (byt s 0) ≠ 4) : Ok L sz i (i + 1) [] := Ok.one (isT_lt h).1 (good_is hL h hs)
theorem tk_some {i : Nat} (h : i < L.length) : L[i]? = some (tk L sz i) := by
  unfold tk
  rw [List.getElem?_eq_getElem h]
  rfl
theorem tk_none {i : Nat} (h : L.length ≤ i) : tk L sz i = ⟨0, noB, sz⟩ := by
  unfold tk
  rw [List.getElem?_eq_none h]
  rfl
theorem good_tk (hL : ∀ t ∈ L, okT t) {i : Nat} (hi : i < L.length) (h : tkd (byt (tk L sz i).x 0) ≠ 4) : goodJ L i :=
  good_text hL (fun u hu => by rw [tk_some (sz := sz) hi] at hu; cases hu; exact h)
theorem nm_ltr {x : ByteArray} (h : nmB x = true) : ltr (byt x 0) = true := by
  unfold nmB wdB at h
  simp at h
  exact h.1.2.1
theorem ltr_tkd {c : Nat} (h : ltr c = true) : tkd c ≠ 4 := by unfold tkd; rw [if_pos h]; decide
theorem nm_none : nmB noB = false := by decide +kernel
theorem tag_none : tagB noB = false := by decide +kernel
theorem nm_lt {i : Nat} (h : nmB (tk L sz i).x = true) : i < L.length := by
  rcases Nat.lt_or_ge i L.length with h1 | h1
  · exact h1
  · rw [tk_none h1, nm_none] at h; cases h
theorem Ok.nm (hL : ∀ t ∈ L, okT t) {i : Nat} (h : nmB (tk L sz i).x = true) : Ok L sz i (i + 1) [] := Ok.one (nm_lt h) (good_tk hL (nm_lt h) (ltr_tkd (nm_ltr h)))
theorem need_ok (hL : ∀ t ∈ L, okT t) {i : Nat} (hi : i ≤ L.length) {s : ByteArray} (hs : tkd (byt s 0) ≠ 4) : Ok L sz i (pNeed L sz i s).i (pNeed L sz i s).d := by
  unfold pNeed
  split
  · rename_i h
    exact Ok.is hL h hs
  · exact Ok.err hi _ _
theorem named_ok (hL : ∀ t ∈ L, okT t) {i : Nat} (hi : i ≤ L.length) : Ok L sz i (pNamed L sz i).i (pNamed L sz i).d := by
  unfold pNamed
  split
  · rename_i h
    exact Ok.nm hL h
  · split
    · rename_i h
      have hl : i < L.length := by
        rcases Nat.lt_or_ge i L.length with h1 | h1
        · exact h1
        · rw [tk_none h1] at h; cases h
      exact Ok.errs hl _ _
    · exact Ok.err hi _ _
theorem tag_ltr {x : ByteArray} (h : tagB x = true) : ltr (byt x 0) = true := by
  unfold tagB at h
  unfold ltr
  simp at h ⊢
  omega
theorem tag_lt {i : Nat} (h : tagB (tk L sz i).x = true) : i < L.length := by
  rcases Nat.lt_or_ge i L.length with h1 | h1
  · exact h1
  · rw [tk_none h1, tag_none] at h; cases h
theorem labs_ok (hL : ∀ t ∈ L, okT t) (f : Nat) : ∀ (i n : Nat), i ≤ L.length → Ok L sz i (pLabs L sz f i n).i (pLabs L sz f i n).d := by
  induction f with
  | zero => intro i n hi; exact Ok.stay hi
  | succ f ih =>
    intro i n hi
    unfold pLabs
    split
    · rename_i h
      exact Ok.is hL h (by decide)
    · split
      · rename_i h
        have hl := tag_lt h
        have h1 : Ok L sz i (i + 1) (if n / 2 ^ (byt (tk L sz i).x 0 - 97) % 2 = 1 then [bad L sz i 7] else []) := by
          split
          · exact Ok.errs hl _ _
          · exact Ok.one hl (good_tk hL hl (ltr_tkd (tag_ltr h)))
        try simp only
        split
        · exact h1.and (ih (i + 1) _ hl)
        · split
          · rename_i hc
            exact (h1.step (isT_lt hc).1 (good_is hL hc (by decide))).and (ih (i + 2) _ (isT_lt hc).1)
          · exact h1.and (Ok.err hl (i + 1) 2)
      · exact Ok.err hi _ _
theorem lab_ok (hL : ∀ t ∈ L, okT t) {i : Nat} (hi : i ≤ L.length) : Ok L sz i (pLab L sz i).i (pLab L sz i).d := by
  unfold pLab
  split
  · rename_i h
    exact (Ok.is hL h (by decide)).and (labs_ok (sz := sz) hL (L.length + 1 - i) (i + 1) 0 (isT_lt h).1)
  · exact Ok.err hi _ _
theorem tight_none : tight noB = 0 := by decide
theorem tight_lt {i : Nat} (h : 0 < tight (tk L sz i).x) : i < L.length := by
  rcases Nat.lt_or_ge i L.length with h1 | h1
  · exact h1
  · rw [tk_none h1, tight_none] at h; omega
theorem tight_tkd {x : ByteArray} (h : 0 < tight x) : tkd (byt x 0) ≠ 4 := by
  unfold tight at h
  split at h
  · rename_i hx; rcases hx with hx | hx <;> subst hx <;> decide
  · split at h
    · rename_i hx; rcases hx with hx | hx <;> subst hx <;> decide
    · split at h
      · rename_i hx; subst hx; decide
      · omega
theorem dgt_tkd {t : Tok} (ht : okT t) (h : t.k = 2) : tkd (byt t.x 0) ≠ 4 := by
  rw [← ht.2, h]; decide
theorem moreB_lt {i : Nat} (h : moreB L i = true) : i < L.length := by
  unfold moreB at h
  simp at h
  exact h.1
theorem op_none : opB (⟨0, noB, sz⟩ : Tok) = false := by
  unfold opB
  rw [show nmB noB = false from nm_none]
  rfl
theorem op_lt {i : Nat} (h : opB (tk L sz i) = true) : i < L.length := by
  rcases Nat.lt_or_ge i L.length with h1 | h1
  · exact h1
  · rw [tk_none h1, op_none] at h; cases h
theorem op_nm {t : Tok} (h : opB t = true) (h2 : ¬ t.k = 2) (h3 : ¬ t.x = bs1 40) : nmB t.x = true := by
  unfold opB at h
  simpa [h2, h3] using h
theorem expr_ok (hL : ∀ t ∈ L, okT t) (f : Nat) :
    (∀ d i, i ≤ L.length → Ok L sz i (pAtom L sz f d i).i (pAtom L sz f d i).d ∧ ((pAtom L sz f d i).i = i → (pAtom L sz f d i).d ≠ [])) ∧
    (∀ d i as m, i ≤ L.length → Ok L sz i (pArgs L sz f d i as m).i (pArgs L sz f d i as m).d) ∧
    (∀ d i w, i ≤ L.length → Ok L sz i (pExpr L sz f d i w).i (pExpr L sz f d i w).d ∧ ((pExpr L sz f d i w).i = i → (pExpr L sz f d i w).d ≠ [])) ∧
    (∀ d e i w, i ≤ L.length → Ok L sz i (pOps L sz f d e i w).i (pOps L sz f d e i w).d) := by
  induction f with
  | zero =>
    refine ⟨fun d i hi => ?_, fun d i as m hi => ?_, fun d i w hi => ?_, fun d e i w hi => ?_⟩
    · rw [pAtom_zero]; exact ⟨Ok.err hi _ _, fun _ h => by cases h⟩
    · rw [pArgs_zero]; exact Ok.stay hi
    · rw [pExpr_zero]; exact ⟨Ok.err hi _ _, fun _ h => by cases h⟩
    · rw [pOps_zero]; exact Ok.stay hi
  | succ f ih =>
    obtain ⟨hA, hG, hE, hO⟩ := ih
    refine ⟨fun d i hi => ?_, fun d i as m hi => ?_, fun d i w hi => ?_, fun d e i w hi => ?_⟩
    · rw [pAtom_succ]
      try simp only
      split
      · rename_i hop
        have hl := op_lt hop
        split
        · rename_i hx
          have hg : goodJ L i := good_tk (sz := sz) hL hl (by rw [hx]; decide)
          have h1 := (Ok.one (sz := sz) hl hg).and (hE (d + 1) (i + 1) 0 hl).1
          have h0 := (hE (d + 1) (i + 1) 0 hl).1
          have h2 := need_ok (sz := sz) hL h1.le (s := bs1 41) (by decide)
          exact ⟨h1.and h2, fun h => absurd h (by have := h2.ge; have := h0.ge; simp only; omega)⟩
        · rename_i hx
          split
          · rename_i h2
            have hg : goodJ L i := good_tk (sz := sz) hL hl (dgt_tkd (hL _ (List.mem_of_getElem? (tk_some hl))) h2)
            split
            · exact ⟨Ok.errs hl _ _, fun _ h => by cases h⟩
            · exact ⟨Ok.one hl hg, fun h => absurd h (by simp)⟩
          · rename_i h2
            have hn : nmB (tk L sz i).x = true := op_nm hop h2 hx
            split
            · rename_i hp
              have h0 := (Ok.nm hL hn).step (isT_lt hp).1 (good_is hL hp (by decide))
              have h9 := hG (d + 1) (i + 2) [] (moreB L (i + 2)) (isT_lt hp).1
              have h1 := h0.and h9
              have h2 := need_ok (sz := sz) hL h1.le (s := bs1 41) (by decide)
              exact ⟨h1.and h2, fun h => absurd h (by have := h2.ge; have := h9.ge; simp only; omega)⟩
            · exact ⟨Ok.nm hL hn, fun h => absurd h (by simp)⟩
      · exact ⟨Ok.err hi _ _, fun _ h => by cases h⟩
    · rw [pArgs_succ]
      split
      · split
        · exact Ok.err hi _ _
        · have h1 := (hE d i 0 hi).1
          try simp only
          split
          · rename_i hc
            have h2 := h1.step (isT_lt hc).1 (good_is hL hc (by decide))
            exact h2.and (hG _ _ _ _ h2.le)
          · exact h1
      · exact Ok.stay hi
    · rcases Nat.eq_zero_or_pos w with hw | hw
      · subst hw
        rw [pExpr_nul]
        split
        · exact ⟨Ok.err hi _ _, fun _ h => by cases h⟩
        · exact hE d i 1 hi
      · rcases Nat.lt_or_ge w 4 with h4 | h4
        · rw [pExpr_mid _ _ _ _ _ _ hw h4]
          try simp only
          have h1 := hE d i (w + 1) hi
          have h2 := hO d (pExpr L sz f d i (w + 1)).v (pExpr L sz f d i (w + 1)).i w h1.1.le
          refine ⟨h1.1.and h2, fun h => ?_⟩
          have h3 := h2.ge
          have h4 := h1.1.ge
          intro h5
          exact h1.2 (by omega) (List.append_eq_nil_iff.1 h5).1
        · rw [pExpr_top _ _ _ _ _ _ h4]
          exact hA d i hi
    · rw [pOps_succ]
      try simp only
      split
      · rename_i hw
        have hw2 : 0 < tight (tk L sz i).x := by omega
        have hl := tight_lt hw2
        have h1 := (Ok.one (sz := sz) hl (good_tk (sz := sz) hL hl (tight_tkd hw2))).and (hE d (i + 1) (w + 1) hl).1
        exact h1.and (hO _ _ _ _ h1.le)
      · exact Ok.stay hi
theorem pE_ok (hL : ∀ t ∈ L, okT t) (d : Nat) {i : Nat} (hi : i ≤ L.length) : Ok L sz i (pE L sz d i).i (pE L sz d i).d ∧ ((pE L sz d i).i = i → (pE L sz d i).d ≠ []) := (expr_ok hL _).2.2.1 d i 0 hi
theorem word_lt {i : Nat} {x : ByteArray} (h : (tk L sz i).x = x) (hx : x ≠ noB) : i < L.length := by
  rcases Nat.lt_or_ge i L.length with h1 | h1
  · exact h1
  · rw [tk_none h1] at h; exact absurd h.symm hx
theorem Ok.word (hL : ∀ t ∈ L, okT t) {i : Nat} {x : ByteArray} (h : (tk L sz i).x = x) (hx : x ≠ noB) (hs : tkd (byt x 0) ≠ 4) : Ok L sz i (i + 1) [] :=
  Ok.one (word_lt h hx) (good_tk hL (word_lt h hx) (by rw [h]; exact hs))
theorem stmt_ok (hL : ∀ t ∈ L, okT t) (f : Nat) :
    (∀ d i, i ≤ L.length → Ok L sz i (pBlock L sz f d i).i (pBlock L sz f d i).d) ∧
    (∀ d i l, i ≤ L.length → Ok L sz i (pStmts L sz f d i l).i (pStmts L sz f d i l).d) ∧
    (∀ d i, i < L.length → Ok L sz i (pStmt L sz f d i).i (pStmt L sz f d i).d ∧ ((pStmt L sz f d i).i = i → (pStmt L sz f d i).d ≠ [])) := by
  induction f with
  | zero =>
    refine ⟨fun d i hi => ?_, fun d i l hi => ?_, fun d i hi => ?_⟩
    · rw [pBlock_zero]; exact Ok.stay hi
    · rw [pStmts_zero]; exact Ok.stay hi
    · rw [pStmt_zero]; exact ⟨Ok.err (Nat.le_of_lt hi) _ _, fun _ h => by cases h⟩
  | succ f ih =>
    obtain ⟨hB, hS, hT⟩ := ih
    refine ⟨fun d i hi => ?_, fun d i l hi => ?_, fun d i hlt => ?_⟩
    · rw [pBlock_succ]
      split
      · rename_i h
        have h0 := Ok.is (sz := sz) hL h (by decide)
        split
        · exact h0.and (Ok.err h0.le _ _)
        · have h1 := h0.and (hS (d + 1) (i + 1) [] h0.le)
          exact h1.and (need_ok hL h1.le (by decide))
      · exact Ok.err hi _ _
    · rw [pStmts_succ]
      split
      · rename_i h
        split
        · exact Ok.err hi _ _
        · try simp only
          have h1 := hT d i h.1
          exact h1.1.and (hS _ _ _ h1.1.le)
      · exact Ok.stay hi
    · have hi : i ≤ L.length := Nat.le_of_lt hlt
      have fin : ∀ {k : Nat} {a : List Dg}, Ok L sz (i + 1) k a → Ok L sz i (i + 1) [] → Ok L sz i k a ∧ (k = i → a ≠ []) := fun h g => ⟨g.and h, fun e => absurd h.ge (by omega)⟩
      rw [pStmt_succ]
      try simp only
      split
      · rename_i hw
        have h0 := Ok.word hL hw (by decide) (by decide)
        have h1 := named_ok (sz := sz) hL h0.le
        have h2 : Ok L sz (i + 1) (if (!isT L (pNamed L sz (i + 1)).i (bs1 58)) = true then (⟨0, (pNamed L sz (i + 1)).i, []⟩ : R Nat) else pLab L sz ((pNamed L sz (i + 1)).i + 1)).i ((pNamed L sz (i + 1)).d ++ (if (!isT L (pNamed L sz (i + 1)).i (bs1 58)) = true then (⟨0, (pNamed L sz (i + 1)).i, []⟩ : R Nat) else pLab L sz ((pNamed L sz (i + 1)).i + 1)).d) := by
          split
          · exact h1.and (Ok.stay h1.le)
          · rename_i hc
            have hc : isT L (pNamed L sz (i + 1)).i (bs1 58) = true := by simpa using hc
            have := h1.step (isT_lt hc).1 (good_is hL hc (by decide))
            exact this.and (lab_ok hL this.le)
        have h3 := h2.and (need_ok (s := bs1 61) hL h2.le (by decide))
        have h4 := h3.and (pE_ok hL d h3.le).1
        exact fin (h4.and (need_ok (s := bs1 59) hL h4.le (by decide))) h0
      · split
        · rename_i hw
          have h0 := Ok.word hL hw (by decide) (by decide)
          have h1 := (pE_ok (sz := sz) hL d h0.le).1
          have h2 := h1.and (hB d _ h1.le)
          split
          · rename_i hc
            have h3 := h2.step (isT_lt hc).1 (good_is hL hc (by decide))
            exact fin (h3.and (hB d _ h3.le)) h0
          · exact fin h2 h0
        · split
          · rename_i hw
            have h0 := Ok.word hL hw (by decide) (by decide)
            have h1 := (pE_ok (sz := sz) hL d h0.le).1
            exact fin (h1.and (hB d _ h1.le)) h0
          · split
            · rename_i hw
              have h0 := Ok.word hL hw (by decide) (by decide)
              have h1 := named_ok (sz := sz) hL h0.le
              have h2 := h1.and (pE_ok (sz := sz) hL d h1.le).1
              exact fin (h2.and (need_ok (s := bs1 59) hL h2.le (by decide))) h0
            · split
              · rename_i hw
                have h0 := Ok.word hL hw (by decide) (by decide)
                have h1 := (pE_ok (sz := sz) hL d h0.le).1
                exact fin (h1.and (need_ok (s := bs1 59) hL h1.le (by decide))) h0
              · split
                · rename_i hn
                  have h0 := Ok.nm hL hn
                  split
                  · rename_i hc
                    have h1 : Ok L sz i (i + 2) [] := h0.step (isT_lt hc).1 (good_is hL hc (by decide))
                    have h2 := (pE_ok (sz := sz) hL d h1.le).1
                    have h3 := h2.and (need_ok (s := bs1 59) hL h2.le (by decide))
                    exact ⟨h1.and h3, fun e => absurd h3.ge (by simp only at e; omega)⟩
                  · have h1 := pE_ok (sz := sz) hL d hi
                    have h2 := need_ok (sz := sz) (s := bs1 59) hL h1.1.le (by decide)
                    refine ⟨h1.1.and h2, fun e h5 => ?_⟩
                    simp only at e
                    have h3 := h2.ge
                    have h4 := h1.1.ge
                    exact h1.2 (by omega) (List.append_eq_nil_iff.1 h5).1
                · exact ⟨Ok.errs hlt _ _, fun _ h => by cases h⟩
theorem params_ok (hL : ∀ t ∈ L, okT t) (f : Nat) : ∀ (i : Nat) (l : List Pm), i ≤ L.length → Ok L sz i (pParams L sz f i l).i (pParams L sz f i l).d := by
  induction f with
  | zero => intro i l hi; unfold pParams; exact Ok.stay hi
  | succ f ih =>
    intro i l hi
    unfold pParams
    split
    · split
      · exact Ok.err hi _ _
      · try simp only
        have h1 := named_ok (sz := sz) hL hi
        have h2 := h1.and (need_ok (s := bs1 58) hL h1.le (by decide))
        split
        · have h3 := h2.and (lab_ok hL h2.le)
          split
          · rename_i hc
            have h4 := h3.step (isT_lt hc).1 (good_is hL hc (by decide))
            exact h4.and (ih _ _ h4.le)
          · exact h3
        · exact h2
    · exact Ok.stay hi
theorem sends_ok (hL : ∀ t ∈ L, okT t) (f : Nat) : ∀ (i : Nat) (l : List Rf), i ≤ L.length → Ok L sz i (pSends L sz f i l).i (pSends L sz f i l).d := by
  induction f with
  | zero => intro i l hi; unfold pSends; exact Ok.stay hi
  | succ f ih =>
    intro i l hi
    unfold pSends
    split
    · exact Ok.err hi _ _
    · try simp only
      have h1 := named_ok (sz := sz) hL hi
      split
      · rename_i hc
        have h4 := h1.step (isT_lt hc).1 (good_is hL hc (by decide))
        exact h4.and (ih _ _ h4.le)
      · exact h1
theorem pB_ok (hL : ∀ t ∈ L, okT t) {i : Nat} (hi : i ≤ L.length) : Ok L sz i (pB L sz i).i (pB L sz i).d := (stmt_ok hL (50 * L.length + 100)).1 0 i hi
theorem rest_bad {i : Nat} : ∀ d ∈ rest L sz i, IsBad L sz d := by
  intro d hd
  unfold rest at hd
  split at hd
  · rw [List.mem_singleton] at hd; exact ⟨i, 2, hd⟩
  · cases hd
/-- What an item tells of are its tokens; where it tells of nothing, none of them is no token. -/
theorem item_ok (hL : ∀ t ∈ L, okT t) : (∀ d ∈ (pIt L sz).ds, IsBad L sz d) ∧ ((pIt L sz).ds = [] → ∀ j, j < L.length → goodJ L j) := by
  have fin : ∀ {k : Nat} {a : List Dg}, Ok L sz 0 k a → (∀ d ∈ a ++ rest L sz k, IsBad L sz d) ∧ (a ++ rest L sz k = [] → ∀ j, j < L.length → goodJ L j) := by
    intro k a h
    refine ⟨fun d hd => ?_, fun he j hj => ?_⟩
    · rcases List.mem_append.1 hd with hd | hd
      · exact h.ds d hd
      · exact rest_bad d hd
    · have he := List.append_eq_nil_iff.1 he
      have hk : L.length ≤ k := by
        have := he.2
        unfold rest at this
        split at this
        · cases this
        · omega
      exact h.gd he.1 j (Nat.zero_le _) (by omega)
  unfold pIt
  split
  · rename_i h
    have h0 := Ok.is (sz := sz) hL h (by decide)
    have h1 := h0.and (named_ok (sz := sz) hL h0.le)
    have h2 := h1.and (need_ok (s := bs1 40) hL h1.le (by decide))
    have h3 := h2.and (params_ok hL 6 _ [] h2.le)
    have h4 := h3.and (need_ok (s := bs1 41) hL h3.le (by decide))
    have h5 := h4.and (need_ok (s := bs1 58) hL h4.le (by decide))
    have h6 := h5.and (lab_ok hL h5.le)
    try simp only
    generalize (pLab L sz (pNeed L sz (pNeed L sz (pParams L sz 6 (pNeed L sz (pNamed L sz 1).i (bs1 40)).i []).i (bs1 41)).i (bs1 58)).i) = l at *
    split
    · rename_i hc
      have h7 := h6.step (isT_lt hc).1 (good_is hL hc (by decide))
      have h8 := h7.and (sends_ok hL 8 _ [] h7.le)
      have h9 := h8.and (pB_ok hL h8.le)
      exact fin h9
    · have h9 := (h6.and (Ok.stay h6.le)).and (pB_ok hL h6.le)
      exact fin h9
  · split
    · rename_i h
      have h0 := Ok.is (sz := sz) hL h (by decide)
      have h1 := h0.and (named_ok (sz := sz) hL h0.le)
      have h2 := h1.and (need_ok (s := bs1 58) hL h1.le (by decide))
      have h3 := h2.and (lab_ok hL h2.le)
      have h4 := h3.and (need_ok (s := bs1 59) hL h3.le (by decide))
      exact fin h4
    · exact ⟨fun d hd => by rw [List.mem_singleton] at hd; exact ⟨0, 2, hd⟩, fun h => by cases h⟩
end Go.Proofs.Ytjpmnholpeidmaa
namespace Go.Proofs.Ytjpmnholpeidmaa
variable {L : List Tok} {sz : Nat}
theorem labs_fuel (f : Nat) : ∀ (g i n : Nat), i ≤ L.length → L.length + 1 - i ≤ f → L.length + 1 - i ≤ g → pLabs L sz f i n = pLabs L sz g i n := by
  induction f with
  | zero => intro g i n hi h1; omega
  | succ f ih =>
    intro g i n hi h1 h2
    cases g with
    | zero => omega
    | succ g =>
      unfold pLabs
      split
      · rfl
      · split
        · rename_i ht
          have hl := tag_lt ht
          try simp only
          split
          · rw [ih g (i + 1) _ (by omega) (by omega) (by omega)]
          · split
            · rename_i hc
              have := (isT_lt hc).1
              rw [ih g (i + 2) _ (by omega) (by omega) (by omega)]
            · rfl
        · rfl
theorem expr_fuel (hL : ∀ t ∈ L, okT t) (f : Nat) :
    (∀ g d i, i ≤ L.length → 6 * (L.length - i) + 1 ≤ f → 6 * (L.length - i) + 1 ≤ g → pAtom L sz f d i = pAtom L sz g d i) ∧
    (∀ g d i as m, i ≤ L.length → 6 * (L.length - i) + 7 ≤ f → 6 * (L.length - i) + 7 ≤ g → pArgs L sz f d i as m = pArgs L sz g d i as m) ∧
    (∀ g d i w, i ≤ L.length → 6 * (L.length - i) + 6 - min w 4 ≤ f → 6 * (L.length - i) + 6 - min w 4 ≤ g → pExpr L sz f d i w = pExpr L sz g d i w) ∧
    (∀ g d e i w, i ≤ L.length → 6 * (L.length - i) + 1 ≤ f → 6 * (L.length - i) + 1 ≤ g → pOps L sz f d e i w = pOps L sz g d e i w) := by
  induction f with
  | zero => exact ⟨fun g d i hi h => by omega, fun g d i as m hi h => by omega, fun g d i w hi h => by omega, fun g d e i w hi h => by omega⟩
  | succ f ih =>
    obtain ⟨hA, hG, hE, hO⟩ := ih
    refine ⟨fun g d i hi h1 h2 => ?_, fun g d i as m hi h1 h2 => ?_, fun g d i w hi h1 h2 => ?_, fun g d e i w hi h1 h2 => ?_⟩
    · cases g with
      | zero => omega
      | succ g =>
        rw [pAtom_succ, pAtom_succ]
        try simp only
        split
        · rename_i hop
          have := op_lt hop
          split
          · rw [hE g (d + 1) (i + 1) 0 (by omega) (by omega) (by omega)]
          · split
            · rfl
            · split
              · rename_i hp
                have := (isT_lt hp).1
                rw [hG g (d + 1) (i + 2) [] _ (by omega) (by omega) (by omega)]
              · rfl
        · rfl
    · cases g with
      | zero => omega
      | succ g =>
        rw [pArgs_succ, pArgs_succ]
        split
        · split
          · rfl
          · try simp only
            rw [hE g d i 0 hi (by omega) (by omega)]
            have hk := ((expr_ok (sz := sz) hL g).2.2.1 d i 0 hi).1.ge
            split
            · rename_i hc
              have := (isT_lt hc).1
              rw [hG g d _ _ _ (by omega) (by omega) (by omega)]
            · rfl
        · rfl
    · cases g with
      | zero => omega
      | succ g =>
        rcases Nat.eq_zero_or_pos w with hw | hw
        · subst hw
          rw [pExpr_nul, pExpr_nul]
          split
          · rfl
          · exact hE g d i 1 hi (by omega) (by omega)
        · rcases Nat.lt_or_ge w 4 with h4 | h4
          · rw [pExpr_mid _ _ _ _ _ _ hw h4, pExpr_mid _ _ _ _ _ _ hw h4]
            rw [hE g d i (w + 1) hi (by omega) (by omega)]
            have hk := ((expr_ok (sz := sz) hL g).2.2.1 d i (w + 1) hi).1
            have h3 := hk.ge
            rw [hO g d _ _ w hk.le (by omega) (by omega)]
          · rw [pExpr_top _ _ _ _ _ _ h4, pExpr_top _ _ _ _ _ _ h4]
            exact hA g d i hi (by omega) (by omega)
    · cases g with
      | zero => omega
      | succ g =>
        rw [pOps_succ, pOps_succ]
        try simp only
        split
        · rename_i hw
          have hl := tight_lt (L := L) (sz := sz) (i := i) (by omega)
          rw [hE g d (i + 1) _ hl (by omega) (by omega)]
          have hk := ((expr_ok (sz := sz) hL g).2.2.1 d (i + 1) (w + 1) hl).1
          have h3 := hk.ge
          rw [hO g d _ _ w hk.le (by omega) (by omega)]
        · rfl
theorem pE_fuel (hL : ∀ t ∈ L, okT t) (f d i : Nat) (hi : i ≤ L.length) (hf : 6 * L.length + 10 ≤ f) : pE L sz d i = pExpr L sz f d i 0 :=
  (expr_fuel hL _).2.2.1 f d i 0 hi (by omega) (by omega)
theorem stmt_fuel (hL : ∀ t ∈ L, okT t) (f : Nat) :
    (∀ g d i, i ≤ L.length → 50 * (L.length - i) + 48 ≤ f → 50 * (L.length - i) + 48 ≤ g → pBlock L sz f d i = pBlock L sz g d i) ∧
    (∀ g d i l, i ≤ L.length → 50 * (L.length - i) + 3 + (40 - l.length) ≤ f → 50 * (L.length - i) + 3 + (40 - l.length) ≤ g → pStmts L sz f d i l = pStmts L sz g d i l) ∧
    (∀ g d i, i < L.length → 50 * (L.length - i) + 1 ≤ f → 50 * (L.length - i) + 1 ≤ g → pStmt L sz f d i = pStmt L sz g d i) := by
  induction f with
  | zero => exact ⟨fun g d i hi h => by omega, fun g d i l hi h => by omega, fun g d i hi h => by omega⟩
  | succ f ih =>
    obtain ⟨hB, hS, hT⟩ := ih
    refine ⟨fun g d i hi h1 h2 => ?_, fun g d i l hi h1 h2 => ?_, fun g d i hi h1 h2 => ?_⟩
    · cases g with
      | zero => omega
      | succ g =>
        rw [pBlock_succ, pBlock_succ]
        split
        · rename_i h
          have := (isT_lt h).1
          split
          · rfl
          · try simp only
            rw [hS g (d + 1) (i + 1) [] (by omega) (by simp only [List.length_nil]; omega) (by simp only [List.length_nil]; omega)]
        · rfl
    · cases g with
      | zero => omega
      | succ g =>
        rw [pStmts_succ, pStmts_succ]
        split
        · rename_i h
          split
          · rfl
          · try simp only
            rw [hT g d i h.1 (by omega) (by omega)]
            have hk := ((stmt_ok (sz := sz) hL g).2.2 d i h.1).1
            have h3 := hk.ge
            have h4 := hk.le
            rw [hS g d _ _ h4 (by simp only [List.length_append, List.length_singleton]; omega) (by simp only [List.length_append, List.length_singleton]; omega)]
        · rfl
    · cases g with
      | zero => omega
      | succ g =>
        have hb : ∀ k, i + 1 ≤ k → k ≤ L.length → pBlock L sz f d k = pBlock L sz g d k := fun k h3 h4 => hB g d k h4 (by omega) (by omega)
        have he := (pE_ok (sz := sz) hL d (i := i + 1) hi).1
        have hk := (stmt_ok (sz := sz) hL g).1 d _ he.le
        have h3 := he.ge
        have h4 := he.le
        have h5 := hk.ge
        rw [pStmt_succ, pStmt_succ]
        try simp only
        rw [hb _ h3 h4]
        by_cases hc : isT L (pBlock L sz g d (pE L sz d (i + 1)).i).i kElse = true
        · have h6 := (isT_lt hc).1
          rw [hb ((pBlock L sz g d (pE L sz d (i + 1)).i).i + 1) (by omega) h6]
        · simp only [hc, Bool.false_eq_true, if_false]
theorem pB_fuel (hL : ∀ t ∈ L, okT t) (f i : Nat) (hi : i ≤ L.length) (hf : 50 * L.length + 100 ≤ f) : pB L sz i = pBlock L sz f 0 i :=
  (stmt_fuel hL _).1 f 0 i hi (by omega) (by omega)
end Go.Proofs.Ytjpmnholpeidmaa
namespace Go.Proofs.Ytjpmnholpeidmaa
section
variable {L : List Tok} {n sz sz' : Nat}
theorem take_get {j : Nat} (h : j < n) : (L.take n)[j]? = L[j]? := by rw [List.getElem?_take, if_pos h]
theorem take_tk (hn : n ≤ L.length) {j : Nat} (h : j < n) : tk (L.take n) sz' j = tk L sz j := by
  unfold tk
  rw [take_get h, List.getElem?_eq_getElem (by omega)]
  rfl
theorem take_is {j : Nat} (h : j < n) (s : ByteArray) : isT (L.take n) j s = isT L j s := by
  unfold isT
  rw [take_get h]
theorem take_len (hn : n ≤ L.length) : (L.take n).length = n := by rw [List.length_take]; omega
theorem take_lt (hn : n ≤ L.length) {j : Nat} {s : ByteArray} (h : isT (L.take n) j s = true) : j < n := by
  have := (isT_lt h).1
  rwa [take_len hn] at this
theorem take_ok (hL : ∀ t ∈ L, okT t) : ∀ t ∈ L.take n, okT t := fun t ht => hL t (List.mem_of_mem_take ht)
theorem need_loc (hn : n ≤ L.length) {j : Nat} {s : ByteArray} (h : (pNeed (L.take n) sz' j s).d = []) : j < n ∧ pNeed L sz j s = ⟨true, j + 1, []⟩ ∧ pNeed (L.take n) sz' j s = ⟨true, j + 1, []⟩ := by
  unfold pNeed at h
  split at h
  · rename_i hi
    have hj := take_lt hn hi
    refine ⟨hj, ?_, ?_⟩
    · unfold pNeed; rw [if_pos (by rw [← take_is hj]; exact hi)]
    · unfold pNeed; rw [if_pos hi]
  · cases h
theorem named_loc (hn : n ≤ L.length) {j : Nat} (h : (pNamed (L.take n) sz' j).d = []) : j < n ∧ pNamed L sz j = pNamed (L.take n) sz' j ∧ (pNamed (L.take n) sz' j).i = j + 1 := by
  unfold pNamed at h
  split at h
  · rename_i hi
    have hj : j < n := by have := nm_lt hi; rwa [take_len hn] at this
    refine ⟨hj, ?_, ?_⟩
    · unfold pNamed
      rw [if_pos hi, ← take_tk (sz := sz) (sz' := sz') hn hj, if_pos hi]
    · unfold pNamed; rw [if_pos hi]
  · split at h <;> cases h
theorem labs_loc (hn : n ≤ L.length) (f : Nat) : ∀ (i k : Nat), (pLabs (L.take n) sz' f i k).d = [] → (pLabs L sz f i k) = pLabs (L.take n) sz' f i k := by
  induction f with
  | zero => intro i k h; unfold pLabs; rfl
  | succ f ih =>
    intro i k h
    unfold pLabs at h ⊢
    by_cases h1 : isT (L.take n) i (bs1 125) = true
    · have hi := take_lt hn h1
      rw [if_pos h1, if_pos (by rw [← take_is hi]; exact h1)]
    · rw [if_neg h1] at h ⊢
      by_cases h2 : tagB (tk (L.take n) sz' i).x = true
      · have hi : i < n := by have := tag_lt h2; rwa [take_len hn] at this
        rw [if_pos h2] at h ⊢
        rw [take_tk (sz := sz) hn hi] at h h2 ⊢
        rw [if_neg (by rw [← take_is hi]; exact h1), if_pos h2]
        try simp only at h ⊢
        by_cases hl : i + 1 < n
        · rw [take_is hl, take_is hl] at h ⊢
          split
          · rename_i h3
            rw [if_pos h3] at h
            simp only [List.append_eq_nil_iff] at h
            have h9 : ¬ k / 2 ^ (byt (tk L sz i).x 0 - 97) % 2 = 1 := by intro h9; rw [if_pos h9] at h; cases h.1
            simp only [if_neg h9] at h ⊢
            rw [ih _ _ h.2]
          · rename_i h3
            rw [if_neg h3] at h
            split
            · rename_i h4
              rw [if_pos h4] at h
              simp only [List.append_eq_nil_iff] at h
              have h9 : ¬ k / 2 ^ (byt (tk L sz i).x 0 - 97) % 2 = 1 := by intro h9; rw [if_pos h9] at h; cases h.1
              simp only [if_neg h9] at h ⊢
              rw [ih _ _ h.2]
            · rename_i h4
              rw [if_neg h4] at h
              simp at h
        · rw [if_neg (fun h9 => hl (take_lt hn h9)), if_neg (fun h9 => hl (take_lt hn h9))] at h
          simp at h
      · rw [if_neg h2] at h; cases h
theorem lab_loc (hn : n ≤ L.length) {i : Nat} (h : (pLab (L.take n) sz' i).d = []) : i < n ∧ pLab L sz i = pLab (L.take n) sz' i := by
  unfold pLab at h ⊢
  split at h
  · rename_i h1
    have hi := take_lt hn h1
    refine ⟨hi, ?_⟩
    rw [if_pos h1, if_pos (by rw [← take_is hi]; exact h1)]
    have e := labs_fuel (L := L.take n) (sz := sz') ((L.take n).length + 1 - i) (L.length + 1 - i) (i + 1) 0 (by rw [take_len hn]; omega) (by omega) (by rw [take_len hn]; omega)
    rw [e] at h ⊢
    exact labs_loc hn _ _ _ h
  · cases h
theorem end_loc (hn : n ≤ L.length) {j : Nat} (h : j ≤ n) : endT (L.take n) sz' j = endT L sz j := by
  unfold endT
  split
  · rfl
  · rw [take_tk (sz := sz) hn (by omega)]
theorem callT_loc (hn : n ≤ L.length) {j : Nat} (h : j ≤ n) (al : List Tr) : callT (L.take n) sz' j al = callT L sz j al := by
  unfold callT
  rw [end_loc (sz := sz) hn h]
theorem more_loc (hn : n ≤ L.length) {j : Nat} (h : j < n) : moreB (L.take n) j = moreB L j := by
  unfold moreB
  rw [take_is h, take_len hn]
  simp [h, show j < L.length by omega]
theorem expr_loc (hn : n ≤ L.length) (hL : ∀ t ∈ L, okT t) (f : Nat) :
    (∀ d i, i ≤ n → (pAtom (L.take n) sz' f d i).d = [] → (pAtom (L.take n) sz' f d i).i < n → pAtom L sz f d i = pAtom (L.take n) sz' f d i) ∧
    (∀ d i as m, i ≤ n → (pArgs (L.take n) sz' f d i as m).d = [] → (pArgs (L.take n) sz' f d i as m).i < n → pArgs L sz f d i as m = pArgs (L.take n) sz' f d i as m) ∧
    (∀ d i w, i ≤ n → (pExpr (L.take n) sz' f d i w).d = [] → (pExpr (L.take n) sz' f d i w).i < n → pExpr L sz f d i w = pExpr (L.take n) sz' f d i w) ∧
    (∀ d e i w, i ≤ n → (pOps (L.take n) sz' f d e i w).d = [] → (pOps (L.take n) sz' f d e i w).i < n → pOps L sz f d e i w = pOps (L.take n) sz' f d e i w) := by
  have hM := take_ok (n := n) hL
  have hlen := take_len hn
  induction f with
  | zero =>
    refine ⟨fun d i _ h => ?_, fun d i as m _ h _ => ?_, fun d i w _ h _ => ?_, fun d e i w _ h _ => ?_⟩
    · rw [pAtom_zero] at h; cases h
    · rw [pArgs_zero, pArgs_zero]
    · rw [pExpr_zero] at h; cases h
    · rw [pOps_zero, pOps_zero]
  | succ f ih =>
    obtain ⟨hA, hG, hE, hO⟩ := ih
    refine ⟨fun d i h0 h hi => ?_, fun d i as m h0 h hi => ?_, fun d i w h0 h hi => ?_, fun d e i w h0 h hi => ?_⟩
    · have hlt : i < n := by have := ((expr_ok (sz := sz') hM (f + 1)).1 d i (by omega)).1.ge; omega
      rw [pAtom_succ] at h hi
      rw [pAtom_succ, pAtom_succ]
      try simp only at h hi ⊢
      simp only [take_tk (sz := sz) hn hlt] at h hi ⊢
      by_cases h1 : opB (tk L sz i) = true
      · simp only [if_pos h1] at h hi ⊢
        by_cases h3 : (tk L sz i).x = bs1 40
        · simp only [if_pos h3, List.append_eq_nil_iff] at h hi ⊢
          obtain ⟨q1, q2, q3⟩ := need_loc (sz := sz) hn h.2
          rw [hE _ _ _ (by omega) h.1 q1, q2, q3]
        · simp only [if_neg h3] at h hi ⊢
          by_cases h2 : (tk L sz i).k = 2
          · simp only [if_pos h2] at h hi ⊢
            by_cases h3 : 1000000000 < num (tk L sz i).x.data.toList 0
            · simp only [if_pos h3] at h; cases h
            · simp only [if_neg h3]
          · simp only [if_neg h2] at h hi ⊢
            by_cases h5 : isT (L.take n) (i + 1) (bs1 40) = true
            · have hi1 := take_lt hn h5
              have h5' : isT L (i + 1) (bs1 40) = true := by rw [← take_is hi1]; exact h5
              simp only [if_pos h5, if_pos h5', List.append_eq_nil_iff] at h hi ⊢
              obtain ⟨q1, q2, q3⟩ := need_loc (sz := sz) hn h.2
              have hge := ((expr_ok (sz := sz') hM f).2.1 (d + 1) (i + 2) [] (moreB (L.take n) (i + 2)) (by omega)).ge
              have hm := more_loc hn (show i + 2 < n by omega)
              rw [hm] at h q1 q2 q3 ⊢
              rw [hG _ _ _ _ (by omega) h.1 q1, q2, q3, callT_loc (sz := sz) hn (by simp only; omega)]
            · simp only [if_neg h5] at h hi ⊢
              rw [take_is hi] at h5
              simp only [if_neg h5]
      · simp only [if_neg h1] at h; cases h
    · rw [pArgs_succ] at h hi
      rw [pArgs_succ, pArgs_succ]
      by_cases h1 : m = true
      · simp only [if_pos h1] at h hi ⊢
        by_cases h2 : as.length = 5
        · simp only [if_pos h2] at h; cases h
        · simp only [if_neg h2] at h hi ⊢
          by_cases h3 : isT (L.take n) (pExpr (L.take n) sz' f d i 0).i (bs1 44) = true
          · have h4 := take_lt hn h3
            simp only [if_pos h3, List.append_eq_nil_iff] at h hi ⊢
            have e := hE d i 0 h0 h.1 h4
            have hge := ((expr_ok (sz := sz') hM f).2.1 d ((pExpr (L.take n) sz' f d i 0).i + 1) (as ++ [(pExpr (L.take n) sz' f d i 0).v]) (moreB (L.take n) ((pExpr (L.take n) sz' f d i 0).i + 1)) (by omega)).ge
            have hm := more_loc hn (show (pExpr (L.take n) sz' f d i 0).i + 1 < n by omega)
            rw [hm] at h hi ⊢
            have e2 := hG _ _ _ _ (by omega) h.2 hi
            rw [e, if_pos (by rw [← take_is h4]; exact h3), e2]
          · simp only [if_neg h3] at h hi ⊢
            have e := hE d i 0 h0 h hi
            rw [take_is hi] at h3
            rw [e, if_neg h3]
      · simp only [if_neg h1]
    · rcases Nat.eq_zero_or_pos w with hw | hw
      · subst hw
        have hlt : i < n := by have := ((expr_ok (sz := sz') hM (f + 1)).2.2.1 d i 0 (by omega)).1.ge; omega
        rw [pExpr_nul] at h hi
        rw [pExpr_nul, pExpr_nul]
        by_cases h1 : 12 ≤ d
        · simp only [if_pos h1] at h; cases h
        · simp only [if_neg h1] at h hi ⊢
          exact hE d i 1 h0 h hi
      · rcases Nat.lt_or_ge w 4 with h4 | h4
        · rw [pExpr_mid _ _ _ _ _ _ hw h4] at h hi
          rw [pExpr_mid _ _ _ _ _ _ hw h4, pExpr_mid _ _ _ _ _ _ hw h4]
          simp only [List.append_eq_nil_iff] at h hi ⊢
          have hk := ((expr_ok (sz := sz') hM f).2.2.1 d i (w + 1) (by omega)).1
          have hge := ((expr_ok (sz := sz') hM f).2.2.2 d (pExpr (L.take n) sz' f d i (w + 1)).v (pExpr (L.take n) sz' f d i (w + 1)).i w hk.le).ge
          have e := hE d i (w + 1) h0 h.1 (by omega)
          rw [e, hO _ _ _ _ (by have := hk.le; omega) h.2 hi]
        · rw [pExpr_top _ _ _ _ _ _ h4] at h hi
          rw [pExpr_top _ _ _ _ _ _ h4, pExpr_top _ _ _ _ _ _ h4]
          exact hA d i h0 h hi
    · have hlt : i < n := by have := ((expr_ok (sz := sz') hM (f + 1)).2.2.2 d e i w (by omega)).ge; omega
      rw [pOps_succ] at h hi
      rw [pOps_succ, pOps_succ]
      simp only [take_tk (sz := sz) hn hlt] at h hi ⊢
      by_cases h1 : tight (tk L sz i).x = w ∧ 0 < w
      · simp only [if_pos h1, List.append_eq_nil_iff] at h hi ⊢
        have hk := ((expr_ok (sz := sz') hM f).2.2.1 d (i + 1) (w + 1) (by omega)).1
        have hge := ((expr_ok (sz := sz') hM f).2.2.2 d (exMk 3 (tk L sz i).x 0 [e, (pExpr (L.take n) sz' f d (i + 1) (w + 1)).v] (exF e) (max (exT e) (exT (pExpr (L.take n) sz' f d (i + 1) (w + 1)).v))) (pExpr (L.take n) sz' f d (i + 1) (w + 1)).i w hk.le).ge
        have e1 := hE d (i + 1) (w + 1) (by omega) h.1 (by omega)
        rw [e1, hO _ _ _ _ (by have := hk.le; omega) h.2 hi]
      · simp only [if_neg h1]
theorem pE_loc (hn : n ≤ L.length) (hL : ∀ t ∈ L, okT t) {d i : Nat} (hi : i ≤ n) (h : (pE (L.take n) sz' d i).d = []) (h1 : (pE (L.take n) sz' d i).i < n) : pE L sz d i = pE (L.take n) sz' d i := by
  have e := pE_fuel (sz := sz') (take_ok (n := n) hL) (6 * L.length + 10) d i (by rw [take_len hn]; exact hi) (by rw [take_len hn]; omega)
  rw [e] at h h1 ⊢
  exact (expr_loc hn hL _).2.2.1 d i 0 hi h h1
theorem stmt_loc (hn : n ≤ L.length) (hL : ∀ t ∈ L, okT t) (f : Nat) :
    (∀ d i, i ≤ n → (pBlock (L.take n) sz' f d i).d = [] → pBlock L sz f d i = pBlock (L.take n) sz' f d i) ∧
    (∀ d i l, i ≤ n → (pStmts (L.take n) sz' f d i l).d = [] → (pStmts (L.take n) sz' f d i l).i < n → pStmts L sz f d i l = pStmts (L.take n) sz' f d i l) ∧
    (∀ d i, i < n → (pStmt (L.take n) sz' f d i).d = [] → (pStmt (L.take n) sz' f d i).i < n → pStmt L sz f d i = pStmt (L.take n) sz' f d i) := by
  have hM := take_ok (n := n) hL
  have hlen := take_len hn
  induction f with
  | zero =>
    refine ⟨fun d i _ h => ?_, fun d i l _ h _ => ?_, fun d i _ h _ => ?_⟩
    · rw [pBlock_zero, pBlock_zero]
    · rw [pStmts_zero, pStmts_zero]
    · rw [pStmt_zero] at h; cases h
  | succ f ih =>
    obtain ⟨hB, hS, hT⟩ := ih
    refine ⟨fun d i h0 h => ?_, fun d i l h0 h hi => ?_, fun d i h0 h hi => ?_⟩
    · rw [pBlock_succ] at h
      rw [pBlock_succ, pBlock_succ]
      by_cases h1 : isT (L.take n) i (bs1 123) = true
      · have hi := take_lt hn h1
        have h1' : isT L i (bs1 123) = true := by rw [← take_is hi]; exact h1
        simp only [if_pos h1, if_pos h1'] at h ⊢
        by_cases h2 : 12 ≤ d
        · simp only [if_pos h2] at h; cases h
        · simp only [if_neg h2, List.append_eq_nil_iff] at h ⊢
          obtain ⟨q1, q2, q3⟩ := need_loc (sz := sz) hn h.2
          rw [hS _ _ _ (by omega) h.1 q1, q2, q3]
      · simp only [if_neg h1] at h; cases h
    · have hlt : i < n := by have := ((stmt_ok (sz := sz') hM (f + 1)).2.1 d i l (by omega)).ge; omega
      rw [pStmts_succ] at h hi
      rw [pStmts_succ, pStmts_succ]
      simp only [hlen, take_is hlt, show i < n from hlt, show i < L.length by omega, true_and] at h hi ⊢
      by_cases h1 : isT L i (bs1 125) = false
      · simp only [if_pos h1] at h hi ⊢
        by_cases h2 : 40 ≤ l.length
        · simp only [if_pos h2] at h; cases h
        · simp only [if_neg h2, List.append_eq_nil_iff] at h hi ⊢
          have hk := (stmt_ok (sz := sz') hM f).2.2 d i (by omega)
          have hge := ((stmt_ok (sz := sz') hM f).2.1 d (pStmt (L.take n) sz' f d i).i (l ++ [(pStmt (L.take n) sz' f d i).v]) hk.1.le).ge
          have e := hT d i hlt h.1 (by omega)
          rw [e, hS _ _ _ (by have := hk.1.le; omega) h.2 hi]
      · simp only [if_neg h1]
    · have hlt : i < n := h0
      rw [pStmt_succ] at h hi
      rw [pStmt_succ, pStmt_succ]
      simp only [take_tk (sz := sz) hn hlt] at h hi ⊢
      by_cases w1 : (tk L sz i).x = kLet
      · simp only [if_pos w1, List.append_eq_nil_iff] at h hi ⊢
        obtain ⟨⟨⟨⟨ha, hb⟩, hc⟩, he⟩, hg⟩ := h
        obtain ⟨g1, g2, g3⟩ := need_loc (sz := sz) hn hg
        obtain ⟨c1, c2, c3⟩ := need_loc (sz := sz) hn hc
        obtain ⟨a1, a2, a3⟩ := named_loc (sz := sz) hn ha
        rw [c3] at he g1 g2 g3
        have ee := pE_loc (sz := sz) hn hL (by simp only; omega) he g1
        have hx := take_tk (sz := sz) (sz' := sz') hn a1
        rw [a2]
        by_cases w2 : isT (L.take n) (pNamed (L.take n) sz' (i + 1)).i (bs1 58) = true
        · have hw := take_lt hn w2
          have w2' : isT L (pNamed (L.take n) sz' (i + 1)).i (bs1 58) = true := by rw [← take_is hw]; exact w2
          simp only [w2, Bool.not_true, Bool.false_eq_true, if_false] at hb c1 c2 c3 ee g1 g2 g3 he ⊢
          simp only [w2', Bool.not_true, Bool.false_eq_true, if_false]
          obtain ⟨b1, b2⟩ := lab_loc (sz := sz) hn hb
          rw [b2, c2, c3, ee, g2, g3, end_loc (sz := sz) hn (by simp only; omega), hx]
        · have hq : (pNamed (L.take n) sz' (i + 1)).i < n := by
            have w3 : isT (L.take n) (pNamed (L.take n) sz' (i + 1)).i (bs1 58) = false := by simpa using w2
            simp only [w3, Bool.not_false, if_true] at c1
            exact c1
          rw [take_is hq] at w2
          have w3 : isT L (pNamed (L.take n) sz' (i + 1)).i (bs1 58) = false := by simpa using w2
          simp only [take_is hq, w3, Bool.not_false, if_true] at c1 c2 c3 ee g1 g2 g3 he ⊢
          rw [c2, c3, ee, g2, g3, end_loc (sz := sz) hn (by simp only; omega), hx]
      · simp only [if_neg w1] at h hi ⊢
        by_cases w2 : (tk L sz i).x = kIf
        · simp only [if_pos w2] at h hi ⊢
          have hk := (pE_ok (sz := sz') hM d (i := i + 1) (by omega)).1
          have hk2 := (stmt_ok (sz := sz') hM f).1 d _ hk.le
          have l1 := hk.le
          have l2 := hk2.ge
          have l3 := hk2.le
          by_cases w3 : isT (L.take n) (pBlock (L.take n) sz' f d (pE (L.take n) sz' d (i + 1)).i).i kElse = true
          · have hw := take_lt hn w3
            simp only [if_pos w3, List.append_eq_nil_iff] at h hi ⊢
            have ee := pE_loc (sz := sz) hn hL (by omega) h.1.1 (by omega)
            rw [ee, hB _ _ (by omega) h.1.2, if_pos (by rw [← take_is hw]; exact w3), hB _ _ (by omega) h.2, end_loc (sz := sz) hn (by omega)]
          · simp only [if_neg w3, List.append_eq_nil_iff] at h hi ⊢
            have ee := pE_loc (sz := sz) hn hL (by omega) h.1 (by omega)
            rw [take_is hi] at w3
            rw [ee, hB _ _ (by omega) h.2, if_neg w3, end_loc (sz := sz) hn (by omega)]
        · simp only [if_neg w2] at h hi ⊢
          by_cases w3 : (tk L sz i).x = kWhile
          · simp only [if_pos w3, List.append_eq_nil_iff] at h hi ⊢
            have hk := (pE_ok (sz := sz') hM d (i := i + 1) (by omega)).1
            have hk2 := (stmt_ok (sz := sz') hM f).1 d _ hk.le
            have l1 := hk.le
            have l2 := hk2.ge
            have ee := pE_loc (sz := sz) hn hL (by omega) h.1 (by omega)
            rw [ee, hB _ _ (by omega) h.2, end_loc (sz := sz) hn (by omega)]
          · simp only [if_neg w3] at h hi ⊢
            by_cases w4 : (tk L sz i).x = kSend
            · simp only [if_pos w4, List.append_eq_nil_iff] at h hi ⊢
              obtain ⟨⟨ha, he⟩, hg⟩ := h
              obtain ⟨g1, g2, g3⟩ := need_loc (sz := sz) hn hg
              obtain ⟨a1, a2, a3⟩ := named_loc (sz := sz) hn ha
              have ee := pE_loc (sz := sz) hn hL (by omega) he g1
              rw [a2, ee, g2, g3, end_loc (sz := sz) hn (by simp only; omega), take_tk (sz := sz) (sz' := sz') hn a1]
            · simp only [if_neg w4] at h hi ⊢
              by_cases w5 : (tk L sz i).x = kReturn
              · simp only [if_pos w5, List.append_eq_nil_iff] at h hi ⊢
                obtain ⟨g1, g2, g3⟩ := need_loc (sz := sz) hn h.2
                have ee := pE_loc (sz := sz) hn hL (by omega) h.1 g1
                rw [ee, g2, g3, end_loc (sz := sz) hn (by simp only; omega)]
              · simp only [if_neg w5] at h hi ⊢
                by_cases w6 : nmB (tk L sz i).x = true
                · simp only [if_pos w6] at h hi ⊢
                  by_cases w7 : isT (L.take n) (i + 1) (bs1 61) = true
                  · have hw := take_lt hn w7
                    have w7' : isT L (i + 1) (bs1 61) = true := by rw [← take_is hw]; exact w7
                    simp only [if_pos w7, if_pos w7', List.append_eq_nil_iff] at h hi ⊢
                    obtain ⟨g1, g2, g3⟩ := need_loc (sz := sz) hn h.2
                    have ee := pE_loc (sz := sz) hn hL (by omega) h.1 g1
                    rw [ee, g2, g3, end_loc (sz := sz) hn (by simp only; omega)]
                  · simp only [if_neg w7, List.append_eq_nil_iff] at h hi ⊢
                    obtain ⟨g1, g2, g3⟩ := need_loc (sz := sz) hn h.2
                    have hk := pE_ok (sz := sz') hM d (i := i) (by omega)
                    have hk2 := hk.1.ge
                    have hne : ¬ (pE (L.take n) sz' d i).i = i := fun e => hk.2 e h.1
                    have ee := pE_loc (sz := sz) hn hL (by omega) h.1 g1
                    rw [take_is (by omega)] at w7
                    simp only [if_neg w7]
                    rw [ee, g2, g3, end_loc (sz := sz) hn (by simp only; omega)]
                · simp only [if_neg w6] at h; cases h
theorem params_loc (hn : n ≤ L.length) (hL : ∀ t ∈ L, okT t) (f : Nat) : ∀ (i : Nat) (l : List Pm), i ≤ n → (pParams (L.take n) sz' f i l).d = [] → (pParams (L.take n) sz' f i l).i < n → pParams L sz f i l = pParams (L.take n) sz' f i l := by
  have hM := take_ok (n := n) hL
  have hlen := take_len hn
  induction f with
  | zero => intro i l _ h _; unfold pParams; rfl
  | succ f ih =>
    intro i l h0 h hi
    have hlt : i < n := by have := (params_ok (sz := sz') hM (f + 1) i l (by omega)).ge; omega
    unfold pParams at h hi ⊢
    rw [more_loc hn hlt] at h hi ⊢
    by_cases h1 : moreB L i = true
    · simp only [if_pos h1] at h hi ⊢
      by_cases h2 : 5 ≤ l.length
      · simp only [if_pos h2] at h; cases h
      · simp only [if_neg h2] at h hi ⊢
        by_cases h3 : (pNeed (L.take n) sz' (pNamed (L.take n) sz' i).i (bs1 58)).v = true
        · simp only [if_pos h3] at h hi ⊢
          by_cases h4 : isT (L.take n) (pLab (L.take n) sz' (pNeed (L.take n) sz' (pNamed (L.take n) sz' i).i (bs1 58)).i).i (bs1 44) = true
          · have hw := take_lt hn h4
            simp only [if_pos h4, List.append_eq_nil_iff] at h hi ⊢
            obtain ⟨⟨⟨ha, hc⟩, hb⟩, hq⟩ := h
            obtain ⟨a1, a2, a3⟩ := named_loc (sz := sz) hn ha
            obtain ⟨c1, c2, c3⟩ := need_loc (sz := sz) hn hc
            rw [a2, c2]
            rw [c3] at hb hq hi h4 hw ⊢
            obtain ⟨b1, b2⟩ := lab_loc (sz := sz) hn hb
            rw [b2]
            simp only [if_true]
            rw [if_pos (by rw [← take_is hw]; exact h4), take_tk (sz := sz) hn hlt] at *
            rw [ih _ _ (by omega) hq hi]
          · simp only [if_neg h4, List.append_eq_nil_iff] at h hi ⊢
            obtain ⟨⟨ha, hc⟩, hb⟩ := h
            obtain ⟨a1, a2, a3⟩ := named_loc (sz := sz) hn ha
            obtain ⟨c1, c2, c3⟩ := need_loc (sz := sz) hn hc
            rw [a2, c2]
            rw [c3] at hb hi h4 ⊢
            obtain ⟨b1, b2⟩ := lab_loc (sz := sz) hn hb
            rw [b2]
            simp only [if_true]
            rw [take_is hi] at h4
            rw [if_neg h4, take_tk (sz := sz) hn hlt]
        · simp only [if_neg h3, List.append_eq_nil_iff] at h
          obtain ⟨c1, c2, c3⟩ := need_loc (sz := sz) hn h.2
          rw [c3] at h3
          exact absurd rfl h3
    · simp only [if_neg h1]
theorem sends_loc (hn : n ≤ L.length) (hL : ∀ t ∈ L, okT t) (f : Nat) : ∀ (i : Nat) (l : List Rf), i ≤ n → (pSends (L.take n) sz' f i l).d = [] → (pSends (L.take n) sz' f i l).i < n → pSends L sz f i l = pSends (L.take n) sz' f i l := by
  have hM := take_ok (n := n) hL
  have hlen := take_len hn
  induction f with
  | zero => intro i l _ h _; unfold pSends; rfl
  | succ f ih =>
    intro i l h0 h hi
    unfold pSends at h hi ⊢
    have hlt : i < n := by have := (sends_ok (sz := sz') hM (f + 1) i l (by omega)).ge; unfold pSends at this; omega
    rw [hlen] at h hi
    simp only [hlen, show i < n from hlt, show i < L.length by omega, and_true] at h hi ⊢
    by_cases h2 : 5 ≤ l.length
    · simp only [if_pos h2] at h; cases h
    · simp only [if_neg h2] at h hi ⊢
      by_cases h4 : isT (L.take n) (pNamed (L.take n) sz' i).i (bs1 44) = true
      · have hw := take_lt hn h4
        simp only [if_pos h4, List.append_eq_nil_iff] at h hi ⊢
        obtain ⟨a1, a2, a3⟩ := named_loc (sz := sz) hn h.1
        rw [take_tk (sz := sz) hn a1] at h hi ⊢
        rw [a2, if_pos (by rw [← take_is hw]; exact h4), ih _ _ (by omega) h.2 hi]
      · simp only [if_neg h4] at h hi ⊢
        obtain ⟨a1, a2, a3⟩ := named_loc (sz := sz) hn h
        rw [take_is hi] at h4
        rw [a2, if_neg h4, take_tk (sz := sz) hn a1]
theorem blk_lt (hn : n ≤ L.length) {k : Nat} (h : (pB (L.take n) sz' k).d = []) : k < n := by
  unfold pB at h
  rw [show 50 * (L.take n).length + 100 = (50 * (L.take n).length + 99) + 1 by omega] at h
  rw [pBlock_succ] at h
  split at h
  · rename_i h1
    exact take_lt hn h1
  · cases h
theorem rest_no {i : Nat} (h : rest L sz i = []) : L.length ≤ i := by
  unfold rest at h
  split at h
  · cases h
  · omega
theorem rest_yes {i : Nat} (h : i < L.length) : rest L sz i ≠ [] := by
  unfold rest
  rw [if_pos h]
  intro e
  cases e
/-- An item that ends too soon is told of. -/
theorem item_cut (hn : n < L.length) (hL : ∀ t ∈ L, okT t) (h : (pIt (L.take n) sz').ds = []) : (pIt L sz).ds ≠ [] := by
  have hn' : n ≤ L.length := by omega
  have hM := take_ok (n := n) hL
  have hlen := take_len hn'
  unfold pIt at h ⊢
  by_cases h1 : isT (L.take n) 0 kFn = true
  · have h1n := take_lt hn' h1
    have h1' : isT L 0 kFn = true := by rw [← take_is h1n]; exact h1
    simp only [if_pos h1, if_pos h1', List.append_eq_nil_iff] at h ⊢
    obtain ⟨⟨⟨⟨⟨⟨⟨⟨ha, hb⟩, hc⟩, hg⟩, hh⟩, hl⟩, hs⟩, ho⟩, hr⟩ := h
    obtain ⟨a1, a2, a3⟩ := named_loc (sz := sz) hn' ha
    obtain ⟨b1, b2, b3⟩ := need_loc (sz := sz) hn' hb
    obtain ⟨g1, g2, g3⟩ := need_loc (sz := sz) hn' hg
    obtain ⟨e1, e2, e3⟩ := need_loc (sz := sz) hn' hh
    obtain ⟨l1, l2⟩ := lab_loc (sz := sz) hn' hl
    have c2 := params_loc (sz := sz) hn' hL 6 _ [] (by rw [b3]; simp only; omega) hc g1
    rw [a2, b2, ← b3, c2, g2, ← g3, e2, ← e3, l2]
    generalize pLab (L.take n) sz' (pNeed (L.take n) sz' (pNeed (L.take n) sz' (pParams (L.take n) sz' 6 (pNeed (L.take n) sz' (pNamed (L.take n) sz' 1).i (bs1 40)).i []).i (bs1 41)).i (bs1 58)).i = r at *
    intro hx
    have hfin : ∀ k, k ≤ n → (pB (L.take n) sz' k).d = [] → rest (L.take n) sz' (pB (L.take n) sz' k).i = [] → rest L sz (pB L sz k).i ≠ [] := by
      intro k hk h7 h8
      have ef := pB_fuel (sz := sz') hM (50 * L.length + 100) k (by omega) (by omega)
      have hle := (pB_ok (sz := sz') hM (i := k) (by omega)).le
      have h9 := rest_no h8
      rw [ef] at h7
      have e5 := (stmt_loc (sz := sz) hn' hL (50 * L.length + 100)).1 0 k hk h7
      have e6 : pB L sz k = pB (L.take n) sz' k := by rw [ef]; exact e5
      rw [e6]
      exact rest_yes (by omega)
    by_cases hw : isT (L.take n) r.i kSends = true
    · have hwn := take_lt hn' hw
      have hw' : isT L r.i kSends = true := by rw [← take_is hwn]; exact hw
      simp only [if_pos hw, if_pos hw'] at hs ho hr hx
      have hob := blk_lt hn' ho
      have s2 := sends_loc (sz := sz) hn' hL 8 _ [] (by omega) hs hob
      rw [s2] at hx
      exact hfin _ (by omega) ho hr (List.append_eq_nil_iff.1 hx).2
    · simp only [if_neg hw] at hs ho hr hx
      have hob := blk_lt hn' ho
      rw [take_is hob] at hw
      simp only [if_neg hw] at hx
      exact hfin _ (by omega) ho hr (List.append_eq_nil_iff.1 hx).2
  · simp only [if_neg h1] at h
    by_cases h2 : isT (L.take n) 0 kChan = true
    · have h2n := take_lt hn' h2
      have h2' : isT L 0 kChan = true := by rw [← take_is h2n]; exact h2
      rw [take_is h2n] at h1
      simp only [if_pos h2, if_pos h2', if_neg h1, List.append_eq_nil_iff] at h ⊢
      obtain ⟨⟨⟨⟨ha, hb⟩, hl⟩, hg⟩, hr⟩ := h
      obtain ⟨a1, a2, a3⟩ := named_loc (sz := sz) hn' ha
      obtain ⟨b1, b2, b3⟩ := need_loc (sz := sz) hn' hb
      obtain ⟨g1, g2, g3⟩ := need_loc (sz := sz) hn' hg
      obtain ⟨l1, l2⟩ := lab_loc (sz := sz) hn' hl
      rw [a2, b2, ← b3, l2, g2, ← g3]
      intro hx
      have h9 := rest_no hr
      have h8 : (pNeed (L.take n) sz' (pLab (L.take n) sz' (pNeed (L.take n) sz' (pNamed (L.take n) sz' 1).i (bs1 58)).i).i (bs1 59)).i ≤ n := by rw [g3]; simp only; omega
      exact rest_yes (sz := sz) (by omega) (List.append_eq_nil_iff.1 hx).2
    · simp only [if_neg h2] at h
      cases h
end
end Go.Proofs.Ytjpmnholpeidmaa
namespace Go.Proofs.Ytjpmnholpeidmaa
theorem pre_size (s : ByteArray) (c : Nat) (hc : c ≤ s.size) : (s.extract 0 c).size = c := by rw [ext_size' s 0 c hc]; omega
theorem pre_byt (s : ByteArray) (c i : Nat) (hi : i < c) : byt (s.extract 0 c) i = byt s i := by rw [byt_ext s 0 c i (by omega), Nat.zero_add]
theorem sp_cut (p : Nat → Bool) (s : ByteArray) (c : Nat) (hc : c ≤ s.size) (i : Nat) (hi : i ≤ c) (h : spE p s i ≤ c) : spE p (s.extract 0 c) i = spE p s i := by
  have hz := pre_size s c hc
  generalize hn : c - i = n
  induction n generalizing i with
  | zero =>
    have : i = c := by omega
    subst this
    have := spE_ge p s i
    rw [spE_out p _ i (by omega)]
    omega
  | succ n ih =>
    have e := spE_eq p s i (by omega)
    rw [spE_eq p _ i (by omega), e, pre_byt s c i (by omega)]
    split
    · rename_i hp
      rw [if_pos hp] at e
      exact ih (i + 1) (by omega) (by omega) (by omega)
    · rfl
theorem sk_cut (s : ByteArray) (c : Nat) (hc : c ≤ s.size) (b : Bool) (i : Nat) (hi : i ≤ c) (h : skE s b i ≤ c) : skE (s.extract 0 c) b i = skE s b i := by
  have hz := pre_size s c hc
  generalize hn : c - i = n
  induction n generalizing i b with
  | zero =>
    have : i = c := by omega
    subst this
    have := skE_ge s b i
    rw [skE_out _ b i (by omega)]
    omega
  | succ n ih =>
    have e := skE_eq s b i (by omega)
    rw [skE_eq _ b i (by omega), e, pre_byt s c i (by omega)]
    split
    · rename_i hp
      rw [if_pos hp] at e
      exact ih true (i + 1) (by omega) (by omega) (by omega)
    · rename_i hp
      rw [if_neg hp] at e
      split
      · rename_i hq
        rw [if_pos hq] at e
        exact ih false (i + 1) (by omega) (by omega) (by omega)
      · rename_i hq
        rw [if_neg hq] at e
        split
        · rename_i hr
          rw [if_pos hr] at e
          exact ih true (i + 1) (by omega) (by omega) (by omega)
        · rfl
theorem tnd_cut (s : ByteArray) (c : Nat) (hc : c ≤ s.size) (i : Nat) (hi : i < c) (h : tnd s i ≤ c) : tnd (s.extract 0 c) i = tnd s i := by
  unfold tnd at h ⊢
  rw [pre_byt s c i hi]
  split
  · rename_i h1; rw [if_pos h1] at h; exact sp_cut wrd s c hc i (by omega) h
  · rename_i h1
    rw [if_neg h1] at h
    split
    · rename_i h2; rw [if_pos h2] at h; exact sp_cut dgt s c hc i (by omega) h
    · rfl
theorem ext_pre (s : ByteArray) (c a b : Nat) (hb : b ≤ c) (hc : c ≤ s.size) : (s.extract 0 c).extract a b = s.extract a b := by
  apply eq_of_byt
  · rw [ext_size' _ _ _ (by rw [pre_size s c hc]; exact hb), ext_size' _ _ _ (by omega)]
  · intro j hj
    rw [ext_size' _ _ _ (by rw [pre_size s c hc]; exact hb)] at hj
    rw [byt_ext (s.extract 0 c) a b j (by omega), pre_byt s c _ (by omega), byt_ext s a b j (by omega)]
theorem toks_cut (s : ByteArray) (n : Nat) : ∀ (i : Nat) (t : Tok), (toks s i)[n]? = some t → toks (s.extract 0 t.a) i = (toks s i).take n := by
  induction n with
  | zero =>
    intro i t h
    have h1 := tok_at s i 0 t h
    have h2 : t.a = i := by
      by_cases hi : i < s.size
      · rw [toks_eq s i hi] at h
        simp at h
        rw [← h]
        rfl
      · rw [toks_out s i (by omega)] at h; cases h
    rw [toks_out _ i (by rw [pre_size s t.a (by omega)]; omega)]
    rfl
  | succ n ih =>
    intro i t h
    have h1 := tok_at s i (n + 1) t h
    by_cases hi : i < s.size
    · have e := toks_eq s i hi
      rw [e] at h
      simp only [List.getElem?_cons_succ] at h
      have h2 := tok_at s _ n t h
      have g1 := tnd_gt s i hi
      have g2 := skE_ge s false (tnd s i)
      have hc : t.a ≤ s.size := by omega
      have hz := pre_size s t.a hc
      have e2 := tnd_cut s t.a hc i (by omega) (by omega)
      have e3 := sk_cut s t.a hc false (tnd s i) (by omega) (by omega)
      rw [e, toks_eq _ i (by omega), List.take_succ_cons, e2, e3, ih _ t h]
      congr 1
      unfold tok
      rw [pre_byt s t.a i (by omega), e2, ext_pre s t.a _ _ (by omega) hc]
    · rw [toks_out s i (by omega)] at h; cases h
/-- The tokens of what stands ahead of a token are those ahead of it. -/
theorem tks_cut (s : ByteArray) (n : Nat) (t : Tok) (h : (tks s)[n]? = some t) : tks (s.extract 0 t.a) = (tks s).take n := by
  have h1 := tok_at s _ n t h
  have hc : t.a ≤ s.size := by omega
  unfold tks
  rw [sk_cut s t.a hc false 0 (by omega) (by omega)]
  exact toks_cut s n _ t h
theorem tok_okT (s : ByteArray) (i : Nat) (h : i < s.size) : okT (tok s i) := by
  have h1 := tnd_gt s i h
  have h2 := tnd_le s i h
  refine ⟨?_, ?_⟩
  · show 0 < (s.extract i (tnd s i)).size
    rw [ext_size' s _ _ h2]; omega
  · show tkd (byt s i) = tkd (byt (s.extract i (tnd s i)) 0)
    rw [byt_ext s _ _ _ (by omega), Nat.add_zero]
theorem tks_mem (s : ByteArray) (t : Tok) (h : t ∈ tks s) : t.a < s.size ∧ t = tok s t.a := by
  obtain ⟨k, hk, e⟩ := List.getElem_of_mem h
  have := tok_at s (skE s false 0) k t (by rw [← e]; exact List.getElem?_eq_getElem hk)
  exact this.2
theorem tks_okT (s : ByteArray) : ∀ t ∈ tks s, okT t := by
  intro t h
  have := tks_mem s t h
  rw [this.2]
  exact tok_okT s _ this.1
theorem tok_end (s : ByteArray) (i : Nat) (h : i < s.size) : (tok s i).a + (tok s i).x.size = tnd s i ∧ tnd s i ≤ s.size := by
  have h1 := tnd_gt s i h
  have h2 := tnd_le s i h
  refine ⟨?_, h2⟩
  show i + (s.extract i (tnd s i)).size = tnd s i
  rw [ext_size' s _ _ h2]; omega
theorem tks_in (s : ByteArray) (t : Tok) (h : t ∈ tks s) : t.a + t.x.size ≤ s.size := by
  have := tks_mem s t h
  rw [this.2]
  have := tok_end s t.a this.1
  omega
/-- What is wrong with an item stands in it. -/
theorem itm_in (s : ByteArray) : ∀ d ∈ (itm s).ds, d.f ≤ d.t ∧ d.t ≤ s.size := by
  intro d hd
  obtain ⟨i, e, rfl⟩ := (item_ok (sz := s.size) (tks_okT s)).1 d hd
  unfold bad
  refine ⟨Nat.le_add_right _ _, ?_⟩
  rcases Nat.lt_or_ge i (tks s).length with h | h
  · exact tks_in s _ (List.mem_of_getElem? (tk_some h))
  · simp only
    rw [tk_none h]
    exact Nat.le_refl _
/-- Where nothing is wrong no byte is no token. -/
theorem itm_good (s : ByteArray) (h : (itm s).ds = []) : ∀ t ∈ tks s, t.k ≠ 4 := by
  intro t ht
  obtain ⟨k, hk, e⟩ := List.getElem_of_mem ht
  exact (item_ok (sz := s.size) (tks_okT s)).2 h k hk t (by rw [← e]; exact List.getElem?_eq_getElem hk)
/-- What ends too soon has something wrong. -/
theorem itm_short (s : ByteArray) (n : Nat) (t : Tok) (h : (itm s).ds = []) (ht : (tks s)[n]? = some t) : (itm (s.extract 0 t.a)).ds ≠ [] := by
  intro h2
  unfold itm at h h2
  rw [tks_cut s n t ht] at h2
  exact item_cut (sz := s.size) (List.getElem?_eq_some_iff.1 ht).1 (tks_okT s) h2 h
end Go.Proofs.Ytjpmnholpeidmaa
namespace Go.Proofs.Ytjpmnholpeidmaa
theorem toks_pair (s : ByteArray) (n : Nat) : ∀ i, s.size - i ≤ n → (toks s i).Pairwise (fun t u => t.a < u.a) := by
  induction n with
  | zero => intro i h; rw [toks_out s i (by omega)]; exact List.Pairwise.nil
  | succ n ih =>
    intro i h
    rcases Nat.lt_or_ge i s.size with h1 | h1
    · have g1 := tnd_gt s i h1
      have g2 := skE_ge s false (tnd s i)
      rw [toks_eq s i h1]
      refine List.Pairwise.cons (fun u hu => ?_) (ih _ (by omega))
      obtain ⟨k, hk⟩ := List.mem_iff_getElem?.1 hu
      have := (tok_at s _ k u hk).1
      show i < u.a
      omega
    · rw [toks_out s i h1]; exact List.Pairwise.nil
theorem tks_pair (s : ByteArray) : (tks s).Pairwise (fun t u => t.a < u.a) := toks_pair s s.size _ (by omega)
theorem cutK_mem (s : ByteArray) (l : List Tok) (k : Nat) : ∀ c ∈ cutK s l k, ∃ j t, j < k ∧ l[j]? = some t ∧ c = t.a ∧ cutB s j t = true := by
  induction k with
  | zero => intro c h; exact absurd h (List.not_mem_nil)
  | succ k ih =>
    intro c h
    unfold cutK at h
    rcases List.mem_append.1 h with h | h
    · obtain ⟨j, t, h1, h2, h3, h4⟩ := ih c h
      exact ⟨j, t, by omega, h2, h3, h4⟩
    · split at h
      · rename_i t ht
        split at h
        · rename_i hc
          rw [List.mem_singleton] at h
          exact ⟨k, t, by omega, ht, h, hc⟩
        · exact absurd h (List.not_mem_nil)
      · exact absurd h (List.not_mem_nil)
theorem pair_get {l : List Tok} (h : l.Pairwise (fun t u => t.a < u.a)) {i j : Nat} {t u : Tok} (hi : l[i]? = some t) (hj : l[j]? = some u) (hij : i < j) : t.a < u.a := by
  obtain ⟨h1, rfl⟩ := List.getElem?_eq_some_iff.1 hi
  obtain ⟨h2, rfl⟩ := List.getElem?_eq_some_iff.1 hj
  exact List.pairwise_iff_getElem.1 h i j h1 h2 hij
theorem cutK_pair (s : ByteArray) (l : List Tok) (hl : l.Pairwise (fun t u => t.a < u.a)) (k : Nat) : (cutK s l k).Pairwise (· < ·) := by
  induction k with
  | zero => exact List.Pairwise.nil
  | succ k ih =>
    unfold cutK
    refine List.pairwise_append.2 ⟨ih, ?_, fun a ha b hb => ?_⟩
    · split
      · split
        · exact List.pairwise_singleton _ _
        · exact List.Pairwise.nil
      · exact List.Pairwise.nil
    · obtain ⟨j, t, h1, h2, h3, _⟩ := cutK_mem s l k a ha
      split at hb
      · rename_i u hu
        split at hb
        · rw [List.mem_singleton] at hb
          rw [h3, hb]
          exact pair_get hl h2 hu h1
        · exact absurd hb (List.not_mem_nil)
      · exact absurd hb (List.not_mem_nil)
theorem cts_pair (s : ByteArray) : (cts s).Pairwise (· < ·) := cutK_pair s _ (tks_pair s) _
theorem cts_lt (s : ByteArray) : ∀ c ∈ cts s, c < s.size := by
  intro c h
  obtain ⟨j, t, _, h2, h3, _⟩ := cutK_mem s _ _ c h
  rw [h3]
  exact (tok_at s _ j t h2).2.1
theorem cutK_zero (s : ByteArray) (l : List Tok) (t : Tok) (h : l[0]? = some t) (k : Nat) : t.a ∈ cutK s l (k + 1) := by
  induction k with
  | zero => unfold cutK; rw [h]; simp [cutB]
  | succ k ih => unfold cutK; exact List.mem_append_left _ ih
theorem cts_nil (s : ByteArray) (h : cts s = []) : tks s = [] := by
  cases hl : tks s with
  | nil => rfl
  | cons t r =>
    have := cutK_zero s (tks s) t (by rw [hl]; rfl) r.length
    unfold cts at h
    rw [hl, List.length_cons] at h
    rw [hl, h] at this
    exact absurd this (List.not_mem_nil)
theorem nil_cts (s : ByteArray) (h : tks s = []) : cts s = [] := by unfold cts; rw [h]; rfl
theorem cts_le (s : ByteArray) : (cts s).length ≤ s.size := Nat.le_trans (cutK_len s _ _) (tks_len s)
/-- The i-th cut; behind the last one the end. -/
def cn (s : ByteArray) (i : Nat) : Nat := ((cts s)[i]?).getD s.size
theorem cn_get (s : ByteArray) (i : Nat) (h : i < (cts s).length) : (cts s)[i]? = some (cn s i) := by unfold cn; rw [List.getElem?_eq_getElem h]; rfl
theorem cn_end (s : ByteArray) (i : Nat) (h : (cts s).length ≤ i) : cn s i = s.size := by unfold cn; rw [List.getElem?_eq_none h]; rfl
theorem cn_le (s : ByteArray) (i : Nat) : cn s i ≤ s.size := by
  rcases Nat.lt_or_ge i (cts s).length with h | h
  · exact Nat.le_of_lt (cts_lt s _ (List.mem_of_getElem? (cn_get s i h)))
  · rw [cn_end s i h]; exact Nat.le_refl _
theorem cn_lt (s : ByteArray) (i : Nat) (h : i < (cts s).length) : cn s i < cn s (i + 1) := by
  have h1 := cn_get s i h
  rcases Nat.lt_or_ge (i + 1) (cts s).length with h2 | h2
  · have h3 := cn_get s (i + 1) h2
    obtain ⟨a1, a2⟩ := List.getElem?_eq_some_iff.1 h1
    obtain ⟨b1, b2⟩ := List.getElem?_eq_some_iff.1 h3
    rw [← a2, ← b2]
    exact List.pairwise_iff_getElem.1 (cts_pair s) i (i + 1) a1 b1 (by omega)
  · rw [cn_end s (i + 1) h2]
    exact cts_lt s _ (List.mem_of_getElem? h1)
/-- Item i of a text. -/
def itI (s : ByteArray) (i : Nat) : It := itm (s.extract (cn s i) (cn s (i + 1)))
/-- A text's file. -/
def fil (s : ByteArray) : List (Int × It) := (List.range (cts s).length).map fun i => ((cn s i : Int), itI s i)
theorem fil_len (s : ByteArray) : (fil s).length = (cts s).length := by simp [fil]
theorem fil_get (s : ByteArray) (i : Nat) (h : i < (cts s).length) : (fil s)[i]? = some ((cn s i : Int), itI s i) := by simp [fil, h]
theorem it_sz (L : List Tok) (sz : Nat) : (pIt L sz).sz = sz := by unfold pIt; split <;> (try split) <;> rfl
theorem itI_sz (s : ByteArray) (i : Nat) : (itI s i).sz = cn s (i + 1) - cn s i ∧ (s.extract (cn s i) (cn s (i + 1))).size = cn s (i + 1) - cn s i := by
  have e := ext_size' s (cn s i) (cn s (i + 1)) (cn_le s (i + 1))
  refine ⟨?_, e⟩
  unfold itI itm
  rw [it_sz]
  exact e
end Go.Proofs.Ytjpmnholpeidmaa
namespace Go.Proofs.Ytjpmnholpeidmaa
theorem spE_all (p : Nat → Bool) (s : ByteArray) (n : Nat) : ∀ i j, s.size - i = n → i ≤ j → j < spE p s i → p (byt s j) = true := by
  induction n with
  | zero =>
    intro i j hn h1 h2
    rw [spE_out p s i (by omega)] at h2
    omega
  | succ n ih =>
    intro i j hn h1 h2
    cases hp : p (byt s i)
    · rw [spE_stop p s i (by omega) hp] at h2
      omega
    · rw [spE_go p s i (by omega) hp] at h2
      rcases Nat.eq_or_lt_of_le h1 with e | e
      · rw [← e]; exact hp
      · exact ih (i + 1) j (by omega) e h2
theorem tok_digits (s : ByteArray) (i : Nat) (h : i < s.size) (hk : (tok s i).k = 2) : ∀ j, j < (tok s i).x.size → dgt (byt (tok s i).x j) = true := by
  intro j hj
  have hk : tkd (byt s i) = 2 := hk
  have h1 : ltr (byt s i) = false := by
    cases hl : ltr (byt s i)
    · rfl
    · unfold tkd at hk; rw [if_pos hl] at hk; cases hk
  have h2 : dgt (byt s i) = true := by
    cases hd : dgt (byt s i)
    · unfold tkd at hk
      rw [if_neg (by rw [h1]; decide), if_neg (by rw [hd]; decide)] at hk
      split at hk <;> cases hk
    · rfl
  have ht : tnd s i = spE dgt s i := by unfold tnd; rw [if_neg (by rw [h1]; decide), if_pos h2]
  have hz : (tok s i).x.size = tnd s i - i := ext_size' s _ _ (tnd_le s i h)
  show dgt (byt (s.extract i (tnd s i)) j) = true
  rw [byt_ext s _ _ _ (by omega)]
  exact spE_all dgt s _ i (i + j) rfl (by omega) (by omega)
theorem tok_comma (s : ByteArray) (i : Nat) (h : i < s.size) (h1 : 1 < (tok s i).x.size) : byt (tok s i).x 1 ≠ 44 := by
  have hz : (tok s i).x.size = tnd s i - i := ext_size' s _ _ (tnd_le s i h)
  show byt (s.extract i (tnd s i)) 1 ≠ 44
  rw [byt_ext s _ _ _ (by omega)]
  intro e
  unfold tnd at hz
  split at hz
  · have := spE_all wrd s _ i (i + 1) rfl (by omega) (by omega)
    rw [e] at this
    exact absurd this (by decide)
  · split at hz
    · have := spE_all dgt s _ i (i + 1) rfl (by omega) (by omega)
      rw [e] at this
      exact absurd this (by decide)
    · omega
/-- What the reader wants to know of a text's tokens. -/
theorem tks_facts (s : ByteArray) : ∀ t ∈ tks s, t.a + t.x.size ≤ s.size ∧ okT t ∧ (t.k = 2 → ∀ j, j < t.x.size → dgt (byt t.x j) = true) ∧ (1 < t.x.size → byt t.x 1 ≠ 44) := by
  intro t ht
  have hm := tks_mem s t ht
  refine ⟨tks_in s t ht, tks_okT s t ht, ?_, ?_⟩
  · rw [hm.2]; exact tok_digits s _ hm.1
  · rw [hm.2]; exact tok_comma s _ hm.1
end Go.Proofs.Ytjpmnholpeidmaa

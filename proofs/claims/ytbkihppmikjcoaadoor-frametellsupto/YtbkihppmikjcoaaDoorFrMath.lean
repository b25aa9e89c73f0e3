/- Questions as bytes, by plain functions: numbers, what is read, what is written, and that these turn each other back. -/
import Derived.Lib.AtoiAllCases
import Derived.Lib.ItoaLen
import Derived.Lib.Bytealg
namespace Go.Proofs.YtbkihppmikjcoaaDoor
open Go.Lib
set_option linter.unusedVariables false
def I64 (n : Int) : Prop := -9223372036854775808 ≤ n ∧ n ≤ 9223372036854775807
/-! Numerals. -/
theorem pu_app (l r : List UInt8) : ∀ a, parseUint10 a (l ++ r) = match parseUint10 a l with | .ok v => parseUint10 v r | .syntax => .syntax | .range => .range := by
  induction l with
  | nil => intro a; rfl
  | cons c l ih =>
    intro a
    have e : ∀ (m : List UInt8), parseUint10 a (c :: m) = if 48 ≤ c.toNat ∧ c.toNat ≤ 57 then if 1844674407370955162 ≤ a then .range else if 18446744073709551616 ≤ a * 10 + (c.toNat - 48) then .range else parseUint10 (a * 10 + (c.toNat - 48)) m else .syntax := fun m => rfl
    rw [List.cons_append, e, e]
    split
    · split
      · rfl
      · split
        · rfl
        · exact ih _
    · rfl
theorem pu_dec (u : Nat) (h : u < 18446744073709551616) : parseUint10 0 (decDigits u) = .ok u := by
  induction u using Nat.strongRecOn with
  | ind u ih =>
    rw [decDigits]
    split
    · next h1 =>
      have e : (UInt8.ofNat (48 + u)).toNat = 48 + u := by rw [UInt8.toNat_ofNat']; omega
      unfold parseUint10
      rw [e, if_pos (by omega), if_neg (by omega), if_neg (by omega)]
      unfold parseUint10
      congr 1; omega
    · next h1 =>
      have e : (UInt8.ofNat (48 + u % 10)).toNat = 48 + u % 10 := by rw [UInt8.toNat_ofNat']; omega
      rw [pu_app, ih (u / 10) (by omega) (by omega)]
      simp only
      unfold parseUint10
      rw [e, if_pos (by omega), if_neg (by omega), if_neg (by omega)]
      unfold parseUint10
      congr 1; omega
theorem dec_digit (u : Nat) : ∀ c ∈ decDigits u, 48 ≤ c.toNat ∧ c.toNat ≤ 57 := by
  induction u using Nat.strongRecOn with
  | ind u ih =>
    rw [decDigits]
    split
    · next h1 =>
      intro c hc
      have e : (UInt8.ofNat (48 + u)).toNat = 48 + u := by rw [UInt8.toNat_ofNat']; omega
      rw [List.mem_singleton.1 hc, e]; omega
    · next h1 =>
      have e : (UInt8.ofNat (48 + u % 10)).toNat = 48 + u % 10 := by rw [UInt8.toNat_ofNat']; omega
      intro c hc
      rcases List.mem_append.1 hc with hc | hc
      · exact ih _ (by omega) c hc
      · rw [List.mem_singleton.1 hc, e]; omega
theorem nd_le : ∀ (k u : Nat), u < 10 ^ (k + 1) → nDigits u ≤ k + 1
  | 0, u, h => by rw [nDigits_small (by simpa using h)]; exact Nat.le_refl _
  | k + 1, u, h => by
    by_cases h1 : u < 10
    · rw [nDigits_small h1]; omega
    · rw [nDigits_big h1]
      have := nd_le k (u / 10) (by rw [Nat.pow_succ] at h; omega)
      omega
theorem itoa_len (n : Int) (h : I64 n) : (itoa n).length ≤ 20 := by
  obtain ⟨h0, h1⟩ := h
  unfold itoa
  split
  · rw [List.length_cons, decDigits_length]
    have := nd_le 18 n.natAbs (by omega)
    omega
  · rw [decDigits_length]
    have := nd_le 18 n.toNat (by omega)
    omega
theorem itoa_sign (n : Int) : ∀ c ∈ itoa n, c.toNat = 45 ∨ (48 ≤ c.toNat ∧ c.toNat ≤ 57) := by
  unfold itoa
  split
  · intro c hc
    rcases List.mem_cons.1 hc with rfl | hc
    · exact .inl rfl
    · exact .inr (dec_digit _ c hc)
  · intro c hc
    exact .inr (dec_digit _ c hc)
theorem dec_ne (u : Nat) : decDigits u ≠ [] := by
  intro h
  have := decDigits_length u
  have h2 := nDigits_pos u
  rw [h] at this
  simp at this
  omega
theorem atoi_itoa (n : Int) (h : I64 n) : atoiAll (itoa n) = .ok n := by
  obtain ⟨h0, h1⟩ := h
  unfold itoa
  split
  · next hn =>
    rw [atoiAll_minus]
    unfold parseMag
    rw [if_neg (dec_ne _), pu_dec _ (by omega)]
    unfold signed
    simp only
    rw [if_neg (by omega)]
    congr 1; omega
  · next hn =>
    have hp := pu_dec n.toNat (by omega)
    have hd := dec_digit n.toNat
    have hne := dec_ne n.toNat
    revert hp hd hne
    generalize decDigits n.toNat = l
    intro hp hd hne
    cases l with
    | nil => exact absurd rfl hne
    | cons c r =>
      have := hd c (List.mem_cons_self ..)
      rw [atoiAll_plain c r (by omega) (by omega)]
      unfold parseMag
      rw [if_neg hne, hp]
      unfold signless
      simp only
      rw [if_neg (by omega)]
      congr 1; omega
/-! What is read. -/
/-- Up to the first such byte, and what is behind it. -/
def cutAt (e : UInt8) : List UInt8 → Option (List UInt8 × List UInt8)
  | [] => none
  | c :: r => if c = e then some ([], r) else match cutAt e r with | none => none | some (s, t) => some (c :: s, t)
theorem cut_none {e : UInt8} : ∀ {b : List UInt8}, cutAt e b = none → indexByte b e = -1 := by
  intro b
  induction b with
  | nil => intro _; rfl
  | cons c r ih =>
    unfold cutAt
    split
    · intro h; cases h
    · next hc =>
      split
      · next h1 =>
        intro _
        unfold indexByte
        rw [ih h1]
        simp [hc]
      · intro h; cases h
theorem cut_some {e : UInt8} : ∀ {b s t : List UInt8}, cutAt e b = some (s, t) → indexByte b e = s.length ∧ b = s ++ e :: t ∧ e ∉ s := by
  intro b
  induction b with
  | nil => intro s t h; cases h
  | cons c r ih =>
    intro s t
    unfold cutAt
    split
    · next hc =>
      intro h
      simp only [Option.some.injEq, Prod.mk.injEq] at h
      obtain ⟨rfl, rfl⟩ := h
      subst hc
      unfold indexByte
      simp
    · next hc =>
      split
      · intro h; cases h
      · next s2 t2 h1 =>
        intro h
        simp only [Option.some.injEq, Prod.mk.injEq] at h
        obtain ⟨rfl, rfl⟩ := h
        obtain ⟨h2, h3, h4⟩ := ih h1
        unfold indexByte
        rw [h2, h3]
        refine ⟨?_, rfl, ?_⟩
        · have e1 : (c == e) = false := by simpa using hc
          have e2 : (((s2.length : Nat) : Int) == -1) = false := by
            rw [beq_eq_false_iff_ne]; omega
          rw [e1, e2]
          simp
        · intro hm
          rcases List.mem_cons.1 hm with rfl | hm
          · exact hc rfl
          · exact h4 hm
theorem cut_app {e : UInt8} : ∀ {s t : List UInt8}, e ∉ s → cutAt e (s ++ e :: t) = some (s, t) := by
  intro s t h
  induction s with
  | nil => show (if e = e then _ else _) = _; rw [if_pos rfl]
  | cons c s ih =>
    have hc : c ≠ e := fun hc => h (hc ▸ List.mem_cons_self ..)
    show (if c = e then _ else _) = _
    rw [if_neg hc, show (s.append (e :: t)) = s ++ e :: t from rfl, ih (fun hm => h (List.mem_cons_of_mem _ hm))]
/-- A number up to a byte, and what is behind it. -/
def rn (e : UInt8) (b : List UInt8) : Option (Int × List UInt8) :=
  match cutAt e b with
  | none => none
  | some (s, t) => match atoiAll s with
    | .ok n => if itoa n = s then some (n, t) else none
    | _ => none
theorem rn_some {e : UInt8} {b t : List UInt8} {n : Int} (h : rn e b = some (n, t)) : b = itoa n ++ e :: t ∧ I64 n := by
  unfold rn at h
  split at h
  · cases h
  · next s t2 hc =>
    split at h
    · next m hm =>
      split at h
      · next hs =>
        simp only [Option.some.injEq, Prod.mk.injEq] at h
        obtain ⟨rfl, rfl⟩ := h
        refine ⟨?_, atoiAll_bounds hm⟩
        rw [hs]
        exact (cut_some hc).2.1
      · cases h
    · cases h
theorem rn_mk {e : UInt8} {t : List UInt8} {n : Int} (h : I64 n) (he : e = 32 ∨ e = 10) : rn e (itoa n ++ e :: t) = some (n, t) := by
  unfold rn
  rw [cut_app (fun hm => by have := itoa_sign n e hm; rcases he with rfl | rfl <;> revert this <;> decide)]
  simp only
  rw [atoi_itoa n h]
  simp only
  rw [if_pos trivial]
theorem rn_app {e : UInt8} {b t : List UInt8} {n : Int} (c : List UInt8) (he : e = 32 ∨ e = 10) (h : rn e b = some (n, t)) : rn e (b ++ c) = some (n, t ++ c) := by
  obtain ⟨h1, h2⟩ := rn_some h
  subst h1
  rw [List.append_assoc]
  exact rn_mk h2 he
theorem rn_len {e : UInt8} {b t : List UInt8} {n : Int} (h : rn e b = some (n, t)) : t.length + 1 ≤ b.length := by
  obtain ⟨h1, h2⟩ := rn_some h
  rw [h1, List.length_append, List.length_cons]
  omega
/-- Numbers with a blank between, and a line feed behind. -/
def rl : Nat → List UInt8 → Option (List Int × List UInt8)
  | 0, b => some ([], b)
  | k + 1, b => match rn (if k = 0 then 10 else 32) b with
    | none => none
    | some (n, t) => match rl k t with
      | none => none
      | some (l, u) => some (n :: l, u)
/-- Numbers, each on a line of its own. -/
def ra : Nat → List UInt8 → Option (List Int × List UInt8)
  | 0, b => some ([], b)
  | k + 1, b => match rn 10 b with
    | none => none
    | some (n, t) => match ra k t with
      | none => none
      | some (l, u) => some (n :: l, u)
/-- Numbers as they are written. -/
def wl : List Int → List UInt8
  | [] => []
  | n :: l => itoa n ++ (if l = [] then 10 else 32) :: wl l
def wa : List Int → List UInt8
  | [] => []
  | n :: l => itoa n ++ 10 :: wa l
theorem sep_or (k : Nat) : (if k = 0 then (10 : UInt8) else 32) = 32 ∨ (if k = 0 then (10 : UInt8) else 32) = 10 := by
  split
  · exact .inr rfl
  · exact .inl rfl
theorem rl_some : ∀ {k : Nat} {b u : List UInt8} {l : List Int}, rl k b = some (l, u) → b = wl l ++ u ∧ l.length = k ∧ ∀ n ∈ l, I64 n := by
  intro k
  induction k with
  | zero =>
    intro b u l h
    simp only [rl, Option.some.injEq, Prod.mk.injEq] at h
    obtain ⟨rfl, rfl⟩ := h
    exact ⟨rfl, rfl, fun n hn => by cases hn⟩
  | succ k ih =>
    intro b u l h
    unfold rl at h
    split at h
    · cases h
    · next n t hn =>
      split at h
      · cases h
      · next l2 u2 hl =>
        simp only [Option.some.injEq, Prod.mk.injEq] at h
        obtain ⟨rfl, rfl⟩ := h
        obtain ⟨h1, h2⟩ := rn_some hn
        obtain ⟨h3, h4, h5⟩ := ih hl
        refine ⟨?_, by rw [List.length_cons, h4], fun m hm => ?_⟩
        · have : (l2 = []) ↔ (k = 0) := by rw [← h4]; exact List.length_eq_zero_iff.symm
          rw [h1, h3]
          show _ = itoa n ++ (if l2 = [] then 10 else 32) :: wl l2 ++ u2
          by_cases hk : k = 0
          · rw [if_pos hk, if_pos (this.2 hk)]; simp
          · rw [if_neg hk, if_neg (fun h => hk (this.1 h))]; simp
        · rcases List.mem_cons.1 hm with rfl | hm
          · exact h2
          · exact h5 m hm
theorem rl_mk : ∀ {l : List Int} {u : List UInt8}, (∀ n ∈ l, I64 n) → rl l.length (wl l ++ u) = some (l, u) := by
  intro l u h
  induction l with
  | nil => rfl
  | cons n l ih =>
    rw [List.length_cons]
    unfold rl wl
    have e : (if l = [] then (10 : UInt8) else 32) = if l.length = 0 then 10 else 32 := by
      by_cases hl : l = []
      · rw [if_pos hl, if_pos (List.length_eq_zero_iff.2 hl)]
      · rw [if_neg hl, if_neg (fun h => hl (List.length_eq_zero_iff.1 h))]
    rw [e, List.append_assoc, List.cons_append, rn_mk (h n (List.mem_cons_self ..)) (sep_or _)]
    simp only
    rw [ih (fun m hm => h m (List.mem_cons_of_mem _ hm))]
theorem ra_some : ∀ {k : Nat} {b u : List UInt8} {l : List Int}, ra k b = some (l, u) → b = wa l ++ u ∧ l.length = k ∧ ∀ n ∈ l, I64 n := by
  intro k
  induction k with
  | zero =>
    intro b u l h
    simp only [ra, Option.some.injEq, Prod.mk.injEq] at h
    obtain ⟨rfl, rfl⟩ := h
    exact ⟨rfl, rfl, fun n hn => by cases hn⟩
  | succ k ih =>
    intro b u l h
    unfold ra at h
    split at h
    · cases h
    · next n t hn =>
      split at h
      · cases h
      · next l2 u2 hl =>
        simp only [Option.some.injEq, Prod.mk.injEq] at h
        obtain ⟨rfl, rfl⟩ := h
        obtain ⟨h1, h2⟩ := rn_some hn
        obtain ⟨h3, h4, h5⟩ := ih hl
        refine ⟨?_, by rw [List.length_cons, h4], fun m hm => ?_⟩
        · rw [h1, h3]
          show _ = itoa n ++ 10 :: wa l2 ++ u2
          simp
        · rcases List.mem_cons.1 hm with rfl | hm
          · exact h2
          · exact h5 m hm
theorem ra_mk : ∀ {l : List Int} {u : List UInt8}, (∀ n ∈ l, I64 n) → ra l.length (wa l ++ u) = some (l, u) := by
  intro l u h
  induction l with
  | nil => rfl
  | cons n l ih =>
    rw [List.length_cons]
    unfold ra wa
    rw [List.append_assoc, List.cons_append, rn_mk (h n (List.mem_cons_self ..)) (.inr rfl)]
    simp only
    rw [ih (fun m hm => h m (List.mem_cons_of_mem _ hm))]
/-! Questions. -/
structure Ak where
  id : Int
  kind : Int
  fr : Int
  to : Int
  text : List UInt8
  args : List Int
def Ak.ok (a : Ak) : Prop := I64 a.id ∧ I64 a.kind ∧ I64 a.fr ∧ I64 a.to ∧ ∀ n ∈ a.args, I64 n
/-- What is wrong with one. -/
def akW (a : Ak) : Int := if a.kind < 1 ∨ 9 < a.kind then 1 else if 5 < a.args.length then 5 else if 4000 < a.text.length then 4 else 0
theorem akW_zero {a : Ak} (h : akW a = 0) : a.args.length ≤ 5 ∧ a.text.length ≤ 4000 := by
  unfold akW at h
  split at h
  · omega
  · split at h
    · omega
    · split at h
      · omega
      · omega
def akH (a : Ak) : List Int := [a.id, a.kind, a.fr, a.to, (a.args.length : Int), (a.text.length : Int)]
/-- One as bytes. -/
def akB (a : Ak) : List UInt8 := wl (akH a) ++ wa a.args ++ a.text
/-- Args and Text, behind the numbers ahead of them. -/
def akT (i k f t m s : Int) (b : List UInt8) : Option (Ak × List UInt8) :=
  if m < 0 ∨ s < 0 then none else
  match ra (min m.toNat 6) b with
  | none => none
  | some (l, u) => if (u.length : Int) < s then none else some (⟨i, k, f, t, u.take s.toNat, l⟩, u.drop s.toNat)
/-- One that is read. -/
def akR (b : List UInt8) : Option (Ak × List UInt8) :=
  match rl 6 b with
  | some ([i, k, f, t, m, s], u) => akT i k f t m s u
  | _ => none
theorem akR_len {b t : List UInt8} {a : Ak} (h : akR b = some (a, t)) : t.length < b.length := by
  unfold akR at h
  split at h
  · next i k f t2 m s u hl =>
    obtain ⟨h1, h2, h3⟩ := rl_some hl
    unfold akT at h
    split at h
    · cases h
    · split at h
      · cases h
      · next l u2 hr =>
        split at h
        · cases h
        · obtain ⟨h4, h5, h6⟩ := ra_some hr
          simp only [Option.some.injEq, Prod.mk.injEq] at h
          obtain ⟨_, rfl⟩ := h
          have e1 : b.length = (wl [i, k, f, t2, m, s]).length + u.length := by rw [h1, List.length_append]
          have e2 : u.length = (wa l).length + u2.length := by rw [h4, List.length_append]
          have e3 : 1 ≤ (wl [i, k, f, t2, m, s]).length := by unfold wl; rw [List.length_append, List.length_cons]; omega
          rw [List.length_drop]
          omega
  · cases h
theorem akR_ok {b t : List UInt8} {a : Ak} (h : akR b = some (a, t)) : a.ok := by
  unfold akR at h
  split at h
  · next i k f t2 m s u hl =>
    obtain ⟨h1, h2, h3⟩ := rl_some hl
    unfold akT at h
    split at h
    · cases h
    · split at h
      · cases h
      · next l u2 hr =>
        split at h
        · cases h
        · obtain ⟨h4, h5, h6⟩ := ra_some hr
          simp only [Option.some.injEq, Prod.mk.injEq] at h
          obtain ⟨rfl, _⟩ := h
          exact ⟨h3 i (by simp), h3 k (by simp), h3 f (by simp), h3 t2 (by simp), h6⟩
  · cases h
theorem akR_app {b t : List UInt8} {a : Ak} (c : List UInt8) (h : akR b = some (a, t)) : akR (b ++ c) = some (a, t ++ c) := by
  unfold akR at h
  split at h
  · next i k f t2 m s u hl =>
    obtain ⟨h1, h2, h3⟩ := rl_some hl
    unfold akT at h
    split at h
    · cases h
    · next hms =>
      split at h
      · cases h
      · next l u2 hr =>
        split at h
        · cases h
        · next hlt =>
          obtain ⟨h4, h5, h6⟩ := ra_some hr
          simp only [Option.some.injEq, Prod.mk.injEq] at h
          obtain ⟨rfl, rfl⟩ := h
          have e1 : rl 6 (b ++ c) = some ([i, k, f, t2, m, s], u ++ c) := by
            rw [h1, List.append_assoc]
            exact rl_mk (l := [i, k, f, t2, m, s]) h3
          have e2 : ra (min m.toNat 6) (u ++ c) = some (l, u2 ++ c) := by
            rw [h4, List.append_assoc, ← h5]
            exact ra_mk h6
          unfold akR
          rw [e1]
          simp only
          unfold akT
          rw [if_neg hms, e2]
          simp only
          rw [if_neg (by rw [List.length_append]; omega), List.take_append_of_le_length (by omega), List.drop_append_of_le_length (by omega)]
  · cases h
theorem akR_bytes {b t : List UInt8} {a : Ak} (h : akR b = some (a, t)) (hw : akW a = 0) : b = akB a ++ t := by
  obtain ⟨hw1, hw2⟩ := akW_zero hw
  unfold akR at h
  split at h
  · next i k f t2 m s u hl =>
    obtain ⟨h1, h2, h3⟩ := rl_some hl
    unfold akT at h
    split at h
    · cases h
    · next hms =>
      split at h
      · cases h
      · next l u2 hr =>
        split at h
        · cases h
        · next hlt =>
          obtain ⟨h4, h5, h6⟩ := ra_some hr
          simp only [Option.some.injEq, Prod.mk.injEq] at h
          obtain ⟨rfl, rfl⟩ := h
          simp only at hw1 hw2
          have em : m = (l.length : Int) := by omega
          have es : s = ((u2.take s.toNat).length : Int) := by rw [List.length_take]; omega
          unfold akB akH
          simp only
          rw [← em, ← es, h1, h4, List.append_assoc, List.append_assoc, List.take_append_drop]
  · cases h
theorem akR_mk {a : Ak} (t : List UInt8) (ho : a.ok) (hw : akW a = 0) : akR (akB a ++ t) = some (a, t) := by
  obtain ⟨hw1, hw2⟩ := akW_zero hw
  obtain ⟨o1, o2, o3, o4, o5⟩ := ho
  have hH : ∀ n ∈ akH a, I64 n := by
    intro n hn
    unfold akH at hn
    simp only [List.mem_cons, List.not_mem_nil, or_false] at hn
    rcases hn with rfl | rfl | rfl | rfl | rfl | rfl
    · exact o1
    · exact o2
    · exact o3
    · exact o4
    · constructor <;> omega
    · constructor <;> omega
  have e1 : rl 6 (akB a ++ t) = some (akH a, wa a.args ++ (a.text ++ t)) := by
    unfold akB
    rw [List.append_assoc, List.append_assoc]
    exact rl_mk (l := akH a) hH
  have e2 : ra (min ((a.args.length : Int)).toNat 6) (wa a.args ++ (a.text ++ t)) = some (a.args, a.text ++ t) := by
    rw [show min ((a.args.length : Int)).toNat 6 = a.args.length by omega]
    exact ra_mk o5
  unfold akR
  rw [e1]
  unfold akH
  simp only
  unfold akT
  rw [if_neg (by omega), e2]
  simp only
  rw [if_neg (by rw [List.length_append]; omega)]
  simp
/-- All that are read; or what is wrong, and where. -/
def pr (b : List UInt8) : List Ak ⊕ (Int × Nat) :=
  if b = [] then .inl [] else
  match akR b with
  | none => .inr (2, 0)
  | some (a, t) =>
    if akW a ≠ 0 then .inr (akW a, 0) else
    if h : t.length < b.length then
      match pr t with
      | .inl l => .inl (a :: l)
      | .inr (e, k) => .inr (e, b.length - t.length + k)
    else .inr (2, 0)
  termination_by b.length
theorem pr_nil : pr [] = .inl [] := by rw [pr]; simp
theorem pr_none {b : List UInt8} (h : b ≠ []) (h1 : akR b = none) : pr b = .inr (2, 0) := by rw [pr, if_neg h, h1]
theorem pr_wrong {b t : List UInt8} {a : Ak} (h : b ≠ []) (h1 : akR b = some (a, t)) (h2 : akW a ≠ 0) : pr b = .inr (akW a, 0) := by
  rw [pr, if_neg h, h1]; simp only; rw [if_pos h2]
theorem pr_more {b t : List UInt8} {a : Ak} (h1 : akR b = some (a, t)) (h2 : akW a = 0) : pr b = match pr t with | .inl l => .inl (a :: l) | .inr (e, k) => .inr (e, b.length - t.length + k) := by
  have hl := akR_len h1
  rw [pr, if_neg (fun h => by rw [h] at hl; simp at hl), h1]
  simp only
  rw [if_neg (fun h => h h2), dif_pos hl]
/-- All as bytes. -/
def akBs (l : List Ak) : List UInt8 := l.flatMap akB
theorem pr_app {a : List UInt8} (b : List UInt8) : ∀ {l : List Ak}, pr a = .inl l → pr (a ++ b) = match pr b with | .inl m => .inl (l ++ m) | .inr (e, k) => .inr (e, a.length + k) := by
  generalize hn : a.length = n
  induction n using Nat.strongRecOn generalizing a with
  | ind n ih =>
    intro l h
    by_cases h0 : a = []
    · subst h0
      rw [pr_nil] at h
      have hl : l = [] := by injection h with h; exact h.symm
      subst hl
      have : n = 0 := by simpa using hn.symm
      subst this
      rw [List.nil_append]
      cases pr b with
      | inl m => simp
      | inr p => obtain ⟨e, k⟩ := p; simp
    · cases hr : akR a with
      | none => rw [pr_none h0 hr] at h; cases h
      | some p =>
        obtain ⟨q, t⟩ := p
        by_cases hw : akW q = 0
        · rw [pr_more hr hw] at h
          have hl := akR_len hr
          cases ht : pr t with
          | inr p => rw [ht] at h; cases h
          | inl l2 =>
            rw [ht] at h
            simp only [Sum.inl.injEq] at h
            subst h
            have := ih t.length (by omega) rfl ht
            rw [pr_more (akR_app b hr) hw, this]
            cases pr b with
            | inl m => simp
            | inr p =>
              obtain ⟨e, k⟩ := p
              simp only [Sum.inr.injEq, Prod.mk.injEq, true_and]
              rw [List.length_append, List.length_append]
              omega
        · rw [pr_wrong h0 hr hw] at h; cases h
theorem pr_bytes {b : List UInt8} : ∀ {l : List Ak}, pr b = .inl l → akBs l = b ∧ ∀ a ∈ l, akW a = 0 ∧ a.ok := by
  generalize hn : b.length = n
  induction n using Nat.strongRecOn generalizing b with
  | ind n ih =>
    intro l h
    by_cases h0 : b = []
    · subst h0
      rw [pr_nil] at h
      have hl : l = [] := by injection h with h; exact h.symm
      subst hl
      exact ⟨rfl, fun a ha => by cases ha⟩
    · cases hr : akR b with
      | none => rw [pr_none h0 hr] at h; cases h
      | some p =>
        obtain ⟨q, t⟩ := p
        by_cases hw : akW q = 0
        · rw [pr_more hr hw] at h
          have hl := akR_len hr
          cases ht : pr t with
          | inr p => rw [ht] at h; cases h
          | inl l2 =>
            rw [ht] at h
            simp only [Sum.inl.injEq] at h
            subst h
            obtain ⟨h1, h2⟩ := ih t.length (by omega) rfl ht
            refine ⟨?_, fun a ha => ?_⟩
            · rw [akR_bytes hr hw]
              show akB q ++ akBs l2 = _
              rw [h1]
            · rcases List.mem_cons.1 ha with rfl | ha
              · exact ⟨hw, akR_ok hr⟩
              · exact h2 a ha
        · rw [pr_wrong h0 hr hw] at h; cases h
theorem pr_mk : ∀ {l : List Ak}, (∀ a ∈ l, akW a = 0 ∧ a.ok) → pr (akBs l) = .inl l := by
  intro l h
  induction l with
  | nil => exact pr_nil
  | cons a l ih =>
    obtain ⟨h1, h2⟩ := h a (List.mem_cons_self ..)
    have e : akBs (a :: l) = akB a ++ akBs l := rfl
    rw [e, pr_more (akR_mk (akBs l) h2 h1) h1, ih (fun x hx => h x (List.mem_cons_of_mem _ hx))]
theorem pr_at {b : List UInt8} : ∀ {e : Int} {k : Nat}, pr b = .inr (e, k) → k < b.length ∧ e ≠ 0 := by
  generalize hn : b.length = n
  induction n using Nat.strongRecOn generalizing b with
  | ind n ih =>
    intro e k h
    by_cases h0 : b = []
    · subst h0
      rw [pr_nil] at h
      cases h
    · have hp : 0 < b.length := List.length_pos_iff.2 h0
      cases hr : akR b with
      | none =>
        rw [pr_none h0 hr] at h
        simp only [Sum.inr.injEq, Prod.mk.injEq] at h
        omega
      | some p =>
        obtain ⟨q, t⟩ := p
        by_cases hw : akW q = 0
        · rw [pr_more hr hw] at h
          have hl := akR_len hr
          cases ht : pr t with
          | inl l2 => rw [ht] at h; cases h
          | inr p =>
            obtain ⟨e2, k2⟩ := p
            rw [ht] at h
            simp only [Sum.inr.injEq, Prod.mk.injEq] at h
            have := ih t.length (by omega) rfl ht
            omega
        · rw [pr_wrong h0 hr hw] at h
          simp only [Sum.inr.injEq, Prod.mk.injEq] at h
          omega
/-- All as bytes, or what is wrong with the first one with which something is, and its number. -/
def fb : List Ak → List UInt8 ⊕ (Int × Nat)
  | [] => .inl []
  | a :: l => if akW a ≠ 0 then .inr (akW a, 0) else match fb l with
    | .inl b => .inl (akB a ++ b)
    | .inr (e, k) => .inr (e, k + 1)
theorem fb_ok : ∀ {l : List Ak}, (∀ a ∈ l, akW a = 0) → fb l = .inl (akBs l) := by
  intro l h
  induction l with
  | nil => rfl
  | cons a l ih =>
    unfold fb
    rw [if_neg (fun x => x (h a (List.mem_cons_self ..))), ih (fun x hx => h x (List.mem_cons_of_mem _ hx))]
    rfl
theorem fb_inl : ∀ {l : List Ak} {b : List UInt8}, fb l = .inl b → b = akBs l ∧ ∀ a ∈ l, akW a = 0 := by
  intro l
  induction l with
  | nil =>
    intro b h
    have : b = [] := by unfold fb at h; injection h with h; exact h.symm
    exact ⟨this, fun a ha => by cases ha⟩
  | cons a l ih =>
    intro b h
    unfold fb at h
    split at h
    · cases h
    · next hw =>
      split at h
      · next b2 hb =>
        injection h with h
        obtain ⟨h1, h2⟩ := ih hb
        refine ⟨by rw [← h, h1]; rfl, fun x hx => ?_⟩
        rcases List.mem_cons.1 hx with rfl | hx
        · exact Classical.not_not.1 hw
        · exact h2 x hx
      · cases h
theorem fb_ne {l : List Ak} {e : Int} {k : Nat} (h : fb l = .inr (e, k)) : e ≠ 0 := by
  induction l generalizing k with
  | nil => cases h
  | cons a l ih =>
    unfold fb at h
    split at h
    · next hw =>
      simp only [Sum.inr.injEq, Prod.mk.injEq] at h
      omega
    · split at h
      · cases h
      · next e2 k2 h2 =>
        simp only [Sum.inr.injEq, Prod.mk.injEq] at h
        obtain ⟨rfl, _⟩ := h
        exact ih h2
end Go.Proofs.YtbkihppmikjcoaaDoor

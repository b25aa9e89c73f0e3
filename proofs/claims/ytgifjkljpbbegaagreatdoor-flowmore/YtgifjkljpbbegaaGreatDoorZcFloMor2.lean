/- A channel with more tags, in its place: what is found is the same. -/
import Derived.Test.YtgifjkljpbbegaaGreatDoorZb24
import Derived.Test.YtgifjkljpbbegaaGreatDoorZb29
import Derived.Test.YtgifjkljpbbegaaGreatDoorZb19
namespace Go.Proofs.YtgifjkljpbbegaaGreatDoor
open Go.RowKit
set_option linter.unusedVariables false
def upL (it : It) (n : Nat) : It := { it with l := n }
theorem set_get {l : List (Int × It)} {i : Nat} {p : Int} {it : It} {n : Nat} (h : l[i]? = some (p, it)) (j : Nat) : (l.set i (p, upL it n))[j]? = if j = i then some (p, upL it n) else l[j]? := by
  rw [List.getElem?_set]
  by_cases hj : i = j
  · subst hj
    rw [if_pos rfl, if_pos rfl, if_pos (List.getElem?_eq_some_iff.1 h).1]
  · rw [if_neg hj, if_neg (fun e => hj e.symm)]
theorem findIdx_congr {α : Type} {f : α → Bool} : ∀ (l l' : List α), l.length = l'.length → (∀ (j : Nat) (a b : α), l[j]? = some a → l'[j]? = some b → f a = f b) → l.findIdx? f = l'.findIdx? f := by
  intro l
  induction l with
  | nil => intro l' h _; cases l' with | nil => rfl | cons b r => cases h
  | cons a r ih =>
    intro l' h hf
    cases l' with
    | nil => cases h
    | cons b r' =>
      have h1 := hf 0 a b rfl rfl
      have h2 := ih r' (by simpa using h) (fun j x y hx hy => hf (j + 1) x y (by simpa using hx) (by simpa using hy))
      rw [List.findIdx?_cons, List.findIdx?_cons, h1, h2]
theorem fnd_set {l : List (Int × It)} {i : Nat} {p : Int} {it : It} {n : Nat} (h : l[i]? = some (p, it)) (kd : Int) (x : ByteArray) : fnd (l.set i (p, upL it n)) kd x = fnd l kd x := by
  unfold fnd fidx
  rw [findIdx_congr (l.set i (p, upL it n)) l (by simp) (fun j a b ha hb => by
    rw [set_get h] at ha
    by_cases hj : j = i
    · rw [if_pos hj] at ha
      rw [hj, h] at hb
      injection ha with ha
      injection hb with hb
      rw [← ha, ← hb]
      rfl
    · rw [if_neg hj, hb] at ha
      injection ha with ha
      rw [ha])]
theorem hit_set {l : List (Int × It)} {i : Nat} {p : Int} {it : It} {n : Nat} (h : l[i]? = some (p, it)) (kd : Nat) (x : ByteArray) : (hit l kd x = none ∧ hit (l.set i (p, upL it n)) kd x = none) ∨ ∃ a, hit l kd x = some a ∧ (hit (l.set i (p, upL it n)) kd x = some a ∨ (a = (p, it) ∧ hit (l.set i (p, upL it n)) kd x = some (p, upL it n))) := by
  unfold hit
  rw [fnd_set h]
  split
  · exact .inl ⟨rfl, rfl⟩
  · rw [set_get h]
    by_cases hj : (fnd l (kd : Int) x).toNat = i
    · rw [if_pos hj, hj, h]
      exact .inr ⟨_, rfl, .inr ⟨rfl, rfl⟩⟩
    · rw [if_neg hj]
      cases hg : l[(fnd l (kd : Int) x).toNat]? with
      | none => exact .inl ⟨rfl, rfl⟩
      | some a => exact .inr ⟨a, rfl, .inl rfl⟩
theorem hit_kind {l : List (Int × It)} {kd : Nat} {x : ByteArray} {q : Int × It} (h : hit l kd x = some q) : q.2.k = kd := (hit_nm h).2.2
/-- A channel with more tags. -/
theorem mor_set {l : List (Int × It)} {i : Nat} {p : Int} {it : It} {n : Nat} (h : l[i]? = some (p, it)) (hk : it.k = 1) (hf : flw it.l n = true) : Mor l (l.set i (p, upL it n)) where
  fd := fun kd x => fnd_set h kd x
  fn := fun x => by
    unfold fnL
    rcases hit_set (n := n) h 2 x with ⟨h1, h2⟩ | ⟨a, h1, h2 | ⟨h2, h3⟩⟩
    · rw [h1, h2]
    · rw [h1, h2]
    · rw [h2] at h1
      have := hit_kind h1
      simp only at this
      omega
  fp := fun x => by
    unfold fnP
    rcases hit_set (n := n) h 2 x with ⟨h1, h2⟩ | ⟨a, h1, h2 | ⟨h2, h3⟩⟩
    · rw [h1, h2]
    · rw [h1, h2]
    · rw [h2] at h1
      have := hit_kind h1
      simp only at this
      omega
  ch := fun x => by
    unfold chL
    rcases hit_set (n := n) h 1 x with ⟨h1, h2⟩ | ⟨a, h1, h2 | ⟨h2, h3⟩⟩
    · exact .inl ⟨by rw [h1]; rfl, by rw [h2]; rfl⟩
    · exact .inr ⟨a.2.l, a.2.l, by rw [h1]; rfl, by rw [h2]; rfl, flw_refl _⟩
    · exact .inr ⟨it.l, n, by rw [h1, h2]; rfl, by rw [h3]; rfl, hf⟩
theorem mor_snd {l : List (Int × It)} {i : Nat} {p : Int} {it : It} {n : Nat} (h : l[i]? = some (p, it)) (hk : it.k = 1) (hf : flw it.l n = true) (hs : sndB l = true) : sndB (l.set i (p, upL it n)) = true := by
  have hM := mor_set h hk hf
  have hF : MorF l (flA l) (flA (l.set i (p, upL it n))) := hM.floors (fun j => by
    rw [set_get h]
    by_cases hj : j = i
    · rw [if_pos hj, hj, h]
      exact .inr ⟨_, _, rfl, rfl, rfl, rfl⟩
    · rw [if_neg hj]
      cases hg : l[j]? with
      | none => exact .inl ⟨rfl, rfl⟩
      | some a => exact .inr ⟨a, a, rfl, rfl, rfl, rfl⟩)
  unfold sndB at hs ⊢
  rw [List.all_eq_true] at hs ⊢
  intro j hj
  rw [List.length_set] at hj
  have h1 := hs j hj
  have h1 : noF (fvJ l (flA l) j) = [] := by simpa using h1
  have h2 : noF (fvJ (l.set i (p, upL it n)) (flA (l.set i (p, upL it n))) j) = [] := by
    unfold fvJ at h1 ⊢
    rw [set_get h]
    by_cases hji : j = i
    · rw [if_pos hji]
      have e : (upL it n).k = 1 := hk
      simp only
      rw [if_neg (by omega)]
      rfl
    · rw [if_neg hji]
      cases hg : l[j]? with
      | none => rfl
      | some q =>
        rw [hg] at h1
        simp only at h1 ⊢
        split
        · next h2 =>
          rw [if_pos h2] at h1
          exact hM.block (fun a ha env => hM.stmt hF _ _ a (Nat.le_refl _) 0 env) h1
        · rfl
  rw [h2]
  rfl
theorem flw_jn (a b : Nat) : flw a (jnL a b) = true := by
  unfold flw
  rw [tg_of (jnL_lt a b)]
  exact fl_join_l (tg a) (tg b)
end Go.Proofs.YtgifjkljpbbegaaGreatDoor

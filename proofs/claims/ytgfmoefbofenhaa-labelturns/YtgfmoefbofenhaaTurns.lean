/- LabelTurns answers true, whatever it is given. -/
import Derived.Test.YtgfmoefbofenhaaAlive
namespace Go.Proofs.Ytgfmoefbofenhaa
open Go.RowKit
theorem print_parse : ∀ n, n < 256 → pN (prS n) = n ∧ pE (prS n) = 0 := by decide +kernel
theorem print_size : ∀ n, n < 256 → (prS n).size = if pc n = 0 then 2 else 2 * pc n + 1 := by decide +kernel
theorem pc_step : ∀ n, n < 256 → ∀ x, x < 8 → n &&& 2 ^ x = 0 → pc (n ||| 2 ^ x) = pc n + 1 := by decide +kernel
theorem acc_pc (s : ByteArray) (hf : fmB s = true) : ∀ (t m : Nat), 2 * t < s.size → acc s t = some m → m < 256 ∧ pc m = t := by
  intro t
  induction t with
  | zero => intro m _ h; simp [acc] at h; subst h; exact ⟨by decide, by decide⟩
  | succ t ih =>
    intro m ht h
    cases e : acc s t with
    | none => simp [acc, e] at h
    | some n =>
      obtain ⟨h1, h2⟩ := ih n (by omega) e
      have hc := fm_tag hf (t := t) (by omega)
      have hp := pow_lt (byt s (2 * t + 1) - 97) (by omega)
      by_cases hd : n &&& tagAt s t = 0
      · rw [acc_new s t n e hd] at h
        simp at h
        subst h
        refine ⟨or_lt _ _ h1 hp, ?_⟩
        unfold tagAt at hd ⊢
        rw [pc_step n h1 _ (by omega) hd, h2]
      · rw [acc_dup s t n e hd] at h
        simp at h
theorem p_cases (s : ByteArray) : (pE s = 0 ∧ pN s < 256 ∧ (prS (pN s)).size = s.size) ∨ (pE s = 2 ∧ pN s = 0) ∨ (pE s = 7 ∧ pN s = 0) := by
  cases hf : fmB s
  · have := p_no hf; exact .inr (.inl ⟨this.2, this.1⟩)
  · obtain ⟨z1, z2⟩ := fm_size hf
    cases e : acc s ((s.size - 1) / 2) with
    | none => have := p_dup hf e; exact .inr (.inr ⟨this.2, this.1⟩)
    | some m =>
      have := p_yes hf e
      obtain ⟨h1, h2⟩ := acc_pc s hf _ m (by omega) e
      refine .inl ⟨this.2, by omega, ?_⟩
      rw [this.1, print_size m h1, h2]
      split <;> omega
theorem prS_max (n : Nat) (h : n < 256) : (prS n).size ≤ maxLen := by
  rw [print_size n h]
  unfold maxLen
  have : pc n ≤ 8 := by unfold pc; omega
  split <;> omega
theorem below_step {a b c : World} (h : Below a.heap.size a b) (k : Below b.heap.size b c) : Below a.heap.size a c := h.trans (k.mono h.size)
set_option maxHeartbeats 1600000 in
theorem turns_any (a : Int) (s : ByteArray) (w : World) (hs : s.size ≤ maxLen) :
    Calls Try.prog 5 #[.int .i64 a, .string s] w fun e w' => e = .returned (.bool true) ∧ Below w.heap.size w w' := by
  have hs' := hs
  unfold maxLen at hs'
  obtain ⟨m, hm⟩ : ∃ m, pN s = m := ⟨_, rfl⟩
  obtain ⟨er, her⟩ : ∃ er, pE s = er := ⟨_, rfl⟩
  have hcs := p_cases s
  rw [hm, her] at hcs
  cases ra : rt a
  · rcases hcs with ⟨rfl, h1, h2⟩ | ⟨rfl, rfl⟩ | ⟨rfl, rfl⟩
    · have rm : rt (m : Int) = true := by simp [rt]; omega
      go_enter Try.func5, Try.ntmps5
      go_wp2_with (first
        | (go_at_call 18; refine (alive_any _).mono ?_; rintro e w1 ⟨rfl, hb1⟩)
        | (go_at_call 6; refine (parse_any _ _ (by assumption)).mono ?_; rintro e w' ⟨rfl, hw'⟩; subst w')
        | (go_at_call 16; refine (print_any _ _ (by assumption)).mono ?_; rintro e w2 ⟨rfl, hb2⟩)
        | (go_at_call 8; refine (right_any _ _).mono ?_; rintro e w' ⟨rfl, hw'⟩; subst w'))
      go_ret; exact ⟨rfl, below_step hb1 hb2⟩
    all_goals
      go_enter Try.func5, Try.ntmps5
      go_wp2_with (first
        | (go_at_call 18; refine (alive_any _).mono ?_; rintro e w1 ⟨rfl, hb1⟩)
        | (go_at_call 6; refine (parse_any _ _ (by assumption)).mono ?_; rintro e w' ⟨rfl, hw'⟩; subst w')
        | (go_at_call 16; refine (print_any _ _ (by assumption)).mono ?_; rintro e w2 ⟨rfl, hb2⟩)
        | (go_at_call 8; refine (right_any _ _).mono ?_; rintro e w' ⟨rfl, hw'⟩; subst w'))
      go_ret; exact ⟨rfl, hb1⟩
  · obtain ⟨A, rfl⟩ : ∃ A : Nat, a = (A : Int) := ⟨a.toNat, by simp [rt] at ra; omega⟩
    have hA : A < 256 := by simp [rt] at ra; omega
    have hs1 := prS_max A hA
    obtain ⟨q1, q2⟩ := print_parse A hA
    rcases hcs with ⟨rfl, h1, h2⟩ | ⟨rfl, rfl⟩ | ⟨rfl, rfl⟩
    · have rm : rt (m : Int) = true := by simp [rt]; omega
      go_enter Try.func5, Try.ntmps5
      go_wp2_with (first
        | (go_at_call 18; refine (alive_any _).mono ?_; rintro e w1 ⟨rfl, hb1⟩)
        | (go_at_call 6; refine (parse_any _ _ (by assumption)).mono ?_; rintro e w' ⟨rfl, hw'⟩; subst w')
        | (go_at_call 16; refine (print_any _ _ (by assumption)).mono ?_; rintro e w2 ⟨rfl, hb2⟩)
        | (go_at_call 8; refine (right_any _ _).mono ?_; rintro e w' ⟨rfl, hw'⟩; subst w'))
      go_ret
      exact ⟨rfl, below_step (below_step hb1 (by assumption)) hb2⟩
    all_goals
      go_enter Try.func5, Try.ntmps5
      go_wp2_with (first
        | (go_at_call 18; refine (alive_any _).mono ?_; rintro e w1 ⟨rfl, hb1⟩)
        | (go_at_call 6; refine (parse_any _ _ (by assumption)).mono ?_; rintro e w' ⟨rfl, hw'⟩; subst w')
        | (go_at_call 16; refine (print_any _ _ (by assumption)).mono ?_; rintro e w2 ⟨rfl, hb2⟩)
        | (go_at_call 8; refine (right_any _ _).mono ?_; rintro e w' ⟨rfl, hw'⟩; subst w'))
      go_ret; exact ⟨rfl, below_step hb1 hb2⟩
end Go.Proofs.Ytgfmoefbofenhaa

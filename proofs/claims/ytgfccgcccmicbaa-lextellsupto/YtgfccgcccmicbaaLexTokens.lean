/- Tokens: the list of a text's tokens, in memory of its own. -/
import Derived.Test.YtgfccgcccmicbaaLexClone
import Derived.Deep.AppendLies
namespace Go.Proofs.Ytgfccgcccmicbaa
open Go.RowKit
theorem own_below {w w1 : World} {base size n : Nat} {e : TypeId} {v : Value} {xs : List Value} (h : w.ownsRow base e size v n xs) (hb : Below w.heap.size w w1) : w1.ownsRow base e size v n xs :=
  h.kept (row := none) ⟨hb.os, hb.tape, hb.output, hb.size, fun k hk _ => hb.block k hk⟩ (by cases hv : v.ownBlock <;> simp)
theorem own_ge {w : World} {base size n : Nat} {e : TypeId} {v : Value} {xs : List Value} (h : w.ownsRow base e size v n xs) : ∀ k, v.ownBlock = some k → base ≤ k :=
  fun k hk => (h.lt k hk).1
theorem Try.infoTok : (Try.prog.info? 47).map (fun i => (i.zero, i.size, i.bytes)) = some (some (.agg #[.int .i64 0, .string ⟨#[]⟩, .int .i64 0]), 3, 32) := by kernel_rfl
/-- A token's cells. -/
def tc (t : Tok) : List Value := [.int .i64 (t.k : Int), .string t.x, .int .i64 (t.a : Int)]
def tsC (l : List Tok) : List Value := l.flatMap tc
theorem tsC_len (l : List Tok) : (tsC l).length = l.length * 3 := by
  induction l with
  | nil => rfl
  | cons t l ih => simp only [tsC, List.flatMap_cons, List.length_append, List.length_cons] at ih ⊢; rw [ih]; simp [tc]; omega
theorem tsC_snoc (l : List Tok) (t : Tok) : tsC (l ++ [t]) = tsC l ++ tc t := by simp [tsC]
theorem tsC_at (l : List Tok) (j : Nat) (t : Tok) (h : l[j]? = some t) : (tsC l)[j * 3]? = some (.int .i64 (t.k : Int)) ∧ (tsC l)[j * 3 + 1]? = some (.string t.x) ∧ (tsC l)[j * 3 + 2]? = some (.int .i64 (t.a : Int)) := by
  induction l generalizing j with
  | nil => cases h
  | cons u l ih =>
    cases j with
    | zero => simp at h; subst h; simp [tsC, tc]
    | succ j =>
      simp at h
      have := ih j h
      have e : tsC (u :: l) = tc u ++ tsC l := rfl
      rw [e, show (j + 1) * 3 = (tc u).length + j * 3 by simp [tc]; omega, show (tc u).length + j * 3 + 1 = (tc u).length + (j * 3 + 1) by omega, show (tc u).length + j * 3 + 2 = (tc u).length + (j * 3 + 2) by omega]
      simp only [List.getElem?_append_right (Nat.le_add_right _ _), Nat.add_sub_cancel_left]
      exact this
theorem tok_cell (t : Tok) : ∀ u ∈ tc t, u.oneCell' = true := by
  intro u hu
  simp [tc] at hu
  rcases hu with rfl | rfl | rfl <;> rfl
def RelT (s : ByteArray) (w : World) (v a : Value) (wr : World) : Prop :=
  ∃ (k : Nat) (l : List Tok), k ≤ s.size ∧ a = .int .i64 (k : Int) ∧ tks s = l ++ toks s k ∧ wr.ownsRow w.heap.size 47 3 v l.length (tsC l) ∧ Below w.heap.size w wr
set_option maxHeartbeats 1000000 in
theorem tokens_any (s : ByteArray) (w : World) (hs : s.size ≤ 1099511627776) :
    Calls Try.prog 25 #[.string s] w fun e w' => ∃ v, e = .returned v ∧ w'.ownsRow w.heap.size 47 3 v (tks s).length (tsC (tks s)) ∧ Below w.heap.size w w' := by
  obtain ⟨i0, hi, hz0, hz1, hz2⟩ := info_parts Try.infoTok
  have hs0 : s.size ≤ maxLen := by unfold maxLen; omega
  go_enter Try.func25, Try.ntmps25
  go_wp2_with (go_at_call 44; refine (skip_any s 0 _ hs0 (by omega)).mono ?_; rintro e w' ⟨rfl, hw'⟩; subst w')
  go_loopw [3, 4] (fun v a wr => RelT s w v a wr) (fun _ a _ => upS s a)
  case atStart => exact ⟨skE s false 0, [], skE_le s false 0 (by omega), rfl, rfl, World.ownsRow_nil _ _ _ _, Below.refl _ _⟩
  case round =>
    obtain ⟨k, l, hk, rfl, hl, hown, hbel⟩ := hrel
    have HL : Hid (tks s = l ++ toks s k) := hl
    clear hl
    have hlen : l.length ≤ s.size := by
      have := tks_len s
      rw [HL.out] at this
      simp at this
      omega
    have hsz := hbel.size
    by_cases hlt : k < s.size
    · have h1 := tnd_gt s k hlt
      have h2 := tnd_le s k hlt
      have hx : (s.extract k (tnd s k)).size ≤ 281474976710656 := by rw [ext_size]; omega
      have HE : Hid (toks s k = tok s k :: toks s (skE s false (tnd s k))) := toks_eq s k hlt
      have HS : Hid (tnd s k ≤ skE s false (tnd s k) ∧ skE s false (tnd s k) ≤ s.size) := ⟨skE_ge _ _ _, skE_le _ _ _ h2⟩
      go_wp2_with (first
        | (go_at_call 45; refine (read_any s k _ hs0 hlt).mono ?_; rintro e w' ⟨rfl, hw'⟩; subst w')
        | (go_at_call 44; refine (skip_any s _ _ hs0 h2).mono ?_; rintro e w' ⟨rfl, hw'⟩; subst w')
        | (go_at_call 46; refine (clone_any _ _ hx).mono ?_; rintro e w1 ⟨rfl, hb1⟩; have hown1 := own_below hown hb1; have hsz1 := hb1.size)
        | (at_builtin; refine wpList_append_own _ rfl (.tmp 19) (.tmp 28) 40 rfl w.heap.size 47 i0 _ 3 32 Try.underlying40 hi hz0 hz1 hz2 rfl (by decide) _ _ _ rfl (hown1.alloc _) ⟨w1.heap.size, 0, none⟩ 1 1 (tc (tok s k)) rfl rfl (World.news_of_block (heap_alloc_new w1 _)) (tok_cell _) (by unfold maxLen; omega) (by omega) (by simp; omega) ?_; intro v2 w2 hown2 hgrow2 _))
      go_roundw
      case rel =>
        refine ⟨skE s false (tnd s k), l ++ [tok s k], HS.out.2, rfl, by rw [HL.out, HE.out]; simp, by rw [tsC_snoc]; simpa using hown2, ?_⟩
        exact ((hbel.trans (hb1.mono (by omega))).alloc (by omega) _).grown hgrow2 (by simp; omega) (own_ge hown1)
      case measure => have := HS.out; simp [upS, intOf]; omega
    · go_wp2
      have e : tks s = l := by rw [HL.out, toks_out s k (by omega)]; simp
      go_ret
      exact ⟨_, rfl, by rw [e]; exact hown, hbel⟩
end Go.Proofs.Ytgfccgcccmicbaa

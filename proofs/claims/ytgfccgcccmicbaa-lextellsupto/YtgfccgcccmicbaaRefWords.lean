/- The document's Cuts, Word and Name: what each call answers. -/
import Derived.Test.YtgfccgcccmicbaaRefLex
namespace Go.Proofs.Ytgfccgcccmicbaa
open Go.RowKit
set_option maxHeartbeats 1000000 in
theorem refCuts_any (s : ByteArray) (w : World) (hs : s.size ≤ 1099511627776) :
    Calls Try.prog 23 #[.string s] w fun e w' => ∃ v, e = .returned v ∧ w'.ownsRow w.heap.size 3 1 v (cts s).length (intC (cts s)) ∧ Below w.heap.size w w' := by
  obtain ⟨i0, hi, hz0, hz1, hz2⟩ := info_parts Try.infoInt
  have hs0 : s.size ≤ maxLen := by unfold maxLen; omega
  go_enter Try.func23, Try.ntmps23
  by_cases hn : (tks s).length = 0
  · have he : tks s = [] := List.length_eq_zero_iff.1 hn
    have HC : Hid (cts s = []) := by show cts s = []; unfold cts; rw [he]; rfl
    clear he
    go_wp2_with (go_at_call 26; refine (refTokens_any s _ hs).mono ?_; rintro e wt ⟨v, rfl, hown, hbt⟩; obtain ⟨p, cap, rfl⟩ := own_len hown)
    go_loopw [3, 9] (fun v i wr => v = .slice none 0 0 ∧ i = .int .i64 0 ∧ wr = wt) (fun _ i _ => 0)
    case atStart => exact ⟨rfl, rfl, rfl⟩
    case round =>
      obtain ⟨rfl, rfl, rfl⟩ := hrel
      go_wp2
      go_ret
      exact ⟨_, rfl, by rw [HC.out]; exact World.ownsRow_nil _ _ _ _, hbt⟩
  · have hn' : 0 < (tks s).length := by omega
    go_wp2_with (go_at_call 26; refine (refTokens_any s _ hs).mono ?_; rintro e wt ⟨v, rfl, hown, hbt⟩; obtain ⟨g, cap, rfl, hg1, hg2, hcap, htok⟩ := own_toks hown hn')
    go_loopw [3, 9] (fun v i wr => RelC s wt v i wr) (fun _ i _ => upN (tks s).length i)
    case atStart => exact ⟨0, Nat.zero_le _, rfl, World.ownsRow_nil _ _ _ _, Below.refl _ _⟩
    case round =>
      obtain ⟨k, hk, rfl, hown1, hbel⟩ := hrel
      have hsz := hbel.size
      by_cases hlt : k < (tks s).length
      · obtain ⟨t, ht⟩ : ∃ t, (tks s)[k]? = some t := ⟨_, List.getElem?_eq_getElem hlt⟩
        have ⟨c0, c1, c2⟩ := htok.below hbel hg2 k t ht
        rw [Nat.zero_add] at c0 c1 c2
        obtain ⟨tk, tx, ta⟩ := t
        have hta : skE s false 0 + k ≤ ta ∧ ta < s.size := by have := tok_at s (skE s false 0) k _ ht; exact ⟨this.1, this.2.1⟩
        have hcl := cutK_len s (tks s) k
        have hll := tks_len s
        have HT : Hid ((tks s)[k]? = some ⟨tk, tx, ta⟩) := ht
        have HC : Hid ((cutK s (tks s) k).length ≤ k ∧ (tks s).length ≤ s.size) := ⟨hcl, hll⟩
        clear ht hcl hll
        simp only at c0 c1 c2
        have hlen : (cutK s (tks s) k).length ≤ 1099511627776 := by have := HC.out; omega
        by_cases hk0 : k = 0
        · have HE : Hid (cutK s (tks s) (k + 1) = cutK s (tks s) k ++ [ta]) := cutK_yes s _ k _ HT.out (by simp [cutB, hk0])
          have hb0 : ((k : Int) == 0) = true := by simp [hk0]
          have HK : Hid (k = 0) := hk0
          clear hk0
          go_wp2_with (first
            | (at_builtin; refine wpList_append_own _ rfl (.tmp 34) (.tmp 37) 37 rfl wt.heap.size 3 i0 _ 1 8 Try.underlying37 hi hz0 hz1 hz2 rfl (by decide) _ _ _ rfl ((hown1.alloc _).alloc _) ⟨wr.heap.size + 1, 0, none⟩ 1 1 [.int .i64 ((ta : Int))] rfl rfl (news2 _ _ _ _) (by intro u hu; simp at hu; subst hu; rfl) (by unfold maxLen; omega) (by omega) (by simp; omega) ?_; intro v2 w2 hown2 hgrow2 _))
          go_roundw
          case rel => exact ⟨k + 1, by omega, by go_num, by rw [HE.out]; simpa [intC] using hown2, ((hbel.alloc (by omega) _).alloc (by simp; omega) _).grown hgrow2 (by simp; omega) (own_ge hown1)⟩
          case measure => simp [upN, intOf]; omega
        · obtain ⟨b, rfl⟩ : ∃ b, ta = b + 1 := ⟨ta - 1, by omega⟩
          have hb : b < s.size := by omega
          have HG : Hid (byt s b = (s[b]'hb).toNat) := byt_get s b hb
          by_cases h1 : tx = ⟨#[102, 110]⟩
          · subst h1
            have HO : Hid (opn ⟨#[102, 110]⟩ = true) := by show _ = _; decide
            by_cases h10 : (s[b]'hb).toNat = 10
            · have HE : Hid (cutK s (tks s) (k + 1) = cutK s (tks s) k ++ [b + 1]) := cutK_yes s _ k _ HT.out (by simp [cutB, HO.out, HG.out, h10])
              go_wp2_with (first
              | (at_builtin; refine wpList_append_own _ rfl (.tmp 34) (.tmp 37) 37 rfl wt.heap.size 3 i0 _ 1 8 Try.underlying37 hi hz0 hz1 hz2 rfl (by decide) _ _ _ rfl ((hown1.alloc _).alloc _) ⟨wr.heap.size + 1, 0, none⟩ 1 1 [.int .i64 (((b : Int) + 1))] rfl rfl (news2 _ _ _ _) (by intro u hu; simp at hu; subst hu; rfl) (by unfold maxLen; omega) (by omega) (by simp; omega) ?_; intro v2 w2 hown2 hgrow2 _))
              go_roundw
              case rel => exact ⟨k + 1, by omega, by go_num, by rw [HE.out]; simpa [intC] using hown2, ((hbel.alloc (by omega) _).alloc (by simp; omega) _).grown hgrow2 (by simp; omega) (own_ge hown1)⟩
              case measure => simp [upN, intOf]; omega
            · have HE : Hid (cutK s (tks s) (k + 1) = cutK s (tks s) k) := cutK_no s _ k _ HT.out (by simp [cutB, HG.out, h10, hk0])
              have hb10 : (((s[b]'hb).toNat : Int) == 10) = false := by simp; omega
              have HN : Hid (¬ (s[b]'hb).toNat = 10) := h10
              clear h10
              go_wp2
              go_roundw
              case rel => exact ⟨k + 1, by omega, by go_num, by rw [HE.out]; exact hown1.alloc _, hbel.alloc (by omega) _⟩
              case measure => simp [upN, intOf]; omega
          · have b1 : (tx.toList == [102, 110]) = false := bne_of tx ⟨#[102, 110]⟩ h1
            have e1 : ¬ tx.toList = [102, 110] := fun h => by rw [h] at b1; simp at b1
            by_cases h2 : tx = ⟨#[99, 104, 97, 110]⟩
            · subst h2
              have HO : Hid (opn ⟨#[99, 104, 97, 110]⟩ = true) := by show _ = _; decide
              clear h1 b1 e1
              by_cases h10 : (s[b]'hb).toNat = 10
              · have HE : Hid (cutK s (tks s) (k + 1) = cutK s (tks s) k ++ [b + 1]) := cutK_yes s _ k _ HT.out (by simp [cutB, HO.out, HG.out, h10])
                go_wp2_with (first
                | (at_builtin; refine wpList_append_own _ rfl (.tmp 34) (.tmp 37) 37 rfl wt.heap.size 3 i0 _ 1 8 Try.underlying37 hi hz0 hz1 hz2 rfl (by decide) _ _ _ rfl ((hown1.alloc _).alloc _) ⟨wr.heap.size + 1, 0, none⟩ 1 1 [.int .i64 (((b : Int) + 1))] rfl rfl (news2 _ _ _ _) (by intro u hu; simp at hu; subst hu; rfl) (by unfold maxLen; omega) (by omega) (by simp; omega) ?_; intro v2 w2 hown2 hgrow2 _))
                go_roundw
                case rel => exact ⟨k + 1, by omega, by go_num, by rw [HE.out]; simpa [intC] using hown2, ((hbel.alloc (by omega) _).alloc (by simp; omega) _).grown hgrow2 (by simp; omega) (own_ge hown1)⟩
                case measure => simp [upN, intOf]; omega
              · have HE : Hid (cutK s (tks s) (k + 1) = cutK s (tks s) k) := cutK_no s _ k _ HT.out (by simp [cutB, HG.out, h10, hk0])
                have hb10 : (((s[b]'hb).toNat : Int) == 10) = false := by simp; omega
                have HN : Hid (¬ (s[b]'hb).toNat = 10) := h10
                clear h10
                go_wp2
                go_roundw
                case rel => exact ⟨k + 1, by omega, by go_num, by rw [HE.out]; exact hown1.alloc _, hbel.alloc (by omega) _⟩
                case measure => simp [upN, intOf]; omega
            · have b2 : (tx.toList == [99, 104, 97, 110]) = false := bne_of tx ⟨#[99, 104, 97, 110]⟩ h2
              have e2 : ¬ tx.toList = [99, 104, 97, 110] := fun h => by rw [h] at b2; simp at b2
              have ho' : opn tx = false := by unfold opn; simp [h1, h2]
              have HE : Hid (cutK s (tks s) (k + 1) = cutK s (tks s) k) := cutK_no s _ k _ HT.out (by simp [cutB, ho', hk0])
              clear h1 h2 ho'
              go_wp2
              go_roundw
              case rel => exact ⟨k + 1, by omega, by go_num, by rw [HE.out]; exact hown1.alloc _, hbel.alloc (by omega) _⟩
              case measure => simp [upN, intOf]; omega
      · have hkn : k = (tks s).length := by omega
        subst hkn
        go_wp2
        go_ret
        exact ⟨_, rfl, own_base hown1 hbt.size, hbt.trans (hbel.mono hbt.size)⟩

/-! Word and Name. -/
theorem wd_all (s : ByteArray) (h0 : 0 < s.size) (h : ∀ j, j < s.size → ltr (byt s j) = true ∨ (j ≠ 0 ∧ dgt (byt s j) = true)) : ltr (byt s 0) = true ∧ spE wrd s 0 = s.size := by
  refine ⟨by rcases h 0 h0 with h | h; exact h; exact absurd rfl h.1, ?_⟩
  have : ∀ n i, s.size - i = n → i ≤ s.size → spE wrd s i = s.size := by
    intro n
    induction n with
    | zero => intro i h1 h2; rw [spE_out wrd s i (by omega)]; omega
    | succ n ih =>
      intro i h1 h2
      rw [spE_go wrd s i (by omega) (by unfold wrd; rcases h i (by omega) with h | h; rw [h]; rfl; rw [h.2]; simp)]
      exact ih (i + 1) (by omega) (by omega)
  exact this _ 0 rfl (by omega)
theorem wd_one (s : ByteArray) (j : Nat) (hj : j < s.size) (h : spE wrd s 0 = s.size) : wrd (byt s j) = true := by
  have : ∀ n i, j - i = n → i ≤ j → spE wrd s i = s.size → wrd (byt s j) = true := by
    intro n
    induction n with
    | zero =>
      intro i h1 h2 h3
      have : i = j := by omega
      subst this
      cases hw : wrd (byt s i) with
      | true => rfl
      | false => rw [spE_stop wrd s i hj hw] at h3; omega
    | succ n ih =>
      intro i h1 h2 h3
      cases hw : wrd (byt s i) with
      | true => exact ih (i + 1) (by omega) (by omega) (by rw [← spE_go wrd s i (by omega) hw]; exact h3)
      | false => rw [spE_stop wrd s i (by omega) hw] at h3; omega
  exact this _ 0 rfl (by omega) h
theorem wd_false (s : ByteArray) (j : Nat) (hj : j < s.size) (h1 : ltr (byt s j) = false) (h2 : j = 0 ∨ dgt (byt s j) = false) : wdB s = false := by
  cases hw : wdB s with
  | false => rfl
  | true =>
    unfold wdB at hw
    simp at hw
    have := wd_one s j hj hw.2.2
    unfold wrd at this
    rw [h1] at this
    rcases h2 with h2 | h2
    · subst h2; rw [hw.2.1] at h1; cases h1
    · rw [h2] at this; cases this
theorem wd_true (s : ByteArray) (h0 : 0 < s.size) (h : ∀ j, j < s.size → ltr (byt s j) = true ∨ (j ≠ 0 ∧ dgt (byt s j) = true)) : wdB s = decide (s.size ≤ 12) := by
  have := wd_all s h0 h
  unfold wdB
  rw [this.1, this.2]
  simp [h0]
def RelWd (s : ByteArray) (i : Value) : Prop := ∃ k : Nat, k ≤ s.size ∧ i = .int .i64 (k : Int) ∧ ∀ j, j < k → ltr (byt s j) = true ∨ (j ≠ 0 ∧ dgt (byt s j) = true)
set_option maxHeartbeats 1000000 in
theorem refWord_any (s : ByteArray) (w : World) (hs : s.size ≤ maxLen) :
    Calls Try.prog 28 #[.string s] w fun e w' => e = .returned (.bool (wdB s)) ∧ w' = w := by
  unfold maxLen at hs
  go_enter Try.func28, Try.ntmps28
  go_wp2
  go_loop [6] (fun i => RelWd s i) (fun i => upS s i)
  case atStart => exact ⟨0, Nat.zero_le _, rfl, fun j hj => absurd hj (Nat.not_lt_zero _)⟩
  case round =>
    obtain ⟨k, hk, rfl, hall⟩ := hrel
    have HA : Hid (∀ j, j < k → ltr (byt s j) = true ∨ (j ≠ 0 ∧ dgt (byt s j) = true)) := hall
    clear hall
    by_cases hlt : k < s.size
    · have HG : Hid (byt s k = (s[k]'hlt).toNat) := byt_get s k hlt
      by_cases hl : ltr (s[k]'hlt).toNat = true
      · go_wp2_with (first
          | (go_at_call 34; refine (refLetter_any _ _).mono ?_; rintro e w' ⟨rfl, hw'⟩; subst w'))
        go_round
        case rel =>
          refine ⟨k + 1, by omega, by go_num, fun j hj => ?_⟩
          by_cases e : j = k
          · subst e; exact .inl (by rw [HG.out]; exact hl)
          · exact HA.out j (by omega)
        case measure => simp [upS, intOf]; omega
      · have hl' : ltr (s[k]'hlt).toNat = false := by simpa using hl
        clear hl
        by_cases hk0 : k = 0
        · have hb0 : ((k : Int) == 0) = true := by simp [hk0]
          have HF : Hid (wdB s = false) := wd_false s k hlt (by rw [HG.out]; exact hl') (.inl hk0)
          clear hk0
          go_wp2_with (first
            | (go_at_call 34; refine (refLetter_any _ _).mono ?_; rintro e w' ⟨rfl, hw'⟩; subst w'))
          go_ret
          exact ⟨ret_bool HF.out.symm, rfl⟩
        · have hb0 : ((k : Int) == 0) = false := by simp; omega
          have HK : Hid (¬ k = 0) := hk0
          clear hk0
          by_cases hd : dgt (s[k]'hlt).toNat = true
          · go_wp2_with (first
              | (go_at_call 34; refine (refLetter_any _ _).mono ?_; rintro e w' ⟨rfl, hw'⟩; subst w')
              | (go_at_call 36; refine (refDigit_any _ _).mono ?_; rintro e w' ⟨rfl, hw'⟩; subst w'))
            go_round
            case rel =>
              refine ⟨k + 1, by omega, by go_num, fun j hj => ?_⟩
              by_cases e : j = k
              · subst e; exact .inr ⟨HK.out, by rw [HG.out]; exact hd⟩
              · exact HA.out j (by omega)
            case measure => simp [upS, intOf]; omega
          · have hd' : dgt (s[k]'hlt).toNat = false := by simpa using hd
            have HF : Hid (wdB s = false) := wd_false s k hlt (by rw [HG.out]; exact hl') (.inr (by rw [HG.out]; exact hd'))
            clear hd
            go_wp2_with (first
              | (go_at_call 34; refine (refLetter_any _ _).mono ?_; rintro e w' ⟨rfl, hw'⟩; subst w')
              | (go_at_call 36; refine (refDigit_any _ _).mono ?_; rintro e w' ⟨rfl, hw'⟩; subst w'))
            go_ret
            exact ⟨ret_bool HF.out.symm, rfl⟩
    · by_cases h0 : 0 < s.size
      · have HW : Hid (wdB s = decide (s.size ≤ 12)) := wd_true s h0 (fun j hj => HA.out j (by omega))
        go_wp2
        all_goals
          go_ret
          exact ⟨ret_bool (by rw [HW.out, Bool.eq_iff_iff]; simp; try omega), rfl⟩
      · have hE : s = ⟨#[]⟩ := ByteArray.ext (Array.eq_empty_of_size_eq_zero (by simpa using h0))
        subst hE
        go_wp2
        go_ret
        exact ⟨rfl, rfl⟩
theorem getD_mem (l : List ByteArray) (k : Nat) (h : k < l.length) : l.getD k ByteArray.empty ∈ l := by
  rw [List.getD_eq_getElem?_getD, List.getElem?_eq_getElem h]
  exact List.getElem_mem h
theorem mem_getD (l : List ByteArray) (x : ByteArray) (h : x ∈ l) : ∃ k, k < l.length ∧ l.getD k ByteArray.empty = x := by
  obtain ⟨k, hk, e⟩ := List.getElem_of_mem h
  exact ⟨k, hk, by rw [List.getD_eq_getElem?_getD, List.getElem?_eq_getElem hk]; exact e⟩
def RelNm (x : ByteArray) (i : Value) : Prop := ∃ k : Nat, k ≤ 9 ∧ i = .int .i64 (k : Int) ∧ ∀ j, j < k → ownL.getD j ByteArray.empty ≠ x
set_option maxHeartbeats 1000000 in
theorem refName_any (s : ByteArray) (w : World) (hs : s.size ≤ maxLen) :
    Calls Try.prog 30 #[.string s] w fun e w' => e = .returned (.bool (nmB s)) ∧ Below w.heap.size w w' := by
  go_enter Try.func30, Try.ntmps30
  go_wp2_with (first
    | (go_at_call 32; refine (refOwn_any _).mono ?_; rintro e w' ⟨rfl, hw'⟩; subst w'))
  have hB : Below w.heap.size w (w.alloc ownO) := (Below.refl _ _).alloc (Nat.le_refl _) _
  have hcell := own_cell w
  generalize w.alloc ownO = w1 at *
  go_loop [4, 7] (fun _ i => RelNm s i) (fun _ i => upN 9 i)
  case atStart => exact ⟨0, Nat.zero_le _, rfl, fun j hj => absurd hj (Nat.not_lt_zero _)⟩
  case round =>
    obtain ⟨k, hk, rfl, hne⟩ := hrel
    by_cases hlt : k < 9
    · have hc := hcell k hlt
      clear hcell
      generalize hy : ownL.getD k ByteArray.empty = y at hc
      have HY : Hid (ownL.getD k ByteArray.empty = y) := hy
      clear hy
      by_cases he : y = s
      · have hb : (y.toList == s.toList) = true := (Lib.bytes_beq_iff _ _).2 he
        have HF : Hid (nmB s = false) := by
          show _ = _
          unfold nmB
          rw [(Lib.containsS_iff ownL s).2 (by rw [← he, ← HY.out]; exact getD_mem _ _ hlt)]
          simp
        clear he
        go_wp2
        go_ret
        exact ⟨ret_bool HF.out.symm, hB⟩
      · have hb : (y.toList == s.toList) = false := (Lib.bytes_beq_false_iff _ _).2 he
        have HN : Hid (¬ y = s) := he
        clear he
        go_wp2
        go_round
        case rel =>
          refine ⟨k + 1, by omega, by go_num, fun j hj => ?_⟩
          by_cases e : j = k
          · subst e; rw [HY.out]; exact HN.out
          · exact hne j (by omega)
        case measure => simp [upN, intOf]; omega
    · have HF : Hid (nmB s = wdB s) := by
        show _ = _
        unfold nmB
        cases hc : Lib.containsS ownL s with
        | false => simp
        | true =>
          obtain ⟨j, hj, e⟩ := mem_getD _ _ ((Lib.containsS_iff ownL s).1 hc)
          exact absurd e (hne j (by have : ownL.length = 9 := rfl; omega))
      go_wp2_with (first
        | (go_at_call 28; refine (refWord_any s _ hs).mono ?_; rintro e w' ⟨rfl, hw'⟩; subst w'))
      go_ret
      exact ⟨ret_bool HF.out.symm, hB⟩
end Go.Proofs.Ytgfccgcccmicbaa

/- Texts of this seat, one behind the other: RefWords, RxState, Rx1, Rx2, Rx3, Rx4. -/
import Derived.Test.YtjpmnholpeidmaaZb14
import Derived.Test.YtjpmnholpeidmaaZb07
import Derived.Test.YtjpmnholpeidmaaZb01
import Derived.Deep.RegionHeld3
import Derived.BigRegion
import Derived.Test.YtjpmnholpeidmaaZb31
namespace Go.Proofs.Ytjpmnholpeidmaa
open Go.RowKit
set_option maxHeartbeats 1000000 in
set_option maxRecDepth 100000 in
theorem refCuts_any (s : ByteArray) (w : World) (hs : s.size ≤ 1099511627776) :
    Calls Try.prog 17 #[.string s] w fun e w' => ∃ v, e = .returned v ∧ w'.ownsRow w.heap.size 3 1 v (cts s).length (intC (cts s)) ∧ Below w.heap.size w w' := by
  obtain ⟨i0, hi, hz0, hz1, hz2⟩ := info_parts Try.infoInt
  have hs0 : s.size ≤ maxLen := by unfold maxLen; omega
  go_enter Try.func17, Try.ntmps17
  by_cases hn : (tks s).length = 0
  · have he : tks s = [] := List.length_eq_zero_iff.1 hn
    have HC : Hid (cts s = []) := by show cts s = []; unfold cts; rw [he]; rfl
    clear he
    go_wp2_with (go_at_call 35; refine (refTokens_any s _ hs).mono ?_; rintro e wt ⟨v, rfl, hown, hbt⟩; obtain ⟨p, cap, rfl⟩ := own_len hown)
    go_loopw [3, 9] (fun v i wr => v = .slice none 0 0 ∧ i = .int .i64 0 ∧ wr = wt) (fun _ i _ => 0)
    case atStart => exact ⟨rfl, rfl, rfl⟩
    case round =>
      obtain ⟨rfl, rfl, rfl⟩ := hrel
      go_wp2
      go_ret
      exact ⟨_, rfl, by rw [HC.out]; exact World.ownsRow_nil _ _ _ _, hbt⟩
  · have hn' : 0 < (tks s).length := by omega
    go_wp2_with (go_at_call 35; refine (refTokens_any s _ hs).mono ?_; rintro e wt ⟨v, rfl, hown, hbt⟩; obtain ⟨g, cap, rfl, hg1, hg2, hcap, htok⟩ := own_toks hown hn')
    go_loopw [3, 9] (fun v i wr => RelC s wt v i wr) (fun _ i _ => upN (tks s).length i)
    case atStart => exact ⟨0, Nat.zero_le _, rfl, World.ownsRow_nil _ _ _ _, Below.refl _ _⟩
    case round =>
      obtain ⟨k, hk, rfl, hown1, hbel⟩ := hrel
      have hsz := hbel.size
      by_cases hlt : k < (tks s).length
      · obtain ⟨t, ht⟩ : ∃ t, (tks s)[k]? = some t := ⟨_, List.getElem?_eq_getElem hlt⟩
        have ⟨c0, c1, c2⟩ := htok.below hbel hg2 k t ht
        rw [Nat.zero_add] at c0 c1 c2
        obtain ⟨tk, tx, ta⟩ := t
        have hta : skE s false 0 + k ≤ ta ∧ ta < s.size := by have := tok_at s (skE s false 0) k _ ht; exact ⟨this.1, this.2.1⟩
        have hcl := cutK_len s (tks s) k
        have hll := tks_len s
        have HT : Hid ((tks s)[k]? = some ⟨tk, tx, ta⟩) := ht
        have HC : Hid ((cutK s (tks s) k).length ≤ k ∧ (tks s).length ≤ s.size) := ⟨hcl, hll⟩
        clear ht hcl hll
        simp only at c0 c1 c2
        have hlen : (cutK s (tks s) k).length ≤ 1099511627776 := by have := HC.out; omega
        by_cases hk0 : k = 0
        · have HE : Hid (cutK s (tks s) (k + 1) = cutK s (tks s) k ++ [ta]) := cutK_yes s _ k _ HT.out (by simp [cutB, hk0])
          have hb0 : ((k : Int) == 0) = true := by simp [hk0]
          have HK : Hid (k = 0) := hk0
          clear hk0
          go_wp2_with (first
            | (at_builtin; refine wpList_append_own _ rfl (.tmp 34) (.tmp 37) 46 rfl wt.heap.size 3 i0 _ 1 8 Try.underlying46 hi hz0 hz1 hz2 rfl (by decide) _ _ _ rfl ((hown1.alloc _).alloc _) ⟨wr.heap.size + 1, 0, none⟩ 1 1 [.int .i64 ((ta : Int))] rfl rfl (news2 _ _ _ _) (by intro u hu; simp at hu; subst hu; rfl) (by unfold maxLen; omega) (by omega) (by simp; omega) ?_; intro v2 w2 hown2 hgrow2 _))
          go_roundw
          case rel => exact ⟨k + 1, by omega, by go_num, by rw [HE.out]; simpa [intC] using hown2, ((hbel.alloc (by omega) _).alloc (by simp; omega) _).grown hgrow2 (by simp; omega) (own_ge hown1)⟩
          case measure => simp [upN, intOf]; omega
        · obtain ⟨b, rfl⟩ : ∃ b, ta = b + 1 := ⟨ta - 1, by omega⟩
          have hb : b < s.size := by omega
          have HG : Hid (byt s b = (s[b]'hb).toNat) := byt_get s b hb
          by_cases h1 : tx = ⟨#[102, 110]⟩
          · subst h1
            have HO : Hid (opn ⟨#[102, 110]⟩ = true) := by show _ = _; decide
            by_cases h10 : (s[b]'hb).toNat = 10
            · have HE : Hid (cutK s (tks s) (k + 1) = cutK s (tks s) k ++ [b + 1]) := cutK_yes s _ k _ HT.out (by simp [cutB, HO.out, HG.out, h10])
              go_wp2_with (first
              | (at_builtin; refine wpList_append_own _ rfl (.tmp 34) (.tmp 37) 46 rfl wt.heap.size 3 i0 _ 1 8 Try.underlying46 hi hz0 hz1 hz2 rfl (by decide) _ _ _ rfl ((hown1.alloc _).alloc _) ⟨wr.heap.size + 1, 0, none⟩ 1 1 [.int .i64 (((b : Int) + 1))] rfl rfl (news2 _ _ _ _) (by intro u hu; simp at hu; subst hu; rfl) (by unfold maxLen; omega) (by omega) (by simp; omega) ?_; intro v2 w2 hown2 hgrow2 _))
              go_roundw
              case rel => exact ⟨k + 1, by omega, by go_num, by rw [HE.out]; simpa [intC] using hown2, ((hbel.alloc (by omega) _).alloc (by simp; omega) _).grown hgrow2 (by simp; omega) (own_ge hown1)⟩
              case measure => simp [upN, intOf]; omega
            · have HE : Hid (cutK s (tks s) (k + 1) = cutK s (tks s) k) := cutK_no s _ k _ HT.out (by simp [cutB, HG.out, h10, hk0])
              have hb10 : (((s[b]'hb).toNat : Int) == 10) = false := by simp; omega
              have HN : Hid (¬ (s[b]'hb).toNat = 10) := h10
              clear h10
              go_wp2
              go_roundw
              case rel => exact ⟨k + 1, by omega, by go_num, by rw [HE.out]; exact hown1.alloc _, hbel.alloc (by omega) _⟩
              case measure => simp [upN, intOf]; omega
          · have b1 : (tx.toList == [102, 110]) = false := bne_of tx ⟨#[102, 110]⟩ h1
            have e1 : ¬ tx.toList = [102, 110] := fun h => by rw [h] at b1; simp at b1
            by_cases h2 : tx = ⟨#[99, 104, 97, 110]⟩
            · subst h2
              have HO : Hid (opn ⟨#[99, 104, 97, 110]⟩ = true) := by show _ = _; decide
              clear h1 b1 e1
              by_cases h10 : (s[b]'hb).toNat = 10
              · have HE : Hid (cutK s (tks s) (k + 1) = cutK s (tks s) k ++ [b + 1]) := cutK_yes s _ k _ HT.out (by simp [cutB, HO.out, HG.out, h10])
                go_wp2_with (first
                | (at_builtin; refine wpList_append_own _ rfl (.tmp 34) (.tmp 37) 46 rfl wt.heap.size 3 i0 _ 1 8 Try.underlying46 hi hz0 hz1 hz2 rfl (by decide) _ _ _ rfl ((hown1.alloc _).alloc _) ⟨wr.heap.size + 1, 0, none⟩ 1 1 [.int .i64 (((b : Int) + 1))] rfl rfl (news2 _ _ _ _) (by intro u hu; simp at hu; subst hu; rfl) (by unfold maxLen; omega) (by omega) (by simp; omega) ?_; intro v2 w2 hown2 hgrow2 _))
                go_roundw
                case rel => exact ⟨k + 1, by omega, by go_num, by rw [HE.out]; simpa [intC] using hown2, ((hbel.alloc (by omega) _).alloc (by simp; omega) _).grown hgrow2 (by simp; omega) (own_ge hown1)⟩
                case measure => simp [upN, intOf]; omega
              · have HE : Hid (cutK s (tks s) (k + 1) = cutK s (tks s) k) := cutK_no s _ k _ HT.out (by simp [cutB, HG.out, h10, hk0])
                have hb10 : (((s[b]'hb).toNat : Int) == 10) = false := by simp; omega
                have HN : Hid (¬ (s[b]'hb).toNat = 10) := h10
                clear h10
                go_wp2
                go_roundw
                case rel => exact ⟨k + 1, by omega, by go_num, by rw [HE.out]; exact hown1.alloc _, hbel.alloc (by omega) _⟩
                case measure => simp [upN, intOf]; omega
            · have b2 : (tx.toList == [99, 104, 97, 110]) = false := bne_of tx ⟨#[99, 104, 97, 110]⟩ h2
              have e2 : ¬ tx.toList = [99, 104, 97, 110] := fun h => by rw [h] at b2; simp at b2
              have ho' : opn tx = false := by unfold opn; simp [h1, h2]
              have HE : Hid (cutK s (tks s) (k + 1) = cutK s (tks s) k) := cutK_no s _ k _ HT.out (by simp [cutB, ho', hk0])
              clear h1 h2 ho'
              go_wp2
              go_roundw
              case rel => exact ⟨k + 1, by omega, by go_num, by rw [HE.out]; exact hown1.alloc _, hbel.alloc (by omega) _⟩
              case measure => simp [upN, intOf]; omega
      · have hkn : k = (tks s).length := by omega
        subst hkn
        go_wp2
        go_ret
        exact ⟨_, rfl, own_base hown1 hbt.size, hbt.trans (hbel.mono hbt.size)⟩

/-! Word and Name. -/
theorem wd_all (s : ByteArray) (h0 : 0 < s.size) (h : ∀ j, j < s.size → ltr (byt s j) = true ∨ (j ≠ 0 ∧ dgt (byt s j) = true)) : ltr (byt s 0) = true ∧ spE wrd s 0 = s.size := by
  refine ⟨by rcases h 0 h0 with h | h; exact h; exact absurd rfl h.1, ?_⟩
  have : ∀ n i, s.size - i = n → i ≤ s.size → spE wrd s i = s.size := by
    intro n
    induction n with
    | zero => intro i h1 h2; rw [spE_out wrd s i (by omega)]; omega
    | succ n ih =>
      intro i h1 h2
      rw [spE_go wrd s i (by omega) (by unfold wrd; rcases h i (by omega) with h | h; rw [h]; rfl; rw [h.2]; simp)]
      exact ih (i + 1) (by omega) (by omega)
  exact this _ 0 rfl (by omega)
theorem wd_one (s : ByteArray) (j : Nat) (hj : j < s.size) (h : spE wrd s 0 = s.size) : wrd (byt s j) = true := by
  have : ∀ n i, j - i = n → i ≤ j → spE wrd s i = s.size → wrd (byt s j) = true := by
    intro n
    induction n with
    | zero =>
      intro i h1 h2 h3
      have : i = j := by omega
      subst this
      cases hw : wrd (byt s i) with
      | true => rfl
      | false => rw [spE_stop wrd s i hj hw] at h3; omega
    | succ n ih =>
      intro i h1 h2 h3
      cases hw : wrd (byt s i) with
      | true => exact ih (i + 1) (by omega) (by omega) (by rw [← spE_go wrd s i (by omega) hw]; exact h3)
      | false => rw [spE_stop wrd s i (by omega) hw] at h3; omega
  exact this _ 0 rfl (by omega) h
theorem wd_false (s : ByteArray) (j : Nat) (hj : j < s.size) (h1 : ltr (byt s j) = false) (h2 : j = 0 ∨ dgt (byt s j) = false) : wdB s = false := by
  cases hw : wdB s with
  | false => rfl
  | true =>
    unfold wdB at hw
    simp at hw
    have := wd_one s j hj hw.2.2
    unfold wrd at this
    rw [h1] at this
    rcases h2 with h2 | h2
    · subst h2; rw [hw.2.1] at h1; cases h1
    · rw [h2] at this; cases this
theorem wd_true (s : ByteArray) (h0 : 0 < s.size) (h : ∀ j, j < s.size → ltr (byt s j) = true ∨ (j ≠ 0 ∧ dgt (byt s j) = true)) : wdB s = decide (s.size ≤ 12) := by
  have := wd_all s h0 h
  unfold wdB
  rw [this.1, this.2]
  simp [h0]
def RelWd (s : ByteArray) (i : Value) : Prop := ∃ k : Nat, k ≤ s.size ∧ i = .int .i64 (k : Int) ∧ ∀ j, j < k → ltr (byt s j) = true ∨ (j ≠ 0 ∧ dgt (byt s j) = true)
set_option maxHeartbeats 1000000 in
set_option maxRecDepth 100000 in
theorem refWord_any (s : ByteArray) (w : World) (hs : s.size ≤ maxLen) :
    Calls Try.prog 81 #[.string s] w fun e w' => e = .returned (.bool (wdB s)) ∧ w' = w := by
  unfold maxLen at hs
  go_enter Try.func81, Try.ntmps81
  go_wp2
  go_loop [6] (fun i => RelWd s i) (fun i => upS s i)
  case atStart => exact ⟨0, Nat.zero_le _, rfl, fun j hj => absurd hj (Nat.not_lt_zero _)⟩
  case round =>
    obtain ⟨k, hk, rfl, hall⟩ := hrel
    have HA : Hid (∀ j, j < k → ltr (byt s j) = true ∨ (j ≠ 0 ∧ dgt (byt s j) = true)) := hall
    clear hall
    by_cases hlt : k < s.size
    · have HG : Hid (byt s k = (s[k]'hlt).toNat) := byt_get s k hlt
      by_cases hl : ltr (s[k]'hlt).toNat = true
      · go_wp2_with (first
          | (go_at_call 61; refine (refLetter_any _ _).mono ?_; rintro e w' ⟨rfl, hw'⟩; subst w'))
        go_round
        case rel =>
          refine ⟨k + 1, by omega, by go_num, fun j hj => ?_⟩
          by_cases e : j = k
          · subst e; exact .inl (by rw [HG.out]; exact hl)
          · exact HA.out j (by omega)
        case measure => simp [upS, intOf]; omega
      · have hl' : ltr (s[k]'hlt).toNat = false := by simpa using hl
        clear hl
        by_cases hk0 : k = 0
        · have hb0 : ((k : Int) == 0) = true := by simp [hk0]
          have HF : Hid (wdB s = false) := wd_false s k hlt (by rw [HG.out]; exact hl') (.inl hk0)
          clear hk0
          go_wp2_with (first
            | (go_at_call 61; refine (refLetter_any _ _).mono ?_; rintro e w' ⟨rfl, hw'⟩; subst w'))
          go_ret
          exact ⟨ret_bool HF.out.symm, rfl⟩
        · have hb0 : ((k : Int) == 0) = false := by simp; omega
          have HK : Hid (¬ k = 0) := hk0
          clear hk0
          by_cases hd : dgt (s[k]'hlt).toNat = true
          · go_wp2_with (first
              | (go_at_call 61; refine (refLetter_any _ _).mono ?_; rintro e w' ⟨rfl, hw'⟩; subst w')
              | (go_at_call 62; refine (refDigit_any _ _).mono ?_; rintro e w' ⟨rfl, hw'⟩; subst w'))
            go_round
            case rel =>
              refine ⟨k + 1, by omega, by go_num, fun j hj => ?_⟩
              by_cases e : j = k
              · subst e; exact .inr ⟨HK.out, by rw [HG.out]; exact hd⟩
              · exact HA.out j (by omega)
            case measure => simp [upS, intOf]; omega
          · have hd' : dgt (s[k]'hlt).toNat = false := by simpa using hd
            have HF : Hid (wdB s = false) := wd_false s k hlt (by rw [HG.out]; exact hl') (.inr (by rw [HG.out]; exact hd'))
            clear hd
            go_wp2_with (first
              | (go_at_call 61; refine (refLetter_any _ _).mono ?_; rintro e w' ⟨rfl, hw'⟩; subst w')
              | (go_at_call 62; refine (refDigit_any _ _).mono ?_; rintro e w' ⟨rfl, hw'⟩; subst w'))
            go_ret
            exact ⟨ret_bool HF.out.symm, rfl⟩
    · by_cases h0 : 0 < s.size
      · have HW : Hid (wdB s = decide (s.size ≤ 12)) := wd_true s h0 (fun j hj => HA.out j (by omega))
        go_wp2
        all_goals
          go_ret
          exact ⟨ret_bool (by rw [HW.out, Bool.eq_iff_iff]; simp; try omega), rfl⟩
      · have hE : s = ⟨#[]⟩ := ByteArray.ext (Array.eq_empty_of_size_eq_zero (by simpa using h0))
        subst hE
        go_wp2
        go_ret
        exact ⟨rfl, rfl⟩
theorem getD_mem (l : List ByteArray) (k : Nat) (h : k < l.length) : l.getD k ByteArray.empty ∈ l := by
  rw [List.getD_eq_getElem?_getD, List.getElem?_eq_getElem h]
  exact List.getElem_mem h
theorem mem_getD (l : List ByteArray) (x : ByteArray) (h : x ∈ l) : ∃ k, k < l.length ∧ l.getD k ByteArray.empty = x := by
  obtain ⟨k, hk, e⟩ := List.getElem_of_mem h
  exact ⟨k, hk, by rw [List.getD_eq_getElem?_getD, List.getElem?_eq_getElem hk]; exact e⟩
def RelNm (x : ByteArray) (i : Value) : Prop := ∃ k : Nat, k ≤ 9 ∧ i = .int .i64 (k : Int) ∧ ∀ j, j < k → ownL.getD j ByteArray.empty ≠ x
set_option maxHeartbeats 1000000 in
set_option maxRecDepth 100000 in
theorem refName_any (s : ByteArray) (w : World) (hs : s.size ≤ maxLen) :
    Calls Try.prog 65 #[.string s] w fun e w' => e = .returned (.bool (nmB s)) ∧ Below w.heap.size w w' := by
  go_enter Try.func65, Try.ntmps65
  go_wp2_with (first
    | (go_at_call 80; refine (refOwn_any _).mono ?_; rintro e w' ⟨rfl, hw'⟩; subst w'))
  have hB : Below w.heap.size w (w.alloc ownO) := (Below.refl _ _).alloc (Nat.le_refl _) _
  have hcell := own_cell w
  generalize w.alloc ownO = w1 at *
  go_loop [4, 7] (fun _ i => RelNm s i) (fun _ i => upN 9 i)
  case atStart => exact ⟨0, Nat.zero_le _, rfl, fun j hj => absurd hj (Nat.not_lt_zero _)⟩
  case round =>
    obtain ⟨k, hk, rfl, hne⟩ := hrel
    by_cases hlt : k < 9
    · have hc := hcell k hlt
      clear hcell
      generalize hy : ownL.getD k ByteArray.empty = y at hc
      have HY : Hid (ownL.getD k ByteArray.empty = y) := hy
      clear hy
      by_cases he : y = s
      · have hb : (y.toList == s.toList) = true := (Lib.bytes_beq_iff _ _).2 he
        have HF : Hid (nmB s = false) := by
          show _ = _
          unfold nmB
          rw [(Lib.containsS_iff ownL s).2 (by rw [← he, ← HY.out]; exact getD_mem _ _ hlt)]
          simp
        clear he
        go_wp2
        go_ret
        exact ⟨ret_bool HF.out.symm, hB⟩
      · have hb : (y.toList == s.toList) = false := (Lib.bytes_beq_false_iff _ _).2 he
        have HN : Hid (¬ y = s) := he
        clear he
        go_wp2
        go_round
        case rel =>
          refine ⟨k + 1, by omega, by go_num, fun j hj => ?_⟩
          by_cases e : j = k
          · subst e; rw [HY.out]; exact HN.out
          · exact hne j (by omega)
        case measure => simp [upN, intOf]; omega
    · have HF : Hid (nmB s = wdB s) := by
        show _ = _
        unfold nmB
        cases hc : Lib.containsS ownL s with
        | false => simp
        | true =>
          obtain ⟨j, hj, e⟩ := mem_getD _ _ ((Lib.containsS_iff ownL s).1 hc)
          exact absurd e (hne j (by have : ownL.length = 9 := rfl; omega))
      go_wp2_with (first
        | (go_at_call 81; refine (refWord_any s _ hs).mono ?_; rintro e w' ⟨rfl, hw'⟩; subst w'))
      go_ret
      exact ⟨ret_bool HF.out.symm, hB⟩
end Go.Proofs.Ytjpmnholpeidmaa

namespace Go.Proofs.Ytjpmnholpeidmaa
open Go.RowKit
/-- The reader at block gp, having read what is wrong so far (its list in block D), so deep. -/
structure QSt (gp : Nat) (w : World) (L : List Tok) (sz : Nat) (ds : List Dg) (dp : Nat) (D : Option Nat) : Prop where
  blk : ∃ p c v, w.heap[gp]? = some (.cells #[.slice p L.length c, .int .i64 (sz : Int), v, .int .i64 (dp : Int)] 86 (0, 0)) ∧
    (0 < L.length → ∃ g, p = some ⟨g, 0, none⟩ ∧ g < gp ∧ TokAt w g 0 L) ∧ w.ownsRow (gp + 1) 60 4 v ds.length (dsC ds) ∧ v.ownBlock = D
  len : L.length ≤ 4000
  siz : sz ≤ 4000
  end_ : ∀ t ∈ L, t.a + t.x.size ≤ sz ∧ okT t ∧ (t.k = 2 → ∀ j, j < t.x.size → dgt (byt t.x j) = true)
  inc : L.Pairwise (fun t u => t.a < u.a)
  dp1 : dp ≤ 12
theorem QSt.gp_lt {gp : Nat} {w : World} {L : List Tok} {sz dp : Nat} {ds : List Dg} {D : Option Nat} (h : QSt gp w L sz ds dp D) : gp < w.heap.size := by
  obtain ⟨p, c, v, hb, _⟩ := h.blk
  exact (Array.getElem?_eq_some_iff.1 hb).1
theorem QSt.below {gp : Nat} {w w' : World} {L : List Tok} {sz dp : Nat} {ds : List Dg} {D : Option Nat} (h : QSt gp w L sz ds dp D) (hb : Below w.heap.size w w') : QSt gp w' L sz ds dp D := by
  have hg := h.gp_lt
  obtain ⟨p, c, v, h1, h2, h3, h4⟩ := h.blk
  refine ⟨⟨p, c, v, (hb.block gp hg).trans h1, fun hl => ?_, own_below h3 hb, h4⟩, h.len, h.siz, h.end_, h.inc, h.dp1⟩
  obtain ⟨g, e1, e2, e3⟩ := h2 hl
  exact ⟨g, e1, e2, e3.below hb (by omega)⟩
/-- The reader's cells. -/
theorem QSt.cells {gp : Nat} {w : World} {L : List Tok} {sz dp : Nat} {ds : List Dg} {D : Option Nat} (h : QSt gp w L sz ds dp D) :
    ∃ p c v, w.cell? ⟨gp, 0, none⟩ = some (.slice p L.length c) ∧ w.cell? ⟨gp, 1, none⟩ = some (.int .i64 (sz : Int)) ∧ w.cell? ⟨gp, 2, none⟩ = some v ∧ w.cell? ⟨gp, 3, none⟩ = some (.int .i64 (dp : Int)) ∧ (∀ o, w.frozen? ⟨gp, o, none⟩ = false) ∧
      (0 < L.length → ∃ g, p = some ⟨g, 0, none⟩ ∧ g < gp ∧ TokAt w g 0 L) ∧ w.ownsRow (gp + 1) 60 4 v ds.length (dsC ds) ∧ v.ownBlock = D := by
  obtain ⟨p, c, v, h1, h2, h3, h4⟩ := h.blk
  exact ⟨p, c, v, cell_of_row _ _ _ _ _ _ h1, cell_of_row _ _ _ _ _ _ h1, cell_of_row _ _ _ _ _ _ h1, cell_of_row _ _ _ _ _ _ h1, fun o => by simp [World.frozen?, h1], h2, h3, h4⟩
/-- How deep the reader is is set. -/
theorem QSt.setDeep {gp : Nat} {w : World} {L : List Tok} {sz dp : Nat} {ds : List Dg} {D : Option Nat} (h : QSt gp w L sz ds dp D) (d : Nat) (hd : d ≤ 12) : QSt gp (w.setCell ⟨gp, 3, none⟩ (.int .i64 (d : Int))) L sz ds d D ∧ Stp gp D D w (w.setCell ⟨gp, 3, none⟩ (.int .i64 (d : Int))) := by
  obtain ⟨p, c, v, h1, h2, h3, h4⟩ := h.blk
  have hv : v.ownBlock ≠ some gp := fun e => by have := (h3.lt gp e).1; omega
  refine ⟨⟨⟨p, c, v, ?_, fun hl => ?_, ownsRow_setCell_other h3 hv _, h4⟩, h.len, h.siz, h.end_, h.inc, hd⟩, rfl, rfl, rfl, by simp, fun k _ hk _ => Below.heap_setCell w _ _ k hk, .inl rfl⟩
  · simp [World.setCell, Array.getElem?_modify, h1]
  · obtain ⟨g, e1, e2, e3⟩ := h2 hl
    refine ⟨g, e1, e2, fun j t ht => ?_⟩
    have e : ∀ o, (w.setCell ⟨gp, 3, none⟩ (.int .i64 (d : Int))).cell? ⟨g, o, none⟩ = w.cell? ⟨g, o, none⟩ := fun o => World.cell?_of_block (a := ⟨g, o, none⟩) (Below.heap_setCell w _ _ g (by simp; omega))
    rw [e, e, e]
    exact e3 j t ht
end Go.Proofs.Ytjpmnholpeidmaa

namespace Go.Proofs.Ytjpmnholpeidmaa
open Go.RowKit
attribute [local go_sem ↓] Go.wp_at_zero Go.wp_at_succ
section
variable {gp : Nat} {w : World} {L : List Tok} {sz dp : Nat} {ds : List Dg} {D : Option Nat}
set_option maxHeartbeats 1000000 in
set_option maxRecDepth 100000 in
theorem refT_any (hp : QSt gp w L sz ds dp D) (i : Nat) (hi : i ≤ 2199023255552) :
    Calls Try.prog 38 #[.pointer (some ⟨gp, 0, none⟩), .int .i64 (i : Int)] w fun e w' => e = .returned (tkV (tk L sz i)) ∧ Below w.heap.size w w' := by
  obtain ⟨p, c, v, c0, c1, c2, c3, hf, htok, hown, hD⟩ := hp.cells
  have hlen := hp.len
  have hgp := hp.gp_lt
  go_enter Try.func38, Try.ntmps38
  by_cases hlt : i < L.length
  · obtain ⟨g, rfl, hg, ht⟩ := htok (by omega)
    have ⟨t0, t1, t2⟩ := ht i _ (tok_of (sz := sz) hlt)
    rw [Nat.zero_add] at t0 t1 t2
    have hne : ¬ w.heap.size = gp := by omega
    have n0 := cell_alloc t0
    have n1 := cell_alloc t1
    have n2 := cell_alloc t2
    clear ht htok
    go_wp2
    exact bodyPost_ret (v := tkV (tk L sz i)) (by unfold tkV; simp [results, Try.results38, go_sem]) rfl ⟨rfl, (Below.refl _ _).alloc (Nat.le_refl _) _⟩
  · have hne : ¬ w.heap.size = gp := by omega
    clear htok
    go_wp2
    have e := tok_no (sz := sz) (L := L) (i := i) (by omega)
    exact bodyPost_ret (v := tkV (tk L sz i)) (by rw [e]; unfold tkV noB; simp [results, Try.results38, go_sem]) rfl ⟨rfl, (Below.refl _ _).alloc (Nat.le_refl _) _⟩
set_option maxHeartbeats 1000000 in
set_option maxRecDepth 100000 in
theorem refIs_any (hp : QSt gp w L sz ds dp D) (i : Nat) (hi : i ≤ 2199023255552) (s : ByteArray) :
    Calls Try.prog 36 #[.pointer (some ⟨gp, 0, none⟩), .int .i64 (i : Int), .string s] w fun e w' => e = .returned (.bool (isT L i s)) ∧ w' = w := by
  obtain ⟨p, c, v, c0, c1, c2, c3, hf, htok, hown, hD⟩ := hp.cells
  have hlen := hp.len
  go_enter Try.func36, Try.ntmps36
  by_cases hlt : i < L.length
  · obtain ⟨g, rfl, hg, ht⟩ := htok (by omega)
    have ⟨t0, t1, t2⟩ := ht i _ (tok_of (sz := sz) hlt)
    rw [Nat.zero_add] at t0 t1 t2
    have HI : Hid (isT L i s = decide ((tk L sz i).x = s)) := by show _ = _; unfold isT; rw [tok_of (sz := sz) hlt]
    clear ht htok
    by_cases he : (tk L sz i).x = s
    · have hb : ((tk L sz i).x.toList == s.toList) = true := (Lib.bytes_beq_iff _ _).2 he
      go_wp2
      go_ret
      exact ⟨ret_bool (by rw [HI.out]; simp [he]), rfl⟩
    · have hb : ((tk L sz i).x.toList == s.toList) = false := (Lib.bytes_beq_false_iff _ _).2 he
      have HN : Hid (¬ (tk L sz i).x = s) := he
      clear he
      go_wp2
      go_ret
      exact ⟨ret_bool (by rw [HI.out]; simp [HN.out]), rfl⟩
  · have HI : Hid (isT L i s = false) := by show _ = _; unfold isT; rw [List.getElem?_eq_none (by omega)]
    clear htok
    go_wp2
    go_ret
    exact ⟨ret_bool HI.out.symm, rfl⟩
set_option maxHeartbeats 1000000 in
set_option maxRecDepth 100000 in
theorem refEnd_any (hp : QSt gp w L sz ds dp D) (i : Nat) (hi : i ≤ L.length) :
    Calls Try.prog 102 #[.pointer (some ⟨gp, 0, none⟩), .int .i64 (i : Int)] w fun e w' => e = .returned (.int .i64 (endT L sz i : Nat)) ∧ ∃ m, w' = w.drewN m := by
  obtain ⟨p, c, v, c0, c1, c2, c3, hf, htok, hown, hD⟩ := hp.cells
  have hlen := hp.len
  have hsiz := hp.siz
  have hend := hp.end_
  go_enter Try.func102, Try.ntmps102
  by_cases h0 : i = 0
  · subst h0
    clear htok
    go_wp2
    go_ret
    exact ⟨rfl, 0, rfl⟩
  · obtain ⟨j, rfl⟩ : ∃ j, i = j + 1 := ⟨i - 1, by omega⟩
    obtain ⟨g, rfl, hg, ht⟩ := htok (by omega)
    have hj := tok_of (L := L) (sz := sz) (i := j) (by omega)
    have ⟨t0, t1, t2⟩ := ht j _ hj
    rw [Nat.zero_add] at t0 t1 t2
    have hs := (hend _ (List.mem_of_getElem? hj)).1
    have gw : IntKind.i64.wrap (((tk L sz j).a : Int) + ((tk L sz j).x.size : Int)) = ((tk L sz j).a : Int) + ((tk L sz j).x.size : Int) := wrap_id _ (by omega) (by omega)
    have gw2 : IntKind.i64.wrap ((j : Int) + 1 - 1) = (j : Int) := by rw [wrap_id _ (by omega) (by omega)]; omega
    have gi : (0 : Int) ≤ (j : Int) := by omega
    have gj : (j : Int) < (L.length : Int) := by omega
    clear ht htok hend
    go_wp2
    go_quiet (fail)
    go_wp2
    go_ret
    exact ⟨ret_int (by unfold endT; rw [if_neg (by omega), Nat.add_sub_cancel]; go_num), _, rfl⟩
end
end Go.Proofs.Ytjpmnholpeidmaa

namespace Go.Proofs.Ytjpmnholpeidmaa
open Go.RowKit
attribute [local go_sem ↓] Go.wp_at_zero Go.wp_at_succ
attribute [local go_sem ↓] app_hide app_hide3
theorem bad_endQ {gp : Nat} {w w1 w2 : World} {L : List Tok} {sz dp : Nat} {ds : List Dg} {D : Option Nat} {o o2 : Obj} {v : Value} {g cap : Nat} {d : Dg} (hb1 : Below w.heap.size w w1) (hp1 : QSt gp w1 L sz ds dp D) (hc : w1.cell? ⟨gp, 2, none⟩ = some v)
    (hown2 : w2.ownsRow (gp + 1) 60 4 (.slice (some ⟨g, 0, none⟩) (ds.length + 1) cap) (ds.length + 1) (dsC ds ++ dgC d)) (hg : ((w1.alloc o).alloc o2).drew.grownBy w2 v.ownBlock)
    (hat : v.ownBlock = some g ∨ g = ((w1.alloc o).alloc o2).drew.heap.size) :
    ∃ D', QSt gp (w2.setCell ⟨gp, 2, none⟩ (.slice (some ⟨g, 0, none⟩) (ds.length + 1) cap)) L sz (ds ++ [d]) dp D' ∧ Stp gp D D' w (w2.setCell ⟨gp, 2, none⟩ (.slice (some ⟨g, 0, none⟩) (ds.length + 1) cap)) := by
  have hgp := hp1.gp_lt
  have hs1 := hb1.size
  obtain ⟨p, c, v', h1, h2, h3, h4⟩ := hp1.blk
  have hv : v' = v := by
    have e := cell_of_row _ gp 2 _ _ _ h1
    rw [hc] at e
    simpa using e.symm
  subst hv
  have hne : some gp ≠ v'.ownBlock := fun e => by have := (h3.lt gp e.symm).1; omega
  have hgg : gp + 1 ≤ g := (hown2.lt g rfl).1
  have hW : ∀ k, k < w1.heap.size → some k ≠ v'.ownBlock → w2.heap[k]? = w1.heap[k]? := fun k hk hn =>
    ((hg.block k (by simp; omega) hn).trans (Below.heap_alloc (w1.alloc o) o2 k (by simp; omega))).trans (Below.heap_alloc w1 o k hk)
  have hset : ∀ k, k ≠ gp → (w2.setCell ⟨gp, 2, none⟩ (.slice (some ⟨g, 0, none⟩) (ds.length + 1) cap)).heap[k]? = w2.heap[k]? := fun k hk => Below.heap_setCell w2 _ _ k hk
  have hb := (hW gp hgp hne).trans h1
  refine ⟨some g, ⟨⟨p, c, .slice (some ⟨g, 0, none⟩) (ds.length + 1) cap, ?_, fun hl => ?_, ?_, rfl⟩, hp1.len, hp1.siz, hp1.end_, hp1.inc, hp1.dp1⟩, ?_⟩
  · simp [World.setCell, Array.getElem?_modify, hb]
  · obtain ⟨q, e1, e2, e3⟩ := h2 hl
    have hq : some q ≠ v'.ownBlock := fun e => by have := (h3.lt q e.symm).1; omega
    refine ⟨q, e1, e2, fun j t ht => ?_⟩
    have e : ∀ k, (w2.setCell ⟨gp, 2, none⟩ (.slice (some ⟨g, 0, none⟩) (ds.length + 1) cap)).cell? ⟨q, k, none⟩ = w1.cell? ⟨q, k, none⟩ := fun k => World.cell?_of_block (a := ⟨q, k, none⟩) ((hset q (by omega)).trans (hW q (by omega) hq))
    rw [e, e, e]
    exact e3 j t ht
  · have := ownsRow_setCell_other hown2 (a := ⟨gp, 2, none⟩) (by simp [Value.ownBlock]; omega) (.slice (some ⟨g, 0, none⟩) (ds.length + 1) cap)
    rw [dsC_snoc]
    simpa using this
  · refine ⟨?_, ?_, ?_, ?_, fun k hk hk2 hk3 => ?_, ?_⟩
    · exact hg.os.trans hb1.os
    · exact hg.tape.trans hb1.tape
    · exact hg.output.trans hb1.output
    · have := hg.size
      simp at this ⊢
      omega
    · exact ((hset k hk2).trans (hW k (by omega) (by rw [h4]; exact hk3))).trans (hb1.block k hk)
    · rcases hat with e | e
      · exact .inl (by rw [← h4, e])
      · exact .inr ⟨g, rfl, by rw [e]; simp; omega⟩
section
variable {gp : Nat} {w : World} {L : List Tok} {sz dp : Nat} {ds : List Dg} {D : Option Nat}
set_option maxHeartbeats 1000000 in
set_option maxRecDepth 100000 in
theorem refBad_any (hp : QSt gp w L sz ds dp D) (i : Nat) (hi : i ≤ 2199023255552) (e0 : Nat) (hds : ds.length + 1 ≤ 1099511627776) :
    Calls Try.prog 42 #[.pointer (some ⟨gp, 0, none⟩), .int .i64 (i : Int), .int .i64 (e0 : Int)] w fun e w' => e = .returned (.tuple #[]) ∧ ∃ D', QSt gp w' L sz (ds ++ [bad L sz i e0]) dp D' ∧ Stp gp D D' w w' := by
  obtain ⟨i0, hi0, hz0, hz1, hz2⟩ := info_parts Try.infoDg
  have hlen := hp.len
  go_enter Try.func42, Try.ntmps42
  go_wp2_with (first
    | (go_at_call 38; refine (refT_any hp i hi).mono ?_; rintro e w1 ⟨rfl, hb1⟩; unfold tkV; have hp1 := hp.below hb1))
  obtain ⟨p, c, v, c0, c1, c2, c3, hf, htok, hown, hD⟩ := hp1.cells
  have hgp := hp1.gp_lt
  have x2 := cell_alloc c2
  have y1 := cell_of_row (w1.alloc (Obj.cells #[.int .i64 ((tk L sz i).k : Int), .string (tk L sz i).x, .int .i64 ((tk L sz i).a : Int)] 83)) w1.heap.size 1 _ _ (0, 0) (heap_alloc_new w1 _)
  have y2 := cell_of_row (w1.alloc (Obj.cells #[.int .i64 ((tk L sz i).k : Int), .string (tk L sz i).x, .int .i64 ((tk L sz i).a : Int)] 83)) w1.heap.size 2 _ _ (0, 0) (heap_alloc_new w1 _)
  simp only [List.getElem?_toArray, List.getElem?_cons_succ, List.getElem?_cons_zero] at y1 y2
  generalize (Obj.cells #[.int .i64 ((tk L sz i).k : Int), .string (tk L sz i).x, .int .i64 ((tk L sz i).a : Int)] 83) = o at *
  have hsum : (tk L sz i).a + (tk L sz i).x.size ≤ sz := by
    rcases Nat.lt_or_ge i L.length with h | h
    · exact (hp.end_ _ (List.mem_of_getElem? (tok_of h))).1
    · rw [tok_no h]; exact Nat.le_refl _
  have hsz := hp.siz
  have gw : IntKind.i64.wrap (((tk L sz i).a : Int) + ((tk L sz i).x.size : Int)) = ((tk L sz i).a : Int) + ((tk L sz i).x.size : Int) := wrap_id _ (by omega) (by omega)
  have hne1 : some gp ≠ v.ownBlock := fun e => by have := (hown.lt gp e.symm).1; omega
  have hne2 : some w1.heap.size ≠ v.ownBlock := fun e => by have := (hown.lt _ e.symm).2; omega
  have hf2 : (w1.alloc o).frozen? ⟨gp, 2, none⟩ = false := (World.frozen?_of_block (a := ⟨gp, 2, none⟩) (Below.heap_alloc w1 o gp hgp)).trans (hf 2)
  have hf3 : ∀ o2, ((w1.alloc o).alloc o2).frozen? ⟨gp, 2, none⟩ = false := fun o2 => (World.frozen?_of_block (a := ⟨gp, 2, none⟩) (Below.heap_alloc (w1.alloc o) o2 gp (by simp; omega))).trans hf2
  have hne3 : w1.heap.size ≠ gp := by omega
  have hmax : ds.length + 1 ≤ maxLen := by unfold maxLen; omega
  have hbyt : (ds.length + 1) * 40 ≤ 140737488355328 := by omega
  have hbs : ∀ o2, gp + 1 ≤ ((w1.alloc o).alloc o2).drew.heap.size := fun o2 => by simp; omega
  have hl1 : gp < w1.heap.size + 1 := by omega
  have hl2 : w1.heap.size < w1.heap.size + 1 := by omega
  have hb : dgC (bad L sz i e0) = [.int .i64 ((tk L sz i).a : Int), .int .i64 (((tk L sz i).a : Int) + ((tk L sz i).x.size : Int)), .int .i64 (e0 : Int), .string (tk L sz i).x] := by simp [dgC, bad]
  have HB : Hid (dgC (bad L sz i e0) = [.int .i64 ((tk L sz i).a : Int), .int .i64 (((tk L sz i).a : Int) + ((tk L sz i).x.size : Int)), .int .i64 (e0 : Int), .string (tk L sz i).x]) := hb
  have hone : ∀ u ∈ [Value.int .i64 ((tk L sz i).a : Int), .int .i64 (((tk L sz i).a : Int) + ((tk L sz i).x.size : Int)), .int .i64 (e0 : Int), .string (tk L sz i).x], u.oneCell' = true := by rw [← hb]; exact dg_cell _
  clear hb
  obtain ⟨g, cap, w2, hrun, hown2, hgrow2, hat, hlt⟩ := run_append_lies (P := Try.prog) (((w1.alloc o).alloc (.cells #[.int .i64 ((tk L sz i).a : Int), .int .i64 (((tk L sz i).a : Int) + ((tk L sz i).x.size : Int)), .int .i64 (e0 : Int), .string (tk L sz i).x] 60)).drew) 33 33 (gp + 1) 60 i0 _ 4 40 Try.underlying33 hi0 hz0 hz1 hz2 rfl (by decide) v ds.length (dsC ds) (((hown.alloc _).alloc _).drew) ⟨w1.heap.size + 1, 0, none⟩ 1 1 [.int .i64 ((tk L sz i).a : Int), .int .i64 (((tk L sz i).a : Int) + ((tk L sz i).x.size : Int)), .int .i64 (e0 : Int), .string (tk L sz i).x] rfl (news2d _ _ _ _) hone (by decide) hmax hbyt (hbs _) _ rfl
  have hA : appR Try.prog #[33, 33] 33 #[v, .slice (some ⟨w1.heap.size + 1, 0, none⟩) 1 1] (((w1.alloc o).alloc (.cells #[.int .i64 ((tk L sz i).a : Int), .int .i64 (((tk L sz i).a : Int) + ((tk L sz i).x.size : Int)), .int .i64 (e0 : Int), .string (tk L sz i).x] 60)).drew) = _ := hrun
  have z1 := bad_stay hgrow2 gp hl1 hne1
  have z2 := (z1.1 2).trans (x2 o)
  have z3 := (z1.2 2).trans hf2
  have x3 : ∀ o2, ((w1.alloc o).alloc o2).cell? ⟨gp, 2, none⟩ = some v := cell_alloc (x2 o)
  have y3 : ∀ o2, ((w1.alloc o).alloc o2).cell? ⟨w1.heap.size, 1, none⟩ = some (.string (tk L sz i).x) := cell_alloc y1
  have y4 : ∀ o2, ((w1.alloc o).alloc o2).cell? ⟨w1.heap.size, 2, none⟩ = some (.int .i64 ((tk L sz i).a : Int)) := cell_alloc y2
  have HG : Hid (((w1.alloc o).alloc (.cells #[.int .i64 ((tk L sz i).a : Int), .int .i64 (((tk L sz i).a : Int) + ((tk L sz i).x.size : Int)), .int .i64 (e0 : Int), .string (tk L sz i).x] 60)).drew.grownBy w2 v.ownBlock) := hgrow2
  clear hgrow2 hone z1 hrun
  go_region
  go_wp2
  go_end0
  exact ⟨rfl, bad_endQ hb1 hp1 c2 (by rw [HB.out]; exact hown2) HG.out hat⟩
end
end Go.Proofs.Ytjpmnholpeidmaa

namespace Go.Proofs.Ytjpmnholpeidmaa
open Go.RowKit
attribute [local go_sem ↓] Go.wp_at_zero Go.wp_at_succ
/-- A step of the reader: it told of what is wrong, and left the rest as it was. -/
def TolQ (gp : Nat) (L : List Tok) (sz dp : Nat) (D : Option Nat) (ds : List Dg) (w w' : World) : Prop := ∃ D', QSt gp w' L sz ds dp D' ∧ Stp gp D D' w w'
theorem TolQ.same {gp : Nat} {w w' : World} {L : List Tok} {sz dp : Nat} {ds : List Dg} {D : Option Nat} (hp : QSt gp w L sz ds dp D) (hb : Below w.heap.size w w') : TolQ gp L sz dp D ds w w' := ⟨D, hp.below hb, Stp.below hb⟩
theorem TolQ.after {gp : Nat} {w w1 w' : World} {L : List Tok} {sz dp : Nat} {ds : List Dg} {D : Option Nat} (hb : Below w.heap.size w w1) (h : TolQ gp L sz dp D ds w1 w') : TolQ gp L sz dp D ds w w' := by
  obtain ⟨D', h1, h2⟩ := h
  exact ⟨D', h1, (Stp.below hb).trans h2⟩
theorem TolQ.below {gp : Nat} {w w1 w' : World} {L : List Tok} {sz dp : Nat} {ds : List Dg} {D : Option Nat} (h : TolQ gp L sz dp D ds w w1) (hb : Below w1.heap.size w1 w') : TolQ gp L sz dp D ds w w' := by
  obtain ⟨D', h1, h2⟩ := h
  exact ⟨D', h1.below hb, h2.trans (Stp.below hb)⟩
theorem tk_smallQ {gp : Nat} {w : World} {L : List Tok} {sz dp : Nat} {ds : List Dg} {D : Option Nat} (hp : QSt gp w L sz ds dp D) (i : Nat) : (tk L sz i).a + (tk L sz i).x.size ≤ sz := by
  rcases Nat.lt_or_ge i L.length with h | h
  · exact (hp.end_ _ (List.mem_of_getElem? (tok_of h))).1
  · rw [tok_no h]; exact Nat.le_refl _
/-- A token laid down stays, whatever is laid down after it. -/
theorem tk_at {w w1 w' : World} {t : Tok} (hb1 : Below w.heap.size w w1) (hb2 : Below (w1.alloc (.cells #[.int .i64 (t.k : Int), .string t.x, .int .i64 (t.a : Int)] 83)).heap.size (w1.alloc (.cells #[.int .i64 (t.k : Int), .string t.x, .int .i64 (t.a : Int)] 83)) w') :
    w'.cell? ⟨w1.heap.size, 0, none⟩ = some (.int .i64 (t.k : Int)) ∧ w'.cell? ⟨w1.heap.size, 1, none⟩ = some (.string t.x) ∧ w'.cell? ⟨w1.heap.size, 2, none⟩ = some (.int .i64 (t.a : Int)) ∧ Below w.heap.size w w' := by
  have hl : w1.heap.size < (w1.alloc (.cells #[.int .i64 (t.k : Int), .string t.x, .int .i64 (t.a : Int)] 83)).heap.size := by simp
  refine ⟨?_, ?_, ?_, ?_⟩
  · exact ((bcell hb2).1 _ 0 hl).trans (cell_of_row _ w1.heap.size 0 _ _ (0, 0) (heap_alloc_new w1 _))
  · exact ((bcell hb2).1 _ 1 hl).trans (cell_of_row _ w1.heap.size 1 _ _ (0, 0) (heap_alloc_new w1 _))
  · exact ((bcell hb2).1 _ 2 hl).trans (cell_of_row _ w1.heap.size 2 _ _ (0, 0) (heap_alloc_new w1 _))
  · exact hb1.trans (((Below.refl _ _).alloc (Nat.le_refl _) _).trans (hb2.mono (by simp)) |>.mono hb1.size)
section
variable {gp : Nat} {w : World} {L : List Tok} {sz dp : Nat} {ds : List Dg} {D : Option Nat}
set_option maxHeartbeats 1000000 in
set_option maxRecDepth 100000 in
theorem refNeed_any (hp : QSt gp w L sz ds dp D) (i : Nat) (hi : i ≤ 2199023255552) (s : ByteArray) (hds : ds.length + 1 ≤ 1099511627776) :
    Calls Try.prog 40 #[.pointer (some ⟨gp, 0, none⟩), .int .i64 (i : Int), .string s] w fun e w' => e = .returned (.tuple #[.int .i64 ((pNeed L sz i s).i : Nat), .bool (pNeed L sz i s).v]) ∧ TolQ gp L sz dp D (ds ++ (pNeed L sz i s).d) w w' := by
  go_enter Try.func40, Try.ntmps40
  unfold pNeed
  cases hI : isT L i s
  · go_wp2_with (first
      | (go_at_call 36; refine (refIs_any hp i hi s).mono ?_; rintro e w1 ⟨rfl, hw1⟩; subst w1; rw [hI])
      | (go_at_call 42; refine (refBad_any hp i hi 2 hds).mono ?_; rintro e w1 ⟨rfl, ht⟩))
    exact bodyPost_ret (v := .tuple #[.int .i64 (i : Nat), .bool false]) (by simp [results, Try.results40, go_sem]) rfl ⟨rfl, ht⟩
  · go_wp2_with (first
      | (go_at_call 36; refine (refIs_any hp i hi s).mono ?_; rintro e w1 ⟨rfl, hw1⟩; subst w1; rw [hI]))
    exact bodyPost_ret (v := .tuple #[.int .i64 ((i + 1 : Nat) : Int), .bool true]) (by simp [results, Try.results40, go_sem]) rfl ⟨rfl, TolQ.same hp (Below.refl _ _)⟩
set_option maxHeartbeats 1000000 in
set_option maxRecDepth 100000 in
theorem refNamed_any (hp : QSt gp w L sz ds dp D) (i : Nat) (hi : i ≤ 2199023255552) (hds : ds.length + 1 ≤ 1099511627776) :
    Calls Try.prog 39 #[.pointer (some ⟨gp, 0, none⟩), .int .i64 (i : Int)] w fun e w' => e = .returned (.tuple #[.string (pNamed L sz i).v, .int .i64 ((pNamed L sz i).i : Nat)]) ∧ TolQ gp L sz dp D (ds ++ (pNamed L sz i).d) w w' := by
  have hsz := hp.siz
  have htk := tk_smallQ hp i
  have hx : (tk L sz i).x.size ≤ maxLen := by unfold maxLen; omega
  go_enter Try.func39, Try.ntmps39
  unfold pNamed
  rcases Bool.eq_false_or_eq_true (nmB (tk L sz i).x) with hN | hN
  · go_wp2_with (first
      | (go_at_call 38; refine (refT_any hp i hi).mono ?_; rintro e w1 ⟨rfl, hb1⟩; unfold tkV)
      | (go_at_call 65; refine (refName_any _ _ hx).mono ?_; rintro e w2 ⟨rfl, hb2⟩; rw [hN]; obtain ⟨z0, z1, z2, hb3⟩ := tk_at hb1 hb2; clear hb2))
    exact bodyPost_ret (v := .tuple #[.string (tk L sz i).x, .int .i64 ((i + 1 : Nat) : Int)]) (by simp [results, Try.results39, go_sem]) rfl ⟨rfl, TolQ.same hp hb3⟩
  by_cases hk : (tk L sz i).k = 1
  · have hK : Hid ((tk L sz i).k = 1) := hk
    rw [if_neg (by simp [hN]), if_pos hk]
    clear hk
    go_wp2_with (first
      | (go_at_call 38; refine (refT_any hp i hi).mono ?_; rintro e w1 ⟨rfl, hb1⟩; unfold tkV)
      | (go_at_call 65; refine (refName_any _ _ hx).mono ?_; rintro e w2 ⟨rfl, hb2⟩; rw [hN]; obtain ⟨z0, z1, z2, hb3⟩ := tk_at hb1 hb2; rw [hK.out] at z0; clear hb2)
      | (go_at_call 42; refine (refBad_any (hp.below hb3) i hi 7 hds).mono ?_; rintro e w3 ⟨rfl, ht⟩))
    exact bodyPost_ret (v := .tuple #[.string noB, .int .i64 ((i + 1 : Nat) : Int)]) (by simp [results, Try.results39, noB, go_sem]) rfl ⟨rfl, TolQ.after hb3 ht⟩
  · rw [if_neg (by simp [hN]), if_neg hk]
    go_wp2_with (first
      | (go_at_call 38; refine (refT_any hp i hi).mono ?_; rintro e w1 ⟨rfl, hb1⟩; unfold tkV)
      | (go_at_call 65; refine (refName_any _ _ hx).mono ?_; rintro e w2 ⟨rfl, hb2⟩; rw [hN]; obtain ⟨z0, z1, z2, hb3⟩ := tk_at hb1 hb2; clear hb2)
      | (go_at_call 42; refine (refBad_any (hp.below hb3) i hi 2 hds).mono ?_; rintro e w3 ⟨rfl, ht⟩))
    exact bodyPost_ret (v := .tuple #[.string noB, .int .i64 (i : Int)]) (by simp [results, Try.results39, noB, go_sem]) rfl ⟨rfl, TolQ.after hb3 ht⟩
end
end Go.Proofs.Ytjpmnholpeidmaa

namespace Go.Proofs.Ytjpmnholpeidmaa
open Go.RowKit
attribute [local go_sem ↓] Go.wp_at_zero Go.wp_at_succ
theorem pLabs_end (L : List Tok) (sz f k m : Nat) (h : isT L k (bs1 125) = true) : pLabs L sz (f + 1) k m = ⟨m, k + 1, []⟩ := by
  unfold pLabs; rw [if_pos h]
theorem pLabs_no (L : List Tok) (sz f k m : Nat) (h : isT L k (bs1 125) = false) (ht : tagB (tk L sz k).x = false) : pLabs L sz (f + 1) k m = ⟨m, k, [bad L sz k 2]⟩ := by
  unfold pLabs; rw [if_neg (by simp [h]), if_neg (by simp [ht])]
/-- The label with tag b, and what is wrong if it had it. -/
def labN (m b : Nat) : Nat := if m / b % 2 = 1 then m else m + b
def labD (L : List Tok) (sz k m b : Nat) : List Dg := if m / b % 2 = 1 then [bad L sz k 7] else []
theorem pLabs_tag (L : List Tok) (sz f k m : Nat) (h : isT L k (bs1 125) = false) (ht : tagB (tk L sz k).x = true) : pLabs L sz (f + 1) k m =
    if isT L (k + 1) (bs1 125) then ⟨(pLabs L sz f (k + 1) (labN m (2 ^ (byt (tk L sz k).x 0 - 97)))).v, (pLabs L sz f (k + 1) (labN m (2 ^ (byt (tk L sz k).x 0 - 97)))).i, labD L sz k m (2 ^ (byt (tk L sz k).x 0 - 97)) ++ (pLabs L sz f (k + 1) (labN m (2 ^ (byt (tk L sz k).x 0 - 97)))).d⟩
    else if isT L (k + 1) (bs1 44) then ⟨(pLabs L sz f (k + 2) (labN m (2 ^ (byt (tk L sz k).x 0 - 97)))).v, (pLabs L sz f (k + 2) (labN m (2 ^ (byt (tk L sz k).x 0 - 97)))).i, labD L sz k m (2 ^ (byt (tk L sz k).x 0 - 97)) ++ (pLabs L sz f (k + 2) (labN m (2 ^ (byt (tk L sz k).x 0 - 97)))).d⟩
    else ⟨labN m (2 ^ (byt (tk L sz k).x 0 - 97)), k + 1, labD L sz k m (2 ^ (byt (tk L sz k).x 0 - 97)) ++ [bad L sz (k + 1) 2]⟩ := by
  conv => lhs; unfold pLabs
  rw [if_neg (by simp [h]), if_pos ht]
  rfl
theorem isT_in {L : List Tok} {k : Nat} {s : ByteArray} (h : isT L k s = true) : k < L.length := by
  rcases Nat.lt_or_ge k L.length with h2 | h2
  · exact h2
  · unfold isT at h; rw [List.getElem?_eq_none h2] at h; cases h
theorem tag_in {L : List Tok} {sz k : Nat} (h : tagB (tk L sz k).x = true) : k < L.length := by
  rcases Nat.lt_or_ge k L.length with h2 | h2
  · exact h2
  · rw [tok_no h2] at h; exact absurd h (by simp [tagB, noB, ByteArray.size])
/-- The loop of a label: what is read is what is still to be read after what was. -/
def RelLab (gp : Nat) (L : List Tok) (sz dp : Nat) (D : Option Nat) (ds : List Dg) (w : World) (r : R Nat) (i n : Value) (wr : World) : Prop :=
  ∃ (f k m : Nat) (acc : List Dg), i = .int .i64 (k : Int) ∧ n = .int .i64 (m : Int) ∧ k ≤ L.length ∧ m < 256 ∧ L.length + 1 ≤ f + k ∧ acc.length ≤ k ∧ TolQ gp L sz dp D (ds ++ acc) w wr ∧
    r = ⟨(pLabs L sz f k m).v, (pLabs L sz f k m).i, acc ++ (pLabs L sz f k m).d⟩
theorem TolQ.step {gp : Nat} {w wr w4 w3 : World} {L : List Tok} {sz dp : Nat} {ds acc : List Dg} {b : List Dg} {D D1 : Option Nat} (hst : Stp gp D D1 w wr) (hb : Below wr.heap.size wr w4) (ht : TolQ gp L sz dp D1 ((ds ++ acc) ++ b) w4 w3) : TolQ gp L sz dp D (ds ++ (acc ++ b)) w w3 := by
  obtain ⟨D', h1, h2⟩ := ht
  exact ⟨D', by rw [← List.append_assoc]; exact h1, hst.trans ((Stp.below hb).trans h2)⟩
/-- The bit of a tag: the loop. -/
def RelBit (c : Nat) (b j : Value) : Prop := ∃ q B : Nat, q ≤ c ∧ B = 2 ^ q ∧ j = .int .u8 (q : Int) ∧ b = .int .i64 (B : Int)
theorem pow_le128 {q c : Nat} (h : q ≤ c) (hc : c ≤ 7) : 2 ^ q ≤ 128 := Nat.le_trans (Nat.pow_le_pow_right (by decide) (Nat.le_trans h hc)) (by decide)
theorem pow_le64 {q c : Nat} (h : q < c) (hc : c ≤ 7) : 2 ^ q ≤ 64 := Nat.le_trans (Nat.pow_le_pow_right (by decide) (by omega : q ≤ 6)) (by decide)
theorem fl_pow (m c : Nat) : fl (2 ^ c) m = decide (m / 2 ^ c % 2 = 1) := by
  rw [← Nat.testBit_eq_decide_div_mod_eq, Bool.eq_iff_iff, fl_iff]
  constructor
  · intro h; exact h c (by simp)
  · intro h i hi
    rw [Nat.testBit_two_pow] at hi
    have : c = i := by simpa using hi
    subst this; exact h
theorem add_small {m c : Nat} (hm : m < 256) (hc : c ≤ 7) (h : ¬ m / 2 ^ c % 2 = 1) : m + 2 ^ c < 256 := by
  have : c = 0 ∨ c = 1 ∨ c = 2 ∨ c = 3 ∨ c = 4 ∨ c = 5 ∨ c = 6 ∨ c = 7 := by omega
  rcases this with rfl | rfl | rfl | rfl | rfl | rfl | rfl | rfl <;> simp at h ⊢ <;> omega
section
variable {gp : Nat} {w : World} {L : List Tok} {sz dp : Nat} {ds : List Dg} {D : Option Nat}
set_option maxHeartbeats 1000000 in
set_option maxRecDepth 100000 in
theorem refLab_any (hp : QSt gp w L sz ds dp D) (i : Nat) (hi : i ≤ 2199023255552) (hds : ds.length + L.length + 2 ≤ 1099511627776) :
    Calls Try.prog 41 #[.pointer (some ⟨gp, 0, none⟩), .int .i64 (i : Int)] w fun e w' => e = .returned (.tuple #[.int .i64 ((pLab L sz i).v : Nat), .int .i64 ((pLab L sz i).i : Nat)]) ∧ TolQ gp L sz dp D (ds ++ (pLab L sz i).d) w w' := by
  have hlen := hp.len
  have hsiz := hp.siz
  go_enter Try.func41, Try.ntmps41
  cases hI : isT L i (bs1 123)
  · have hN : pNeed L sz i (bs1 123) = ⟨false, i, [bad L sz i 2]⟩ := by unfold pNeed; rw [hI]; rfl
    have hE : pLab L sz i = ⟨0, i, [bad L sz i 2]⟩ := by unfold pLab; rw [hI]; rfl
    rw [hE]
    go_wp2_with (first
      | (go_at_call 40; refine (refNeed_any hp i hi (bs1 123) (by omega)).mono ?_; rintro e w1 ⟨rfl, ht⟩; rw [hN] at ht ⊢))
    exact bodyPost_ret (v := .tuple #[.int .i64 (0 : Int), .int .i64 (i : Int)]) (by simp [results, Try.results41, go_sem]) rfl ⟨rfl, ht⟩
  · have hN : pNeed L sz i (bs1 123) = ⟨true, i + 1, []⟩ := by unfold pNeed; rw [hI]; rfl
    have hil := isT_in hI
    have hE : pLab L sz i = pLabs L sz (L.length + 1 - i) (i + 1) 0 := by unfold pLab; rw [hI]; rfl
    have HE : Hid (∀ wr, TolQ gp L sz dp D ds w wr → RelLab gp L sz dp D ds w (pLab L sz i) (.int .i64 ((i + 1 : Nat) : Int)) (.int .i64 ((0 : Nat) : Int)) wr) := fun wr h => ⟨L.length + 1 - i, i + 1, 0, [], rfl, rfl, by omega, by omega, by omega, by simp, by rw [List.append_nil]; exact h, by rw [hE]; rfl⟩
    clear hE
    generalize pLab L sz i = r at *
    go_wp2_with (first
      | (go_at_call 40; refine (refNeed_any hp i hi (bs1 123) (by omega)).mono ?_; rintro e w1 ⟨rfl, ht⟩; rw [hN] at ht ⊢; rw [List.append_nil] at ht))
    go_loopw [1, 7] (fun i n wr => RelLab gp L sz dp D ds w r i n wr) (fun i _ _ => upN (L.length + 1) i)
    case atStart => exact HE.out _ ht
    case round =>
      obtain ⟨f, k, m, acc, rfl, rfl, hk, hm, hf, hac, ⟨D1, hk0, hst⟩, hr⟩ := hrel
      obtain ⟨f, rfl⟩ : ∃ g, f = g + 1 := ⟨f - 1, by omega⟩
      have HR : Hid (r = ⟨(pLabs L sz (f + 1) k m).v, (pLabs L sz (f + 1) k m).i, acc ++ (pLabs L sz (f + 1) k m).d⟩) := hr
      clear hr
      cases hI2 : isT L k (bs1 125)
      · cases hT2 : tagB (tk L sz k).x
        · have HQ := pLabs_no L sz f k m hI2 hT2
          have hQ : r = ⟨m, k, acc ++ [bad L sz k 2]⟩ := by rw [HR.out, HQ]
          subst hQ
          clear HR HQ
          have hacc : (ds ++ acc).length + 1 ≤ 1099511627776 := by simp; omega
          by_cases h1 : (tk L sz k).x.size = 1
          · have h0 : 0 < (tk L sz k).x.size := by omega
            have HG : Hid (byt (tk L sz k).x 0 = ((tk L sz k).x[0]'h0).toNat) := byt_get _ 0 h0
            have hor : ((tk L sz k).x[0]'h0).toNat < 97 ∨ 104 < ((tk L sz k).x[0]'h0).toNat := by
              simp [tagB, h1, HG.out] at hT2
              omega
            rcases hor with h2 | h2
            · go_wp2_with (first
                | (go_at_call 36; refine (refIs_any hk0 k (by omega) (bs1 125)).mono ?_; rintro e w2 ⟨rfl, hw2⟩; subst w2; rw [hI2])
                | (go_at_call 38; refine (refT_any hk0 k (by omega)).mono ?_; rintro e w2 ⟨rfl, hb2⟩; unfold tkV; obtain ⟨z0, z1, z2, hb3⟩ := tk_at (t := tk L sz k) hb2 (Below.refl _ _); have hp2 := hk0.below hb3)
                | (go_at_call 42; refine (refBad_any hp2 k (by omega) 2 (by simp; omega)).mono ?_; rintro e w3 ⟨rfl, ht3⟩))
              exact bodyPost_ret (v := .tuple #[.int .i64 (m : Int), .int .i64 (k : Int)]) (by simp [results, Try.results41, go_sem]) rfl ⟨rfl, TolQ.step hst hb3 ht3⟩
            · go_wp2_with (first
                | (go_at_call 36; refine (refIs_any hk0 k (by omega) (bs1 125)).mono ?_; rintro e w2 ⟨rfl, hw2⟩; subst w2; rw [hI2])
                | (go_at_call 38; refine (refT_any hk0 k (by omega)).mono ?_; rintro e w2 ⟨rfl, hb2⟩; unfold tkV; obtain ⟨z0, z1, z2, hb3⟩ := tk_at (t := tk L sz k) hb2 (Below.refl _ _); have hp2 := hk0.below hb3)
                | (go_at_call 42; refine (refBad_any hp2 k (by omega) 2 (by simp; omega)).mono ?_; rintro e w3 ⟨rfl, ht3⟩))
              exact bodyPost_ret (v := .tuple #[.int .i64 (m : Int), .int .i64 (k : Int)]) (by simp [results, Try.results41, go_sem]) rfl ⟨rfl, TolQ.step hst hb3 ht3⟩
          · have h1' : (((tk L sz k).x.size : Int) == 1) = false := by simp; omega
            go_wp2_with (first
              | (go_at_call 36; refine (refIs_any hk0 k (by omega) (bs1 125)).mono ?_; rintro e w2 ⟨rfl, hw2⟩; subst w2; rw [hI2])
              | (go_at_call 38; refine (refT_any hk0 k (by omega)).mono ?_; rintro e w2 ⟨rfl, hb2⟩; unfold tkV; obtain ⟨z0, z1, z2, hb3⟩ := tk_at (t := tk L sz k) hb2 (Below.refl _ _); have hp2 := hk0.below hb3)
              | (go_at_call 42; refine (refBad_any hp2 k (by omega) 2 (by simp; omega)).mono ?_; rintro e w3 ⟨rfl, ht3⟩))
            exact bodyPost_ret (v := .tuple #[.int .i64 (m : Int), .int .i64 (k : Int)]) (by simp [results, Try.results41, go_sem]) rfl ⟨rfl, TolQ.step hst hb3 ht3⟩
        · have hkl := tag_in hT2
          obtain ⟨h1, h2, h3⟩ : (tk L sz k).x.size = 1 ∧ 97 ≤ byt (tk L sz k).x 0 ∧ byt (tk L sz k).x 0 ≤ 104 := by simpa [tagB] using hT2
          have h0 : 0 < (tk L sz k).x.size := by omega
          have hacc : (ds ++ acc).length + 1 ≤ 1099511627776 := by simp; omega
          have HQ : Hid (_ = _) := pLabs_tag L sz f k m hI2 hT2
          obtain ⟨c, hc⟩ : ∃ c, byt (tk L sz k).x 0 = c + 97 := ⟨byt (tk L sz k).x 0 - 97, by omega⟩
          have hc7 : c ≤ 7 := by omega
          have hx0 : ((tk L sz k).x[0]'h0).toNat = c + 97 := by rw [← byt_get _ 0 h0]; exact hc
          have e97 : byt (tk L sz k).x 0 - 97 = c := by omega
          rw [e97] at HQ
          clear h2 h3 hc e97
          go_wp2_with (first
            | (go_at_call 36; refine (refIs_any hk0 k (by omega) (bs1 125)).mono ?_; rintro e w2 ⟨rfl, hw2⟩; subst w2; rw [hI2])
            | (go_at_call 38; refine (refT_any hk0 k (by omega)).mono ?_; rintro e w2 ⟨rfl, hb2⟩; unfold tkV; obtain ⟨z0, z1, z2, hb3⟩ := tk_at (t := tk L sz k) hb2 (Below.refl _ _); have hp2 := hk0.below hb3))
          generalize w2.alloc (.cells #[.int .i64 ((tk L sz k).k : Int), .string (tk L sz k).x, .int .i64 ((tk L sz k).a : Int)] 83) = w4 at *
          go_loop [9, 51] (fun b j => RelBit c b j) (fun _ j => upN c j)
          case atStart => exact ⟨0, 1, by omega, rfl, rfl, rfl⟩
          case round =>
            obtain ⟨q, B, hq, hB, rfl, rfl⟩ := hrel
            by_cases hqc : q < c
            · have HB : Hid (B = 2 ^ q) := hB
              have hB64 : B ≤ 64 := by rw [hB]; exact pow_le64 hqc hc7
              have gw : IntKind.i64.wrap (2 * (B : Int)) = 2 * (B : Int) := wrap_id _ (by omega) (by omega)
              clear hB
              go_wp2
              go_round
              case rel => exact ⟨q + 1, 2 * B, by omega, by rw [HB.out, Nat.pow_succ]; omega, by go_num, by go_num⟩
              case measure => simp [upN, intOf]; omega
            · have hqe : q = c := by omega
              subst hqe
              have hB128 : B ≤ 128 := by rw [hB]; exact pow_le128 hq hc7
              have hfp := fl_pow m q
              have has := add_small (m := m) (c := q) hm hc7
              rw [← hB] at hfp has
              have HB : Hid (B = 2 ^ q) := hB
              rw [← hB] at HQ
              clear hB hqc
              by_cases hh : m / B % 2 = 1
              · have hfl : fl B m = true := by rw [hfp]; simp [hh]
                have HN : Hid (labN m B = m) := by show _ = _; unfold labN; rw [if_pos hh]
                have HD : Hid (labD L sz k m B = [bad L sz k 7]) := by show _ = _; unfold labD; rw [if_pos hh]
                clear hfp has hh
                cases hI3 : isT L (k + 1) (bs1 125)
                · cases hI4 : isT L (k + 1) (bs1 44)
                  · have hN3 : pNeed L sz (k + 1) (bs1 44) = ⟨false, k + 1, [bad L sz (k + 1) 2]⟩ := by unfold pNeed; rw [hI4]; rfl
                    have HF : r = ⟨m, k + 1, (acc ++ [bad L sz k 7]) ++ [bad L sz (k + 1) 2]⟩ := by rw [HR.out, HQ.out, if_neg (by simp [hI3]), if_neg (by simp [hI4]), HN.out, HD.out]; simp
                    subst HF
                    clear HR HQ HE
                    go_wp2_with (first
                      | (go_at_call 66; refine (rflows_any B m _ (by omega) (by omega)).mono ?_; rintro e w5 ⟨rfl, hb5⟩; rw [hfl]; have hb6 := hb3.trans (hb5.mono hb3.size); have hp5 := hk0.below hb6; skip)
                      | (go_at_call 42; refine (refBad_any hp5 k (by omega) 7 (by simp; omega)).mono ?_; rintro e w6 ⟨rfl, D6, hp6, hst6⟩; have hs6 := hst.trans ((Stp.below hb6).trans hst6))
                      | (go_at_call 36; refine (refIs_any hp6 (k + 1) (by omega) (bs1 125)).mono ?_; rintro e w7 ⟨rfl, hw7⟩; subst w7; rw [hI3])
                      | (go_at_call 40; refine (refNeed_any hp6 (k + 1) (by omega) (bs1 44) (by simp; omega)).mono ?_; rintro e w7 ⟨rfl, D7, hp7, hst7⟩; rw [hN3] at hp7 ⊢))
                    exact bodyPost_ret (v := .tuple #[.int .i64 ((m : Nat) : Int), .int .i64 ((k + 1 : Nat) : Int)]) (by simp [results, Try.results41, go_sem]) rfl ⟨rfl, ⟨_, by simpa using hp7, hs6.trans hst7⟩⟩
                  · have hI4l := isT_in hI4
                    have hN3 : pNeed L sz (k + 1) (bs1 44) = ⟨true, k + 2, []⟩ := by unfold pNeed; rw [hI4]; rfl
                    have HF : Hid (r = ⟨(pLabs L sz f (k + 2) m).v, (pLabs L sz f (k + 2) m).i, (acc ++ [bad L sz k 7]) ++ (pLabs L sz f (k + 2) m).d⟩) := by show r = _; rw [HR.out, HQ.out, if_neg (by simp [hI3]), if_pos hI4, HN.out, HD.out]; simp
                    go_wp2_with (first
                      | (go_at_call 66; refine (rflows_any B m _ (by omega) (by omega)).mono ?_; rintro e w5 ⟨rfl, hb5⟩; rw [hfl]; have hb6 := hb3.trans (hb5.mono hb3.size); have hp5 := hk0.below hb6; skip)
                      | (go_at_call 42; refine (refBad_any hp5 k (by omega) 7 (by simp; omega)).mono ?_; rintro e w6 ⟨rfl, D6, hp6, hst6⟩; have hs6 := hst.trans ((Stp.below hb6).trans hst6))
                      | (go_at_call 36; refine (refIs_any hp6 (k + 1) (by omega) (bs1 125)).mono ?_; rintro e w7 ⟨rfl, hw7⟩; subst w7; rw [hI3])
                      | (go_at_call 40; refine (refNeed_any hp6 (k + 1) (by omega) (bs1 44) (by simp; omega)).mono ?_; rintro e w7 ⟨rfl, D7, hp7, hst7⟩; rw [hN3] at hp7 ⊢))
                    go_roundw
                    case rel => exact ⟨f, k + 2, m, acc ++ [bad L sz k 7], by go_num, by go_num, by omega, by omega, by omega, by first | omega | (simp; omega), ⟨_, by simpa using hp7, hs6.trans hst7⟩, HF.out⟩
                    case measure => simp [upN, intOf]; omega
                · have hI3l := isT_in hI3
                  have HF : Hid (r = ⟨(pLabs L sz f (k + 1) m).v, (pLabs L sz f (k + 1) m).i, (acc ++ [bad L sz k 7]) ++ (pLabs L sz f (k + 1) m).d⟩) := by show r = _; rw [HR.out, HQ.out, if_pos hI3, HN.out, HD.out]; simp
                  go_wp2_with (first
                    | (go_at_call 66; refine (rflows_any B m _ (by omega) (by omega)).mono ?_; rintro e w5 ⟨rfl, hb5⟩; rw [hfl]; have hb6 := hb3.trans (hb5.mono hb3.size); have hp5 := hk0.below hb6; skip)
                    | (go_at_call 42; refine (refBad_any hp5 k (by omega) 7 (by simp; omega)).mono ?_; rintro e w6 ⟨rfl, D6, hp6, hst6⟩; have hs6 := hst.trans ((Stp.below hb6).trans hst6))
                    | (go_at_call 36; refine (refIs_any hp6 (k + 1) (by omega) (bs1 125)).mono ?_; rintro e w7 ⟨rfl, hw7⟩; subst w7; rw [hI3]))
                  go_roundw
                  case rel => exact ⟨f, k + 1, m, acc ++ [bad L sz k 7], by go_num, by go_num, by omega, by omega, by omega, by first | omega | (simp; omega), ⟨_, by simpa using hp6, hs6⟩, HF.out⟩
                  case measure => simp [upN, intOf]; omega
              · have hfl : fl B m = false := by rw [hfp]; simp [hh]
                have HN : Hid (labN m B = m + B) := by show _ = _; unfold labN; rw [if_neg hh]
                have HD : Hid (labD L sz k m B = []) := by show _ = _; unfold labD; rw [if_neg hh]
                have hmB := has hh
                clear hfp has hh
                cases hI3 : isT L (k + 1) (bs1 125)
                · cases hI4 : isT L (k + 1) (bs1 44)
                  · have hN3 : pNeed L sz (k + 1) (bs1 44) = ⟨false, k + 1, [bad L sz (k + 1) 2]⟩ := by unfold pNeed; rw [hI4]; rfl
                    have HF : r = ⟨(m + B), k + 1, (acc) ++ [bad L sz (k + 1) 2]⟩ := by rw [HR.out, HQ.out, if_neg (by simp [hI3]), if_neg (by simp [hI4]), HN.out, HD.out]; simp
                    subst HF
                    clear HR HQ HE
                    go_wp2_with (first
                      | (go_at_call 66; refine (rflows_any B m _ (by omega) (by omega)).mono ?_; rintro e w5 ⟨rfl, hb5⟩; rw [hfl]; have hb6 := hb3.trans (hb5.mono hb3.size); have hp5 := hk0.below hb6; have hp6 := hp5; have hs6 := hst.trans (Stp.below (gp := gp) (D := D1) hb6))
                      | (go_at_call 36; refine (refIs_any hp6 (k + 1) (by omega) (bs1 125)).mono ?_; rintro e w7 ⟨rfl, hw7⟩; subst w7; rw [hI3])
                      | (go_at_call 40; refine (refNeed_any hp6 (k + 1) (by omega) (bs1 44) (by simp; omega)).mono ?_; rintro e w7 ⟨rfl, D7, hp7, hst7⟩; rw [hN3] at hp7 ⊢))
                    exact bodyPost_ret (v := .tuple #[.int .i64 (((m + B) : Nat) : Int), .int .i64 ((k + 1 : Nat) : Int)]) (by simp [results, Try.results41, go_sem]) rfl ⟨rfl, ⟨_, by simpa using hp7, hs6.trans hst7⟩⟩
                  · have hI4l := isT_in hI4
                    have hN3 : pNeed L sz (k + 1) (bs1 44) = ⟨true, k + 2, []⟩ := by unfold pNeed; rw [hI4]; rfl
                    have HF : Hid (r = ⟨(pLabs L sz f (k + 2) (m + B)).v, (pLabs L sz f (k + 2) (m + B)).i, (acc) ++ (pLabs L sz f (k + 2) (m + B)).d⟩) := by show r = _; rw [HR.out, HQ.out, if_neg (by simp [hI3]), if_pos hI4, HN.out, HD.out]; simp
                    go_wp2_with (first
                      | (go_at_call 66; refine (rflows_any B m _ (by omega) (by omega)).mono ?_; rintro e w5 ⟨rfl, hb5⟩; rw [hfl]; have hb6 := hb3.trans (hb5.mono hb3.size); have hp5 := hk0.below hb6; have hp6 := hp5; have hs6 := hst.trans (Stp.below (gp := gp) (D := D1) hb6))
                      | (go_at_call 36; refine (refIs_any hp6 (k + 1) (by omega) (bs1 125)).mono ?_; rintro e w7 ⟨rfl, hw7⟩; subst w7; rw [hI3])
                      | (go_at_call 40; refine (refNeed_any hp6 (k + 1) (by omega) (bs1 44) (by simp; omega)).mono ?_; rintro e w7 ⟨rfl, D7, hp7, hst7⟩; rw [hN3] at hp7 ⊢))
                    go_roundw
                    case rel => exact ⟨f, k + 2, (m + B), acc, by go_num, by go_num, by omega, by omega, by omega, by first | omega | (simp; omega), ⟨_, by simpa using hp7, hs6.trans hst7⟩, HF.out⟩
                    case measure => simp [upN, intOf]; omega
                · have hI3l := isT_in hI3
                  have HF : Hid (r = ⟨(pLabs L sz f (k + 1) (m + B)).v, (pLabs L sz f (k + 1) (m + B)).i, (acc) ++ (pLabs L sz f (k + 1) (m + B)).d⟩) := by show r = _; rw [HR.out, HQ.out, if_pos hI3, HN.out, HD.out]; simp
                  go_wp2_with (first
                    | (go_at_call 66; refine (rflows_any B m _ (by omega) (by omega)).mono ?_; rintro e w5 ⟨rfl, hb5⟩; rw [hfl]; have hb6 := hb3.trans (hb5.mono hb3.size); have hp5 := hk0.below hb6; have hp6 := hp5; have hs6 := hst.trans (Stp.below (gp := gp) (D := D1) hb6))
                    | (go_at_call 36; refine (refIs_any hp6 (k + 1) (by omega) (bs1 125)).mono ?_; rintro e w7 ⟨rfl, hw7⟩; subst w7; rw [hI3]))
                  go_roundw
                  case rel => exact ⟨f, k + 1, (m + B), acc, by go_num, by go_num, by omega, by omega, by omega, by first | omega | (simp; omega), ⟨_, by simpa using hp6, hs6⟩, HF.out⟩
                  case measure => simp [upN, intOf]; omega
      · have HQ := pLabs_end L sz f k m hI2
        have hQ : r = ⟨m, k + 1, acc⟩ := by rw [HR.out, HQ]; simp
        subst hQ
        clear HR HQ
        go_wp2_with (first
          | (go_at_call 36; refine (refIs_any hk0 k (by omega) (bs1 125)).mono ?_; rintro e w2 ⟨rfl, hw2⟩; subst w2; rw [hI2]))
        exact bodyPost_ret (v := .tuple #[.int .i64 (m : Int), .int .i64 ((k + 1 : Nat) : Int)]) (by simp [results, Try.results41, go_sem]) rfl ⟨rfl, D1, hk0, hst⟩
end
end Go.Proofs.Ytjpmnholpeidmaa


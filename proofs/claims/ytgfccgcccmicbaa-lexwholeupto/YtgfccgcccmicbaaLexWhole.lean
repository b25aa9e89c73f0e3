/- Nothing is lost: the law's walk. -/
import Derived.Test.YtgfccgcccmicbaaLexAlive
import Derived.Deep.QuietTactic
import Derived.BigQuiet
namespace Go.Proofs.Ytgfccgcccmicbaa
open Go.RowKit
def RelG (s : ByteArray) (v i : Value) : Prop := ∃ (b : Bool) (k : Nat), k ≤ s.size ∧ i = .int .i64 (k : Int) ∧ v = .bool b ∧ gpE s b k = gap s
set_option maxHeartbeats 1000000 in
theorem gap_any (s : ByteArray) (w : World) (hs : s.size ≤ maxLen) :
    Calls Try.prog 39 #[.string s] w fun e w' => e = .returned (.bool (gap s)) ∧ w' = w := by
  unfold maxLen at hs
  go_enter Try.func39, Try.ntmps39
  go_wp2
  go_loop [3, 7] (fun v i => RelG s v i) (fun _ i => upS s i)
  case atStart => exact ⟨false, 0, Nat.zero_le _, rfl, rfl, rfl⟩
  case round =>
    obtain ⟨b, k, hk, rfl, rfl, h3⟩ := hrel
    have H3 : Hid (gpE s b k = gap s) := h3
    clear h3
    by_cases hlt : k < s.size
    · have HG : Hid (byt s k = (s[k]'hlt).toNat) := byt_get s k hlt
      have HQ : Hid (gpE s b k = if (s[k]'hlt).toNat = 10 then gpE s false (k + 1) else if (s[k]'hlt).toNat = 35 then gpE s true (k + 1) else if !b && !blk (s[k]'hlt).toNat then false else gpE s b (k + 1)) := by
        show _ = _
        rw [gpE_eq s b k hlt, HG.out]
      by_cases h10 : (s[k]'hlt).toNat = 10
      · have hb : (((s[k]'hlt).toNat : Int) == 10) = true := by simp [h10]
        have HE : Hid (gpE s false (k + 1) = gap s) := by show _ = _; rw [← H3.out, HQ.out, if_pos h10]
        clear h10
        go_wp2
        go_round
        case rel => exact ⟨false, k + 1, by omega, by go_num, rfl, HE.out⟩
        case measure => simp [upS, intOf]; omega
      · have hb : (((s[k]'hlt).toNat : Int) == 10) = false := by simp; omega
        by_cases h35 : (s[k]'hlt).toNat = 35
        · have hb : (((s[k]'hlt).toNat : Int) == 35) = true := by simp [h35]
          have HE : Hid (gpE s true (k + 1) = gap s) := by show _ = _; rw [← H3.out, HQ.out, if_neg h10, if_pos h35]
          clear h10 h35
          go_wp2
          go_round
          case rel => exact ⟨true, k + 1, by omega, by go_num, rfl, HE.out⟩
          case measure => simp [upS, intOf]; omega
        · have hb : (((s[k]'hlt).toNat : Int) == 35) = false := by simp; omega
          have HE : Hid (gap s = if !b && !blk (s[k]'hlt).toNat then false else gpE s b (k + 1)) := by show _ = _; rw [← H3.out, HQ.out, if_neg h10, if_neg h35]
          clear h10 h35
          by_cases hbl : blk (s[k]'hlt).toNat = true
          · cases b
            · go_wp2_with (go_at_call 37; refine (blank_any _ _).mono ?_; rintro e w' ⟨rfl, hw'⟩; subst w')
              go_round
              case rel => exact ⟨false, k + 1, by omega, by go_num, rfl, by rw [HE.out]; simp [hbl]⟩
              case measure => simp [upS, intOf]; omega
            · go_wp2
              go_round
              case rel => exact ⟨true, k + 1, by omega, by go_num, rfl, by rw [HE.out]; simp⟩
              case measure => simp [upS, intOf]; omega
          · have hbl' : blk (s[k]'hlt).toNat = false := by simpa using hbl
            clear hbl
            cases b
            · go_wp2_with (go_at_call 37; refine (blank_any _ _).mono ?_; rintro e w' ⟨rfl, hw'⟩; subst w')
              go_ret
              exact ⟨ret_bool (by rw [HE.out]; simp [hbl']), rfl⟩
            · go_wp2
              go_round
              case rel => exact ⟨true, k + 1, by omega, by go_num, rfl, by rw [HE.out]; simp⟩
              case measure => simp [upS, intOf]; omega
    · go_wp2
      go_ret
      exact ⟨ret_bool (by rw [← H3.out, gpE_out s b k (by omega)]), rfl⟩

theorem step_whole (s : ByteArray) (e k : Nat) (he : e ≤ s.size) (h : (tks s).drop k = toks s (skE s false e)) (hk : k < (tks s).length) :
    ∃ t : Tok, (tks s)[k]? = some t ∧ e ≤ t.a ∧ 0 < t.x.size ∧ t.a + t.x.size ≤ s.size ∧ s.extract t.a (t.a + t.x.size) = t.x ∧ gap (s.extract e t.a) = true ∧ (tks s).drop (k + 1) = toks s (skE s false (t.a + t.x.size)) := by
  by_cases hs : skE s false e < s.size
  · rw [toks_eq s _ hs] at h
    have h1 := drop_cons h
    have hg := tnd_gt s _ hs
    have hl := tnd_le s _ hs
    have hx : (tok s (skE s false e)).x.size = tnd s (skE s false e) - skE s false e := ext_size' s _ _ hl
    have ha : (tok s (skE s false e)).a = skE s false e := rfl
    have hxx : (tok s (skE s false e)).x = s.extract (skE s false e) (tnd s (skE s false e)) := rfl
    have hsum : skE s false e + (tnd s (skE s false e) - skE s false e) = tnd s (skE s false e) := by omega
    refine ⟨tok s (skE s false e), h1.1, skE_ge s false e, by omega, by rw [ha, hx]; omega, ?_, gap_skip s e he, ?_⟩
    · rw [ha, hx, hsum, hxx]
    · rw [ha, hx, hsum]; exact h1.2.1
  · rw [toks_out s _ (by omega)] at h
    have := drop_nil h
    omega
theorem end_whole (s : ByteArray) (e k : Nat) (he : e ≤ s.size) (h : (tks s).drop k = toks s (skE s false e)) (hk : (tks s).length ≤ k) : gap (s.extract e s.size) = true := by
  have hs : ¬ skE s false e < s.size := by
    intro hs
    rw [toks_eq s _ hs] at h
    have := (drop_cons h).2.2
    omega
  have hl := skE_le s false e he
  have := gap_skip s e he
  rw [show skE s false e = s.size by omega] at this
  exact this
theorem wrap_id (x : Int) (h1 : -9223372036854775808 ≤ x) (h2 : x ≤ 9223372036854775807) : IntKind.i64.wrap x = x := by
  simp [IntKind.wrap, IntKind.signed, IntKind.bits]; omega
theorem below_drewN {B : Nat} {a w : World} (h : Below B a w) (n : Nat) : Below B a (w.drewN n) := ⟨h.os, h.tape, h.output, h.size, h.block⟩
def RelW (s : ByteArray) (wt : World) (a i : Value) (wr : World) : Prop :=
  ∃ e k : Nat, e ≤ s.size ∧ k ≤ (tks s).length ∧ a = .int .i64 (e : Int) ∧ i = .int .i64 (k : Int) ∧ (tks s).drop k = toks s (skE s false e) ∧ Below wt.heap.size wt wr
set_option maxHeartbeats 1000000 in
theorem whole_walk (s : ByteArray) (w : World) (hs : s.size ≤ 1099511627776) :
    Calls Try.prog 7 #[.string s] w fun e w' => e = .returned (.bool true) ∧ Below w.heap.size w w' := by
  have hs0 : s.size ≤ maxLen := by unfold maxLen; omega
  go_enter Try.func7, Try.ntmps7
  by_cases hn : (tks s).length = 0
  · have he : tks s = [] := List.length_eq_zero_iff.1 hn
    have hd : (tks s).drop 0 = toks s (skE s false 0) := rfl
    have g6 : gap (s.extract 0 s.size) = true := end_whole s 0 0 (by omega) hd (by omega)
    have g5 : (s.extract 0 s.size).size ≤ maxLen := by rw [ext_size]; unfold maxLen; omega
    have hex : s.extract 0 s.size = s := ByteArray.extract_zero_size
    rw [hex] at g5 g6
    clear he hd hex
    go_wp2_with (first
      | (go_at_call 38; refine (alive_any _).mono ?_; rintro e w1 ⟨rfl, hb1⟩)
      | (go_at_call 25; refine (tokens_any s _ hs).mono ?_; rintro e wt ⟨v, rfl, hown, hbt⟩; obtain ⟨p, cap, rfl⟩ := own_len hown))
    go_loopw [3, 12] (fun v i wr => v = .int .i64 0 ∧ i = .int .i64 0 ∧ wr = wt) (fun _ i _ => 0)
    case atStart => exact ⟨rfl, rfl, rfl⟩
    case round =>
      obtain ⟨rfl, rfl, rfl⟩ := hrel
      go_wp2_with (first
        | (go_at_call 39; refine (gap_any _ _ (by assumption)).mono ?_; rintro e w' ⟨rfl, hw'⟩; subst w'))
      go_ret
      exact ⟨by first | rfl | exact ret_bool g6, hb1.trans (hbt.mono hb1.size)⟩
  · have hn' : 0 < (tks s).length := by omega
    go_wp2_with (first
      | (go_at_call 38; refine (alive_any _).mono ?_; rintro e w1 ⟨rfl, hb1⟩)
      | (go_at_call 25; refine (tokens_any s _ hs).mono ?_; rintro e wt ⟨v, rfl, hown, hbt⟩; obtain ⟨g, cap, rfl, hg1, hg2, hcap, htok⟩ := own_toks hown hn'))
    go_loopw [3, 12] (fun v i wr => RelW s wt v i wr) (fun _ i _ => upN (tks s).length i)
    case atStart => exact ⟨0, 0, Nat.zero_le _, Nat.zero_le _, rfl, rfl, rfl, Below.refl _ _⟩
    case round =>
      obtain ⟨e, k, he, hk, rfl, rfl, hd, hbel⟩ := hrel
      have hsz := hbel.size
      have hll := tks_len s
      by_cases hlt : k < (tks s).length
      · obtain ⟨⟨tk, tx, ta⟩, ht, f1, f2, f3, f4, f5, f6⟩ := step_whole s e k he hd hlt
        have ⟨c0, c1, c2⟩ := htok.below hbel hg2 k _ ht
        rw [Nat.zero_add] at c0 c1 c2
        simp only at c0 c1 c2 f1 f2 f3
        have H4 : Hid (s.extract ta (ta + tx.size) = tx) := f4
        have H5 : Hid (gap (s.extract e ta) = true) := f5
        have H6 : Hid ((tks s).drop (k + 1) = toks s (skE s false (ta + tx.size))) := f6
        have HD : Hid ((tks s).drop k = toks s (skE s false e)) := hd
        clear f4 f5 f6 hd
        go_wp2
        have g1 : decide (ta < e) = false := decide_eq_false (by omega)
        have g2 : ((tx.size : Int) == 0) = false := by rw [beq_eq_false_iff_ne]; omega
        have gw : IntKind.i64.wrap ((s.size : Int) - (ta : Int)) = (s.size : Int) - (ta : Int) := wrap_id _ (by omega) (by omega)
        have gw2 : IntKind.i64.wrap ((ta : Int) + (tx.size : Int)) = (ta : Int) + (tx.size : Int) := wrap_id _ (by omega) (by omega)
        have g3 : decide ((s.size : Int) - (ta : Int) < (tx.size : Int)) = false := decide_eq_false (by omega)
        have g4 : s.extract ta (ta + tx.size) = tx := H4.out
        have g5 : (s.extract e ta).size ≤ maxLen := by rw [ext_size]; unfold maxLen; omega
        have g6 : gap (s.extract e ta) = true := H5.out
        go_quiet ((go_at_call 39; exact Calls.quiet_of_same (gap_any _ _ (by assumption))))
        clear gw gw2 g3 g4
        go_wp2
        go_roundw
        case rel => exact ⟨ta + tx.size, k + 1, f3, by omega, by go_num, by go_num, H6.out, below_drewN (hbel.alloc (by omega) _) _⟩
        case measure => simp [upN, intOf]; omega
      · have HD : Hid ((tks s).drop k = toks s (skE s false e)) := hd
        have g6 : gap (s.extract e s.size) = true := end_whole s e k he hd (by omega)
        have g5 : (s.extract e s.size).size ≤ maxLen := by rw [ext_size]; unfold maxLen; omega
        clear hd
        go_wp2_with (first
          | (go_at_call 39; refine (gap_any _ _ (by assumption)).mono ?_; rintro e w' ⟨rfl, hw'⟩; subst w'))
        go_ret
        have hsz1 := hb1.size
        have hszt := hbt.size
        exact ⟨by first | rfl | exact ret_bool g6, hb1.trans ((hbt.trans (hbel.mono hbt.size)).mono hb1.size)⟩
end Go.Proofs.Ytgfccgcccmicbaa

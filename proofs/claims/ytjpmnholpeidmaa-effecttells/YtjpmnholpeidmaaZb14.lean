/- Texts of this seat, one behind the other: RefLex. -/
import Derived.Test.YtjpmnholpeidmaaZb01b
import Derived.Test.YtjpmnholpeidmaaZb02
namespace Go.Proofs.Ytjpmnholpeidmaa
open Go.RowKit
set_option maxHeartbeats 400000 in
set_option maxRecDepth 100000 in
theorem refLetter_any (c : Nat) (w : World) :
    Calls Try.prog 61 #[.int .u8 (c : Int)] w fun e w' => e = .returned (.bool (ltr c)) ∧ w' = w := by
  go_enter Try.func61, Try.ntmps61
  go_wp2
  all_goals
    go_ret
    exact ⟨ret_bool (by unfold ltr; rw [Bool.eq_iff_iff]; simp; omega), rfl⟩
set_option maxHeartbeats 400000 in
set_option maxRecDepth 100000 in
theorem refDigit_any (c : Nat) (w : World) :
    Calls Try.prog 62 #[.int .u8 (c : Int)] w fun e w' => e = .returned (.bool (dgt c)) ∧ w' = w := by
  go_enter Try.func62, Try.ntmps62
  go_wp2
  all_goals
    go_ret
    exact ⟨ret_bool (by unfold dgt; rw [Bool.eq_iff_iff]; simp; omega), rfl⟩
set_option maxHeartbeats 1000000 in
set_option maxRecDepth 100000 in
theorem refSign_any (c : Nat) (w : World) :
    Calls Try.prog 63 #[.int .u8 (c : Int)] w fun e w' => e = .returned (.bool (sgn c)) ∧ w' = w := by
  go_enter Try.func63, Try.ntmps63
  go_wp2
  all_goals
    go_ret
    refine ⟨ret_bool ?_, rfl⟩
    unfold sgn
    simp_all <;> omega
/-- A store into a row that is owned. -/
theorem own_set {w : World} {base size n g cap : Nat} {e : TypeId} {xs : List Value} (h : w.ownsRow base e size (.slice (some ⟨g, 0, none⟩) n cap) n xs) (j : Nat) (u : Value) :
    (w.setCell ⟨g, j, none⟩ u).ownsRow base e size (.slice (some ⟨g, 0, none⟩) n cap) n (xs.set j u) := by
  obtain ⟨hl, ⟨h0, _⟩ | ⟨g', cap', cur, hv, hb, hg, h1, h2, h3, h4⟩⟩ := h
  · cases h0
  · injection hv with hv1 hv2 hv3
    injection hv1 with hv1
    injection hv1 with hv1
    subst hv1 hv3
    refine ⟨by rw [List.length_set]; exact hl, .inr ⟨g, cap, cur.setIfInBounds j u, rfl, hb, ?_, h1, h2, by simpa using h3, ?_⟩⟩
    · simp [World.setCell, Array.getElem?_modify, hg]
    · rw [Array.toList_setIfInBounds, ← h4, List.take_set]
theorem tsC_upd (l0 : List Tok) (k a : Nat) (x y : ByteArray) : (tsC (l0 ++ [⟨k, x, a⟩])).set (l0.length * 3 + 1) (.string y) = tsC (l0 ++ [⟨k, y, a⟩]) := by
  rw [tsC_snoc, tsC_snoc, List.set_append_right _ _ (by rw [tsC_len]; omega), tsC_len, Nat.add_sub_cancel_left]
  rfl
theorem own_frozen {w : World} {base size n g cap : Nat} {e : TypeId} {xs : List Value} (h : w.ownsRow base e size (.slice (some ⟨g, 0, none⟩) n cap) n xs) (j : Nat) : w.frozen? ⟨g, j, none⟩ = false := by
  obtain ⟨hl, ⟨h0, _⟩ | ⟨g', cap', cur, hv, hb, hg, h1, h2, h3, h4⟩⟩ := h
  · cases h0
  · injection hv with hv1 hv2 hv3
    injection hv1 with hv1
    injection hv1 with hv1
    subst hv1
    simp [World.frozen?, hg]
theorem own_last {w : World} {base g cap : Nat} {l0 : List Tok} {t : Tok} (h : w.ownsRow base 83 3 (.slice (some ⟨g, 0, none⟩) (l0.length + 1) cap) (l0.length + 1) (tsC (l0 ++ [t]))) : w.cell? ⟨g, l0.length * 3 + 1, none⟩ = some (.string t.x) := by
  have hc := h.cells (g := g) rfl (l0.length * 3 + 1) (.string t.x) (tsC_at (l0 ++ [t]) l0.length t (by simp)).2.1
  have e : ∀ i, (⟨g, 0, none⟩ : Addr).add i = ⟨g, i, none⟩ := by intro i; simp only [Addr.add, Nat.zero_add]; split <;> simp_all
  rw [e] at hc
  exact hc
def RelR (s : ByteArray) (w : World) (v st i : Value) (wr : World) : Prop :=
  ∃ (k n : Nat) (l : List Tok), k ≤ s.size ∧ i = .int .i64 (k : Int) ∧ st = .int .i64 (n : Int) ∧ Inv s k l n ∧ wr.ownsRow w.heap.size 83 3 v l.length (tsC l) ∧ Below w.heap.size w wr
set_option maxHeartbeats 4000000 in
set_option maxRecDepth 100000 in
theorem refTokens_any (s : ByteArray) (w : World) (hs : s.size ≤ 1099511627776) :
    Calls Try.prog 35 #[.string s] w fun e w' => ∃ v, e = .returned v ∧ w'.ownsRow w.heap.size 83 3 v (tks s).length (tsC (tks s)) ∧ Below w.heap.size w w' := by
  obtain ⟨i0, hi, hz0, hz1, hz2⟩ := info_parts Try.infoTok
  have hs0 : s.size ≤ maxLen := by unfold maxLen; omega
  go_enter Try.func35, Try.ntmps35
  go_wp2
  go_loopw [3, 4, 10] (fun v st i wr => RelR s w v st i wr) (fun _ _ i _ => upS s i)
  case atStart => exact ⟨0, 0, [], Nat.zero_le _, rfl, rfl, inv_start s, World.ownsRow_nil _ _ _ _, Below.refl _ _⟩
  case round =>
    obtain ⟨k, n, l, hk, rfl, rfl, hinv, hown, hbel⟩ := hrel
    have hsz := hbel.size
    by_cases hlt : k < s.size
    · have HG : Hid (byt s k = (s[k]'hlt).toNat) := byt_get s k hlt
      by_cases h32 : (s[k]'hlt).toNat = 32
      · have hc : (s[k]'hlt).toNat = 32 := h32
        have e32 : ((((s[k]'hlt).toNat) : Int) == 32) = true := by rw [beq_iff_eq]; omega
        have e10 : ((((s[k]'hlt).toNat) : Int) == 10) = false := by rw [beq_eq_false_iff_ne]; omega
        have e9 : ((((s[k]'hlt).toNat) : Int) == 9) = false := by rw [beq_eq_false_iff_ne]; omega
        have e35 : ((((s[k]'hlt).toNat) : Int) == 35) = false := by rw [beq_eq_false_iff_ne]; omega
        have n10 : ((((s[k]'hlt).toNat) : Int) != 10) = true := by rw [bne_iff_ne]; omega
        have fl : ltr (s[k]'hlt).toNat = false := by rw [hc]; decide
        have fd : dgt (s[k]'hlt).toNat = false := by rw [hc]; decide
        have fs : sgn (s[k]'hlt).toNat = false := by rw [hc]; decide
        have fb : blk (s[k]'hlt).toNat = true := by rw [hc]; decide
        have HC : Hid (blk (byt s k) = true ∧ byt s k ≠ 35 ∧ byt s k ≠ 10 ∧ ltr (byt s k) = false ∧ dgt (byt s k) = false) := ⟨by rw [HG.out]; exact fb, by rw [HG.out]; omega, by rw [HG.out]; omega, by rw [HG.out]; exact fl, by rw [HG.out]; exact fd⟩
        have HB : Hid (wrd (byt s k) = false) := by show _ = _; unfold wrd; rw [HC.out.2.2.2.1, HC.out.2.2.2.2]; rfl
        clear hc h32
        rcases inv_st s k l n hinv with rfl | rfl | rfl | rfl
        · have HI : Hid (Inv s (k + 1) l 0) := go_blank s k l (inv_zero s k l 0 hinv hlt (fun h => absurd h.1 (by decide)) (fun h => absurd h.1 (by decide)) (fun h => absurd h.1 (by decide))) hlt HC.out.1
          have hlen : l.length ≤ 1099511627776 := by have := inv_len s k l 0 hinv; omega
          clear hinv
          go_wp2_with (first
              | (go_at_call 61; refine (refLetter_any _ _).mono ?_; rintro e w' ⟨rfl, hw'⟩; subst w')
              | (go_at_call 62; refine (refDigit_any _ _).mono ?_; rintro e w' ⟨rfl, hw'⟩; subst w')
              | (go_at_call 63; refine (refSign_any _ _).mono ?_; rintro e w' ⟨rfl, hw'⟩; subst w'))
          go_roundw
          case rel => exact ⟨k + 1, 0, l, by omega, by go_num, rfl, HI.out, hown, hbel⟩
          case measure => simp [upS, intOf]; omega
        · have HI : Hid (Inv s (k + 1) l 9) := inv_note s k l hinv hlt HC.out.2.2.1
          clear hinv
          go_wp2
          go_roundw
          case rel => exact ⟨k + 1, 9, l, by omega, by go_num, rfl, HI.out, hown, hbel⟩
          case measure => simp [upS, intOf]; omega
        · have HI : Hid (Inv s (k + 1) l 0) := go_blank s k l (inv_zero s k l 1 hinv hlt (fun h => absurd h.1 (by decide)) (fun h => by rw [HB.out] at h; cases h.2) (fun h => absurd h.1 (by decide))) hlt HC.out.1
          have hlen : l.length ≤ 1099511627776 := by have := inv_len s k l 1 hinv; omega
          clear hinv
          go_wp2_with (first
              | (go_at_call 61; refine (refLetter_any _ _).mono ?_; rintro e w' ⟨rfl, hw'⟩; subst w')
              | (go_at_call 62; refine (refDigit_any _ _).mono ?_; rintro e w' ⟨rfl, hw'⟩; subst w')
              | (go_at_call 63; refine (refSign_any _ _).mono ?_; rintro e w' ⟨rfl, hw'⟩; subst w'))
          go_roundw
          case rel => exact ⟨k + 1, 0, l, by omega, by go_num, rfl, HI.out, hown, hbel⟩
          case measure => simp [upS, intOf]; omega
        · have HI : Hid (Inv s (k + 1) l 0) := go_blank s k l (inv_zero s k l 2 hinv hlt (fun h => absurd h.1 (by decide)) (fun h => absurd h.1 (by decide)) (fun h => by rw [HC.out.2.2.2.2] at h; cases h.2)) hlt HC.out.1
          have hlen : l.length ≤ 1099511627776 := by have := inv_len s k l 2 hinv; omega
          clear hinv
          go_wp2_with (first
              | (go_at_call 61; refine (refLetter_any _ _).mono ?_; rintro e w' ⟨rfl, hw'⟩; subst w')
              | (go_at_call 62; refine (refDigit_any _ _).mono ?_; rintro e w' ⟨rfl, hw'⟩; subst w')
              | (go_at_call 63; refine (refSign_any _ _).mono ?_; rintro e w' ⟨rfl, hw'⟩; subst w'))
          go_roundw
          case rel => exact ⟨k + 1, 0, l, by omega, by go_num, rfl, HI.out, hown, hbel⟩
          case measure => simp [upS, intOf]; omega
      · by_cases h10 : (s[k]'hlt).toNat = 10
        · have hc : (s[k]'hlt).toNat = 10 := h10
          have e32 : ((((s[k]'hlt).toNat) : Int) == 32) = false := by rw [beq_eq_false_iff_ne]; omega
          have e10 : ((((s[k]'hlt).toNat) : Int) == 10) = true := by rw [beq_iff_eq]; omega
          have e9 : ((((s[k]'hlt).toNat) : Int) == 9) = false := by rw [beq_eq_false_iff_ne]; omega
          have e35 : ((((s[k]'hlt).toNat) : Int) == 35) = false := by rw [beq_eq_false_iff_ne]; omega
          have n10 : ((((s[k]'hlt).toNat) : Int) != 10) = false := by rw [bne_eq_false_iff_eq]; omega
          have fl : ltr (s[k]'hlt).toNat = false := by rw [hc]; decide
          have fd : dgt (s[k]'hlt).toNat = false := by rw [hc]; decide
          have fs : sgn (s[k]'hlt).toNat = false := by rw [hc]; decide
          have fb : blk (s[k]'hlt).toNat = true := by rw [hc]; decide
          have HC : Hid (blk (byt s k) = true ∧ byt s k ≠ 35 ∧ byt s k = 10 ∧ ltr (byt s k) = false ∧ dgt (byt s k) = false) := ⟨by rw [HG.out]; exact fb, by rw [HG.out]; omega, by rw [HG.out]; omega, by rw [HG.out]; exact fl, by rw [HG.out]; exact fd⟩
          have HB : Hid (wrd (byt s k) = false) := by show _ = _; unfold wrd; rw [HC.out.2.2.2.1, HC.out.2.2.2.2]; rfl
          clear hc h32 h10
          rcases inv_st s k l n hinv with rfl | rfl | rfl | rfl
          · have HI : Hid (Inv s (k + 1) l 0) := go_blank s k l (inv_zero s k l 0 hinv hlt (fun h => absurd h.1 (by decide)) (fun h => absurd h.1 (by decide)) (fun h => absurd h.1 (by decide))) hlt HC.out.1
            have hlen : l.length ≤ 1099511627776 := by have := inv_len s k l 0 hinv; omega
            clear hinv
            go_wp2_with (first
                | (go_at_call 61; refine (refLetter_any _ _).mono ?_; rintro e w' ⟨rfl, hw'⟩; subst w')
                | (go_at_call 62; refine (refDigit_any _ _).mono ?_; rintro e w' ⟨rfl, hw'⟩; subst w')
                | (go_at_call 63; refine (refSign_any _ _).mono ?_; rintro e w' ⟨rfl, hw'⟩; subst w'))
            go_roundw
            case rel => exact ⟨k + 1, 0, l, by omega, by go_num, rfl, HI.out, hown, hbel⟩
            case measure => simp [upS, intOf]; omega
          · have HI : Hid (Inv s (k + 1) l 0) := go_blank s k l (inv_zero s k l 9 hinv hlt (fun h => h.2 HC.out.2.2.1) (fun h => absurd h.1 (by decide)) (fun h => absurd h.1 (by decide))) hlt HC.out.1
            have hlen : l.length ≤ 1099511627776 := by have := inv_len s k l 9 hinv; omega
            clear hinv
            go_wp2_with (first
                | (go_at_call 61; refine (refLetter_any _ _).mono ?_; rintro e w' ⟨rfl, hw'⟩; subst w')
                | (go_at_call 62; refine (refDigit_any _ _).mono ?_; rintro e w' ⟨rfl, hw'⟩; subst w')
                | (go_at_call 63; refine (refSign_any _ _).mono ?_; rintro e w' ⟨rfl, hw'⟩; subst w'))
            go_roundw
            case rel => exact ⟨k + 1, 0, l, by omega, by go_num, rfl, HI.out, hown, hbel⟩
            case measure => simp [upS, intOf]; omega
          · have HI : Hid (Inv s (k + 1) l 0) := go_blank s k l (inv_zero s k l 1 hinv hlt (fun h => absurd h.1 (by decide)) (fun h => by rw [HB.out] at h; cases h.2) (fun h => absurd h.1 (by decide))) hlt HC.out.1
            have hlen : l.length ≤ 1099511627776 := by have := inv_len s k l 1 hinv; omega
            clear hinv
            go_wp2_with (first
                | (go_at_call 61; refine (refLetter_any _ _).mono ?_; rintro e w' ⟨rfl, hw'⟩; subst w')
                | (go_at_call 62; refine (refDigit_any _ _).mono ?_; rintro e w' ⟨rfl, hw'⟩; subst w')
                | (go_at_call 63; refine (refSign_any _ _).mono ?_; rintro e w' ⟨rfl, hw'⟩; subst w'))
            go_roundw
            case rel => exact ⟨k + 1, 0, l, by omega, by go_num, rfl, HI.out, hown, hbel⟩
            case measure => simp [upS, intOf]; omega
          · have HI : Hid (Inv s (k + 1) l 0) := go_blank s k l (inv_zero s k l 2 hinv hlt (fun h => absurd h.1 (by decide)) (fun h => absurd h.1 (by decide)) (fun h => by rw [HC.out.2.2.2.2] at h; cases h.2)) hlt HC.out.1
            have hlen : l.length ≤ 1099511627776 := by have := inv_len s k l 2 hinv; omega
            clear hinv
            go_wp2_with (first
                | (go_at_call 61; refine (refLetter_any _ _).mono ?_; rintro e w' ⟨rfl, hw'⟩; subst w')
                | (go_at_call 62; refine (refDigit_any _ _).mono ?_; rintro e w' ⟨rfl, hw'⟩; subst w')
                | (go_at_call 63; refine (refSign_any _ _).mono ?_; rintro e w' ⟨rfl, hw'⟩; subst w'))
            go_roundw
            case rel => exact ⟨k + 1, 0, l, by omega, by go_num, rfl, HI.out, hown, hbel⟩
            case measure => simp [upS, intOf]; omega
        · by_cases h9 : (s[k]'hlt).toNat = 9
          · have hc : (s[k]'hlt).toNat = 9 := h9
            have e32 : ((((s[k]'hlt).toNat) : Int) == 32) = false := by rw [beq_eq_false_iff_ne]; omega
            have e10 : ((((s[k]'hlt).toNat) : Int) == 10) = false := by rw [beq_eq_false_iff_ne]; omega
            have e9 : ((((s[k]'hlt).toNat) : Int) == 9) = true := by rw [beq_iff_eq]; omega
            have e35 : ((((s[k]'hlt).toNat) : Int) == 35) = false := by rw [beq_eq_false_iff_ne]; omega
            have n10 : ((((s[k]'hlt).toNat) : Int) != 10) = true := by rw [bne_iff_ne]; omega
            have fl : ltr (s[k]'hlt).toNat = false := by rw [hc]; decide
            have fd : dgt (s[k]'hlt).toNat = false := by rw [hc]; decide
            have fs : sgn (s[k]'hlt).toNat = false := by rw [hc]; decide
            have fb : blk (s[k]'hlt).toNat = true := by rw [hc]; decide
            have HC : Hid (blk (byt s k) = true ∧ byt s k ≠ 35 ∧ byt s k ≠ 10 ∧ ltr (byt s k) = false ∧ dgt (byt s k) = false) := ⟨by rw [HG.out]; exact fb, by rw [HG.out]; omega, by rw [HG.out]; omega, by rw [HG.out]; exact fl, by rw [HG.out]; exact fd⟩
            have HB : Hid (wrd (byt s k) = false) := by show _ = _; unfold wrd; rw [HC.out.2.2.2.1, HC.out.2.2.2.2]; rfl
            clear hc h32 h10 h9
            rcases inv_st s k l n hinv with rfl | rfl | rfl | rfl
            · have HI : Hid (Inv s (k + 1) l 0) := go_blank s k l (inv_zero s k l 0 hinv hlt (fun h => absurd h.1 (by decide)) (fun h => absurd h.1 (by decide)) (fun h => absurd h.1 (by decide))) hlt HC.out.1
              have hlen : l.length ≤ 1099511627776 := by have := inv_len s k l 0 hinv; omega
              clear hinv
              go_wp2_with (first
                  | (go_at_call 61; refine (refLetter_any _ _).mono ?_; rintro e w' ⟨rfl, hw'⟩; subst w')
                  | (go_at_call 62; refine (refDigit_any _ _).mono ?_; rintro e w' ⟨rfl, hw'⟩; subst w')
                  | (go_at_call 63; refine (refSign_any _ _).mono ?_; rintro e w' ⟨rfl, hw'⟩; subst w'))
              go_roundw
              case rel => exact ⟨k + 1, 0, l, by omega, by go_num, rfl, HI.out, hown, hbel⟩
              case measure => simp [upS, intOf]; omega
            · have HI : Hid (Inv s (k + 1) l 9) := inv_note s k l hinv hlt HC.out.2.2.1
              clear hinv
              go_wp2
              go_roundw
              case rel => exact ⟨k + 1, 9, l, by omega, by go_num, rfl, HI.out, hown, hbel⟩
              case measure => simp [upS, intOf]; omega
            · have HI : Hid (Inv s (k + 1) l 0) := go_blank s k l (inv_zero s k l 1 hinv hlt (fun h => absurd h.1 (by decide)) (fun h => by rw [HB.out] at h; cases h.2) (fun h => absurd h.1 (by decide))) hlt HC.out.1
              have hlen : l.length ≤ 1099511627776 := by have := inv_len s k l 1 hinv; omega
              clear hinv
              go_wp2_with (first
                  | (go_at_call 61; refine (refLetter_any _ _).mono ?_; rintro e w' ⟨rfl, hw'⟩; subst w')
                  | (go_at_call 62; refine (refDigit_any _ _).mono ?_; rintro e w' ⟨rfl, hw'⟩; subst w')
                  | (go_at_call 63; refine (refSign_any _ _).mono ?_; rintro e w' ⟨rfl, hw'⟩; subst w'))
              go_roundw
              case rel => exact ⟨k + 1, 0, l, by omega, by go_num, rfl, HI.out, hown, hbel⟩
              case measure => simp [upS, intOf]; omega
            · have HI : Hid (Inv s (k + 1) l 0) := go_blank s k l (inv_zero s k l 2 hinv hlt (fun h => absurd h.1 (by decide)) (fun h => absurd h.1 (by decide)) (fun h => by rw [HC.out.2.2.2.2] at h; cases h.2)) hlt HC.out.1
              have hlen : l.length ≤ 1099511627776 := by have := inv_len s k l 2 hinv; omega
              clear hinv
              go_wp2_with (first
                  | (go_at_call 61; refine (refLetter_any _ _).mono ?_; rintro e w' ⟨rfl, hw'⟩; subst w')
                  | (go_at_call 62; refine (refDigit_any _ _).mono ?_; rintro e w' ⟨rfl, hw'⟩; subst w')
                  | (go_at_call 63; refine (refSign_any _ _).mono ?_; rintro e w' ⟨rfl, hw'⟩; subst w'))
              go_roundw
              case rel => exact ⟨k + 1, 0, l, by omega, by go_num, rfl, HI.out, hown, hbel⟩
              case measure => simp [upS, intOf]; omega
          · by_cases h35 : (s[k]'hlt).toNat = 35
            · have hc : (s[k]'hlt).toNat = 35 := h35
              have e32 : ((((s[k]'hlt).toNat) : Int) == 32) = false := by rw [beq_eq_false_iff_ne]; omega
              have e10 : ((((s[k]'hlt).toNat) : Int) == 10) = false := by rw [beq_eq_false_iff_ne]; omega
              have e9 : ((((s[k]'hlt).toNat) : Int) == 9) = false := by rw [beq_eq_false_iff_ne]; omega
              have e35 : ((((s[k]'hlt).toNat) : Int) == 35) = true := by rw [beq_iff_eq]; omega
              have n10 : ((((s[k]'hlt).toNat) : Int) != 10) = true := by rw [bne_iff_ne]; omega
              have fl : ltr (s[k]'hlt).toNat = false := by rw [hc]; decide
              have fd : dgt (s[k]'hlt).toNat = false := by rw [hc]; decide
              have fs : sgn (s[k]'hlt).toNat = false := by rw [hc]; decide
              have fb : blk (s[k]'hlt).toNat = false := by rw [hc]; decide
              have HC : Hid (blk (byt s k) = false ∧ byt s k = 35 ∧ byt s k ≠ 10 ∧ ltr (byt s k) = false ∧ dgt (byt s k) = false) := ⟨by rw [HG.out]; exact fb, by rw [HG.out]; omega, by rw [HG.out]; omega, by rw [HG.out]; exact fl, by rw [HG.out]; exact fd⟩
              have HB : Hid (wrd (byt s k) = false) := by show _ = _; unfold wrd; rw [HC.out.2.2.2.1, HC.out.2.2.2.2]; rfl
              clear hc h32 h10 h9 h35
              rcases inv_st s k l n hinv with rfl | rfl | rfl | rfl
              · have HI : Hid (Inv s (k + 1) l 9) := go_hash s k l (inv_zero s k l 0 hinv hlt (fun h => absurd h.1 (by decide)) (fun h => absurd h.1 (by decide)) (fun h => absurd h.1 (by decide))) hlt HC.out.2.1
                have hlen : l.length ≤ 1099511627776 := by have := inv_len s k l 0 hinv; omega
                clear hinv
                go_wp2_with (first
                    | (go_at_call 61; refine (refLetter_any _ _).mono ?_; rintro e w' ⟨rfl, hw'⟩; subst w')
                    | (go_at_call 62; refine (refDigit_any _ _).mono ?_; rintro e w' ⟨rfl, hw'⟩; subst w')
                    | (go_at_call 63; refine (refSign_any _ _).mono ?_; rintro e w' ⟨rfl, hw'⟩; subst w'))
                go_roundw
                case rel => exact ⟨k + 1, 9, l, by omega, by go_num, rfl, HI.out, hown, hbel⟩
                case measure => simp [upS, intOf]; omega
              · have HI : Hid (Inv s (k + 1) l 9) := inv_note s k l hinv hlt HC.out.2.2.1
                clear hinv
                go_wp2
                go_roundw
                case rel => exact ⟨k + 1, 9, l, by omega, by go_num, rfl, HI.out, hown, hbel⟩
                case measure => simp [upS, intOf]; omega
              · have HI : Hid (Inv s (k + 1) l 9) := go_hash s k l (inv_zero s k l 1 hinv hlt (fun h => absurd h.1 (by decide)) (fun h => by rw [HB.out] at h; cases h.2) (fun h => absurd h.1 (by decide))) hlt HC.out.2.1
                have hlen : l.length ≤ 1099511627776 := by have := inv_len s k l 1 hinv; omega
                clear hinv
                go_wp2_with (first
                    | (go_at_call 61; refine (refLetter_any _ _).mono ?_; rintro e w' ⟨rfl, hw'⟩; subst w')
                    | (go_at_call 62; refine (refDigit_any _ _).mono ?_; rintro e w' ⟨rfl, hw'⟩; subst w')
                    | (go_at_call 63; refine (refSign_any _ _).mono ?_; rintro e w' ⟨rfl, hw'⟩; subst w'))
                go_roundw
                case rel => exact ⟨k + 1, 9, l, by omega, by go_num, rfl, HI.out, hown, hbel⟩
                case measure => simp [upS, intOf]; omega
              · have HI : Hid (Inv s (k + 1) l 9) := go_hash s k l (inv_zero s k l 2 hinv hlt (fun h => absurd h.1 (by decide)) (fun h => absurd h.1 (by decide)) (fun h => by rw [HC.out.2.2.2.2] at h; cases h.2)) hlt HC.out.2.1
                have hlen : l.length ≤ 1099511627776 := by have := inv_len s k l 2 hinv; omega
                clear hinv
                go_wp2_with (first
                    | (go_at_call 61; refine (refLetter_any _ _).mono ?_; rintro e w' ⟨rfl, hw'⟩; subst w')
                    | (go_at_call 62; refine (refDigit_any _ _).mono ?_; rintro e w' ⟨rfl, hw'⟩; subst w')
                    | (go_at_call 63; refine (refSign_any _ _).mono ?_; rintro e w' ⟨rfl, hw'⟩; subst w'))
                go_roundw
                case rel => exact ⟨k + 1, 9, l, by omega, by go_num, rfl, HI.out, hown, hbel⟩
                case measure => simp [upS, intOf]; omega
            · by_cases hl : ltr (s[k]'hlt).toNat = true
              · have e32 : ((((s[k]'hlt).toNat) : Int) == 32) = false := by rw [beq_eq_false_iff_ne]; omega
                have e10 : ((((s[k]'hlt).toNat) : Int) == 10) = false := by rw [beq_eq_false_iff_ne]; omega
                have e9 : ((((s[k]'hlt).toNat) : Int) == 9) = false := by rw [beq_eq_false_iff_ne]; omega
                have e35 : ((((s[k]'hlt).toNat) : Int) == 35) = false := by rw [beq_eq_false_iff_ne]; omega
                have n10 : ((((s[k]'hlt).toNat) : Int) != 10) = true := by rw [bne_iff_ne]; omega
                have fl : ltr (s[k]'hlt).toNat = true := hl
                have fd : dgt (s[k]'hlt).toNat = false := (ltr_not _ hl).2.2
                have fb : blk (s[k]'hlt).toNat = false := by unfold blk; rw [decide_eq_false_iff_not]; omega
                have HC : Hid (blk (byt s k) = false ∧ byt s k ≠ 35 ∧ byt s k ≠ 10 ∧ ltr (byt s k) = true ∧ dgt (byt s k) = false) := ⟨by rw [HG.out]; exact fb, by rw [HG.out]; omega, by rw [HG.out]; omega, by rw [HG.out]; exact fl, by rw [HG.out]; exact fd⟩
                have HB : Hid (wrd (byt s k) = true) := by show _ = _; unfold wrd; rw [HC.out.2.2.2.1, HC.out.2.2.2.2]; rfl
                clear h32 h10 h9 h35 hl
                rcases inv_st s k l n hinv with rfl | rfl | rfl | rfl
                · have HI : Hid (Inv s (k + 1) (l ++ [⟨1, s.extract k (k + 1), k⟩]) 1) := go_word s k l (inv_zero s k l 0 hinv hlt (fun h => absurd h.1 (by decide)) (fun h => absurd h.1 (by decide)) (fun h => absurd h.1 (by decide))) hlt HC.out.2.2.2.1
                  have hlen : l.length ≤ 1099511627776 := by have := inv_len s k l 0 hinv; omega
                  clear hinv
                  go_wp2_with (first
                      | (go_at_call 61; refine (refLetter_any _ _).mono ?_; rintro e w' ⟨rfl, hw'⟩; subst w')
                      | (go_at_call 62; refine (refDigit_any _ _).mono ?_; rintro e w' ⟨rfl, hw'⟩; subst w')
                      | (go_at_call 63; refine (refSign_any _ _).mono ?_; rintro e w' ⟨rfl, hw'⟩; subst w')
                      | (at_builtin; refine wpList_append_own _ rfl (.tmp 107) (.tmp 116) 80 rfl w.heap.size 83 i0 _ 3 32 Try.underlying80 hi hz0 hz1 hz2 rfl (by decide) _ _ _ rfl (hown.alloc _) ⟨wr.heap.size, 0, none⟩ 1 1 (tc ⟨1, s.extract k (k + 1), k⟩) rfl rfl (World.news_of_block (heap_alloc_new wr _)) (tok_cell _) (by unfold maxLen; omega) (by omega) (by simp; omega) ?_; intro v2 w2 hown2 hgrow2 _))
                  go_roundw
                  case rel => exact ⟨k + 1, 1, _, by omega, by go_num, rfl, HI.out, by rw [tsC_snoc]; simpa using hown2, (hbel.alloc (by omega) _).grown hgrow2 (by simp; omega) (own_ge hown)⟩
                  case measure => simp [upS, intOf]; omega
                · have HI : Hid (Inv s (k + 1) l 9) := inv_note s k l hinv hlt HC.out.2.2.1
                  clear hinv
                  go_wp2
                  go_roundw
                  case rel => exact ⟨k + 1, 9, l, by omega, by go_num, rfl, HI.out, hown, hbel⟩
                  case measure => simp [upS, intOf]; omega
                · obtain ⟨l0, a, ha, rfl, hinv'⟩ := inv_word s k l hinv hlt HB.out
                  rw [ext_step s a k (by omega) hlt] at hinv'
                  have hll : (l0 ++ [(⟨1, s.extract a k, a⟩ : Tok)]).length = l0.length + 1 := by simp
                  rw [hll] at hown
                  obtain ⟨p, cap, rfl⟩ := own_len hown
                  obtain ⟨g, cap', e1, hg1, hg2⟩ := hown.form (by omega)
                  injection e1 with e1 e2 e3
                  subst e1
                  clear e2 e3
                  have hx := own_last hown
                  have hf := own_frozen hown (l0.length * 3 + 1)
                  simp only at hx
                  have hlen : l0.length ≤ 1099511627776 := by have := inv_len s k _ 1 hinv; rw [hll] at this; omega
                  have HI : Hid (Inv s (k + 1) (l0 ++ [⟨1, s.extract a (k + 1), a⟩]) 1) := hinv'
                  have HX : Hid (s.extract (min a k) (k + 1) = s.extract a (k + 1)) := by show _ = _; rw [Nat.min_eq_left (by omega)]
                  clear hinv hinv' hll
                  go_wp2_with (first
                      | (go_at_call 61; refine (refLetter_any _ _).mono ?_; rintro e w' ⟨rfl, hw'⟩; subst w')
                      | (go_at_call 62; refine (refDigit_any _ _).mono ?_; rintro e w' ⟨rfl, hw'⟩; subst w')
                      | (go_at_call 63; refine (refSign_any _ _).mono ?_; rintro e w' ⟨rfl, hw'⟩; subst w'))
                  go_region
                  go_wp2
                  go_roundw
                  case rel =>
                    refine ⟨k + 1, 1, _, by omega, by go_num, rfl, HI.out, ?_, (hbel.setCell hg1 _).drew⟩
                    rw [← tsC_upd l0 1 a (s.extract a k) (s.extract a (k + 1)), ← HX.out]
                    have := (own_set hown (l0.length * 3 + 1) (.string (s.extract (min a k) (k + 1)))).drew
                    simpa using this
                  case measure => simp [upS, intOf]; omega
                · have HI : Hid (Inv s (k + 1) (l ++ [⟨1, s.extract k (k + 1), k⟩]) 1) := go_word s k l (inv_zero s k l 2 hinv hlt (fun h => absurd h.1 (by decide)) (fun h => absurd h.1 (by decide)) (fun h => by rw [HC.out.2.2.2.2] at h; cases h.2)) hlt HC.out.2.2.2.1
                  have hlen : l.length ≤ 1099511627776 := by have := inv_len s k l 2 hinv; omega
                  clear hinv
                  go_wp2_with (first
                      | (go_at_call 61; refine (refLetter_any _ _).mono ?_; rintro e w' ⟨rfl, hw'⟩; subst w')
                      | (go_at_call 62; refine (refDigit_any _ _).mono ?_; rintro e w' ⟨rfl, hw'⟩; subst w')
                      | (go_at_call 63; refine (refSign_any _ _).mono ?_; rintro e w' ⟨rfl, hw'⟩; subst w')
                      | (at_builtin; refine wpList_append_own _ rfl (.tmp 107) (.tmp 116) 80 rfl w.heap.size 83 i0 _ 3 32 Try.underlying80 hi hz0 hz1 hz2 rfl (by decide) _ _ _ rfl (hown.alloc _) ⟨wr.heap.size, 0, none⟩ 1 1 (tc ⟨1, s.extract k (k + 1), k⟩) rfl rfl (World.news_of_block (heap_alloc_new wr _)) (tok_cell _) (by unfold maxLen; omega) (by omega) (by simp; omega) ?_; intro v2 w2 hown2 hgrow2 _))
                  go_roundw
                  case rel => exact ⟨k + 1, 1, _, by omega, by go_num, rfl, HI.out, by rw [tsC_snoc]; simpa using hown2, (hbel.alloc (by omega) _).grown hgrow2 (by simp; omega) (own_ge hown)⟩
                  case measure => simp [upS, intOf]; omega
              · by_cases hd : dgt (s[k]'hlt).toNat = true
                · have e32 : ((((s[k]'hlt).toNat) : Int) == 32) = false := by rw [beq_eq_false_iff_ne]; omega
                  have e10 : ((((s[k]'hlt).toNat) : Int) == 10) = false := by rw [beq_eq_false_iff_ne]; omega
                  have e9 : ((((s[k]'hlt).toNat) : Int) == 9) = false := by rw [beq_eq_false_iff_ne]; omega
                  have e35 : ((((s[k]'hlt).toNat) : Int) == 35) = false := by rw [beq_eq_false_iff_ne]; omega
                  have n10 : ((((s[k]'hlt).toNat) : Int) != 10) = true := by rw [bne_iff_ne]; omega
                  have fl : ltr (s[k]'hlt).toNat = false := by simpa using hl
                  have fd : dgt (s[k]'hlt).toNat = true := hd
                  have fb : blk (s[k]'hlt).toNat = false := by unfold blk; rw [decide_eq_false_iff_not]; omega
                  have HC : Hid (blk (byt s k) = false ∧ byt s k ≠ 35 ∧ byt s k ≠ 10 ∧ ltr (byt s k) = false ∧ dgt (byt s k) = true) := ⟨by rw [HG.out]; exact fb, by rw [HG.out]; omega, by rw [HG.out]; omega, by rw [HG.out]; exact fl, by rw [HG.out]; exact fd⟩
                  have HB : Hid (wrd (byt s k) = true) := by show _ = _; unfold wrd; rw [HC.out.2.2.2.1, HC.out.2.2.2.2]; rfl
                  clear h32 h10 h9 h35 hl hd
                  rcases inv_st s k l n hinv with rfl | rfl | rfl | rfl
                  · have HI : Hid (Inv s (k + 1) (l ++ [⟨2, s.extract k (k + 1), k⟩]) 2) := go_int s k l (inv_zero s k l 0 hinv hlt (fun h => absurd h.1 (by decide)) (fun h => absurd h.1 (by decide)) (fun h => absurd h.1 (by decide))) hlt HC.out.2.2.2.2
                    have hlen : l.length ≤ 1099511627776 := by have := inv_len s k l 0 hinv; omega
                    clear hinv
                    go_wp2_with (first
                        | (go_at_call 61; refine (refLetter_any _ _).mono ?_; rintro e w' ⟨rfl, hw'⟩; subst w')
                        | (go_at_call 62; refine (refDigit_any _ _).mono ?_; rintro e w' ⟨rfl, hw'⟩; subst w')
                        | (go_at_call 63; refine (refSign_any _ _).mono ?_; rintro e w' ⟨rfl, hw'⟩; subst w')
                        | (at_builtin; refine wpList_append_own _ rfl (.tmp 107) (.tmp 116) 80 rfl w.heap.size 83 i0 _ 3 32 Try.underlying80 hi hz0 hz1 hz2 rfl (by decide) _ _ _ rfl (hown.alloc _) ⟨wr.heap.size, 0, none⟩ 1 1 (tc ⟨2, s.extract k (k + 1), k⟩) rfl rfl (World.news_of_block (heap_alloc_new wr _)) (tok_cell _) (by unfold maxLen; omega) (by omega) (by simp; omega) ?_; intro v2 w2 hown2 hgrow2 _))
                    go_roundw
                    case rel => exact ⟨k + 1, 2, _, by omega, by go_num, rfl, HI.out, by rw [tsC_snoc]; simpa using hown2, (hbel.alloc (by omega) _).grown hgrow2 (by simp; omega) (own_ge hown)⟩
                    case measure => simp [upS, intOf]; omega
                  · have HI : Hid (Inv s (k + 1) l 9) := inv_note s k l hinv hlt HC.out.2.2.1
                    clear hinv
                    go_wp2
                    go_roundw
                    case rel => exact ⟨k + 1, 9, l, by omega, by go_num, rfl, HI.out, hown, hbel⟩
                    case measure => simp [upS, intOf]; omega
                  · obtain ⟨l0, a, ha, rfl, hinv'⟩ := inv_word s k l hinv hlt HB.out
                    rw [ext_step s a k (by omega) hlt] at hinv'
                    have hll : (l0 ++ [(⟨1, s.extract a k, a⟩ : Tok)]).length = l0.length + 1 := by simp
                    rw [hll] at hown
                    obtain ⟨p, cap, rfl⟩ := own_len hown
                    obtain ⟨g, cap', e1, hg1, hg2⟩ := hown.form (by omega)
                    injection e1 with e1 e2 e3
                    subst e1
                    clear e2 e3
                    have hx := own_last hown
                    have hf := own_frozen hown (l0.length * 3 + 1)
                    simp only at hx
                    have hlen : l0.length ≤ 1099511627776 := by have := inv_len s k _ 1 hinv; rw [hll] at this; omega
                    have HI : Hid (Inv s (k + 1) (l0 ++ [⟨1, s.extract a (k + 1), a⟩]) 1) := hinv'
                    have HX : Hid (s.extract (min a k) (k + 1) = s.extract a (k + 1)) := by show _ = _; rw [Nat.min_eq_left (by omega)]
                    clear hinv hinv' hll
                    go_wp2_with (first
                        | (go_at_call 61; refine (refLetter_any _ _).mono ?_; rintro e w' ⟨rfl, hw'⟩; subst w')
                        | (go_at_call 62; refine (refDigit_any _ _).mono ?_; rintro e w' ⟨rfl, hw'⟩; subst w')
                        | (go_at_call 63; refine (refSign_any _ _).mono ?_; rintro e w' ⟨rfl, hw'⟩; subst w'))
                    go_region
                    go_wp2
                    go_roundw
                    case rel =>
                      refine ⟨k + 1, 1, _, by omega, by go_num, rfl, HI.out, ?_, (hbel.setCell hg1 _).drew⟩
                      rw [← tsC_upd l0 1 a (s.extract a k) (s.extract a (k + 1)), ← HX.out]
                      have := (own_set hown (l0.length * 3 + 1) (.string (s.extract (min a k) (k + 1)))).drew
                      simpa using this
                    case measure => simp [upS, intOf]; omega
                  · obtain ⟨l0, a, ha, rfl, hinv'⟩ := inv_int s k l hinv hlt HC.out.2.2.2.2
                    rw [ext_step s a k (by omega) hlt] at hinv'
                    have hll : (l0 ++ [(⟨2, s.extract a k, a⟩ : Tok)]).length = l0.length + 1 := by simp
                    rw [hll] at hown
                    obtain ⟨p, cap, rfl⟩ := own_len hown
                    obtain ⟨g, cap', e1, hg1, hg2⟩ := hown.form (by omega)
                    injection e1 with e1 e2 e3
                    subst e1
                    clear e2 e3
                    have hx := own_last hown
                    have hf := own_frozen hown (l0.length * 3 + 1)
                    simp only at hx
                    have hlen : l0.length ≤ 1099511627776 := by have := inv_len s k _ 2 hinv; rw [hll] at this; omega
                    have HI : Hid (Inv s (k + 1) (l0 ++ [⟨2, s.extract a (k + 1), a⟩]) 2) := hinv'
                    have HX : Hid (s.extract (min a k) (k + 1) = s.extract a (k + 1)) := by show _ = _; rw [Nat.min_eq_left (by omega)]
                    clear hinv hinv' hll
                    go_wp2_with (first
                        | (go_at_call 61; refine (refLetter_any _ _).mono ?_; rintro e w' ⟨rfl, hw'⟩; subst w')
                        | (go_at_call 62; refine (refDigit_any _ _).mono ?_; rintro e w' ⟨rfl, hw'⟩; subst w')
                        | (go_at_call 63; refine (refSign_any _ _).mono ?_; rintro e w' ⟨rfl, hw'⟩; subst w'))
                    go_region
                    go_wp2
                    go_roundw
                    case rel =>
                      refine ⟨k + 1, 2, _, by omega, by go_num, rfl, HI.out, ?_, (hbel.setCell hg1 _).drew⟩
                      rw [← tsC_upd l0 2 a (s.extract a k) (s.extract a (k + 1)), ← HX.out]
                      have := (own_set hown (l0.length * 3 + 1) (.string (s.extract (min a k) (k + 1)))).drew
                      simpa using this
                    case measure => simp [upS, intOf]; omega
                · by_cases hg : sgn (s[k]'hlt).toNat = true
                  · have e32 : ((((s[k]'hlt).toNat) : Int) == 32) = false := by rw [beq_eq_false_iff_ne]; omega
                    have e10 : ((((s[k]'hlt).toNat) : Int) == 10) = false := by rw [beq_eq_false_iff_ne]; omega
                    have e9 : ((((s[k]'hlt).toNat) : Int) == 9) = false := by rw [beq_eq_false_iff_ne]; omega
                    have e35 : ((((s[k]'hlt).toNat) : Int) == 35) = false := by rw [beq_eq_false_iff_ne]; omega
                    have n10 : ((((s[k]'hlt).toNat) : Int) != 10) = true := by rw [bne_iff_ne]; omega
                    have fl : ltr (s[k]'hlt).toNat = false := by simpa using hl
                    have fd : dgt (s[k]'hlt).toNat = false := by simpa using hd
                    have fs : sgn (s[k]'hlt).toNat = true := by simpa using hg
                    have fb : blk (s[k]'hlt).toNat = false := by unfold blk; rw [decide_eq_false_iff_not]; omega
                    have HC : Hid (blk (byt s k) = false ∧ byt s k ≠ 35 ∧ byt s k ≠ 10 ∧ ltr (byt s k) = false ∧ dgt (byt s k) = false) := ⟨by rw [HG.out]; exact fb, by rw [HG.out]; omega, by rw [HG.out]; omega, by rw [HG.out]; exact fl, by rw [HG.out]; exact fd⟩
                    have HS : Hid (sgn (byt s k) = true) := by show _ = _; rw [HG.out]; exact fs
                    have HB : Hid (wrd (byt s k) = false) := by show _ = _; unfold wrd; rw [HC.out.2.2.2.1, HC.out.2.2.2.2]; rfl
                    clear h32 h10 h9 h35 hl hd hg
                    rcases inv_st s k l n hinv with rfl | rfl | rfl | rfl
                    · have HI : Hid (Inv s (k + 1) (l ++ [⟨3, s.extract k (k + 1), k⟩]) 0) := by have := go_one s k l (inv_zero s k l 0 hinv hlt (fun h => absurd h.1 (by decide)) (fun h => absurd h.1 (by decide)) (fun h => absurd h.1 (by decide))) hlt HC.out.1 HC.out.2.1 HC.out.2.2.2.1 HC.out.2.2.2.2; rw [HS.out] at this; exact this
                      have hlen : l.length ≤ 1099511627776 := by have := inv_len s k l 0 hinv; omega
                      clear hinv
                      go_wp2_with (first
                          | (go_at_call 61; refine (refLetter_any _ _).mono ?_; rintro e w' ⟨rfl, hw'⟩; subst w')
                          | (go_at_call 62; refine (refDigit_any _ _).mono ?_; rintro e w' ⟨rfl, hw'⟩; subst w')
                          | (go_at_call 63; refine (refSign_any _ _).mono ?_; rintro e w' ⟨rfl, hw'⟩; subst w')
                          | (at_builtin; refine wpList_append_own _ rfl (.tmp 91) (.tmp 99) 80 rfl w.heap.size 83 i0 _ 3 32 Try.underlying80 hi hz0 hz1 hz2 rfl (by decide) _ _ _ rfl (hown.alloc _) ⟨wr.heap.size, 0, none⟩ 1 1 (tc ⟨3, s.extract k (k + 1), k⟩) rfl rfl (World.news_of_block (heap_alloc_new wr _)) (tok_cell _) (by unfold maxLen; omega) (by omega) (by simp; omega) ?_; intro v2 w2 hown2 hgrow2 _))
                      go_roundw
                      case rel => exact ⟨k + 1, 0, _, by omega, by go_num, rfl, HI.out, by rw [tsC_snoc]; simpa using hown2, (hbel.alloc (by omega) _).grown hgrow2 (by simp; omega) (own_ge hown)⟩
                      case measure => simp [upS, intOf]; omega
                    · have HI : Hid (Inv s (k + 1) l 9) := inv_note s k l hinv hlt HC.out.2.2.1
                      clear hinv
                      go_wp2
                      go_roundw
                      case rel => exact ⟨k + 1, 9, l, by omega, by go_num, rfl, HI.out, hown, hbel⟩
                      case measure => simp [upS, intOf]; omega
                    · have HI : Hid (Inv s (k + 1) (l ++ [⟨3, s.extract k (k + 1), k⟩]) 0) := by have := go_one s k l (inv_zero s k l 1 hinv hlt (fun h => absurd h.1 (by decide)) (fun h => by rw [HB.out] at h; cases h.2) (fun h => absurd h.1 (by decide))) hlt HC.out.1 HC.out.2.1 HC.out.2.2.2.1 HC.out.2.2.2.2; rw [HS.out] at this; exact this
                      have hlen : l.length ≤ 1099511627776 := by have := inv_len s k l 1 hinv; omega
                      clear hinv
                      go_wp2_with (first
                          | (go_at_call 61; refine (refLetter_any _ _).mono ?_; rintro e w' ⟨rfl, hw'⟩; subst w')
                          | (go_at_call 62; refine (refDigit_any _ _).mono ?_; rintro e w' ⟨rfl, hw'⟩; subst w')
                          | (go_at_call 63; refine (refSign_any _ _).mono ?_; rintro e w' ⟨rfl, hw'⟩; subst w')
                          | (at_builtin; refine wpList_append_own _ rfl (.tmp 91) (.tmp 99) 80 rfl w.heap.size 83 i0 _ 3 32 Try.underlying80 hi hz0 hz1 hz2 rfl (by decide) _ _ _ rfl (hown.alloc _) ⟨wr.heap.size, 0, none⟩ 1 1 (tc ⟨3, s.extract k (k + 1), k⟩) rfl rfl (World.news_of_block (heap_alloc_new wr _)) (tok_cell _) (by unfold maxLen; omega) (by omega) (by simp; omega) ?_; intro v2 w2 hown2 hgrow2 _))
                      go_roundw
                      case rel => exact ⟨k + 1, 0, _, by omega, by go_num, rfl, HI.out, by rw [tsC_snoc]; simpa using hown2, (hbel.alloc (by omega) _).grown hgrow2 (by simp; omega) (own_ge hown)⟩
                      case measure => simp [upS, intOf]; omega
                    · have HI : Hid (Inv s (k + 1) (l ++ [⟨3, s.extract k (k + 1), k⟩]) 0) := by have := go_one s k l (inv_zero s k l 2 hinv hlt (fun h => absurd h.1 (by decide)) (fun h => absurd h.1 (by decide)) (fun h => by rw [HC.out.2.2.2.2] at h; cases h.2)) hlt HC.out.1 HC.out.2.1 HC.out.2.2.2.1 HC.out.2.2.2.2; rw [HS.out] at this; exact this
                      have hlen : l.length ≤ 1099511627776 := by have := inv_len s k l 2 hinv; omega
                      clear hinv
                      go_wp2_with (first
                          | (go_at_call 61; refine (refLetter_any _ _).mono ?_; rintro e w' ⟨rfl, hw'⟩; subst w')
                          | (go_at_call 62; refine (refDigit_any _ _).mono ?_; rintro e w' ⟨rfl, hw'⟩; subst w')
                          | (go_at_call 63; refine (refSign_any _ _).mono ?_; rintro e w' ⟨rfl, hw'⟩; subst w')
                          | (at_builtin; refine wpList_append_own _ rfl (.tmp 91) (.tmp 99) 80 rfl w.heap.size 83 i0 _ 3 32 Try.underlying80 hi hz0 hz1 hz2 rfl (by decide) _ _ _ rfl (hown.alloc _) ⟨wr.heap.size, 0, none⟩ 1 1 (tc ⟨3, s.extract k (k + 1), k⟩) rfl rfl (World.news_of_block (heap_alloc_new wr _)) (tok_cell _) (by unfold maxLen; omega) (by omega) (by simp; omega) ?_; intro v2 w2 hown2 hgrow2 _))
                      go_roundw
                      case rel => exact ⟨k + 1, 0, _, by omega, by go_num, rfl, HI.out, by rw [tsC_snoc]; simpa using hown2, (hbel.alloc (by omega) _).grown hgrow2 (by simp; omega) (own_ge hown)⟩
                      case measure => simp [upS, intOf]; omega
                  · have e32 : ((((s[k]'hlt).toNat) : Int) == 32) = false := by rw [beq_eq_false_iff_ne]; omega
                    have e10 : ((((s[k]'hlt).toNat) : Int) == 10) = false := by rw [beq_eq_false_iff_ne]; omega
                    have e9 : ((((s[k]'hlt).toNat) : Int) == 9) = false := by rw [beq_eq_false_iff_ne]; omega
                    have e35 : ((((s[k]'hlt).toNat) : Int) == 35) = false := by rw [beq_eq_false_iff_ne]; omega
                    have n10 : ((((s[k]'hlt).toNat) : Int) != 10) = true := by rw [bne_iff_ne]; omega
                    have fl : ltr (s[k]'hlt).toNat = false := by simpa using hl
                    have fd : dgt (s[k]'hlt).toNat = false := by simpa using hd
                    have fs : sgn (s[k]'hlt).toNat = false := by simpa using hg
                    have fb : blk (s[k]'hlt).toNat = false := by unfold blk; rw [decide_eq_false_iff_not]; omega
                    have HC : Hid (blk (byt s k) = false ∧ byt s k ≠ 35 ∧ byt s k ≠ 10 ∧ ltr (byt s k) = false ∧ dgt (byt s k) = false) := ⟨by rw [HG.out]; exact fb, by rw [HG.out]; omega, by rw [HG.out]; omega, by rw [HG.out]; exact fl, by rw [HG.out]; exact fd⟩
                    have HS : Hid (sgn (byt s k) = false) := by show _ = _; rw [HG.out]; exact fs
                    have HB : Hid (wrd (byt s k) = false) := by show _ = _; unfold wrd; rw [HC.out.2.2.2.1, HC.out.2.2.2.2]; rfl
                    clear h32 h10 h9 h35 hl hd hg
                    rcases inv_st s k l n hinv with rfl | rfl | rfl | rfl
                    · have HI : Hid (Inv s (k + 1) (l ++ [⟨4, s.extract k (k + 1), k⟩]) 0) := by have := go_one s k l (inv_zero s k l 0 hinv hlt (fun h => absurd h.1 (by decide)) (fun h => absurd h.1 (by decide)) (fun h => absurd h.1 (by decide))) hlt HC.out.1 HC.out.2.1 HC.out.2.2.2.1 HC.out.2.2.2.2; rw [HS.out] at this; exact this
                      have hlen : l.length ≤ 1099511627776 := by have := inv_len s k l 0 hinv; omega
                      clear hinv
                      go_wp2_with (first
                          | (go_at_call 61; refine (refLetter_any _ _).mono ?_; rintro e w' ⟨rfl, hw'⟩; subst w')
                          | (go_at_call 62; refine (refDigit_any _ _).mono ?_; rintro e w' ⟨rfl, hw'⟩; subst w')
                          | (go_at_call 63; refine (refSign_any _ _).mono ?_; rintro e w' ⟨rfl, hw'⟩; subst w')
                          | (at_builtin; refine wpList_append_own _ rfl (.tmp 58) (.tmp 66) 80 rfl w.heap.size 83 i0 _ 3 32 Try.underlying80 hi hz0 hz1 hz2 rfl (by decide) _ _ _ rfl (hown.alloc _) ⟨wr.heap.size, 0, none⟩ 1 1 (tc ⟨4, s.extract k (k + 1), k⟩) rfl rfl (World.news_of_block (heap_alloc_new wr _)) (tok_cell _) (by unfold maxLen; omega) (by omega) (by simp; omega) ?_; intro v2 w2 hown2 hgrow2 _))
                      go_roundw
                      case rel => exact ⟨k + 1, 0, _, by omega, by go_num, rfl, HI.out, by rw [tsC_snoc]; simpa using hown2, (hbel.alloc (by omega) _).grown hgrow2 (by simp; omega) (own_ge hown)⟩
                      case measure => simp [upS, intOf]; omega
                    · have HI : Hid (Inv s (k + 1) l 9) := inv_note s k l hinv hlt HC.out.2.2.1
                      clear hinv
                      go_wp2
                      go_roundw
                      case rel => exact ⟨k + 1, 9, l, by omega, by go_num, rfl, HI.out, hown, hbel⟩
                      case measure => simp [upS, intOf]; omega
                    · have HI : Hid (Inv s (k + 1) (l ++ [⟨4, s.extract k (k + 1), k⟩]) 0) := by have := go_one s k l (inv_zero s k l 1 hinv hlt (fun h => absurd h.1 (by decide)) (fun h => by rw [HB.out] at h; cases h.2) (fun h => absurd h.1 (by decide))) hlt HC.out.1 HC.out.2.1 HC.out.2.2.2.1 HC.out.2.2.2.2; rw [HS.out] at this; exact this
                      have hlen : l.length ≤ 1099511627776 := by have := inv_len s k l 1 hinv; omega
                      clear hinv
                      go_wp2_with (first
                          | (go_at_call 61; refine (refLetter_any _ _).mono ?_; rintro e w' ⟨rfl, hw'⟩; subst w')
                          | (go_at_call 62; refine (refDigit_any _ _).mono ?_; rintro e w' ⟨rfl, hw'⟩; subst w')
                          | (go_at_call 63; refine (refSign_any _ _).mono ?_; rintro e w' ⟨rfl, hw'⟩; subst w')
                          | (at_builtin; refine wpList_append_own _ rfl (.tmp 58) (.tmp 66) 80 rfl w.heap.size 83 i0 _ 3 32 Try.underlying80 hi hz0 hz1 hz2 rfl (by decide) _ _ _ rfl (hown.alloc _) ⟨wr.heap.size, 0, none⟩ 1 1 (tc ⟨4, s.extract k (k + 1), k⟩) rfl rfl (World.news_of_block (heap_alloc_new wr _)) (tok_cell _) (by unfold maxLen; omega) (by omega) (by simp; omega) ?_; intro v2 w2 hown2 hgrow2 _))
                      go_roundw
                      case rel => exact ⟨k + 1, 0, _, by omega, by go_num, rfl, HI.out, by rw [tsC_snoc]; simpa using hown2, (hbel.alloc (by omega) _).grown hgrow2 (by simp; omega) (own_ge hown)⟩
                      case measure => simp [upS, intOf]; omega
                    · have HI : Hid (Inv s (k + 1) (l ++ [⟨4, s.extract k (k + 1), k⟩]) 0) := by have := go_one s k l (inv_zero s k l 2 hinv hlt (fun h => absurd h.1 (by decide)) (fun h => absurd h.1 (by decide)) (fun h => by rw [HC.out.2.2.2.2] at h; cases h.2)) hlt HC.out.1 HC.out.2.1 HC.out.2.2.2.1 HC.out.2.2.2.2; rw [HS.out] at this; exact this
                      have hlen : l.length ≤ 1099511627776 := by have := inv_len s k l 2 hinv; omega
                      clear hinv
                      go_wp2_with (first
                          | (go_at_call 61; refine (refLetter_any _ _).mono ?_; rintro e w' ⟨rfl, hw'⟩; subst w')
                          | (go_at_call 62; refine (refDigit_any _ _).mono ?_; rintro e w' ⟨rfl, hw'⟩; subst w')
                          | (go_at_call 63; refine (refSign_any _ _).mono ?_; rintro e w' ⟨rfl, hw'⟩; subst w')
                          | (at_builtin; refine wpList_append_own _ rfl (.tmp 58) (.tmp 66) 80 rfl w.heap.size 83 i0 _ 3 32 Try.underlying80 hi hz0 hz1 hz2 rfl (by decide) _ _ _ rfl (hown.alloc _) ⟨wr.heap.size, 0, none⟩ 1 1 (tc ⟨4, s.extract k (k + 1), k⟩) rfl rfl (World.news_of_block (heap_alloc_new wr _)) (tok_cell _) (by unfold maxLen; omega) (by omega) (by simp; omega) ?_; intro v2 w2 hown2 hgrow2 _))
                      go_roundw
                      case rel => exact ⟨k + 1, 0, _, by omega, by go_num, rfl, HI.out, by rw [tsC_snoc]; simpa using hown2, (hbel.alloc (by omega) _).grown hgrow2 (by simp; omega) (own_ge hown)⟩
                      case measure => simp [upS, intOf]; omega
    · have hkn : k = s.size := by omega
      subst hkn
      have HE : Hid (tks s = l) := inv_end s l n hinv
      clear hinv
      go_wp2
      go_ret
      exact ⟨_, rfl, by rw [HE.out]; exact hown, hbel⟩
end Go.Proofs.Ytjpmnholpeidmaa


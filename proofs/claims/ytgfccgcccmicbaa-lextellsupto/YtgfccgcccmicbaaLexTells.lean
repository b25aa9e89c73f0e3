/- All that chapter 2 tells, held against the document's answer: the law's walk. -/
import Derived.Test.YtgfccgcccmicbaaRefWords
namespace Go.Proofs.Ytgfccgcccmicbaa
open Go.RowKit
def IntAt (w : World) (g : Nat) (l : List Nat) : Prop := ∀ j (c : Nat), l[j]? = some c → w.cell? ⟨g, j, none⟩ = some (.int .i64 (c : Int))
theorem IntAt.below {w w1 : World} {g : Nat} {l : List Nat} (h : IntAt w g l) {B : Nat} (hb : Below B w w1) (hg : g < B) : IntAt w1 g l := by
  intro j c hc
  rw [hb.cell (p := ⟨g, j, none⟩) hg]
  exact h j c hc
theorem own_ints {w : World} {base : Nat} {v : Value} {l : List Nat} (h : w.ownsRow base 3 1 v l.length (intC l)) :
    ∃ p cap, v = .slice p l.length cap ∧ (0 < l.length → ∃ g, p = some ⟨g, 0, none⟩ ∧ g < w.heap.size ∧ IntAt w g l) := by
  have hc : ∀ g, v.ownBlock = some g → ∀ j u, (intC l)[j]? = some u → w.cell? ((⟨g, 0, none⟩ : Addr).add j) = some u := fun g hg => h.cells hg
  obtain ⟨_, ⟨rfl, h0⟩ | ⟨g, cap, cur, rfl, hb, hg, hcap, _⟩⟩ := h
  · exact ⟨none, 0, by rw [h0], fun h => by omega⟩
  · refine ⟨_, cap, rfl, fun _ => ⟨g, rfl, (Array.getElem?_eq_some_iff.1 hg).1, fun j c hj => ?_⟩⟩
    have e : ∀ i, (⟨g, 0, none⟩ : Addr).add i = ⟨g, i, none⟩ := by intro i; simp only [Addr.add, Nat.zero_add]; split <;> simp_all
    have := hc g rfl j (.int .i64 (c : Int)) (by unfold intC; rw [List.getElem?_map, hj]; rfl)
    rw [e] at this
    exact this
theorem cuts_read (s : ByteArray) (w : World) (hs : s.size ≤ 1099511627776) :
    Calls Try.prog 22 #[.string s] w fun e w' => ∃ p cap, e = .returned (.slice p (cts s).length cap) ∧ (0 < (cts s).length → ∃ g, p = some ⟨g, 0, none⟩ ∧ g < w'.heap.size ∧ IntAt w' g (cts s)) ∧ Below w.heap.size w w' := by
  refine (cuts_any s w hs).mono ?_
  rintro e w' ⟨v, rfl, hown, hb⟩
  obtain ⟨p, cap, rfl, h⟩ := own_ints hown
  exact ⟨p, cap, rfl, h, hb⟩
theorem refCuts_read (s : ByteArray) (w : World) (hs : s.size ≤ 1099511627776) :
    Calls Try.prog 23 #[.string s] w fun e w' => ∃ p cap, e = .returned (.slice p (cts s).length cap) ∧ (0 < (cts s).length → ∃ g, p = some ⟨g, 0, none⟩ ∧ g < w'.heap.size ∧ IntAt w' g (cts s)) ∧ Below w.heap.size w w' := by
  refine (refCuts_any s w hs).mono ?_
  rintro e w' ⟨v, rfl, hown, hb⟩
  obtain ⟨p, cap, rfl, h⟩ := own_ints hown
  exact ⟨p, cap, rfl, h, hb⟩
theorem refTokens_read (s : ByteArray) (w : World) (hs : s.size ≤ 1099511627776) :
    Calls Try.prog 26 #[.string s] w fun e w' => ∃ p cap, e = .returned (.slice p (tks s).length cap) ∧ (tks s).length ≤ cap ∧ (0 < (tks s).length → ∃ g, p = some ⟨g, 0, none⟩ ∧ w.heap.size ≤ g ∧ g < w'.heap.size ∧ TokAt w' g 0 (tks s)) ∧ Below w.heap.size w w' := by
  refine (refTokens_any s w hs).mono ?_
  rintro e w' ⟨v, rfl, hown, hb⟩
  by_cases hn : 0 < (tks s).length
  · obtain ⟨g, cap, rfl, h1, h2, h3, h4⟩ := own_toks hown hn
    exact ⟨_, cap, rfl, h3, fun _ => ⟨g, rfl, h1, h2, h4⟩, hb⟩
  · obtain ⟨p, cap, rfl⟩ := own_len hown
    exact ⟨p, cap, rfl, by omega, fun h => absurd h hn, hb⟩
theorem cts_len (s : ByteArray) : (cts s).length ≤ s.size := by
  have h1 := cutK_len s (tks s) (tks s).length
  have h2 := tks_len s
  unfold cts; omega
def RelO (W : World) (i : Value) (wr : World) : Prop := ∃ k : Nat, k ≤ 9 ∧ i = .int .i64 (k : Int) ∧ Below W.heap.size W wr
def RelL (n : Nat) (W : World) (i : Value) (wr : World) : Prop := ∃ k : Nat, k ≤ n ∧ i = .int .i64 (k : Int) ∧ wr = W
set_option maxHeartbeats 4000000 in
set_option maxRecDepth 100000 in
theorem tells_walk (s : ByteArray) (w : World) (hs : s.size ≤ 1099511627776) :
    Calls Try.prog 6 #[.string s] w fun e w' => e = .returned (.bool true) ∧ Below w.heap.size w w' := by
  have hs0 : s.size ≤ maxLen := by unfold maxLen; omega
  have hcl := cts_len s
  have htl := tks_len s
  have hB : Below w.heap.size w w := Below.refl _ _
  go_enter Try.func6, Try.ntmps6
  go_wp2_with (first
    | (go_at_call 22; refine (cuts_read _ _ hs).mono ?_; rintro e w1 ⟨p1, c1, rfl, h1, hb1⟩; have hB1 := hB.trans (hb1.mono hB.size))
    | (go_at_call 23; refine (refCuts_read _ _ hs).mono ?_; rintro e w2 ⟨p2, c2, rfl, h2, hb2⟩; have hB2 := hB1.trans (hb2.mono hB1.size))
    | (go_at_call 25; refine (tokens_read _ _ hs).mono ?_; rintro e w3 ⟨p3, c3, rfl, _, h3, hb3⟩; have hB3 := hB2.trans (hb3.mono hB2.size))
    | (go_at_call 26; refine (refTokens_read _ _ hs).mono ?_; rintro e w4 ⟨p4, c4, rfl, _, h4, hb4⟩; have hB4 := hB3.trans (hb4.mono hB3.size))
    | (go_at_call 24
       have S1 : 0 < (tks s).length → ∃ g, p3 = some ⟨g, 0, none⟩ ∧ TokAt w4 g 0 (tks s) := fun h => by
         obtain ⟨g, e1, _, e3, e4⟩ := h3 h
         exact ⟨g, e1, e4.below hb4 e3⟩
       have S2 : 0 < (tks s).length → ∃ g, p4 = some ⟨g, 0, none⟩ ∧ TokAt w4 g 0 (tks s) := fun h => by
         obtain ⟨g, e1, _, e3, e4⟩ := h4 h
         exact ⟨g, e1, e4⟩
       refine (same_any (tks s) _ _ _ _ _ (by omega) S1 S2).mono ?_
       rintro e w5 ⟨rfl, m, hw5⟩
       subst w5
       clear S1 S2)
    | (go_at_call 27; refine (word_any _ _ hs0).mono ?_; rintro e w' ⟨rfl, hw'⟩; subst w')
    | (go_at_call 28; refine (refWord_any _ _ hs0).mono ?_; rintro e w' ⟨rfl, hw'⟩; subst w')
    | (go_at_call 29; refine (name_any _ _ hs0).mono ?_; rintro e w6 ⟨rfl, hb6⟩; have hB6 := (below_drewN hB4 m).trans (hb6.mono (below_drewN hB4 m).size))
    | (go_at_call 30; refine (refName_any _ _ hs0).mono ?_; rintro e w7 ⟨rfl, hb7⟩; have hB7 := hB6.trans (hb7.mono hB6.size))
    | (go_at_call 31; refine (own_any _).mono ?_; rintro e w' ⟨rfl, hw'⟩; subst w')
    | (go_at_call 32; refine (refOwn_any _).mono ?_; rintro e w' ⟨rfl, hw'⟩; subst w'))
  have hA : Below w7.heap.size w7 ((w7.alloc ownO).alloc ownO) := ((Below.refl _ _).alloc (Nat.le_refl _) _).alloc (by simp) _
  have hB8 := hB7.trans (hA.mono hB7.size)
  have hC6 := (below_drewN (Below.refl w4.heap.size w4) m).trans hb6
  have hC7 := hC6.trans (hb7.mono hC6.size)
  have hC8 := hC7.trans (hA.mono hC7.size)
  have hD8 := hb4.trans (hC8.mono hb4.size)
  have hE8 := hb3.trans (hD8.mono hb3.size)
  have hF8 := hb2.trans (hE8.mono hb2.size)
  have I1 : 0 < (cts s).length → ∃ g, p1 = some ⟨g, 0, none⟩ ∧ IntAt ((w7.alloc ownO).alloc ownO) g (cts s) := fun h => by
    obtain ⟨g, e1, e2, e3⟩ := h1 h
    exact ⟨g, e1, e3.below hF8 e2⟩
  have I2 : 0 < (cts s).length → ∃ g, p2 = some ⟨g, 0, none⟩ ∧ IntAt ((w7.alloc ownO).alloc ownO) g (cts s) := fun h => by
    obtain ⟨g, e1, e2, e3⟩ := h2 h
    exact ⟨g, e1, e3.below hE8 e2⟩
  clear hA hC6 hC7 hC8 hD8 hE8 hF8 h1 h2 h3 h4 hb1 hb2 hb3 hb4 hb6 hb7 hB hB1 hB2 hB3 hB4 hB6 hB7
  generalize (w7.alloc ownO).alloc ownO = W at *
  go_loopw [50] (fun i wr => RelE (cts s).length W i wr) (fun i _ => upN (cts s).length i)
  case atStart => exact ⟨0, 0, Nat.zero_le _, rfl, rfl⟩
  case round =>
    obtain ⟨k, m2, hk, rfl, rfl⟩ := hrel
    by_cases hlt : k < (cts s).length
    · obtain ⟨g1, rfl, t1⟩ := I1 (by omega)
      obtain ⟨g2, rfl, t2⟩ := I2 (by omega)
      obtain ⟨c, hc⟩ : ∃ c, (cts s)[k]? = some c := ⟨_, List.getElem?_eq_getElem hlt⟩
      have a0 := t1 k c hc
      have b0 := t2 k c hc
      clear I1 I2 t1 t2 hc
      go_wp2
      go_quiet (fail)
      go_wp2
      go_roundw
      case rel => exact ⟨k + 1, m2 + nq, by omega, by go_num, by simp⟩
      case measure => simp [upN, intOf]; omega
    · clear I1 I2
      go_wp2_with (first
        | (go_at_call 31; refine (own_any _).mono ?_; rintro e w' ⟨rfl, hw'⟩; subst w'))
      have hB9 : Below w.heap.size w ((W.drewN m2).alloc ownO) := (below_drewN hB8 m2).alloc hB8.size _
      have hcell := own_cell (W.drewN m2)
      simp only [World.heap_drewN] at hcell
      have hgW : W.heap.size < ((W.drewN m2).alloc ownO).heap.size := by simp
      generalize (W.drewN m2).alloc ownO = W2 at *
      go_loopw [65] (fun i wr => RelO W2 i wr) (fun i _ => upN 9 i)
      case atStart => exact ⟨0, Nat.zero_le _, rfl, Below.refl _ _⟩
      case round =>
        obtain ⟨k2, hk2, rfl, hbel⟩ := hrel
        have hsz := hbel.size
        by_cases hlt2 : k2 < 9
        · have ha := hcell k2 hlt2
          rw [← hbel.cell (p := ⟨W.heap.size, k2, none⟩) hgW] at ha
          have hb := own_cell wr k2 hlt2
          clear hcell
          generalize ownL.getD k2 ByteArray.empty = y at ha hb
          go_wp2_with (first
            | (go_at_call 32; refine (refOwn_any _).mono ?_; rintro e w' ⟨rfl, hw'⟩; subst w'))
          exact ⟨⟨k2 + 1, by omega, by go_num, hbel.alloc (by omega) _⟩, by simp [upN, intOf]; omega⟩
        · clear hcell
          have hB10 := hB9.trans (hbel.mono hB9.size)
          go_wp2
          go_loopw [79] (fun i wr2 => RelL s.size wr i wr2) (fun i _ => upN s.size i)
          case atStart => exact ⟨0, Nat.zero_le _, rfl, rfl⟩
          case round =>
            obtain ⟨k3, hk3, rfl, hwr⟩ := hrel
            subst hwr
            by_cases hlt3 : k3 < s.size
            · by_cases h32 : (s[k3]'hlt3).toNat = 32
              · have e32 : ((((s[k3]'hlt3).toNat) : Int) == 32) = true := by rw [beq_iff_eq]; omega
                have fb : blk (s[k3]'hlt3).toNat = true := by unfold blk; rw [decide_eq_true_eq]; omega
                clear h32
                go_wp2_with (first
                  | (go_at_call 33; refine (letter_any _ _).mono ?_; rintro e w' ⟨rfl, hw'⟩; subst w')
                  | (go_at_call 34; refine (refLetter_any _ _).mono ?_; rintro e w' ⟨rfl, hw'⟩; subst w')
                  | (go_at_call 35; refine (digit_any _ _).mono ?_; rintro e w' ⟨rfl, hw'⟩; subst w')
                  | (go_at_call 36; refine (refDigit_any _ _).mono ?_; rintro e w' ⟨rfl, hw'⟩; subst w')
                  | (go_at_call 37; refine (blank_any _ _).mono ?_; rintro e w' ⟨rfl, hw'⟩; subst w'))
                go_roundw
                case rel => exact ⟨k3 + 1, by omega, by go_num, rfl⟩
                case measure => simp [upN, intOf]; omega
              · by_cases h10 : (s[k3]'hlt3).toNat = 10
                · have e32 : ((((s[k3]'hlt3).toNat) : Int) == 32) = false := by rw [beq_eq_false_iff_ne]; omega
                  have e10 : ((((s[k3]'hlt3).toNat) : Int) == 10) = true := by rw [beq_iff_eq]; omega
                  have fb : blk (s[k3]'hlt3).toNat = true := by unfold blk; rw [decide_eq_true_eq]; omega
                  clear h32 h10
                  go_wp2_with (first
                    | (go_at_call 33; refine (letter_any _ _).mono ?_; rintro e w' ⟨rfl, hw'⟩; subst w')
                    | (go_at_call 34; refine (refLetter_any _ _).mono ?_; rintro e w' ⟨rfl, hw'⟩; subst w')
                    | (go_at_call 35; refine (digit_any _ _).mono ?_; rintro e w' ⟨rfl, hw'⟩; subst w')
                    | (go_at_call 36; refine (refDigit_any _ _).mono ?_; rintro e w' ⟨rfl, hw'⟩; subst w')
                    | (go_at_call 37; refine (blank_any _ _).mono ?_; rintro e w' ⟨rfl, hw'⟩; subst w'))
                  go_roundw
                  case rel => exact ⟨k3 + 1, by omega, by go_num, rfl⟩
                  case measure => simp [upN, intOf]; omega
                · by_cases h9 : (s[k3]'hlt3).toNat = 9
                  · have e32 : ((((s[k3]'hlt3).toNat) : Int) == 32) = false := by rw [beq_eq_false_iff_ne]; omega
                    have e10 : ((((s[k3]'hlt3).toNat) : Int) == 10) = false := by rw [beq_eq_false_iff_ne]; omega
                    have e9 : ((((s[k3]'hlt3).toNat) : Int) == 9) = true := by rw [beq_iff_eq]; omega
                    have fb : blk (s[k3]'hlt3).toNat = true := by unfold blk; rw [decide_eq_true_eq]; omega
                    clear h32 h10 h9
                    go_wp2_with (first
                      | (go_at_call 33; refine (letter_any _ _).mono ?_; rintro e w' ⟨rfl, hw'⟩; subst w')
                      | (go_at_call 34; refine (refLetter_any _ _).mono ?_; rintro e w' ⟨rfl, hw'⟩; subst w')
                      | (go_at_call 35; refine (digit_any _ _).mono ?_; rintro e w' ⟨rfl, hw'⟩; subst w')
                      | (go_at_call 36; refine (refDigit_any _ _).mono ?_; rintro e w' ⟨rfl, hw'⟩; subst w')
                      | (go_at_call 37; refine (blank_any _ _).mono ?_; rintro e w' ⟨rfl, hw'⟩; subst w'))
                    go_roundw
                    case rel => exact ⟨k3 + 1, by omega, by go_num, rfl⟩
                    case measure => simp [upN, intOf]; omega
                  · have e32 : ((((s[k3]'hlt3).toNat) : Int) == 32) = false := by rw [beq_eq_false_iff_ne]; omega
                    have e10 : ((((s[k3]'hlt3).toNat) : Int) == 10) = false := by rw [beq_eq_false_iff_ne]; omega
                    have e9 : ((((s[k3]'hlt3).toNat) : Int) == 9) = false := by rw [beq_eq_false_iff_ne]; omega
                    have fb : blk (s[k3]'hlt3).toNat = false := by unfold blk; rw [decide_eq_false_iff_not]; omega
                    clear h32 h10 h9
                    go_wp2_with (first
                      | (go_at_call 33; refine (letter_any _ _).mono ?_; rintro e w' ⟨rfl, hw'⟩; subst w')
                      | (go_at_call 34; refine (refLetter_any _ _).mono ?_; rintro e w' ⟨rfl, hw'⟩; subst w')
                      | (go_at_call 35; refine (digit_any _ _).mono ?_; rintro e w' ⟨rfl, hw'⟩; subst w')
                      | (go_at_call 36; refine (refDigit_any _ _).mono ?_; rintro e w' ⟨rfl, hw'⟩; subst w')
                      | (go_at_call 37; refine (blank_any _ _).mono ?_; rintro e w' ⟨rfl, hw'⟩; subst w'))
                    go_roundw
                    case rel => exact ⟨k3 + 1, by omega, by go_num, rfl⟩
                    case measure => simp [upN, intOf]; omega
            · go_wp2
              go_ret
              exact ⟨rfl, hB10⟩
end Go.Proofs.Ytgfccgcccmicbaa

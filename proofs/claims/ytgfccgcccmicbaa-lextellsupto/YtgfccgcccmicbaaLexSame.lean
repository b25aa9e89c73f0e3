/- Two lists of the same tokens are found the same; a list of tokens as its reader meets it. -/
import Derived.Test.YtgfccgcccmicbaaLexCuts
import Derived.Deep.QuietTactic
import Derived.BigQuiet
namespace Go.Proofs.Ytgfccgcccmicbaa
open Go.RowKit
theorem below_drewN {B : Nat} {a w : World} (h : Below B a w) (n : Nat) : Below B a (w.drewN n) := ⟨h.os, h.tape, h.output, h.size, h.block⟩
def RelE (n : Nat) (w : World) (i : Value) (wr : World) : Prop := ∃ k m : Nat, k ≤ n ∧ i = .int .i64 (k : Int) ∧ wr = w.drewN m
set_option maxHeartbeats 1000000 in
theorem same_any (l : List Tok) (p1 p2 : Option Addr) (c1 c2 : Nat) (w : World) (hl : l.length ≤ 1099511627776)
    (h1 : 0 < l.length → ∃ g, p1 = some ⟨g, 0, none⟩ ∧ TokAt w g 0 l) (h2 : 0 < l.length → ∃ g, p2 = some ⟨g, 0, none⟩ ∧ TokAt w g 0 l) :
    Calls Try.prog 24 #[.slice p1 l.length c1, .slice p2 l.length c2] w fun e w' => e = .returned (.bool true) ∧ ∃ m, w' = w.drewN m := by
  go_enter Try.func24, Try.ntmps24
  by_cases hn : l.length = 0
  · have HN : Hid (l.length = 0) := hn
    clear h1 h2
    rw [hn]
    go_wp2
    go_loopw [13] (fun i wr => i = .int .i64 0 ∧ wr = w) (fun _ _ => 0)
    case atStart => exact ⟨rfl, rfl⟩
    case round =>
      obtain ⟨rfl, rfl⟩ := hrel
      go_wp2
      go_ret
      exact ⟨rfl, 0, rfl⟩
  · obtain ⟨g1, rfl, t1⟩ := h1 (by omega)
    obtain ⟨g2, rfl, t2⟩ := h2 (by omega)
    go_wp2
    go_loopw [13] (fun i wr => RelE l.length w i wr) (fun i _ => upN l.length i)
    case atStart => exact ⟨0, 0, Nat.zero_le _, rfl, rfl⟩
    case round =>
      obtain ⟨k, m, hk, rfl, rfl⟩ := hrel
      by_cases hlt : k < l.length
      · obtain ⟨t, ht⟩ : ∃ t, l[k]? = some t := ⟨_, List.getElem?_eq_getElem hlt⟩
        have ⟨a0, a1, a2⟩ := t1 k t ht
        have ⟨b0, b1, b2⟩ := t2 k t ht
        rw [Nat.zero_add] at a0 a1 a2 b0 b1 b2
        have HT : Hid (l[k]? = some t) := ht
        clear ht
        go_wp2
        go_quiet (fail)
        go_wp2
        go_roundw
        case rel => exact ⟨k + 1, m + nq, by omega, by go_num, by simp⟩
        case measure => simp [upN, intOf]; omega
      · go_wp2
        go_ret
        exact ⟨rfl, m, rfl⟩
/-- Tokens, as their reader meets them: a slice of so many, and where they lie if there are any. -/
theorem tokens_read (s : ByteArray) (w : World) (hs : s.size ≤ 1099511627776) :
    Calls Try.prog 25 #[.string s] w fun e w' => ∃ p cap, e = .returned (.slice p (tks s).length cap) ∧ (tks s).length ≤ cap ∧ (0 < (tks s).length → ∃ g, p = some ⟨g, 0, none⟩ ∧ w.heap.size ≤ g ∧ g < w'.heap.size ∧ TokAt w' g 0 (tks s)) ∧ Below w.heap.size w w' := by
  refine (tokens_any s w hs).mono ?_
  rintro e w' ⟨v, rfl, hown, hb⟩
  by_cases hn : 0 < (tks s).length
  · obtain ⟨g, cap, rfl, h1, h2, h3, h4⟩ := own_toks hown hn
    exact ⟨_, cap, rfl, h3, fun _ => ⟨g, rfl, h1, h2, h4⟩, hb⟩
  · obtain ⟨p, cap, rfl⟩ := own_len hown
    exact ⟨p, cap, rfl, by omega, fun h => absurd h hn, hb⟩
end Go.Proofs.Ytgfccgcccmicbaa

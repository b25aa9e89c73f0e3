/- One behind the other: the law's walk. -/
import Derived.Test.YtgfccgcccmicbaaLexAlive
import Derived.Test.YtgfccgcccmicbaaLexSame
import Derived.Test.YtgfccgcccmicbaaLexJoinMath
namespace Go.Proofs.Ytgfccgcccmicbaa
open Go.RowKit
theorem TokAt.left {w : World} {g o : Nat} {a b : List Tok} (h : TokAt w g o (a ++ b)) : TokAt w g o a := by
  intro j t ht
  exact h j t (by rw [List.getElem?_append_left (List.getElem?_eq_some_iff.1 ht).1]; exact ht)
theorem TokAt.right {w : World} {g : Nat} {a b : List Tok} (h : TokAt w g 0 (a ++ b)) : TokAt w g (a.length * 3) b := by
  intro j t ht
  have := h (a.length + j) t (by rw [List.getElem?_append_right (by omega), Nat.add_sub_cancel_left]; exact ht)
  rw [show 0 + (a.length + j) * 3 = a.length * 3 + j * 3 by omega] at this
  exact this
theorem cell_alloc {w : World} {a : Addr} {u : Value} (h : w.cell? a = some u) : ∀ o, (w.alloc o).cell? a = some u :=
  fun o => (((Below.refl _ w).alloc (Nat.le_refl _) o).cell (World.block_lt_of_cell? w a h)).trans h
def RelJ (n : Nat) (w4 : World) (i : Value) (wr : World) : Prop := ∃ k : Nat, k ≤ n ∧ i = .int .i64 (k : Int) ∧ Below w4.heap.size w4 wr
set_option maxHeartbeats 1000000 in
theorem joined_walk (s t : ByteArray) (w : World) (hs : s.size ≤ 1048576) (ht : t.size ≤ 1048576) :
    Calls Try.prog 8 #[.string s, .string t] w fun e w' => e = .returned (.bool true) ∧ Below w.heap.size w w' := by
  have hj : (s ++ ⟨#[10]⟩ ++ t).size ≤ 1099511627776 := by have := jn_size s t; unfold jn nlB at this; omega
  have HJ : Hid (tks (s ++ ⟨#[10]⟩ ++ t) = tks s ++ (tks t).map (shf (s.size + 1))) := tks_jn s t
  have hlen : (tks (s ++ ⟨#[10]⟩ ++ t)).length = (tks s).length + (tks t).length := by rw [HJ.out]; simp
  have hla := tks_len s
  have hlb := tks_len t
  have hs' : s.size ≤ 1099511627776 := by omega
  have ht' : t.size ≤ 1099511627776 := by omega
  have F1 : Hid (1 = 1) := rfl
  have F2 : Hid (1 = 1) := rfl
  have F3 : Hid (1 = 1) := rfl
  go_enter Try.func8, Try.ntmps8
  by_cases hnt : (tks t).length = 0
  · go_wp2_with (first
      | (go_at_call 38; refine (alive_any _).mono ?_; rintro e w1 ⟨rfl, hb1⟩)
      | (go_at_call 25; have f := F1; clear f F1; refine (tokens_read _ _ (by assumption)).mono ?_; rintro e w2 ⟨pl, cl, rfl, hcl, hl, hb2⟩)
      | (go_at_call 25; have f := F2; clear f F2; refine (tokens_read _ _ (by assumption)).mono ?_; rintro e w3 ⟨pa, ca, rfl, hca, ha, hb3⟩)
      | (go_at_call 25; have f := F3; clear f F3; refine (tokens_read _ _ (by assumption)).mono ?_; rintro e w4 ⟨pb, cb, rfl, hcb, hb, hb4⟩)
      | (go_at_call 24
         have S1 : 0 < (tks s).length → ∃ g, pl = some ⟨g, 0, none⟩ ∧ TokAt w4 g 0 (tks s) := fun h => by
           obtain ⟨g, e1, _, e3, e4⟩ := hl (by omega)
           have hz := hb3.size
           rw [HJ.out] at e4
           exact ⟨g, e1, (e4.left.below hb3 e3).below hb4 (by omega)⟩
         have S2 : 0 < (tks s).length → ∃ g, pa = some ⟨g, 0, none⟩ ∧ TokAt w4 g 0 (tks s) := fun h => by
           obtain ⟨g, e1, _, e3, e4⟩ := ha h
           exact ⟨g, e1, e4.below hb4 e3⟩
         refine (same_any (tks s) _ _ _ _ _ (by omega) S1 S2).mono ?_
         rintro e w5 ⟨rfl, m, hw5⟩
         subst w5
         clear S1 S2))
    all_goals
      go_loopw [51] (fun i wr => i = .int .i64 0 ∧ wr = w4.drewN m) (fun _ _ => 0)
      case atStart => exact ⟨rfl, rfl⟩
      case round =>
        obtain ⟨rfl, rfl⟩ := hrel
        go_wp2
        go_ret
        exact ⟨rfl, below_drewN (hb1.trans ((hb2.trans ((hb3.trans (hb4.mono hb3.size)).mono hb2.size)).mono hb1.size)) _⟩
  · have hnt' : 0 < (tks t).length := by omega
    go_wp2_with (first
      | (go_at_call 38; refine (alive_any _).mono ?_; rintro e w1 ⟨rfl, hb1⟩)
      | (go_at_call 25; have f := F1; clear f F1; refine (tokens_read _ _ (by assumption)).mono ?_; rintro e w2 ⟨pl, cl, rfl, hcl, hl, hb2⟩)
      | (go_at_call 25; have f := F2; clear f F2; refine (tokens_read _ _ (by assumption)).mono ?_; rintro e w3 ⟨pa, ca, rfl, hca, ha, hb3⟩)
      | (go_at_call 25; have f := F3; clear f F3; refine (tokens_read _ _ (by assumption)).mono ?_; rintro e w4 ⟨pb, cb, rfl, hcb, hb, hb4⟩; obtain ⟨gl, rfl, _, l2, l3⟩ := hl (by omega); obtain ⟨gb, rfl, _, r2, r3⟩ := hb (by omega); have hz3 := hb3.size; rw [HJ.out] at l3; have TL := (l3.below hb3 l2).below hb4 (by omega); clear hl hb l3)
      | (go_at_call 24
         have S1 : 0 < (tks s).length → ∃ g, (some ⟨gl, 0, none⟩ : Option Addr) = some ⟨g, 0, none⟩ ∧ TokAt w4 g 0 (tks s) := fun _ => ⟨gl, rfl, TL.left⟩
         have S2 : 0 < (tks s).length → ∃ g, pa = some ⟨g, 0, none⟩ ∧ TokAt w4 g 0 (tks s) := fun h => by
           obtain ⟨g, e1, _, e3, e4⟩ := ha h
           exact ⟨g, e1, e4.below hb4 e3⟩
         refine (same_any (tks s) _ _ _ _ _ (by omega) S1 S2).mono ?_
         rintro e w5 ⟨rfl, m, hw5⟩
         subst w5
         clear S1 S2))
    have hbt := hb1.trans ((hb2.trans ((hb3.trans (hb4.mono hb3.size)).mono hb2.size)).mono hb1.size)
    have hg4 : gl < w4.heap.size := by have := hb4.size; omega
    have TR := TL.right
    go_loopw [51] (fun i wr => RelJ (tks t).length w4 i wr) (fun i _ => upN (tks t).length i)
    case atStart => exact ⟨0, Nat.zero_le _, rfl, below_drewN (Below.refl _ _) _⟩
    case round =>
      obtain ⟨k, hk, rfl, hbel⟩ := hrel
      have hsz := hbel.size
      by_cases hlt : k < (tks t).length
      · obtain ⟨⟨yk, yx, ya⟩, hy⟩ : ∃ y, (tks t)[k]? = some y := ⟨_, List.getElem?_eq_getElem hlt⟩
        have hya : ya < t.size := (tok_at t _ k _ hy).2.1
        have ⟨c0, c1, c2⟩ := TR.below hbel hg4 k (shf (s.size + 1) ⟨yk, yx, ya⟩) (by rw [List.getElem?_map, hy]; rfl)
        have ⟨d0, d1, d2⟩ := r3.below hbel r2 k _ hy
        rw [Nat.zero_add] at d0 d1 d2
        simp only [shf] at c0 c1 c2 d0 d1 d2
        have HY : Hid ((tks t)[k]? = some ⟨yk, yx, ya⟩) := hy
        clear hy
        have n0 := cell_alloc d0
        have n1 := cell_alloc d1
        have n2 := cell_alloc d2
        go_wp2
        all_goals first
          | exact ⟨⟨k + 1, by omega, by go_num, (hbel.alloc (by omega) _).alloc (by simp; omega) _⟩, by simp [upN, intOf]; omega⟩
          | (exfalso; rename_i hx; rcases hx with hx | hx <;> (try rw [bne_iff_ne] at hx) <;> omega)
      · go_wp2
        go_ret
        exact ⟨rfl, hbt.trans (hbel.mono hbt.size)⟩
end Go.Proofs.Ytgfccgcccmicbaa

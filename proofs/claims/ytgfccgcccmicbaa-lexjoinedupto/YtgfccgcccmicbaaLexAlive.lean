/- The closed fact that the laws of chapter 2 ask first. -/
import Derived.Test.YtgfccgcccmicbaaLexCuts
namespace Go.Proofs.Ytgfccgcccmicbaa
open Go.RowKit
def alA : ByteArray := ⟨#[97, 98, 49, 32, 49, 50, 43, 63, 32, 35, 32, 110, 111, 116, 101, 10, 102, 110]⟩
def alB : ByteArray := ⟨#[120, 10, 102, 110, 32, 97]⟩
theorem al_len : (tks alA).length = 5 := by decide +kernel
theorem al_0 : ((tks alA)[0]?).map (·.x) = some ⟨#[97, 98, 49]⟩ := by decide +kernel
theorem al_3 : ((tks alA)[3]?).map (·.k) = some 4 := by decide +kernel
theorem al_4 : ((tks alA)[4]?).map (·.a) = some 16 := by decide +kernel
theorem al_cut : (cts alB).length = 2 := by decide +kernel
theorem al_na : nmB ⟨#[97]⟩ = true := by decide +kernel
theorem al_nf : nmB ⟨#[102, 110]⟩ = false := by decide +kernel
theorem al_wf : wdB ⟨#[102, 110]⟩ = true := by decide +kernel
theorem tokA (w : World) : Calls Try.prog 25 #[.string ⟨#[97, 98, 49, 32, 49, 50, 43, 63, 32, 35, 32, 110, 111, 116, 101, 10, 102, 110]⟩] w fun e w' => ∃ g cap, e = .returned (.slice (some ⟨g, 0, none⟩) 5 cap) ∧ w'.cell? ⟨g, 1, none⟩ = some (.string ⟨#[97, 98, 49]⟩) ∧ w'.cell? ⟨g, 9, none⟩ = some (.int .i64 4) ∧ w'.cell? ⟨g, 14, none⟩ = some (.int .i64 16) ∧ Below w.heap.size w w' := by
  refine (tokens_any alA w (by decide)).mono ?_
  rintro e w' ⟨v, rfl, hown, hb⟩
  obtain ⟨g, cap, rfl, _, _, _, ht⟩ := own_toks hown (by rw [al_len]; decide)
  have h0 := al_0
  have h3 := al_3
  have h4 := al_4
  rw [Option.map_eq_some_iff] at h0 h3 h4
  obtain ⟨t0, e0, f0⟩ := h0
  obtain ⟨t3, e3, f3⟩ := h3
  obtain ⟨t4, e4, f4⟩ := h4
  have c0 := (ht 0 t0 e0).2.1
  have c3 := (ht 3 t3 e3).1
  have c4 := (ht 4 t4 e4).2.2
  rw [f0] at c0
  rw [f3] at c3
  rw [f4] at c4
  exact ⟨g, cap, by rw [al_len], c0, c3, c4, hb⟩
theorem cutA (w : World) : Calls Try.prog 22 #[.string ⟨#[120, 10, 102, 110, 32, 97]⟩] w fun e w' => ∃ p cap, e = .returned (.slice p 2 cap) ∧ Below w.heap.size w w' := by
  refine (cuts_any alB w (by decide)).mono ?_
  rintro e w' ⟨v, rfl, hown, hb⟩
  obtain ⟨p, cap, rfl⟩ := own_len hown
  exact ⟨p, cap, by rw [al_cut], hb⟩
set_option maxHeartbeats 1000000 in
theorem alive_any (w : World) : Calls Try.prog 38 #[] w fun e w' => e = .returned (.bool true) ∧ Below w.heap.size w w' := by
  have hna := al_na
  have hnf := al_nf
  have hwf := al_wf
  have hB : Below w.heap.size w w := Below.refl _ _
  go_enter Try.func38, Try.ntmps38
  go_wp2_with (first
    | (go_at_call 25; refine (tokA _).mono ?_; rintro e w1 ⟨g, cap, rfl, c0, c3, c4, hb1⟩; have hB := hB.trans (hb1.mono hB.size))
    | (go_at_call 22; refine (cutA _).mono ?_; rintro e w2 ⟨p, cap2, rfl, hb2⟩; have hB := hB.trans (hb2.mono hB.size))
    | (go_at_call 29; refine (name_any _ _ (by decide)).mono ?_; rintro e w3 ⟨rfl, hb3⟩; have hB := hB.trans (hb3.mono hB.size))
    | (go_at_call 27; refine (word_any _ _ (by decide)).mono ?_; rintro e w5 ⟨rfl, hw5⟩; subst w5)
    | (go_at_call 31; refine (own_any _).mono ?_; rintro e w6 ⟨rfl, hw6⟩; subst w6))
  go_ret
  exact ⟨rfl, hB.alloc hB.size _⟩
end Go.Proofs.Ytgfccgcccmicbaa

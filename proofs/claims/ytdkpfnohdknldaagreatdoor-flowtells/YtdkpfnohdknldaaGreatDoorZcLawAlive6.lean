/- What the laws of secrets ask of first holds. -/
import Derived.Test.YtdkpfnohdknldaaGreatDoorZf30
import Derived.Test.YtdkpfnohdknldaaGreatDoorZcLawNUses
namespace Go.Proofs.YtdkpfnohdknldaaGreatDoor
open Go.RowKit
set_option linter.unusedVariables false
attribute [local go_sem ↓] Go.wp_at_zero Go.wp_at_succ
theorem itI_cw (s : ByteArray) (j : Nat) : ∃ n, wfL (cwS (tks (txI s j)) n) (tks (txI s j)).length (itI s j).bd := by
  rw [itI_tx]
  exact itm_cw (txI s j)
theorem fil_cw (s : ByteArray) (hs : s.size ≤ 4000) : ∀ (i : Nat) (p : Int) (it : It), (fil s)[i]? = some (p, it) → ∃ T m, wfL (cwS T m) T.length it.bd ∧ T.length ≤ 1000000 := by
  intro i p it h
  obtain ⟨j, _, hj⟩ := fil_mem (List.mem_of_getElem? h)
  injection hj with _ h2
  have hn := itI_cw s j
  have hl := txI_len s j
  rw [← h2] at hn
  generalize tks (txI s j) = T at *
  obtain ⟨n, hn⟩ := hn
  exact ⟨T, n, hn, by omega⟩
theorem fil_ps (s : ByteArray) : ∀ e ∈ fil s, e.2.ps.length ≤ 5 := by
  intro e he
  obtain ⟨j, _, hj⟩ := fil_mem he
  rw [hj]
  exact (itI_wf s j).pn
end Go.Proofs.YtdkpfnohdknldaaGreatDoor

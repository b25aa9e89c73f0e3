/- What is used is made: the law NamesUses. -/
import Derived.Test.YtdkpfnohdknldaaGreatDoorZf19
namespace Go.Proofs.YtdkpfnohdknldaaGreatDoor
open Go.RowKit
attribute [local go_sem ↓] Go.wp_at_zero Go.wp_at_succ
theorem flE_small {s : ByteArray} (h : flE s = 0) : s.size ≤ 4000 ∧ (cts s).length ≤ 30 := by
  unfold flE at h
  split at h
  · cases h
  · split at h
    · cases h
    · omega
theorem flE_le5 (s : ByteArray) : flE s ≤ 5 := by unfold flE; split <;> (try split) <;> omega
end Go.Proofs.YtdkpfnohdknldaaGreatDoor


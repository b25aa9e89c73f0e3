/- What is used is made: the law NamesUses. -/
import Derived.Test.YtdkpfnohdknldaaGreatDoorZg19
namespace Go.Proofs.YtdkpfnohdknldaaGreatDoor
open Go.RowKit
attribute [local go_sem ↓] Go.wp_at_zero Go.wp_at_succ
theorem flE_small {s : ByteArray} (h : flE s = 0) : s.size ≤ 4000 ∧ (cts s).length ≤ 30 := by
 unfold flE at h
 split at h
 ·cases h
 ·split at h
  ·cases h
  ·omega
theorem flE_le5 (s : ByteArray) : flE s ≤ 5 := by unfold flE; split <;> (try split) <;> omega
theorem fil_n (s : ByteArray) (h : flE s = 0) : ∀ i, i < (fil s).length → (evI (fil s) i).length < 1099511627776 := by
 intro i hi
 rw [fil_len] at hi
 have := (fil_ev s i hi).2
 have := (flE_small h).1
 omega
def RelNU (n : Nat) (W : World) (i : Value) (wr : World) : Prop := ∃ k : Nat, k ≤ n ∧ i = .int .i64 (k : Int) ∧ Below W.heap.size W wr
end Go.Proofs.YtdkpfnohdknldaaGreatDoor


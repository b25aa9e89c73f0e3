/- What is used is made: the law NamesUses. -/
import Derived.Test.YtgifjkljpbbegaaGreatDoorZb19
namespace Go.Proofs.YtgifjkljpbbegaaGreatDoor
open Go.RowKit
attribute [local go_sem ↓] Go.wp_at_zero Go.wp_at_succ
theorem flE_small {s : ByteArray} (h : flE s = 0) : s.size ≤ 4000 ∧ (cts s).length ≤ 30 := by
  unfold flE at h
  split at h
  · cases h
  · split at h
    · cases h
    · omega
theorem flE_le5 (s : ByteArray) : flE s ≤ 5 := by unfold flE; split <;> (try split) <;> omega
theorem fil_n (s : ByteArray) (h : flE s = 0) : ∀ i, i < (fil s).length → (evI (fil s) i).length < 1099511627776 := by
  intro i hi
  rw [fil_len] at hi
  have := (fil_ev s i hi).2
  have := (flE_small h).1
  omega
theorem fil_m (s : ByteArray) (h : flE s = 0) : ∀ k, k ≤ (fil s).length → (usE (fil s) k).length ≤ 1099511627776 := by
  intro k hk
  rw [fil_len] at hk
  have h1 := usE_len s k
  obtain ⟨h2, h3⟩ := flE_small h
  have h4 : k * (22 + 2 * s.size) ≤ 30 * (22 + 2 * 4000) := Nat.mul_le_mul (by omega) (by omega)
  omega
/-- Files that were read can be asked. -/
theorem RdF.now {A : Nat} {w1 w2 : World} {l : List (Int × It)} {v : Value} (h : RdF (fun k => A ≤ k ∧ k < w1.heap.size) w1 l v) (hb : Below w1.heap.size w1 w2) : RdF (fun k => k < w1.heap.size) w2 l v := RdF.kept h (fun k hk => hb.block k hk.2) (fun _ hk => hk.2)
def RelNU (n : Nat) (W : World) (i : Value) (wr : World) : Prop := ∃ k : Nat, k ≤ n ∧ i = .int .i64 (k : Int) ∧ Below W.heap.size W wr
end Go.Proofs.YtgifjkljpbbegaaGreatDoor


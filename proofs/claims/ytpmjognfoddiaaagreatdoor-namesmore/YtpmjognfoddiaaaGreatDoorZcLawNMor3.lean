/- Two texts that can be read are not too long. -/
import Derived.Test.YtpmjognfoddiaaaGreatDoorZcLawNMor2
import Derived.ShutString
import Derived.ProofKit
import Derived.OpenShut
namespace Go.Proofs.YtpmjognfoddiaaaGreatDoor
open Go.RowKit
theorem two_sized {H : Type} {ds : List (DataW H)} {ts : List TypeId} {s t : List UInt8} (h : (DataW.weightsEach Tryz.prog (9 :: 9 :: ts) (.lit (.string s) :: .lit (.string t) :: ds)).all (· ≤ reachBytes) = true) : s.length ≤ 140737488355328 ∧ t.length ≤ 140737488355328 := by
  have h0 := sized_string h (j := 0) rfl rfl
  have h1 := sized_string h (j := 1) rfl rfl
  unfold reachBytes at h0 h1
  omega
end Go.Proofs.YtpmjognfoddiaaaGreatDoor

/- Texts of this seat, one behind the other: FilChange, LawAlive3. -/
import Derived.Test.YtfioihehhlpgcaaGreatDoorZb12
import Derived.Test.YtfioihehhlpgcaaGreatDoorZb01b
namespace Go.Proofs.YtfioihehhlpgcaaGreatDoor
open Go.RowKit
attribute [local go_sem ↓] Go.wp_at_zero Go.wp_at_succ
/-- Why an edit can't be done. -/
def chN (s : ByteArray) (a b : Int) (x : ByteArray) : Nat := if a < 0 ∨ b < a ∨ (s.size : Int) < b then 3 else if (4000 : Int) < s.size - (b - a) + x.size then 4 else 0
/-- What an edit makes of a text. -/
def chS (s : ByteArray) (a b : Int) (x : ByteArray) : ByteArray := if chN s a b x = 0 then s.extract 0 a.toNat ++ x ++ s.extract b.toNat s.size else noB
theorem chN_ok {s : ByteArray} {a b : Int} {x : ByteArray} (h : chN s a b x = 0) : 0 ≤ a ∧ a ≤ b ∧ b ≤ s.size ∧ (s.size : Int) - (b - a) + x.size ≤ 4000 := by
  unfold chN at h
  split at h
  · cases h
  · split at h
    · cases h
    · omega
end Go.Proofs.YtfioihehhlpgcaaGreatDoor

namespace Go.Proofs.YtfioihehhlpgcaaGreatDoor
open Go.RowKit
attribute [local go_sem ↓] Go.wp_at_zero Go.wp_at_succ
end Go.Proofs.YtfioihehhlpgcaaGreatDoor


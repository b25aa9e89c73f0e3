/- Texts of this seat, one behind the other: NamItem, NamExpr, NamTree, NamStmt, NamStm2. -/
import Derived.Test.YtfioihehhlpgcaaGreatDoorZf16
import Derived.Test.YtfioihehhlpgcaaGreatDoorZb11
import Derived.Test.YtfioihehhlpgcaaGreatDoorZb07
namespace Go.Proofs.YtfioihehhlpgcaaGreatDoor
open Go.RowKit
attribute [local go_sem ↓] Go.wp_at_zero Go.wp_at_succ
end Go.Proofs.YtfioihehhlpgcaaGreatDoor
namespace Go.Proofs.YtfioihehhlpgcaaGreatDoor
open Go.RowKit
attribute [local go_sem ↓] Go.wp_at_zero Go.wp_at_succ
end Go.Proofs.YtfioihehhlpgcaaGreatDoor
namespace Go.Proofs.YtfioihehhlpgcaaGreatDoor
open Go.RowKit
attribute [local go_sem ↓] Go.wp_at_zero Go.wp_at_succ
end Go.Proofs.YtfioihehhlpgcaaGreatDoor
namespace Go.Proofs.YtfioihehhlpgcaaGreatDoor
open Go.RowKit
attribute [local go_sem ↓] Go.wp_at_zero Go.wp_at_succ
end Go.Proofs.YtfioihehhlpgcaaGreatDoor
namespace Go.Proofs.YtfioihehhlpgcaaGreatDoor
open Go.RowKit
attribute [local go_sem ↓] Go.wp_at_zero Go.wp_at_succ
end Go.Proofs.YtfioihehhlpgcaaGreatDoor

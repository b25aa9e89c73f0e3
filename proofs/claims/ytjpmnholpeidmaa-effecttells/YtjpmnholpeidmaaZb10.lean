/- Texts of this seat, one behind the other: LndT, LndU, LndV, LndW. -/
import Derived.Test.YtjpmnholpeidmaaZb09
import Derived.Deep.RegionHeld3
import Derived.BigRegion
namespace Go.Proofs.Ytjpmnholpeidmaa
open Go.RowKit
attribute [local go_sem ↓] Go.wp_at_zero Go.wp_at_succ
section
variable {gp : Nat} {w : World} {L : List Tok} {sz i dp : Nat} {ds : List Dg} {D : Option Nat}
end
end Go.Proofs.Ytjpmnholpeidmaa

namespace Go.Proofs.Ytjpmnholpeidmaa
open Go.RowKit
attribute [local go_sem ↓] Go.wp_at_zero Go.wp_at_succ
section
variable {gp : Nat} {w : World} {L : List Tok} {sz i dp : Nat} {ds : List Dg} {D : Option Nat}
/-- A name set, or an expression done. -/
def pSD (L : List Tok) (sz dp i : Nat) : R Tr := if isT L (i + 1) (bs1 61) then pSet L sz dp i else pDo L sz dp i
/-- What is handed back. -/
def pRet (L : List Tok) (sz dp i : Nat) : R Tr := ⟨stMk 6 noB 0 0 false (pCl L sz dp i).v [] [] 0 0, (pCl L sz dp i).i, (pCl L sz dp i).d⟩
theorem rd_ret {n : Nat} {ok : Nat → Prop} {w' : World} {e : Tr} {d0 d1 d2 d3 d4 d5 : Value} (h : RdE n ok w' e (.agg #[d0, d1, d2, d3, d4, d5])) : RdS 1 ok w' (stMk 6 noB 0 0 false e [] [] 0 0) (.agg #[.int .i64 6, .string ⟨#[]⟩, .int .i64 0, .int .i64 0, .bool false, d0, d1, d2, d3, d4, d5, .slice none 0 0, .slice none 0 0, .int .i64 0, .int .i64 0]) :=
  ⟨6, noB, 0, 0, false, e, [], [], 0, 0, _, _, _, _, _, _, none, 0, none, 0, rfl, rfl, ⟨n, h⟩, ⟨by simp, fun h => absurd h (by simp)⟩, ⟨by simp, fun h => absurd h (by simp)⟩⟩
end
end Go.Proofs.Ytjpmnholpeidmaa

namespace Go.Proofs.Ytjpmnholpeidmaa
open Go.RowKit
attribute [local go_sem ↓] Go.wp_at_zero Go.wp_at_succ
section
variable {gp : Nat} {w : World} {L : List Tok} {sz i dp : Nat} {ds : List Dg} {D : Option Nat}
end
end Go.Proofs.Ytjpmnholpeidmaa

namespace Go.Proofs.Ytjpmnholpeidmaa
open Go.RowKit
attribute [local go_sem ↓] Go.wp_at_zero Go.wp_at_succ
theorem Try.infoSt : (Try.prog.info? 104).map (fun i => (i.zero, i.size, i.bytes)) = some (some (.agg #[.int .i64 0, .string ⟨#[]⟩, .int .i64 0, .int .i64 0, .bool false, .int .i64 0, .string ⟨#[]⟩, .int .i64 0, .slice none 0 0, .int .i64 0, .int .i64 0, .slice none 0 0, .slice none 0 0, .int .i64 0, .int .i64 0]), 15, 184) := by kernel_rfl
section
variable {gp : Nat} {w : World} {L : List Tok} {sz i dp : Nat} {ds : List Dg} {D : Option Nat}
/-- How long a slice is. -/
def lenV : Value → Nat
  | .slice _ n _ => n
  | _ => 0
end
section
variable {gp : Nat} {w : World} {L : List Tok} {sz i : Nat} {ds : List Dg} {D : Option Nat}
end
end Go.Proofs.Ytjpmnholpeidmaa


/- Texts of this seat, one behind the other: NamSends, NamSend2, NamWalk, NamWalk2. -/
import Derived.Test.YtdkpfnohdknldaaGreatDoorZg17
import Derived.Test.YtdkpfnohdknldaaGreatDoorZb12
namespace Go.Proofs.YtdkpfnohdknldaaGreatDoor
open Go.RowKit Go.WideMaps Go.Maps
attribute [local go_sem ↓] Go.wp_at_zero Go.wp_at_succ
theorem nm_sk_less (l : List (Int × It)) (ss : List Rf) (L : List Ev) (k m : Nat) (h : k ≤ m) : (L ++ evSk l ss k).length ≤ (L ++ evSk l ss m).length := by
 induction m with
 | zero =>
  obtain rfl : k = 0 := by omega
  exact Nat.le_refl _
 | succ m ih =>
  rcases Nat.lt_or_ge m k with h1 | h1
  ·obtain rfl : k = m + 1 := by omega
   exact Nat.le_refl _
  ·have := ih h1
   have e : evSk l ss (m + 1) = evSk l ss m ++ evSd l ss m := rfl
   rw [e]
   simp only [List.length_append] at this ⊢
   omega
end Go.Proofs.YtdkpfnohdknldaaGreatDoor
namespace Go.Proofs.YtdkpfnohdknldaaGreatDoor
open Go.RowKit Go.WideMaps Go.Maps
attribute [local go_sem ↓] Go.wp_at_zero Go.wp_at_succ
end Go.Proofs.YtdkpfnohdknldaaGreatDoor
namespace Go.Proofs.YtdkpfnohdknldaaGreatDoor
open Go.RowKit
attribute [local go_sem ↓] Go.wp_at_zero Go.wp_at_succ
theorem nm_par_take (env : Env) {al : List Pm} {k : Nat} {a : Pm} (L : List Ev) (h : al[k]? = some a) : L ++ evP env (al.take (k + 1)) = L ++ evP env (al.take k) ++ evMk (scP env (al.take k)) a.x a.a ∧ scP env (al.take (k + 1)) = scMk (scP env (al.take k)) a.x a.a := by
 rw [List.take_add_one, h]
 simp only [Option.toList_some]
 rw [evP_app, scP_app, List.append_assoc]
 exact ⟨rfl, rfl⟩
theorem evP_append (A B : List Pm) : ∀ env, evP env (A ++ B) = evP env A ++ evP (scP env A) B := by
 induction A with
 | nil => intro env; simp [evP, scP]
 | cons a r ih => intro env; simp only [List.cons_append, evP, ih, List.append_assoc]; rfl
theorem nm_par_less (env : Env) (al : List Pm) (k : Nat) (L : List Ev) : (L ++ evP env (al.take k)).length ≤ (L ++ evP env al).length := by
 have h : evP env al = evP env (al.take k) ++ evP (scP env (al.take k)) (al.drop k) := by rw [← evP_append, List.take_append_drop]
 rw [h]
 simp only [List.length_append]
 omega
end Go.Proofs.YtdkpfnohdknldaaGreatDoor
namespace Go.Proofs.YtdkpfnohdknldaaGreatDoor
open Go.RowKit
attribute [local go_sem ↓] Go.wp_at_zero Go.wp_at_succ
theorem four_at {w1 : World} {b : Nat} {u0 u1 u2 u3 : Value} {t : TypeId} (h : w1.heap[b]? = some (.cells #[u0, u1, u2, u3] t (0, 0))) : w1.cell? ⟨b, 0, none⟩ = some u0 ∧ w1.cell? ⟨b, 1, none⟩ = some u1 ∧ w1.cell? ⟨b, 2, none⟩ = some u2 ∧ w1.cell? ⟨b, 3, none⟩ = some u3 :=
 ⟨cell_of_row _ _ _ _ _ _ h, cell_of_row _ _ _ _ _ _ h, cell_of_row _ _ _ _ _ _ h, cell_of_row _ _ _ _ _ _ h⟩
end Go.Proofs.YtdkpfnohdknldaaGreatDoor

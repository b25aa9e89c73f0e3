/- Texts of this seat, one behind the other: NamItem, NamExpr, NamTree, NamStmt, NamStm2. -/
import Derived.Test.YtdkpfnohdknldaaGreatDoorZg16
import Derived.Test.YtdkpfnohdknldaaGreatDoorZb11
import Derived.Test.YtdkpfnohdknldaaGreatDoorZb07
namespace Go.Proofs.YtdkpfnohdknldaaGreatDoor
open Go.RowKit
attribute [local go_sem ↓] Go.wp_at_zero Go.wp_at_succ
theorem fnd_cases (l : List (Int × It)) (kd : Int) (x : ByteArray) : fnd l kd x = -1 ∨ ∃ k : Nat, fnd l kd x = (k : Int) ∧ k < l.length := by
 unfold fnd fidx
 split
 ·exact .inl rfl
 ·split
  ·rename_i i h
   exact .inr ⟨i, rfl, (List.findIdx?_eq_some_iff_getElem.1 h).1⟩
  ·exact .inl rfl
theorem hit_none {l : List (Int × It)} {kd : Nat} {x : ByteArray} (h : fnd l kd x = -1) : hit l kd x = none := by unfold hit; rw [h]; rfl
theorem hit_some {l : List (Int × It)} {kd k : Nat} {x : ByteArray} {e : Int × It} (h : fnd l kd x = (k : Int)) (hk : l[k]? = some e) : hit l kd x = some e := by
 unfold hit
 rw [h, if_neg (by omega), Int.toNat_natCast]
 exact hk
end Go.Proofs.YtdkpfnohdknldaaGreatDoor
namespace Go.Proofs.YtdkpfnohdknldaaGreatDoor
open Go.RowKit
attribute [local go_sem ↓] Go.wp_at_zero Go.wp_at_succ
end Go.Proofs.YtdkpfnohdknldaaGreatDoor
namespace Go.Proofs.YtdkpfnohdknldaaGreatDoor
open Go.RowKit
attribute [local go_sem ↓] Go.wp_at_zero Go.wp_at_succ
theorem nm_flat_take {α : Type} {f : α → List Ev} {al : List α} {k : Nat} {a : α} (L : List Ev) (h : al[k]? = some a) : L ++ (al.take (k + 1)).flatMap f = L ++ (al.take k).flatMap f ++ f a := by
 rw [List.take_add_one, h, List.flatMap_append, List.append_assoc]
 simp
theorem nm_flat_less {α : Type} {f : α → List Ev} (al : List α) (k : Nat) (L : List Ev) : (L ++ (al.take k).flatMap f).length ≤ (L ++ al.flatMap f).length := by
 have h : al.flatMap f = (al.take k).flatMap f ++ (al.drop k).flatMap f := by rw [← List.flatMap_append, List.take_append_drop]
 rw [h]
 simp only [List.length_append]
 omega
end Go.Proofs.YtdkpfnohdknldaaGreatDoor
namespace Go.Proofs.YtdkpfnohdknldaaGreatDoor
open Go.RowKit
attribute [local go_sem ↓] Go.wp_at_zero Go.wp_at_succ
theorem evB_append (l : List (Int × It)) (p : Int) (A B : List Tr) : ∀ env, evB l p env (A ++ B) = evB l p env A ++ evB l p (scB env A) B := by
 induction A with
 | nil => intro env; rw [List.nil_append, evB_nil, List.nil_append]; rfl
 | cons a r ih => intro env; rw [List.cons_append, evB_cons, evB_cons, ih, List.append_assoc]; rfl
theorem nm_blk_take (l : List (Int × It)) (p : Int) (env : Env) {al : List Tr} {k : Nat} {a : Tr} (L : List Ev) (h : al[k]? = some a) : L ++ evB l p env (al.take (k + 1)) = L ++ evB l p env (al.take k) ++ evY l p (scB env (al.take k)) a ∧ scB env (al.take (k + 1)) = scS (scB env (al.take k)) a := by
 rw [List.take_add_one, h]
 simp only [Option.toList_some]
 rw [evB_app, scB_app, List.append_assoc]
 exact ⟨rfl, rfl⟩
theorem nm_blk_less (l : List (Int × It)) (p : Int) (env : Env) (al : List Tr) (k : Nat) (L : List Ev) : (L ++ evB l p env (al.take k)).length ≤ (L ++ evB l p env al).length := by
 have h : evB l p env al = evB l p env (al.take k) ++ evB l p (scB env (al.take k)) (al.drop k) := by rw [← evB_append, List.take_append_drop]
 rw [h]
 simp only [List.length_append]
 omega
end Go.Proofs.YtdkpfnohdknldaaGreatDoor
namespace Go.Proofs.YtdkpfnohdknldaaGreatDoor
open Go.RowKit
attribute [local go_sem ↓] Go.wp_at_zero Go.wp_at_succ
end Go.Proofs.YtdkpfnohdknldaaGreatDoor

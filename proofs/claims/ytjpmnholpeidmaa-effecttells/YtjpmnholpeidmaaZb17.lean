/- Texts of this seat, one behind the other: NamItem, NamExpr, NamTree, NamStmt, NamStm2. -/
import Derived.Test.YtjpmnholpeidmaaZb16
import Derived.Test.YtjpmnholpeidmaaZb11
import Derived.Test.YtjpmnholpeidmaaZb07
namespace Go.Proofs.Ytjpmnholpeidmaa
open Go.RowKit
attribute [local go_sem ↓] Go.wp_at_zero Go.wp_at_succ
theorem fnd_cases (l : List (Int × It)) (kd : Int) (x : ByteArray) : fnd l kd x = -1 ∨ ∃ k : Nat, fnd l kd x = (k : Int) ∧ k < l.length := by
  unfold fnd fidx
  split
  · exact .inl rfl
  · split
    · rename_i i h
      exact .inr ⟨i, rfl, (List.findIdx?_eq_some_iff_getElem.1 h).1⟩
    · exact .inl rfl
theorem hit_none {l : List (Int × It)} {kd : Nat} {x : ByteArray} (h : fnd l kd x = -1) : hit l kd x = none := by unfold hit; rw [h]; rfl
theorem hit_some {l : List (Int × It)} {kd k : Nat} {x : ByteArray} {e : Int × It} (h : fnd l kd x = (k : Int)) (hk : l[k]? = some e) : hit l kd x = some e := by
  unfold hit
  rw [h, if_neg (by omega), Int.toNat_natCast]
  exact hk
section
variable {bo b0 pw pu : Nat} {cw cu : Array Value} {G : World → List Ev → Option Nat → Prop} {bw : Nat} {l : List (Int × It)} {p : Int} {D : Option Nat} {w : World} {L : List Ev}
theorem Lsn.ten {w' : World} {D' : Option Nat} (hL : Lsn bo b0 pw pu cw cu G) (hg : G w' L D') (hs : Stp bo D D' w w') {b : Nat} (h1 : b0 ≤ b) (hb : w.heap.size ≤ b) (h2 : some b ≠ D') (u0 u1 u2 u3 u4 u5 u6 u7 u8 u9 : Value) :
    G ((((((((((w'.setCell ⟨b, 0, none⟩ u0).setCell ⟨b, 1, none⟩ u1).setCell ⟨b, 2, none⟩ u2).setCell ⟨b, 3, none⟩ u3).setCell ⟨b, 4, none⟩ u4).setCell ⟨b, 5, none⟩ u5).setCell ⟨b, 6, none⟩ u6).setCell ⟨b, 7, none⟩ u7).setCell ⟨b, 8, none⟩ u8).setCell ⟨b, 9, none⟩ u9) L D' ∧ Stp bo D D' w ((((((((((w'.setCell ⟨b, 0, none⟩ u0).setCell ⟨b, 1, none⟩ u1).setCell ⟨b, 2, none⟩ u2).setCell ⟨b, 3, none⟩ u3).setCell ⟨b, 4, none⟩ u4).setCell ⟨b, 5, none⟩ u5).setCell ⟨b, 6, none⟩ u6).setCell ⟨b, 7, none⟩ u7).setCell ⟨b, 8, none⟩ u8).setCell ⟨b, 9, none⟩ u9) :=
  ⟨hL.set (hL.set (hL.set (hL.set (hL.set (hL.set (hL.set (hL.set (hL.set (hL.set hg h1 h2 _ _) h1 h2 _ _) h1 h2 _ _) h1 h2 _ _) h1 h2 _ _) h1 h2 _ _) h1 h2 _ _) h1 h2 _ _) h1 h2 _ _) h1 h2 _ _, ((((((((((hs.set hb _ _).set hb _ _).set hb _ _).set hb _ _).set hb _ _).set hb _ _).set hb _ _).set hb _ _).set hb _ _).set hb _ _)⟩
/-- What item answers. -/
def ItR (l : List (Int × It)) (kd : Nat) (x : ByteArray) (e : Ending) : Prop := ∃ (k0 : Int) (x0 : ByteArray) (l0 : Int) (q : Option Addr) (n c : Nat) (q4 : Option Addr) (n4 c4 : Nat) (q5 : Option Addr) (n5 c5 : Nat) (a6 a7 a8 : Int) (q9 : Option Addr) (n9 c9 : Nat), e = .returned (.tuple #[.agg #[.int .i64 k0, .string x0, .int .i64 l0, .slice q n c, .slice q4 n4 c4, .slice q5 n5 c5, .int .i64 a6, .int .i64 a7, .int .i64 a8, .slice q9 n9 c9], .bool (hit l kd x).isSome]) ∧ ∀ i, hit l kd x = some i → n = i.2.ps.length
end
end Go.Proofs.Ytjpmnholpeidmaa

namespace Go.Proofs.Ytjpmnholpeidmaa
open Go.RowKit
attribute [local go_sem ↓] Go.wp_at_zero Go.wp_at_succ
section
variable {bo b0 pw pu : Nat} {cw cu : Array Value} {G : World → List Ev → Option Nat → Prop} {bw : Nat} {l : List (Int × It)} {p : Int} {D : Option Nat} {w : World} {L : List Ev}
end
end Go.Proofs.Ytjpmnholpeidmaa

namespace Go.Proofs.Ytjpmnholpeidmaa
open Go.RowKit
attribute [local go_sem ↓] Go.wp_at_zero Go.wp_at_succ
/-- So far. -/
def RelNx (bo : Nat) (G : World → List Ev → Option Nat → Prop) (D : Option Nat) (w : World) (M : Nat → List Ev) (n : Nat) (i : Value) (wr : World) : Prop := ∃ k : Nat, k ≤ n ∧ i = .int .i64 (k : Int) ∧ Tl bo G D (M k) w wr
theorem nm_flat_take {α : Type} {f : α → List Ev} {al : List α} {k : Nat} {a : α} (L : List Ev) (h : al[k]? = some a) : L ++ (al.take (k + 1)).flatMap f = L ++ (al.take k).flatMap f ++ f a := by
  rw [List.take_add_one, h, List.flatMap_append, List.append_assoc]
  simp
theorem nm_flat_less {α : Type} {f : α → List Ev} (al : List α) (k : Nat) (L : List Ev) : (L ++ (al.take k).flatMap f).length ≤ (L ++ al.flatMap f).length := by
  have h : al.flatMap f = (al.take k).flatMap f ++ (al.drop k).flatMap f := by rw [← List.flatMap_append, List.take_append_drop]
  rw [h]
  simp only [List.length_append]
  omega
section
variable {bo b0 pw pu : Nat} {cw cu : Array Value} {G : World → List Ev → Option Nat → Prop} {bw : Nat} {l : List (Int × It)} {p : Int} {D : Option Nat} {w : World} {L : List Ev}
end
end Go.Proofs.Ytjpmnholpeidmaa

namespace Go.Proofs.Ytjpmnholpeidmaa
open Go.RowKit
attribute [local go_sem ↓] Go.wp_at_zero Go.wp_at_succ
theorem evB_append (l : List (Int × It)) (p : Int) (A B : List Tr) : ∀ env, evB l p env (A ++ B) = evB l p env A ++ evB l p (scB env A) B := by
  induction A with
  | nil => intro env; rw [List.nil_append, evB_nil, List.nil_append]; rfl
  | cons a r ih => intro env; rw [List.cons_append, evB_cons, evB_cons, ih, List.append_assoc]; rfl
theorem nm_blk_take (l : List (Int × It)) (p : Int) (env : Env) {al : List Tr} {k : Nat} {a : Tr} (L : List Ev) (h : al[k]? = some a) : L ++ evB l p env (al.take (k + 1)) = L ++ evB l p env (al.take k) ++ evY l p (scB env (al.take k)) a ∧ scB env (al.take (k + 1)) = scS (scB env (al.take k)) a := by
  rw [List.take_add_one, h]
  simp only [Option.toList_some]
  rw [evB_app, scB_app, List.append_assoc]
  exact ⟨rfl, rfl⟩
theorem nm_blk_less (l : List (Int × It)) (p : Int) (env : Env) (al : List Tr) (k : Nat) (L : List Ev) : (L ++ evB l p env (al.take k)).length ≤ (L ++ evB l p env al).length := by
  have h : evB l p env al = evB l p env (al.take k) ++ evB l p (scB env (al.take k)) (al.drop k) := by rw [← evB_append, List.take_append_drop]
  rw [h]
  simp only [List.length_append]
  omega
section
variable {bo b0 pw pu : Nat} {cw cu : Array Value} {G : World → List Ev → Option Nat → Prop} {bw : Nat} {l : List (Int × It)} {p : Int}
end
end Go.Proofs.Ytjpmnholpeidmaa

namespace Go.Proofs.Ytjpmnholpeidmaa
open Go.RowKit
attribute [local go_sem ↓] Go.wp_at_zero Go.wp_at_succ
section
variable {bo b0 pw pu : Nat} {cw cu : Array Value} {G : World → List Ev → Option Nat → Prop} {bw : Nat} {l : List (Int × It)} {p : Int}
end
end Go.Proofs.Ytjpmnholpeidmaa


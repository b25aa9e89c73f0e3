/- Texts of this seat, one behind the other: NamSends, NamSend2, NamWalk, NamWalk2. -/
import Derived.Test.YtjpmnholpeidmaaZb17
import Derived.Test.YtjpmnholpeidmaaZb12
namespace Go.Proofs.Ytjpmnholpeidmaa
open Go.RowKit Go.WideMaps Go.Maps
attribute [local go_sem ↓] Go.wp_at_zero Go.wp_at_succ
/-- How often a name stood among the first k. -/
def sdC (ss : List Rf) (x : ByteArray) : Nat → Nat
  | 0 => 0
  | k + 1 => sdC ss x k + (match ss[k]? with | some r => if r.x = x then 1 else 0 | none => 0)
def sdD (ss : List Rf) : Nat → DataW Unit
  | 0 => .map []
  | k + 1 => match ss[k]? with | some r => (sdD ss k).put (kyB r.x) (.lit (.int .i64 ((sdC ss r.x k + 1 : Nat) : Int))) | none => sdD ss k
theorem sdC_succ (ss : List Rf) (x : ByteArray) (k : Nat) : sdC ss x (k + 1) = sdC ss x k + (match ss[k]? with | some r => if r.x = x then 1 else 0 | none => 0) := rfl
theorem sdC_le (ss : List Rf) (x : ByteArray) (k : Nat) : sdC ss x k ≤ k := by
  induction k with
  | zero => exact Nat.le_refl _
  | succ k ih =>
    rw [sdC_succ]
    split
    · split <;> omega
    · omega
theorem sdC_any (ss : List Rf) (x : ByteArray) (k : Nat) : (ss.take k).any (fun q => decide (q.x = x)) = decide (0 < sdC ss x k) := by
  induction k with
  | zero => rfl
  | succ k ih =>
    rw [List.take_add_one, List.any_append, ih, sdC_succ]
    cases h : ss[k]? with
    | none => simp
    | some r =>
      by_cases hr : r.x = x
      · simp [hr]
      · simp [hr]
theorem sdD_map (ss : List Rf) (k : Nat) : Maps.IsMap (sdD ss k) := by
  induction k with
  | zero => exact Maps.isMap_empty
  | succ k ih =>
    unfold sdD
    split
    · exact ih.put _ _
    · exact ih
theorem sdD_at (ss : List Rf) (x : ByteArray) (k : Nat) : (sdD ss k).atKey (kyB x) (.lit (.int .i64 0)) = .lit (.int .i64 (sdC ss x k : Int)) := by
  induction k with
  | zero => rfl
  | succ k ih =>
    rw [sdC_succ]
    conv => lhs; unfold sdD
    cases h : ss[k]? with
    | none => simp only [Nat.add_zero]; exact ih
    | some r =>
      by_cases hr : r.x = x
      · subst hr
        simp only [if_true]
        exact Maps.atKey_put_same (sdD_map ss k) (kyB_lit _) _ _
      · simp only [if_neg hr, Nat.add_zero]
        rw [Maps.atKey_put_other (fun e => hr (kyB_inj e).symm)]
        exact ih
theorem sdD_succ (ss : List Rf) {k : Nat} {r : Rf} (h : ss[k]? = some r) : sdD ss (k + 1) = (sdD ss k).put (kyB r.x) (.lit (.int .i64 ((sdC ss r.x k : Int) + 1))) := by
  conv => lhs; unfold sdD
  rw [h]
  simp only [Int.natCast_add, Int.cast_ofNat_Int]
/-- The map of names in memory. -/
def SdAt (w : World) (b : Nat) (ss : List Rf) (k : Nat) : Prop := w.ownsMap Try.prog 9 (plainElem (H := Unit) Try.prog 3) b k (sdD ss k)
theorem SdAt.kept {w w' : World} {b : Nat} {ss : List Rf} {k : Nat} (h : SdAt w b ss k) (hg : w'.heap[b]? = w.heap[b]?) : SdAt w' b ss k := by
  obtain ⟨es, clock, h1, h2⟩ := h
  exact ⟨es, clock, hg.trans h1, h2⟩
def RelNs (bo : Nat) (G : World → List Ev → Option Nat → Prop) (D : Option Nat) (w : World) (M : Nat → List Ev) (ss : List Rf) (i : Value) (wr : World) : Prop := ∃ k : Nat, k ≤ ss.length ∧ i = .int .i64 (k : Int) ∧ ∃ D', G wr (M k) D' ∧ Stp bo D D' w wr ∧ SdAt wr w.heap.size ss k ∧ okS 0 bo D' wr w.heap.size
theorem nm_sk_less (l : List (Int × It)) (ss : List Rf) (L : List Ev) (k m : Nat) (h : k ≤ m) : (L ++ evSk l ss k).length ≤ (L ++ evSk l ss m).length := by
  induction m with
  | zero => obtain rfl : k = 0 := by omega
            exact Nat.le_refl _
  | succ m ih =>
    rcases Nat.lt_or_ge m k with h1 | h1
    · obtain rfl : k = m + 1 := by omega
      exact Nat.le_refl _
    · have := ih h1
      have e : evSk l ss (m + 1) = evSk l ss m ++ evSd l ss m := rfl
      rw [e]
      simp only [List.length_append] at this ⊢
      omega
end Go.Proofs.Ytjpmnholpeidmaa

namespace Go.Proofs.Ytjpmnholpeidmaa
open Go.RowKit Go.WideMaps Go.Maps
attribute [local go_sem ↓] Go.wp_at_zero Go.wp_at_succ
section
variable {bo b0 pw pu : Nat} {cw cu : Array Value} {G : World → List Ev → Option Nat → Prop} {bw : Nat} {l : List (Int × It)} {p : Int} {D : Option Nat} {w : World} {L : List Ev}
theorem Lsn.grown {w2 w4 : World} {D2 : Option Nat} {b : Nat} (hL : Lsn bo b0 pw pu cw cu G) (hg : G w2 L D2) (h : w2.grownBy w4 (some b)) (h1 : b0 ≤ b) (h2 : some b ≠ D2) : G w4 L D2 :=
  hL.kept _ _ _ _ hg h.size (fun k hk => h.block k (by rcases hk with hk | hk; exact Nat.lt_of_lt_of_le hk (hL.lt _ _ _ hg).1; exact (hL.lt _ _ _ hg).2 k hk) (fun e => by rcases hk with hk | hk; injection e with e; omega; exact h2 (e ▸ hk)))
end
end Go.Proofs.Ytjpmnholpeidmaa

namespace Go.Proofs.Ytjpmnholpeidmaa
open Go.RowKit
attribute [local go_sem ↓] Go.wp_at_zero Go.wp_at_succ
theorem nm_par_take (env : Env) {al : List Pm} {k : Nat} {a : Pm} (L : List Ev) (h : al[k]? = some a) : L ++ evP env (al.take (k + 1)) = L ++ evP env (al.take k) ++ evMk (scP env (al.take k)) a.x a.a ∧ scP env (al.take (k + 1)) = scMk (scP env (al.take k)) a.x a.a := by
  rw [List.take_add_one, h]
  simp only [Option.toList_some]
  rw [evP_app, scP_app, List.append_assoc]
  exact ⟨rfl, rfl⟩
theorem evP_append (A B : List Pm) : ∀ env, evP env (A ++ B) = evP env A ++ evP (scP env A) B := by
  induction A with
  | nil => intro env; simp [evP, scP]
  | cons a r ih => intro env; simp only [List.cons_append, evP, ih, List.append_assoc]; rfl
theorem nm_par_less (env : Env) (al : List Pm) (k : Nat) (L : List Ev) : (L ++ evP env (al.take k)).length ≤ (L ++ evP env al).length := by
  have h : evP env al = evP env (al.take k) ++ evP (scP env (al.take k)) (al.drop k) := by rw [← evP_append, List.take_append_drop]
  rw [h]
  simp only [List.length_append]
  omega
section
variable {bo b0 pw pu : Nat} {cw cu : Array Value} {G : World → List Ev → Option Nat → Prop} {bw : Nat} {l : List (Int × It)} {p : Int} {D : Option Nat} {w : World} {L : List Ev}
end
end Go.Proofs.Ytjpmnholpeidmaa

namespace Go.Proofs.Ytjpmnholpeidmaa
open Go.RowKit
attribute [local go_sem ↓] Go.wp_at_zero Go.wp_at_succ
theorem four_at {w1 : World} {b : Nat} {u0 u1 u2 u3 : Value} {t : TypeId} (h : w1.heap[b]? = some (.cells #[u0, u1, u2, u3] t (0, 0))) : w1.cell? ⟨b, 0, none⟩ = some u0 ∧ w1.cell? ⟨b, 1, none⟩ = some u1 ∧ w1.cell? ⟨b, 2, none⟩ = some u2 ∧ w1.cell? ⟨b, 3, none⟩ = some u3 :=
  ⟨cell_of_row _ _ _ _ _ _ h, cell_of_row _ _ _ _ _ _ h, cell_of_row _ _ _ _ _ _ h, cell_of_row _ _ _ _ _ _ h⟩
section
variable {bo b0 pw pu : Nat} {cw cu : Array Value} {G : World → List Ev → Option Nat → Prop} {l : List (Int × It)} {D : Option Nat} {w : World} {L : List Ev}
end
end Go.Proofs.Ytjpmnholpeidmaa


/- Texts of this seat, one behind the other: ParMem, SameTree, SameStmts, SameItem, RdMore. -/
import Derived.Test.YtdkpfnohdknldaaGreatDoorZb01b
import Derived.Test.YtdkpfnohdknldaaGreatDoorZb01
import Derived.Deep.RegionHeld3
import Derived.Deep.DrawnRows
import Derived.BigRegion
import Derived.Deep.QuietTactic
import Derived.BigQuiet
namespace Go.Proofs.YtdkpfnohdknldaaGreatDoor
open Go.RowKit
theorem bytes_inj {x y : ByteArray} (h : x.data.toList = y.data.toList) : x = y := ByteArray.ext (Array.toList_inj.1 h)
theorem exMk_inj {k k' : Nat} {x x' : ByteArray} {n n' : Nat} {l l' : List Tr} {f f' t t' : Nat} (h : exMk k x n l f t = exMk k' x' n' l' f' t') : k = k' ∧ x = x' ∧ n = n' ∧ l = l' ∧ f = f' ∧ t = t' := by
  unfold exMk at h
  simp only [DataW.agg.injEq, List.cons.injEq, DataW.lit.injEq, Lit.int.injEq, Lit.string.injEq, DataW.slice.injEq, and_true, true_and] at h
  obtain ⟨h1, h2, h3, h4, h5, h6⟩ := h
  exact ⟨by omega, bytes_inj h2, by omega, h4, by omega, by omega⟩
theorem stMk_inj {k k' : Nat} {x x' : ByteArray} {a a' b b' : Nat} {o o' : Bool} {e e' : Tr} {l l' m m' : List Tr} {f f' t t' : Nat} (h : stMk k x a b o e l m f t = stMk k' x' a' b' o' e' l' m' f' t') : k = k' ∧ x = x' ∧ a = a' ∧ b = b' ∧ o = o' ∧ e = e' ∧ l = l' ∧ m = m' ∧ f = f' ∧ t = t' := by
  unfold stMk at h
  simp only [DataW.agg.injEq, List.cons.injEq, DataW.lit.injEq, Lit.int.injEq, Lit.string.injEq, Lit.bool.injEq, DataW.slice.injEq, and_true, true_and] at h
  obtain ⟨h1, h2, h3, h4, h5, h6, h7, h8, h9, h10⟩ := h
  exact ⟨by omega, bytes_inj h2, by omega, by omega, h5, h6, h7, h8, by omega, by omega⟩
/-- A struct's cells, from a place on. -/
def CellsV (w : World) (g o : Nat) (v : Value) : Prop := ∃ cs : Array Value, v = .agg cs ∧ ∀ i u, cs[i]? = some u → w.cell? ⟨g, o + i, none⟩ = some u
theorem CellsV.get {w : World} {g o : Nat} {cs : Array Value} (h : CellsV w g o (.agg cs)) (i : Nat) (u : Value) (hi : cs[i]? = some u) : w.cell? ⟨g, o + i, none⟩ = some u := by
  obtain ⟨ds, e, h⟩ := h
  injection e with e
  subst e
  exact h i u hi
theorem CellsV.kept {w w' : World} {g o : Nat} {v : Value} (h : CellsV w g o v) (hg : w'.heap[g]? = w.heap[g]?) : CellsV w' g o v := by
  obtain ⟨cs, e, h⟩ := h
  exact ⟨cs, e, fun i u hi => (World.cell?_of_block (a := ⟨g, o + i, none⟩) hg).trans (h i u hi)⟩
/-- A list of trees that lie one behind the other, each as the given reading has it. -/
def LAt (rd : Tr → Value → Prop) (w : World) (st : Nat) (l : List Tr) (g : Nat) : Prop := ∀ (j : Nat) (a : Tr), l[j]? = some a → ∃ va, CellsV w g (j * st) va ∧ rd a va
theorem LAt.kept {rd rd' : Tr → Value → Prop} {w w' : World} {st : Nat} {l : List Tr} {g : Nat} (h : LAt rd w st l g) (hg : w'.heap[g]? = w.heap[g]?) (hr : ∀ a v, rd a v → rd' a v) : LAt rd' w' st l g := by
  intro j a hj
  obtain ⟨va, h1, h2⟩ := h j a hj
  exact ⟨va, h1.kept hg, hr a va h2⟩
/-- A slice of trees: so many, and where they lie if there are any. -/
def SlT (ok : Nat → Prop) (rd : Tr → Value → Prop) (w : World) (st : Nat) (l : List Tr) (p : Option Addr) : Prop := l.length ≤ 1099511627776 ∧ (0 < l.length → ∃ g, p = some ⟨g, 0, none⟩ ∧ ok g ∧ LAt rd w st l g)
theorem SlT.kept {ok ok' : Nat → Prop} {rd rd' : Tr → Value → Prop} {w w' : World} {st : Nat} {l : List Tr} {p : Option Addr} (h : SlT ok rd w st l p) (hw : ∀ k, ok k → w'.heap[k]? = w.heap[k]?) (ho : ∀ k, ok k → ok' k) (hr : ∀ a v, rd a v → rd' a v) : SlT ok' rd' w' st l p := by
  refine ⟨h.1, fun hl => ?_⟩
  obtain ⟨g, e1, e2, e3⟩ := h.2 hl
  exact ⟨g, e1, ho g e2, e3.kept (hw g e2) hr⟩
/-- An expression, no deeper than n. -/
def RdE : Nat → (Nat → Prop) → World → Tr → Value → Prop
  | 0, _, _, _, _ => False
  | n + 1, ok, w, e, v => ∃ (k : Nat) (x : ByteArray) (m : Nat) (al : List Tr) (f t : Nat) (p : Option Addr) (cap : Nat), e = exMk k x m al f t ∧ v = .agg #[.int .i64 (k : Int), .string x, .int .i64 (m : Int), .slice p al.length cap, .int .i64 (f : Int), .int .i64 (t : Int)] ∧ SlT ok (RdE n ok w) w 6 al p
theorem RdE.kept (n : Nat) : ∀ {ok ok' : Nat → Prop} {w w' : World} (_ : ∀ k, ok k → w'.heap[k]? = w.heap[k]?) (_ : ∀ k, ok k → ok' k) (e : Tr) (v : Value), RdE n ok w e v → RdE n ok' w' e v := by
  induction n with
  | zero => intro ok ok' w w' _ _ e v h; exact h
  | succ n ih =>
    intro ok ok' w w' hw ho e v h
    unfold RdE at h ⊢
    obtain ⟨k, x, m, al, f, t, p, cap, he, hv, hs⟩ := h
    exact ⟨k, x, m, al, f, t, p, cap, he, hv, hs.kept hw ho (ih hw ho)⟩
theorem RdE.deep (n : Nat) : ∀ {ok : Nat → Prop} {w : World} (e : Tr) (v : Value), RdE n ok w e v → RdE (n + 1) ok w e v := by
  induction n with
  | zero => intro ok w e v h; exact h.elim
  | succ n ih =>
    intro ok w e v h
    unfold RdE at h ⊢
    obtain ⟨k, x, m, al, f, t, p, cap, he, hv, hs⟩ := h
    exact ⟨k, x, m, al, f, t, p, cap, he, hv, hs.kept (fun _ _ => rfl) (fun _ h => h) ih⟩
theorem RdE.le {n m : Nat} {ok : Nat → Prop} {w : World} {e : Tr} {v : Value} (h : RdE n ok w e v) (hm : n ≤ m) : RdE m ok w e v := by
  induction m with
  | zero => obtain rfl : n = 0 := by omega
            exact h
  | succ m ih =>
    rcases Nat.lt_or_ge m n with h1 | h1
    · obtain rfl : n = m + 1 := by omega
      exact h
    · exact RdE.deep m e v (ih h1)
/-- A statement, no deeper than n. -/
def RdS : Nat → (Nat → Prop) → World → Tr → Value → Prop
  | 0, _, _, _, _ => False
  | n + 1, ok, w, s, v => ∃ (k : Nat) (x : ByteArray) (a lb : Nat) (op : Bool) (e : Tr) (th el : List Tr) (f t : Nat) (d0 d1 d2 d3 d4 d5 : Value) (p1 : Option Addr) (c1 : Nat) (p2 : Option Addr) (c2 : Nat), s = stMk k x a lb op e th el f t ∧ v = .agg #[.int .i64 (k : Int), .string x, .int .i64 (a : Int), .int .i64 (lb : Int), .bool op, d0, d1, d2, d3, d4, d5, .slice p1 th.length c1, .slice p2 el.length c2, .int .i64 (f : Int), .int .i64 (t : Int)] ∧ (∃ m, RdE m ok w e (.agg #[d0, d1, d2, d3, d4, d5])) ∧
    SlT ok (RdS n ok w) w 15 th p1 ∧ SlT ok (RdS n ok w) w 15 el p2
theorem RdS.kept (n : Nat) : ∀ {ok ok' : Nat → Prop} {w w' : World} (_ : ∀ k, ok k → w'.heap[k]? = w.heap[k]?) (_ : ∀ k, ok k → ok' k) (e : Tr) (v : Value), RdS n ok w e v → RdS n ok' w' e v := by
  induction n with
  | zero => intro ok ok' w w' _ _ e v h; exact h
  | succ n ih =>
    intro ok ok' w w' hw ho e v h
    unfold RdS at h ⊢
    obtain ⟨k, x, a, lb, op, e, th, el, f, t, d0, d1, d2, d3, d4, d5, p1, c1, p2, c2, he, hv, ⟨m, hE⟩, h1, h2⟩ := h
    exact ⟨k, x, a, lb, op, e, th, el, f, t, d0, d1, d2, d3, d4, d5, p1, c1, p2, c2, he, hv, ⟨m, RdE.kept m hw ho _ _ hE⟩, h1.kept hw ho (ih hw ho), h2.kept hw ho (ih hw ho)⟩
theorem RdS.deep (n : Nat) : ∀ {ok : Nat → Prop} {w : World} (e : Tr) (v : Value), RdS n ok w e v → RdS (n + 1) ok w e v := by
  induction n with
  | zero => intro ok w e v h; exact h.elim
  | succ n ih =>
    intro ok w e v h
    unfold RdS at h ⊢
    obtain ⟨k, x, a, lb, op, e, th, el, f, t, d0, d1, d2, d3, d4, d5, p1, c1, p2, c2, he, hv, hE, h1, h2⟩ := h
    exact ⟨k, x, a, lb, op, e, th, el, f, t, d0, d1, d2, d3, d4, d5, p1, c1, p2, c2, he, hv, hE, h1.kept (fun _ _ => rfl) (fun _ h => h) ih, h2.kept (fun _ _ => rfl) (fun _ h => h) ih⟩
theorem RdS.le {n m : Nat} {ok : Nat → Prop} {w : World} {e : Tr} {v : Value} (h : RdS n ok w e v) (hm : n ≤ m) : RdS m ok w e v := by
  induction m with
  | zero => obtain rfl : n = 0 := by omega
            exact h
  | succ m ih =>
    rcases Nat.lt_or_ge m n with h1 | h1
    · obtain rfl : n = m + 1 := by omega
      exact h
    · exact RdS.deep m e v (ih h1)
end Go.Proofs.YtdkpfnohdknldaaGreatDoor
namespace Go.Proofs.YtdkpfnohdknldaaGreatDoor
open Go.RowKit
attribute [local go_sem ↓] Go.wp_at_zero Go.wp_at_succ
def RelS (n : Nat) (w1 : World) (i : Value) (wr : World) : Prop := ∃ k : Nat, k ≤ n ∧ i = .int .i64 (k : Int) ∧ Below w1.heap.size w1 wr
theorem RdE.form {h : Nat} {ok : Nat → Prop} {w : World} {e : Tr} {v : Value} (r : RdE h ok w e v) : ∃ (k : Nat) (x : ByteArray) (m : Nat) (al : List Tr) (f t : Nat) (p : Option Addr) (cap : Nat), e = exMk k x m al f t ∧ v = .agg #[.int .i64 (k : Int), .string x, .int .i64 (m : Int), .slice p al.length cap, .int .i64 (f : Int), .int .i64 (t : Int)] := by
  cases h with
  | zero => exact r.elim
  | succ h =>
    unfold RdE at r
    obtain ⟨k, x, m, al, f, t, p, cap, he, hv, _⟩ := r
    exact ⟨k, x, m, al, f, t, p, cap, he, hv⟩
end Go.Proofs.YtdkpfnohdknldaaGreatDoor

namespace Go.Proofs.YtdkpfnohdknldaaGreatDoor
open Go.RowKit
attribute [local go_sem ↓] Go.wp_at_zero Go.wp_at_succ
theorem two_le (w : World) (o : Obj) : w.heap.size ≤ (w.alloc o).heap.size := by simp
theorem two_le2 (w : World) (o o2 : Obj) : w.heap.size ≤ ((w.alloc o).alloc o2).drew.heap.size := by simp; omega
theorem three_lt {w w3 : World} {o o2 : Obj} (h : Below ((w.alloc o).alloc o2).drew.heap.size ((w.alloc o).alloc o2).drew w3) : w.heap.size + 1 < w3.heap.size := by
  have := h.size
  simp at this
  omega
end Go.Proofs.YtdkpfnohdknldaaGreatDoor

namespace Go.Proofs.YtdkpfnohdknldaaGreatDoor
open Go.RowKit
attribute [local go_sem ↓] Go.wp_at_zero Go.wp_at_succ
/-- A list of flat structs in memory. -/
def FlAt {α : Type} (w : World) (g st : Nat) (c : α → List Value) (l : List α) : Prop := ∀ (j : Nat) (t : α), l[j]? = some t → ∀ (i : Nat) (u : Value), (c t)[i]? = some u → w.cell? ⟨g, j * st + i, none⟩ = some u
def SlAt {α : Type} (ok : Nat → Prop) (w : World) (st : Nat) (c : α → List Value) (l : List α) (p : Option Addr) : Prop := l.length ≤ 1099511627776 ∧ (0 < l.length → ∃ g, p = some ⟨g, 0, none⟩ ∧ ok g ∧ FlAt w g st c l)
theorem SlAt.kept {α : Type} {ok : Nat → Prop} {w w' : World} {st : Nat} {c : α → List Value} {l : List α} {p : Option Addr} (h : SlAt ok w st c l p) (hw : ∀ k, ok k → w'.heap[k]? = w.heap[k]?) : SlAt ok w' st c l p := by
  refine ⟨h.1, fun hl => ?_⟩
  obtain ⟨g, e1, e2, e3⟩ := h.2 hl
  exact ⟨g, e1, e2, fun j t hj i u hi => (World.cell?_of_block (a := ⟨g, j * st + i, none⟩) (hw g e2)).trans (e3 j t hj i u hi)⟩
theorem SlAt.wide {α : Type} {ok ok' : Nat → Prop} {w : World} {st : Nat} {c : α → List Value} {l : List α} {p : Option Addr} (h : SlAt ok w st c l p) (hw : ∀ k, ok k → ok' k) : SlAt ok' w st c l p := by
  refine ⟨h.1, fun hl => ?_⟩
  obtain ⟨g, e1, e2, e3⟩ := h.2 hl
  exact ⟨g, e1, hw g e2, e3⟩
def dgC (d : Dg) : List Value := [.int .i64 (d.f : Int), .int .i64 (d.t : Int), .int .i64 (d.e : Int), .string d.x]
def pmC (p : Pm) : List Value := [.string p.x, .int .i64 (p.l : Int), .int .i64 (p.a : Int)]
def rfC (r : Rf) : List Value := [.string r.x, .int .i64 (r.a : Int)]
def RelQ (n : Nat) (w : World) (i : Value) (wr : World) : Prop := ∃ k m : Nat, k ≤ n ∧ i = .int .i64 (k : Int) ∧ wr = w.drewN m
set_option maxHeartbeats 1000000 in
set_option maxRecDepth 100000 in
theorem sameDiags_any (l : List Dg) (p1 p2 : Option Addr) (c1 c2 : Nat) (ok : Nat → Prop) (w : World) (h1 : SlAt ok w 4 dgC l p1) (h2 : SlAt ok w 4 dgC l p2) :
    Calls Tryz.prog 20 #[.slice p1 l.length c1, .slice p2 l.length c2] w fun e w' => e = .returned (.bool true) ∧ ∃ m, w' = w.drewN m := by
  have hl := h1.1
  go_enter Tryz.func20, Tryz.ntmps20
  go_wp2
  go_loopw [13] (fun i wr => RelQ l.length w i wr) (fun i _ => upN l.length i)
  case atStart => exact ⟨0, 0, Nat.zero_le _, rfl, rfl⟩
  case round =>
    obtain ⟨k, m, hk, rfl, rfl⟩ := hrel
    by_cases hlt : k < l.length
    · obtain ⟨g1, rfl, _, t1⟩ := h1.2 (by omega)
      obtain ⟨g2, rfl, _, t2⟩ := h2.2 (by omega)
      obtain ⟨t, ht⟩ : ∃ t, l[k]? = some t := ⟨_, List.getElem?_eq_getElem hlt⟩
      have a0 := t1 k t ht 0 _ rfl
      have a1 := t1 k t ht 1 _ rfl
      have a2 := t1 k t ht 2 _ rfl
      have a3 := t1 k t ht 3 _ rfl
      have b0 := t2 k t ht 0 _ rfl
      have b1 := t2 k t ht 1 _ rfl
      have b2 := t2 k t ht 2 _ rfl
      have b3 := t2 k t ht 3 _ rfl
      rw [Nat.add_zero] at a0 b0
      clear t1 t2 h1 h2 ht
      go_wp2
      go_quiet (fail)
      go_wp2
      go_roundw
      case rel => exact ⟨k + 1, m + nq, by omega, by go_num, by simp⟩
      case measure => simp [upN, intOf]; omega
    · go_wp2
      go_ret
      exact ⟨rfl, m, rfl⟩
/-- An item in memory. -/
def RdI (ok : Nat → Prop) (w : World) (at_ : Int) (it : It) (v : Value) : Prop :=
  ∃ p1 c1 p2 c2 p3 c3 p4 c4, v = .agg #[.int .i64 (it.k : Int), .string it.x, .int .i64 (it.l : Int), .slice p1 it.ps.length c1, .slice p2 it.ss.length c2, .slice p3 it.bd.length c3, .int .i64 at_, .int .i64 (it.sz : Int), .int .i64 (it.mrk : Int), .slice p4 it.ds.length c4] ∧
    SlAt ok w 3 pmC it.ps p1 ∧ SlAt ok w 2 rfC it.ss p2 ∧ (∃ h, SlT ok (RdS h ok w) w 15 it.bd p3) ∧ SlAt ok w 4 dgC it.ds p4
theorem RdI.kept {ok ok' : Nat → Prop} {w w' : World} {at_ : Int} {it : It} {v : Value} (h : RdI ok w at_ it v) (hw : ∀ k, ok k → w'.heap[k]? = w.heap[k]?) (ho : ∀ k, ok k → ok' k) : RdI ok' w' at_ it v := by
  obtain ⟨p1, c1, p2, c2, p3, c3, p4, c4, rfl, h1, h2, ⟨n, h3⟩, h4⟩ := h
  exact ⟨p1, c1, p2, c2, p3, c3, p4, c4, rfl, (h1.kept hw).wide ho, (h2.kept hw).wide ho, ⟨n, h3.kept hw ho (RdS.kept n hw ho)⟩, (h4.kept hw).wide ho⟩
theorem cells_one {w : World} (o o2 : Obj) (cs ds : Array Value) (t t2 : TypeId) (h1 : o = .cells cs t) (h2 : o2 = .cells ds t2) (i : Nat) (u : Value) :
    (cs[i]? = some u → ((w.alloc o).alloc o2).cell? ⟨w.heap.size, i, none⟩ = some u) ∧ (ds[i]? = some u → ((w.alloc o).alloc o2).cell? ⟨w.heap.size + 1, i, none⟩ = some u) := by
  subst h1 h2
  refine ⟨fun h => ?_, fun h => ?_⟩
  · have e : ((w.alloc (.cells cs t)).alloc (.cells ds t2)).heap[w.heap.size]? = some (.cells cs t (0, 0)) := (Below.heap_alloc (w.alloc (.cells cs t)) (.cells ds t2) w.heap.size (by simp)).trans (heap_alloc_new w _)
    rw [cell_of_row _ _ _ _ _ _ e]
    exact h
  · have e : ((w.alloc (.cells cs t)).alloc (.cells ds t2)).heap[w.heap.size + 1]? = some (.cells ds t2 (0, 0)) := by
      have := heap_alloc_new (w.alloc (.cells cs t)) (.cells ds t2)
      simpa using this
    rw [cell_of_row _ _ _ _ _ _ e]
    exact h
/-- Items that lie one behind the other. -/
def RdIs (ok : Nat → Prop) (w : World) (l : List (Int × It)) (g : Nat) : Prop := ∀ (j : Nat) (e : Int × It), l[j]? = some e → ∃ v, CellsV w g (j * 10) v ∧ RdI ok w e.1 e.2 v
theorem RdIs.kept {ok ok' : Nat → Prop} {w w' : World} {l : List (Int × It)} {g : Nat} (h : RdIs ok w l g) (hg : ok g) (hw : ∀ k, ok k → w'.heap[k]? = w.heap[k]?) (ho : ∀ k, ok k → ok' k) : RdIs ok' w' l g := by
  intro j e hj
  obtain ⟨v, h1, h2⟩ := h j e hj
  exact ⟨v, h1.kept (hw g hg), h2.kept hw ho⟩
/-- A file in memory. -/
def RdF (ok : Nat → Prop) (w : World) (l : List (Int × It)) (v : Value) : Prop :=
  ∃ p cap, v = .agg #[.slice p l.length cap] ∧ l.length ≤ 1099511627776 ∧ (0 < l.length → ∃ g, p = some ⟨g, 0, none⟩ ∧ ok g ∧ RdIs ok w l g)
end Go.Proofs.YtdkpfnohdknldaaGreatDoor

namespace Go.Proofs.YtdkpfnohdknldaaGreatDoor
open Go.RowKit
theorem RdF.kept {ok ok' : Nat → Prop} {w w' : World} {l : List (Int × It)} {v : Value} (h : RdF ok w l v) (hw : ∀ k, ok k → w'.heap[k]? = w.heap[k]?) (ho : ∀ k, ok k → ok' k) : RdF ok' w' l v := by
  obtain ⟨p, cap, rfl, h1, h2⟩ := h
  exact ⟨p, cap, rfl, h1, fun h0 => (let ⟨g, e1, e2, e3⟩ := h2 h0; ⟨g, e1, ho g e2, e3.kept e2 hw ho⟩)⟩
theorem RdIs.at {ok : Nat → Prop} {w w' : World} {l : List (Int × It)} {g : Nat} (h : RdIs ok w l g) (hg : w'.heap[g]? = w.heap[g]?) (hw : ∀ k, ok k → w'.heap[k]? = w.heap[k]?) {j : Nat} {e1 : Int} {e2 : It} (hj : l[j]? = some (e1, e2)) : ∃ v, CellsV w' g (j * 10) v ∧ RdI ok w' e1 e2 v := by
  obtain ⟨v, h1, h2⟩ := h j _ hj
  exact ⟨v, h1.kept hg, RdI.kept h2 hw (fun _ h => h)⟩
end Go.Proofs.YtdkpfnohdknldaaGreatDoor

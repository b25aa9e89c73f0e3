/- Texts of this seat, one behind the other: ParMem, SameTree, SameStmts, SameItem, RdMore. -/
import Derived.Test.YtjpmnholpeidmaaZb01b
import Derived.Test.YtjpmnholpeidmaaZb01
import Derived.Deep.RegionHeld3
import Derived.Deep.DrawnRows
import Derived.BigRegion
import Derived.Deep.QuietTactic
import Derived.BigQuiet
namespace Go.Proofs.Ytjpmnholpeidmaa
open Go.RowKit
theorem bytes_inj {x y : ByteArray} (h : x.data.toList = y.data.toList) : x = y := ByteArray.ext (Array.toList_inj.1 h)
theorem exMk_inj {k k' : Nat} {x x' : ByteArray} {n n' : Nat} {l l' : List Tr} {f f' t t' : Nat} (h : exMk k x n l f t = exMk k' x' n' l' f' t') : k = k' ∧ x = x' ∧ n = n' ∧ l = l' ∧ f = f' ∧ t = t' := by
  unfold exMk at h
  simp only [DataW.agg.injEq, List.cons.injEq, DataW.lit.injEq, Lit.int.injEq, Lit.string.injEq, DataW.slice.injEq, and_true, true_and] at h
  obtain ⟨h1, h2, h3, h4, h5, h6⟩ := h
  exact ⟨by omega, bytes_inj h2, by omega, h4, by omega, by omega⟩
theorem stMk_inj {k k' : Nat} {x x' : ByteArray} {a a' b b' : Nat} {o o' : Bool} {e e' : Tr} {l l' m m' : List Tr} {f f' t t' : Nat} (h : stMk k x a b o e l m f t = stMk k' x' a' b' o' e' l' m' f' t') : k = k' ∧ x = x' ∧ a = a' ∧ b = b' ∧ o = o' ∧ e = e' ∧ l = l' ∧ m = m' ∧ f = f' ∧ t = t' := by
  unfold stMk at h
  simp only [DataW.agg.injEq, List.cons.injEq, DataW.lit.injEq, Lit.int.injEq, Lit.string.injEq, Lit.bool.injEq, DataW.slice.injEq, and_true, true_and] at h
  obtain ⟨h1, h2, h3, h4, h5, h6, h7, h8, h9, h10⟩ := h
  exact ⟨by omega, bytes_inj h2, by omega, by omega, h5, h6, h7, h8, by omega, by omega⟩
/-- A struct's cells, from a place on. -/
def CellsV (w : World) (g o : Nat) (v : Value) : Prop := ∃ cs : Array Value, v = .agg cs ∧ ∀ i u, cs[i]? = some u → w.cell? ⟨g, o + i, none⟩ = some u
theorem CellsV.get {w : World} {g o : Nat} {cs : Array Value} (h : CellsV w g o (.agg cs)) (i : Nat) (u : Value) (hi : cs[i]? = some u) : w.cell? ⟨g, o + i, none⟩ = some u := by
  obtain ⟨ds, e, h⟩ := h
  injection e with e
  subst e
  exact h i u hi
theorem CellsV.kept {w w' : World} {g o : Nat} {v : Value} (h : CellsV w g o v) (hg : w'.heap[g]? = w.heap[g]?) : CellsV w' g o v := by
  obtain ⟨cs, e, h⟩ := h
  exact ⟨cs, e, fun i u hi => (World.cell?_of_block (a := ⟨g, o + i, none⟩) hg).trans (h i u hi)⟩
/-- A list of trees that lie one behind the other, each as the given reading has it. -/
def LAt (rd : Tr → Value → Prop) (w : World) (st : Nat) (l : List Tr) (g : Nat) : Prop := ∀ (j : Nat) (a : Tr), l[j]? = some a → ∃ va, CellsV w g (j * st) va ∧ rd a va
theorem LAt.kept {rd rd' : Tr → Value → Prop} {w w' : World} {st : Nat} {l : List Tr} {g : Nat} (h : LAt rd w st l g) (hg : w'.heap[g]? = w.heap[g]?) (hr : ∀ a v, rd a v → rd' a v) : LAt rd' w' st l g := by
  intro j a hj
  obtain ⟨va, h1, h2⟩ := h j a hj
  exact ⟨va, h1.kept hg, hr a va h2⟩
/-- A slice of trees: so many, and where they lie if there are any. -/
def SlT (ok : Nat → Prop) (rd : Tr → Value → Prop) (w : World) (st : Nat) (l : List Tr) (p : Option Addr) : Prop := l.length ≤ 1099511627776 ∧ (0 < l.length → ∃ g, p = some ⟨g, 0, none⟩ ∧ ok g ∧ LAt rd w st l g)
theorem SlT.kept {ok ok' : Nat → Prop} {rd rd' : Tr → Value → Prop} {w w' : World} {st : Nat} {l : List Tr} {p : Option Addr} (h : SlT ok rd w st l p) (hw : ∀ k, ok k → w'.heap[k]? = w.heap[k]?) (ho : ∀ k, ok k → ok' k) (hr : ∀ a v, rd a v → rd' a v) : SlT ok' rd' w' st l p := by
  refine ⟨h.1, fun hl => ?_⟩
  obtain ⟨g, e1, e2, e3⟩ := h.2 hl
  exact ⟨g, e1, ho g e2, e3.kept (hw g e2) hr⟩
/-- An expression, no deeper than n. -/
def RdE : Nat → (Nat → Prop) → World → Tr → Value → Prop
  | 0, _, _, _, _ => False
  | n + 1, ok, w, e, v => ∃ (k : Nat) (x : ByteArray) (m : Nat) (al : List Tr) (f t : Nat) (p : Option Addr) (cap : Nat), e = exMk k x m al f t ∧ v = .agg #[.int .i64 (k : Int), .string x, .int .i64 (m : Int), .slice p al.length cap, .int .i64 (f : Int), .int .i64 (t : Int)] ∧ SlT ok (RdE n ok w) w 6 al p
theorem RdE.kept (n : Nat) : ∀ {ok ok' : Nat → Prop} {w w' : World} (_ : ∀ k, ok k → w'.heap[k]? = w.heap[k]?) (_ : ∀ k, ok k → ok' k) (e : Tr) (v : Value), RdE n ok w e v → RdE n ok' w' e v := by
  induction n with
  | zero => intro ok ok' w w' _ _ e v h; exact h
  | succ n ih =>
    intro ok ok' w w' hw ho e v h
    unfold RdE at h ⊢
    obtain ⟨k, x, m, al, f, t, p, cap, he, hv, hs⟩ := h
    exact ⟨k, x, m, al, f, t, p, cap, he, hv, hs.kept hw ho (ih hw ho)⟩
theorem RdE.deep (n : Nat) : ∀ {ok : Nat → Prop} {w : World} (e : Tr) (v : Value), RdE n ok w e v → RdE (n + 1) ok w e v := by
  induction n with
  | zero => intro ok w e v h; exact h.elim
  | succ n ih =>
    intro ok w e v h
    unfold RdE at h ⊢
    obtain ⟨k, x, m, al, f, t, p, cap, he, hv, hs⟩ := h
    exact ⟨k, x, m, al, f, t, p, cap, he, hv, hs.kept (fun _ _ => rfl) (fun _ h => h) ih⟩
theorem RdE.le {n m : Nat} {ok : Nat → Prop} {w : World} {e : Tr} {v : Value} (h : RdE n ok w e v) (hm : n ≤ m) : RdE m ok w e v := by
  induction m with
  | zero => obtain rfl : n = 0 := by omega
            exact h
  | succ m ih =>
    rcases Nat.lt_or_ge m n with h1 | h1
    · obtain rfl : n = m + 1 := by omega
      exact h
    · exact RdE.deep m e v (ih h1)
/-- A statement, no deeper than n. -/
def RdS : Nat → (Nat → Prop) → World → Tr → Value → Prop
  | 0, _, _, _, _ => False
  | n + 1, ok, w, s, v => ∃ (k : Nat) (x : ByteArray) (a lb : Nat) (op : Bool) (e : Tr) (th el : List Tr) (f t : Nat) (d0 d1 d2 d3 d4 d5 : Value) (p1 : Option Addr) (c1 : Nat) (p2 : Option Addr) (c2 : Nat), s = stMk k x a lb op e th el f t ∧ v = .agg #[.int .i64 (k : Int), .string x, .int .i64 (a : Int), .int .i64 (lb : Int), .bool op, d0, d1, d2, d3, d4, d5, .slice p1 th.length c1, .slice p2 el.length c2, .int .i64 (f : Int), .int .i64 (t : Int)] ∧ (∃ m, RdE m ok w e (.agg #[d0, d1, d2, d3, d4, d5])) ∧
    SlT ok (RdS n ok w) w 15 th p1 ∧ SlT ok (RdS n ok w) w 15 el p2
theorem RdS.kept (n : Nat) : ∀ {ok ok' : Nat → Prop} {w w' : World} (_ : ∀ k, ok k → w'.heap[k]? = w.heap[k]?) (_ : ∀ k, ok k → ok' k) (e : Tr) (v : Value), RdS n ok w e v → RdS n ok' w' e v := by
  induction n with
  | zero => intro ok ok' w w' _ _ e v h; exact h
  | succ n ih =>
    intro ok ok' w w' hw ho e v h
    unfold RdS at h ⊢
    obtain ⟨k, x, a, lb, op, e, th, el, f, t, d0, d1, d2, d3, d4, d5, p1, c1, p2, c2, he, hv, ⟨m, hE⟩, h1, h2⟩ := h
    exact ⟨k, x, a, lb, op, e, th, el, f, t, d0, d1, d2, d3, d4, d5, p1, c1, p2, c2, he, hv, ⟨m, RdE.kept m hw ho _ _ hE⟩, h1.kept hw ho (ih hw ho), h2.kept hw ho (ih hw ho)⟩
theorem RdS.deep (n : Nat) : ∀ {ok : Nat → Prop} {w : World} (e : Tr) (v : Value), RdS n ok w e v → RdS (n + 1) ok w e v := by
  induction n with
  | zero => intro ok w e v h; exact h.elim
  | succ n ih =>
    intro ok w e v h
    unfold RdS at h ⊢
    obtain ⟨k, x, a, lb, op, e, th, el, f, t, d0, d1, d2, d3, d4, d5, p1, c1, p2, c2, he, hv, hE, h1, h2⟩ := h
    exact ⟨k, x, a, lb, op, e, th, el, f, t, d0, d1, d2, d3, d4, d5, p1, c1, p2, c2, he, hv, hE, h1.kept (fun _ _ => rfl) (fun _ h => h) ih, h2.kept (fun _ _ => rfl) (fun _ h => h) ih⟩
theorem RdS.le {n m : Nat} {ok : Nat → Prop} {w : World} {e : Tr} {v : Value} (h : RdS n ok w e v) (hm : n ≤ m) : RdS m ok w e v := by
  induction m with
  | zero => obtain rfl : n = 0 := by omega
            exact h
  | succ m ih =>
    rcases Nat.lt_or_ge m n with h1 | h1
    · obtain rfl : n = m + 1 := by omega
      exact h
    · exact RdS.deep m e v (ih h1)
end Go.Proofs.Ytjpmnholpeidmaa

namespace Go.Proofs.Ytjpmnholpeidmaa
open Go.RowKit
attribute [local go_sem ↓] Go.wp_at_zero Go.wp_at_succ
def RelS (n : Nat) (w1 : World) (i : Value) (wr : World) : Prop := ∃ k : Nat, k ≤ n ∧ i = .int .i64 (k : Int) ∧ Below w1.heap.size w1 wr
theorem RdE.form {h : Nat} {ok : Nat → Prop} {w : World} {e : Tr} {v : Value} (r : RdE h ok w e v) : ∃ (k : Nat) (x : ByteArray) (m : Nat) (al : List Tr) (f t : Nat) (p : Option Addr) (cap : Nat), e = exMk k x m al f t ∧ v = .agg #[.int .i64 (k : Int), .string x, .int .i64 (m : Int), .slice p al.length cap, .int .i64 (f : Int), .int .i64 (t : Int)] := by
  cases h with
  | zero => exact r.elim
  | succ h =>
    unfold RdE at r
    obtain ⟨k, x, m, al, f, t, p, cap, he, hv, _⟩ := r
    exact ⟨k, x, m, al, f, t, p, cap, he, hv⟩
set_option maxHeartbeats 1000000 in
set_option maxRecDepth 100000 in
theorem sameExpr_any (h : Nat) : ∀ (e : Tr) (w : World) (va vb : Value) (B : Nat), B ≤ w.heap.size → RdE h (fun k => k < B) w e va → RdE h (fun k => k < B) w e vb →
    Calls Try.prog 72 #[va, vb] w fun e w' => e = .returned (.bool true) ∧ Below w.heap.size w w' := by
  induction h with
  | zero => intro e w va vb B hB ha; exact ha.elim
  | succ h ih =>
    intro e w va vb B hB ha hb
    unfold RdE at ha hb
    obtain ⟨k, x, n, al, f, t, pa, ca, rfl, rfl, hm, ha⟩ := ha
    obtain ⟨k', x', n', al', f', t', pb, cb, he, rfl, _, hb⟩ := hb
    obtain ⟨rfl, rfl, rfl, rfl, rfl, rfl⟩ := exMk_inj he
    clear he
    go_enter Try.func72, Try.ntmps72
    go_wp2
    have hW : Below w.heap.size w ((w.alloc (.cells #[.int .i64 (k : Int), .string x, .int .i64 (n : Int), .slice pa al.length ca, .int .i64 (f : Int), .int .i64 (t : Int)] 102)).alloc (.cells #[.int .i64 (k : Int), .string x, .int .i64 (n : Int), .slice pb al.length cb, .int .i64 (f : Int), .int .i64 (t : Int)] 102)) := ((Below.refl _ _).alloc (Nat.le_refl _) _).alloc (by simp) _
    have hc1 : ((w.alloc (.cells #[.int .i64 (k : Int), .string x, .int .i64 (n : Int), .slice pa al.length ca, .int .i64 (f : Int), .int .i64 (t : Int)] 102)).alloc (.cells #[.int .i64 (k : Int), .string x, .int .i64 (n : Int), .slice pb al.length cb, .int .i64 (f : Int), .int .i64 (t : Int)] 102)).cell? ⟨w.heap.size, 3, none⟩ = some (.slice pa al.length ca) := by go_simp
    have hc2 : ((w.alloc (.cells #[.int .i64 (k : Int), .string x, .int .i64 (n : Int), .slice pa al.length ca, .int .i64 (f : Int), .int .i64 (t : Int)] 102)).alloc (.cells #[.int .i64 (k : Int), .string x, .int .i64 (n : Int), .slice pb al.length cb, .int .i64 (f : Int), .int .i64 (t : Int)] 102)).cell? ⟨w.heap.size + 1, 3, none⟩ = some (.slice pb al.length cb) := by go_simp
    have hz : w.heap.size + 1 < ((w.alloc (.cells #[.int .i64 (k : Int), .string x, .int .i64 (n : Int), .slice pa al.length ca, .int .i64 (f : Int), .int .i64 (t : Int)] 102)).alloc (.cells #[.int .i64 (k : Int), .string x, .int .i64 (n : Int), .slice pb al.length cb, .int .i64 (f : Int), .int .i64 (t : Int)] 102)).heap.size := by simp
    generalize (w.alloc (.cells #[.int .i64 (k : Int), .string x, .int .i64 (n : Int), .slice pa al.length ca, .int .i64 (f : Int), .int .i64 (t : Int)] 102)).alloc (.cells #[.int .i64 (k : Int), .string x, .int .i64 (n : Int), .slice pb al.length cb, .int .i64 (f : Int), .int .i64 (t : Int)] 102) = W1 at *
    go_loopw [51] (fun i wr => RelS al.length W1 i wr) (fun i _ => upN al.length i)
    case atStart => exact ⟨0, Nat.zero_le _, rfl, Below.refl _ _⟩
    case round =>
      obtain ⟨j, hj, rfl, hbel⟩ := hrel
      have hsz := hbel.size
      by_cases hlt : j < al.length
      · obtain ⟨ga, rfl, hga, hra⟩ := ha (by omega)
        obtain ⟨gb, rfl, hgb, hrb⟩ := hb (by omega)
        obtain ⟨e1, he1⟩ : ∃ e1, al[j]? = some e1 := ⟨_, List.getElem?_eq_getElem hlt⟩
        have hkept : ∀ k, k < B → wr.heap[k]? = w.heap[k]? := fun k hk => (hbel.block k (by omega)).trans (hW.block k (by omega))
        obtain ⟨v1, cv1, rv1⟩ := (hra.kept (rd' := RdE h (fun k => k < B) wr) (w' := wr) (hkept ga hga) (RdE.kept h hkept (fun _ h => h))) j e1 he1
        obtain ⟨v2, cv2, rv2⟩ := (hrb.kept (rd' := RdE h (fun k => k < B) wr) (w' := wr) (hkept gb hgb) (RdE.kept h hkept (fun _ h => h))) j e1 he1
        have rw1 := rv1
        have rw2 := rv2
        obtain ⟨k1, x1, n1, al1, f1, t1, pe1, ce1, rfl, rfl⟩ := RdE.form rw1
        obtain ⟨k2, x2, n2, al2, f2, t2, pe2, ce2, he2, rfl⟩ := RdE.form rw2
        obtain ⟨rfl, rfl, rfl, rfl, rfl, rfl⟩ := exMk_inj he2
        have p0 := cv1.get 0 _ rfl
        have p1 := cv1.get 1 _ rfl
        have p2 := cv1.get 2 _ rfl
        have p3 := cv1.get 3 _ rfl
        have p4 := cv1.get 4 _ rfl
        have p5 := cv1.get 5 _ rfl
        have q0 := cv2.get 0 _ rfl
        have q1 := cv2.get 1 _ rfl
        have q2 := cv2.get 2 _ rfl
        have q3 := cv2.get 3 _ rfl
        have q4 := cv2.get 4 _ rfl
        have q5 := cv2.get 5 _ rfl
        rw [Nat.add_zero] at p0 q0
        rw [← hbel.cell (p := ⟨w.heap.size, 3, none⟩) (by simp; omega)] at hc1
        rw [← hbel.cell (p := ⟨w.heap.size + 1, 3, none⟩) hz] at hc2
        have hi : (0 : Int) ≤ (j : Int) := by omega
        have hi2 : (j : Int) < (al.length : Int) := by omega
        have hB' : B ≤ wr.drew.heap.size := by show B ≤ wr.heap.size; omega
        have rv1' : RdE h (fun k => k < B) wr.drew _ _ := RdE.kept h (w := wr) (w' := wr.drew) (fun _ _ => rfl) (fun _ h => h) _ _ rv1
        have rv2' : RdE h (fun k => k < B) wr.drew _ _ := RdE.kept h (w := wr) (w' := wr.drew) (fun _ _ => rfl) (fun _ h => h) _ _ rv2
        have s1 : w.heap.size < wr.heap.size := by omega
        have s2 : w.heap.size + 1 < wr.heap.size := by omega
        have s3 : ga < wr.heap.size := by omega
        have s4 : gb < wr.heap.size := by omega
        clear ha hb hra hrb
        go_wp2
        go_region_held3 (fun w' => w'.cell? ⟨w.heap.size, 3, none⟩ = some (.slice (some ⟨ga, 0, none⟩) al.length ca) ∧ w'.cell? ⟨w.heap.size + 1, 3, none⟩ = some (.slice (some ⟨gb, 0, none⟩) al.length cb) ∧ w'.cell? ⟨ga, j * 6, none⟩ = some (.int .i64 (k1 : Int)) ∧ w'.cell? ⟨ga, j * 6 + 1, none⟩ = some (.string x1) ∧ w'.cell? ⟨ga, j * 6 + 2, none⟩ = some (.int .i64 (n1 : Int)) ∧ w'.cell? ⟨ga, j * 6 + 3, none⟩ = some (.slice pe1 al1.length ce1) ∧ w'.cell? ⟨ga, j * 6 + 4, none⟩ = some (.int .i64 (f1 : Int)) ∧ w'.cell? ⟨ga, j * 6 + 5, none⟩ = some (.int .i64 (t1 : Int)) ∧ w'.cell? ⟨gb, j * 6, none⟩ = some (.int .i64 (k1 : Int)) ∧ w'.cell? ⟨gb, j * 6 + 1, none⟩ = some (.string x1) ∧ w'.cell? ⟨gb, j * 6 + 2, none⟩ = some (.int .i64 (n1 : Int)) ∧ w'.cell? ⟨gb, j * 6 + 3, none⟩ = some (.slice pe2 al1.length ce2) ∧ w'.cell? ⟨gb, j * 6 + 4, none⟩ = some (.int .i64 (f1 : Int)) ∧ w'.cell? ⟨gb, j * 6 + 5, none⟩ = some (.int .i64 (t1 : Int))) (first | go_keep | exact ⟨y _ _ _ s1 hc1, y _ _ _ s2 hc2, y _ _ _ s3 p0, y _ _ _ s3 p1, y _ _ _ s3 p2, y _ _ _ s3 p3, y _ _ _ s3 p4, y _ _ _ s3 p5, y _ _ _ s4 q0, y _ _ _ s4 q1, y _ _ _ s4 q2, y _ _ _ s4 q3, y _ _ _ s4 q4, y _ _ _ s4 q5⟩)
          ((go_at_call 72; refine (ih (exMk k1 x1 n1 al1 f1 t1) _ _ _ B hB' rv1' rv2').mono ?_; rintro e w2 ⟨rfl, hb2⟩; have y := bstay (wr := wr) hb2))
        clear y
        go_wp2
        go_roundw
        case rel => exact ⟨j + 1, by omega, by go_num, hbel.drew.trans (hb2.mono hsz)⟩
        case measure => simp [upN, intOf]; omega
      · go_wp2
        go_ret
        exact ⟨rfl, hW.trans (hbel.mono hW.size)⟩
end Go.Proofs.Ytjpmnholpeidmaa

namespace Go.Proofs.Ytjpmnholpeidmaa
open Go.RowKit
attribute [local go_sem ↓] Go.wp_at_zero Go.wp_at_succ
theorem two_le (w : World) (o : Obj) : w.heap.size ≤ (w.alloc o).heap.size := by simp
theorem two_le2 (w : World) (o o2 : Obj) : w.heap.size ≤ ((w.alloc o).alloc o2).drew.heap.size := by simp; omega
theorem three_lt {w w3 : World} {o o2 : Obj} (h : Below ((w.alloc o).alloc o2).drew.heap.size ((w.alloc o).alloc o2).drew w3) : w.heap.size + 1 < w3.heap.size := by
  have := h.size
  simp at this
  omega
set_option maxHeartbeats 4000000 in
set_option maxRecDepth 100000 in
theorem sameStmts_any (h : Nat) : ∀ (l : List Tr) (w : World) (pa pb : Option Addr) (ca cb B : Nat), B ≤ w.heap.size →
    SlT (fun k => k < B) (RdS h (fun k => k < B) w) w 15 l pa → SlT (fun k => k < B) (RdS h (fun k => k < B) w) w 15 l pb →
    Calls Try.prog 50 #[.slice pa l.length ca, .slice pb l.length cb] w fun e w' => e = .returned (.bool true) ∧ Below w.heap.size w w' := by
  induction h with
  | zero =>
    intro l w pa pb ca cb B hB ha hb
    have hl : l = [] := by
      cases l with
      | nil => rfl
      | cons e r =>
        obtain ⟨g, _, _, h3⟩ := ha.2 (by simp)
        obtain ⟨_, _, h4⟩ := h3 0 e rfl
        exact h4.elim
    subst hl
    clear ha hb
    go_enter Try.func50, Try.ntmps50
    go_wp2
    go_loopw [15] (fun i wr => i = .int .i64 0 ∧ wr = w) (fun _ _ => 0)
    case atStart => exact ⟨rfl, rfl⟩
    case round =>
      obtain ⟨rfl, rfl⟩ := hrel
      go_wp2
      go_ret
      exact ⟨rfl, Below.refl _ _⟩
  | succ h ih =>
    intro l w pa pb ca cb B hB ha hb
    obtain ⟨hm, ha⟩ := ha
    obtain ⟨_, hb⟩ := hb
    go_enter Try.func50, Try.ntmps50
    go_wp2
    go_loopw [15] (fun i wr => RelS l.length w i wr) (fun i _ => upN l.length i)
    case atStart => exact ⟨0, Nat.zero_le _, rfl, Below.refl _ _⟩
    case round =>
      obtain ⟨j, hj, rfl, hbel⟩ := hrel
      have hsz := hbel.size
      by_cases hlt : j < l.length
      · obtain ⟨ga, rfl, hga, hra⟩ := ha (by omega)
        obtain ⟨gb, rfl, hgb, hrb⟩ := hb (by omega)
        obtain ⟨e1, he1⟩ : ∃ e1, l[j]? = some e1 := ⟨_, List.getElem?_eq_getElem hlt⟩
        have hkept : ∀ k, k < B → wr.heap[k]? = w.heap[k]? := fun k hk => hbel.block k (by omega)
        obtain ⟨v1, cv1, rv1⟩ := (hra.kept (rd' := RdS (h + 1) (fun k => k < B) wr) (w' := wr) (hkept ga hga) (RdS.kept (h + 1) hkept (fun _ h => h))) j e1 he1
        obtain ⟨v2, cv2, rv2⟩ := (hrb.kept (rd' := RdS (h + 1) (fun k => k < B) wr) (w' := wr) (hkept gb hgb) (RdS.kept (h + 1) hkept (fun _ h => h))) j e1 he1
        unfold RdS at rv1 rv2
        obtain ⟨k1, x1, a1, b1, o1, e1, th, el, f1, t1, d0, d1, d2, d3, d4, d5, pt1, ct1, pl1, cl1, rfl, rfl, ⟨m1, rE1⟩, rT1, rL1⟩ := rv1
        obtain ⟨k2, x2, a2, b2, o2, e2, th2, el2, f2, t2, g0, g1, g2, g3, g4, g5, pt2, ct2, pl2, cl2, he2, rfl, ⟨m2, rE2⟩, rT2, rL2⟩ := rv2
        obtain ⟨rfl, rfl, rfl, rfl, rfl, rfl, rfl, rfl, rfl, rfl⟩ := stMk_inj he2
        obtain ⟨ek, ex, en, al, ef, et, pe1, ce1, rfl, ee1⟩ := RdE.form rE1
        obtain ⟨ek2, ex2, en2, al2, ef2, et2, pe2, ce2, he3, ee2⟩ := RdE.form rE2
        obtain ⟨rfl, rfl, rfl, rfl, rfl, rfl⟩ := exMk_inj he3
        injection ee1 with ee1
        injection ee2 with ee2
        simp only [Array.mk.injEq, List.cons.injEq, and_true] at ee1 ee2
        obtain ⟨rfl, rfl, rfl, rfl, rfl, rfl⟩ := ee1
        obtain ⟨rfl, rfl, rfl, rfl, rfl, rfl⟩ := ee2
        have rF1 := rE1.le (Nat.le_max_left m1 m2)
        have rF2 := rE2.le (Nat.le_max_right m1 m2)
        generalize max m1 m2 = M at rF1 rF2
        have p0 := cv1.get 0 _ rfl
        have p1 := cv1.get 1 _ rfl
        have p2 := cv1.get 2 _ rfl
        have p3 := cv1.get 3 _ rfl
        have p4 := cv1.get 4 _ rfl
        have p5 := cv1.get 5 _ rfl
        have p6 := cv1.get 6 _ rfl
        have p7 := cv1.get 7 _ rfl
        have p8 := cv1.get 8 _ rfl
        have p9 := cv1.get 9 _ rfl
        have p10 := cv1.get 10 _ rfl
        have p11 := cv1.get 11 _ rfl
        have p12 := cv1.get 12 _ rfl
        have p13 := cv1.get 13 _ rfl
        have p14 := cv1.get 14 _ rfl
        have q0 := cv2.get 0 _ rfl
        have q1 := cv2.get 1 _ rfl
        have q2 := cv2.get 2 _ rfl
        have q3 := cv2.get 3 _ rfl
        have q4 := cv2.get 4 _ rfl
        have q5 := cv2.get 5 _ rfl
        have q6 := cv2.get 6 _ rfl
        have q7 := cv2.get 7 _ rfl
        have q8 := cv2.get 8 _ rfl
        have q9 := cv2.get 9 _ rfl
        have q10 := cv2.get 10 _ rfl
        have q11 := cv2.get 11 _ rfl
        have q12 := cv2.get 12 _ rfl
        have q13 := cv2.get 13 _ rfl
        have q14 := cv2.get 14 _ rfl
        rw [Nat.add_zero] at p0 q0
        have hi : (0 : Int) ≤ (j : Int) := by omega
        have hi2 : (j : Int) < (l.length : Int) := by omega
        have s3 : ga < wr.heap.size := by omega
        have s4 : gb < wr.heap.size := by omega
        have kS : ∀ W, Below wr.heap.size wr W → B ≤ W.heap.size := fun W hW => by have := hW.size; omega
        have kb : ∀ W, Below wr.heap.size wr W → ∀ k, k < B → W.heap[k]? = wr.heap[k]? := fun W hW k hk => hW.block k (by omega)
        have kE1 : ∀ W, Below wr.heap.size wr W → RdE M (fun k => k < B) W (exMk ek ex en al ef et) _ := fun W hW => RdE.kept M (w := wr) (w' := W) (kb W hW) (fun _ h => h) _ _ rF1
        have kE2 : ∀ W, Below wr.heap.size wr W → RdE M (fun k => k < B) W (exMk ek ex en al ef et) _ := fun W hW => RdE.kept M (w := wr) (w' := W) (kb W hW) (fun _ h => h) _ _ rF2
        have kT1 : ∀ W, Below wr.heap.size wr W → SlT (fun k => k < B) (RdS h (fun k => k < B) W) W 15 th pt1 := fun W hW => rT1.kept (kb W hW) (fun _ h => h) (RdS.kept h (kb W hW) (fun _ h => h))
        have kT2 : ∀ W, Below wr.heap.size wr W → SlT (fun k => k < B) (RdS h (fun k => k < B) W) W 15 th pt2 := fun W hW => rT2.kept (kb W hW) (fun _ h => h) (RdS.kept h (kb W hW) (fun _ h => h))
        have kL1 : ∀ W, Below wr.heap.size wr W → SlT (fun k => k < B) (RdS h (fun k => k < B) W) W 15 el pl1 := fun W hW => rL1.kept (kb W hW) (fun _ h => h) (RdS.kept h (kb W hW) (fun _ h => h))
        have kL2 : ∀ W, Below wr.heap.size wr W → SlT (fun k => k < B) (RdS h (fun k => k < B) W) W 15 el pl2 := fun W hW => rL2.kept (kb W hW) (fun _ h => h) (RdS.kept h (kb W hW) (fun _ h => h))
        have hn1 := rT1.1
        have hn2 := rL1.1
        clear rF1 rF2
        clear rE1 rE2 rT1 rT2 rL1 rL2 cv1 cv2
        clear ha hb hra hrb
        go_wp2
        go_region_held3 (fun w' => w'.cell? ⟨ga, j * 15, none⟩ = some (.int .i64 (k1 : Int)) ∧ w'.cell? ⟨ga, j * 15 + 1, none⟩ = some (.string x1) ∧ w'.cell? ⟨ga, j * 15 + 2, none⟩ = some (.int .i64 (a1 : Int)) ∧ w'.cell? ⟨ga, j * 15 + 3, none⟩ = some (.int .i64 (b1 : Int)) ∧ w'.cell? ⟨ga, j * 15 + 4, none⟩ = some (.bool o1) ∧ w'.cell? ⟨ga, j * 15 + 5, none⟩ = some (.int .i64 (ek : Int)) ∧ w'.cell? ⟨ga, j * 15 + 6, none⟩ = some (.string ex) ∧ w'.cell? ⟨ga, j * 15 + 7, none⟩ = some (.int .i64 (en : Int)) ∧ w'.cell? ⟨ga, j * 15 + 8, none⟩ = some (.slice pe1 al.length ce1) ∧ w'.cell? ⟨ga, j * 15 + 9, none⟩ = some (.int .i64 (ef : Int)) ∧ w'.cell? ⟨ga, j * 15 + 10, none⟩ = some (.int .i64 (et : Int)) ∧ w'.cell? ⟨ga, j * 15 + 11, none⟩ = some (.slice pt1 th.length ct1) ∧ w'.cell? ⟨ga, j * 15 + 12, none⟩ = some (.slice pl1 el.length cl1) ∧ w'.cell? ⟨ga, j * 15 + 13, none⟩ = some (.int .i64 (f1 : Int)) ∧ w'.cell? ⟨ga, j * 15 + 14, none⟩ = some (.int .i64 (t1 : Int)) ∧ w'.cell? ⟨gb, j * 15, none⟩ = some (.int .i64 (k1 : Int)) ∧ w'.cell? ⟨gb, j * 15 + 1, none⟩ = some (.string x1) ∧ w'.cell? ⟨gb, j * 15 + 2, none⟩ = some (.int .i64 (a1 : Int)) ∧ w'.cell? ⟨gb, j * 15 + 3, none⟩ = some (.int .i64 (b1 : Int)) ∧ w'.cell? ⟨gb, j * 15 + 4, none⟩ = some (.bool o1) ∧ w'.cell? ⟨gb, j * 15 + 5, none⟩ = some (.int .i64 (ek : Int)) ∧ w'.cell? ⟨gb, j * 15 + 6, none⟩ = some (.string ex) ∧ w'.cell? ⟨gb, j * 15 + 7, none⟩ = some (.int .i64 (en : Int)) ∧ w'.cell? ⟨gb, j * 15 + 8, none⟩ = some (.slice pe2 al.length ce2) ∧ w'.cell? ⟨gb, j * 15 + 9, none⟩ = some (.int .i64 (ef : Int)) ∧ w'.cell? ⟨gb, j * 15 + 10, none⟩ = some (.int .i64 (et : Int)) ∧ w'.cell? ⟨gb, j * 15 + 11, none⟩ = some (.slice pt2 th.length ct2) ∧ w'.cell? ⟨gb, j * 15 + 12, none⟩ = some (.slice pl2 el.length cl2) ∧ w'.cell? ⟨gb, j * 15 + 13, none⟩ = some (.int .i64 (f1 : Int)) ∧ w'.cell? ⟨gb, j * 15 + 14, none⟩ = some (.int .i64 (t1 : Int))) (go_keep) (fail)
        all_goals
          rename_i hS
          clear hS
          have F1 : Hid (1 = 1) := rfl
          have F2 : Hid (1 = 1) := rfl
          go_wp2_with (first
            | (go_at_call 72; refine (sameExpr_any M (exMk ek ex en al ef et) _ _ _ B (kS _ (((Below.refl _ wr).alloc (Nat.le_refl _) _).alloc (two_le wr _) _).drew) (kE1 _ (((Below.refl _ wr).alloc (Nat.le_refl _) _).alloc (two_le wr _) _).drew) (kE2 _ (((Below.refl _ wr).alloc (Nat.le_refl _) _).alloc (two_le wr _) _).drew)).mono ?_; rintro e w3 ⟨rfl, hb3⟩; have hR := ((((Below.refl _ wr).alloc (Nat.le_refl _) _).alloc (two_le wr _) _).drew).trans (hb3.mono (two_le2 wr _ _)); obtain ⟨hcc3, hff3⟩ := bcell hb3; have z1 := three_lt hb3; have z2 : wr.heap.size < w3.heap.size := Nat.lt_trans (Nat.lt_succ_self _) z1)
            | (go_at_call 50; have f := F1; clear f F1; refine (ih th _ _ _ _ _ B (kS _ hR) (kT1 _ hR) (kT2 _ hR)).mono ?_; rintro e w4 ⟨rfl, hb4⟩; have hR4 := hR.trans (hb4.mono hR.size); obtain ⟨hcc4, hff4⟩ := bcell hb4)
            | (go_at_call 50; have f := F2; clear f F2; refine (ih el _ _ _ _ _ B (kS _ hR4) (kL1 _ hR4) (kL2 _ hR4)).mono ?_; rintro e w5 ⟨rfl, hb5⟩; have hR5 := hR4.trans (hb5.mono hR4.size)))
          go_roundw
          case rel => exact ⟨j + 1, by omega, by go_num, hbel.trans (hR5.mono hsz)⟩
          case measure => simp [upN, intOf]; omega
      · go_wp2
        go_ret
        exact ⟨rfl, hbel⟩
end Go.Proofs.Ytjpmnholpeidmaa

namespace Go.Proofs.Ytjpmnholpeidmaa
open Go.RowKit
attribute [local go_sem ↓] Go.wp_at_zero Go.wp_at_succ
/-- A list of flat structs in memory. -/
def FlAt {α : Type} (w : World) (g st : Nat) (c : α → List Value) (l : List α) : Prop := ∀ (j : Nat) (t : α), l[j]? = some t → ∀ (i : Nat) (u : Value), (c t)[i]? = some u → w.cell? ⟨g, j * st + i, none⟩ = some u
def SlAt {α : Type} (ok : Nat → Prop) (w : World) (st : Nat) (c : α → List Value) (l : List α) (p : Option Addr) : Prop := l.length ≤ 1099511627776 ∧ (0 < l.length → ∃ g, p = some ⟨g, 0, none⟩ ∧ ok g ∧ FlAt w g st c l)
theorem SlAt.kept {α : Type} {ok : Nat → Prop} {w w' : World} {st : Nat} {c : α → List Value} {l : List α} {p : Option Addr} (h : SlAt ok w st c l p) (hw : ∀ k, ok k → w'.heap[k]? = w.heap[k]?) : SlAt ok w' st c l p := by
  refine ⟨h.1, fun hl => ?_⟩
  obtain ⟨g, e1, e2, e3⟩ := h.2 hl
  exact ⟨g, e1, e2, fun j t hj i u hi => (World.cell?_of_block (a := ⟨g, j * st + i, none⟩) (hw g e2)).trans (e3 j t hj i u hi)⟩
theorem SlAt.wide {α : Type} {ok ok' : Nat → Prop} {w : World} {st : Nat} {c : α → List Value} {l : List α} {p : Option Addr} (h : SlAt ok w st c l p) (hw : ∀ k, ok k → ok' k) : SlAt ok' w st c l p := by
  refine ⟨h.1, fun hl => ?_⟩
  obtain ⟨g, e1, e2, e3⟩ := h.2 hl
  exact ⟨g, e1, hw g e2, e3⟩
def dgC (d : Dg) : List Value := [.int .i64 (d.f : Int), .int .i64 (d.t : Int), .int .i64 (d.e : Int), .string d.x]
def pmC (p : Pm) : List Value := [.string p.x, .int .i64 (p.l : Int), .int .i64 (p.a : Int)]
def rfC (r : Rf) : List Value := [.string r.x, .int .i64 (r.a : Int)]
def RelQ (n : Nat) (w : World) (i : Value) (wr : World) : Prop := ∃ k m : Nat, k ≤ n ∧ i = .int .i64 (k : Int) ∧ wr = w.drewN m
set_option maxHeartbeats 1000000 in
set_option maxRecDepth 100000 in
theorem sameDiags_any (l : List Dg) (p1 p2 : Option Addr) (c1 c2 : Nat) (ok : Nat → Prop) (w : World) (h1 : SlAt ok w 4 dgC l p1) (h2 : SlAt ok w 4 dgC l p2) :
    Calls Try.prog 11 #[.slice p1 l.length c1, .slice p2 l.length c2] w fun e w' => e = .returned (.bool true) ∧ ∃ m, w' = w.drewN m := by
  have hl := h1.1
  go_enter Try.func11, Try.ntmps11
  go_wp2
  go_loopw [13] (fun i wr => RelQ l.length w i wr) (fun i _ => upN l.length i)
  case atStart => exact ⟨0, 0, Nat.zero_le _, rfl, rfl⟩
  case round =>
    obtain ⟨k, m, hk, rfl, rfl⟩ := hrel
    by_cases hlt : k < l.length
    · obtain ⟨g1, rfl, _, t1⟩ := h1.2 (by omega)
      obtain ⟨g2, rfl, _, t2⟩ := h2.2 (by omega)
      obtain ⟨t, ht⟩ : ∃ t, l[k]? = some t := ⟨_, List.getElem?_eq_getElem hlt⟩
      have a0 := t1 k t ht 0 _ rfl
      have a1 := t1 k t ht 1 _ rfl
      have a2 := t1 k t ht 2 _ rfl
      have a3 := t1 k t ht 3 _ rfl
      have b0 := t2 k t ht 0 _ rfl
      have b1 := t2 k t ht 1 _ rfl
      have b2 := t2 k t ht 2 _ rfl
      have b3 := t2 k t ht 3 _ rfl
      rw [Nat.add_zero] at a0 b0
      clear t1 t2 h1 h2 ht
      go_wp2
      go_quiet (fail)
      go_wp2
      go_roundw
      case rel => exact ⟨k + 1, m + nq, by omega, by go_num, by simp⟩
      case measure => simp [upN, intOf]; omega
    · go_wp2
      go_ret
      exact ⟨rfl, m, rfl⟩
/-- An item in memory. -/
def RdI (ok : Nat → Prop) (w : World) (at_ : Int) (it : It) (v : Value) : Prop :=
  ∃ p1 c1 p2 c2 p3 c3 p4 c4, v = .agg #[.int .i64 (it.k : Int), .string it.x, .int .i64 (it.l : Int), .slice p1 it.ps.length c1, .slice p2 it.ss.length c2, .slice p3 it.bd.length c3, .int .i64 at_, .int .i64 (it.sz : Int), .int .i64 (it.mrk : Int), .slice p4 it.ds.length c4] ∧
    SlAt ok w 3 pmC it.ps p1 ∧ SlAt ok w 2 rfC it.ss p2 ∧ (∃ h, SlT ok (RdS h ok w) w 15 it.bd p3) ∧ SlAt ok w 4 dgC it.ds p4
theorem RdI.kept {ok ok' : Nat → Prop} {w w' : World} {at_ : Int} {it : It} {v : Value} (h : RdI ok w at_ it v) (hw : ∀ k, ok k → w'.heap[k]? = w.heap[k]?) (ho : ∀ k, ok k → ok' k) : RdI ok' w' at_ it v := by
  obtain ⟨p1, c1, p2, c2, p3, c3, p4, c4, rfl, h1, h2, ⟨n, h3⟩, h4⟩ := h
  exact ⟨p1, c1, p2, c2, p3, c3, p4, c4, rfl, (h1.kept hw).wide ho, (h2.kept hw).wide ho, ⟨n, h3.kept hw ho (RdS.kept n hw ho)⟩, (h4.kept hw).wide ho⟩
theorem cells_one {w : World} (o o2 : Obj) (cs ds : Array Value) (t t2 : TypeId) (h1 : o = .cells cs t) (h2 : o2 = .cells ds t2) (i : Nat) (u : Value) :
    (cs[i]? = some u → ((w.alloc o).alloc o2).cell? ⟨w.heap.size, i, none⟩ = some u) ∧ (ds[i]? = some u → ((w.alloc o).alloc o2).cell? ⟨w.heap.size + 1, i, none⟩ = some u) := by
  subst h1 h2
  refine ⟨fun h => ?_, fun h => ?_⟩
  · have e : ((w.alloc (.cells cs t)).alloc (.cells ds t2)).heap[w.heap.size]? = some (.cells cs t (0, 0)) := (Below.heap_alloc (w.alloc (.cells cs t)) (.cells ds t2) w.heap.size (by simp)).trans (heap_alloc_new w _)
    rw [cell_of_row _ _ _ _ _ _ e]
    exact h
  · have e : ((w.alloc (.cells cs t)).alloc (.cells ds t2)).heap[w.heap.size + 1]? = some (.cells ds t2 (0, 0)) := by
      have := heap_alloc_new (w.alloc (.cells cs t)) (.cells ds t2)
      simpa using this
    rw [cell_of_row _ _ _ _ _ _ e]
    exact h
set_option maxHeartbeats 4000000 in
set_option maxRecDepth 100000 in
theorem sameItem_any (it : It) (at_ : Int) (w : World) (va vb : Value) (B : Nat) (hB : B ≤ w.heap.size) (ha : RdI (fun k => k < B) w at_ it va) (hb : RdI (fun k => k < B) w at_ it vb) :
    Calls Try.prog 29 #[va, vb] w fun e w' => e = .returned (.bool true) ∧ Below w.heap.size w w' := by
  obtain ⟨p1, c1, p2, c2, p3, c3, p4, c4, rfl, h1, h2, ⟨n1, h3⟩, h4⟩ := ha
  obtain ⟨q1, d1, q2, d2, q3, d3, q4, d4, rfl, g1, g2, ⟨n2, g3⟩, g4⟩ := hb
  have h3 := h3.kept (ok' := fun k => k < B) (w' := w) (rd' := RdS (max n1 n2) (fun k => k < B) w) (fun _ _ => rfl) (fun _ h => h) (fun _ _ h => h.le (Nat.le_max_left n1 n2))
  have g3 := g3.kept (ok' := fun k => k < B) (w' := w) (rd' := RdS (max n1 n2) (fun k => k < B) w) (fun _ _ => rfl) (fun _ h => h) (fun _ _ h => h.le (Nat.le_max_right n1 n2))
  generalize max n1 n2 = n at h3 g3
  have hm := h3.1
  have l1 := h1.1
  have l2 := h2.1
  go_enter Try.func29, Try.ntmps29
  go_wp2
  generalize ho1 : (Obj.cells #[.int .i64 (it.k : Int), .string it.x, .int .i64 (it.l : Int), .slice p1 it.ps.length c1, .slice p2 it.ss.length c2, .slice p3 it.bd.length c3, .int .i64 at_, .int .i64 (it.sz : Int), .int .i64 (it.mrk : Int), .slice p4 it.ds.length c4] 35) = o1
  generalize ho2 : (Obj.cells #[.int .i64 (it.k : Int), .string it.x, .int .i64 (it.l : Int), .slice q1 it.ps.length d1, .slice q2 it.ss.length d2, .slice q3 it.bd.length d3, .int .i64 at_, .int .i64 (it.sz : Int), .int .i64 (it.mrk : Int), .slice q4 it.ds.length d4] 35) = o2
  have hW : Below w.heap.size w ((w.alloc o1).alloc o2) := ((Below.refl _ _).alloc (Nat.le_refl _) _).alloc (by simp) _
  have cA3 := (cells_one (w := w) o1 o2 _ _ _ _ ho1.symm ho2.symm 3 _).1 rfl
  have cA4 := (cells_one (w := w) o1 o2 _ _ _ _ ho1.symm ho2.symm 4 _).1 rfl
  have cA5 := (cells_one (w := w) o1 o2 _ _ _ _ ho1.symm ho2.symm 5 _).1 rfl
  have cA9 := (cells_one (w := w) o1 o2 _ _ _ _ ho1.symm ho2.symm 9 _).1 rfl
  have cB3 := (cells_one (w := w) o1 o2 _ _ _ _ ho1.symm ho2.symm 3 _).2 rfl
  have cB4 := (cells_one (w := w) o1 o2 _ _ _ _ ho1.symm ho2.symm 4 _).2 rfl
  have cB5 := (cells_one (w := w) o1 o2 _ _ _ _ ho1.symm ho2.symm 5 _).2 rfl
  have cB9 := (cells_one (w := w) o1 o2 _ _ _ _ ho1.symm ho2.symm 9 _).2 rfl
  have hz : w.heap.size + 1 < ((w.alloc o1).alloc o2).heap.size := by simp
  clear ho1 ho2
  generalize (w.alloc o1).alloc o2 = W1 at *
  have kk : ∀ k, k < B → W1.heap[k]? = w.heap[k]? := fun k hk => hW.block k (by omega)
  have h1 := h1.kept kk
  have h2 := h2.kept kk
  have h4 := h4.kept kk
  have g1 := g1.kept kk
  have g2 := g2.kept kk
  have g4 := g4.kept kk
  go_loopw [68] (fun i wr => RelQ it.ps.length W1 i wr) (fun i _ => upN it.ps.length i)
  case atStart => exact ⟨0, 0, Nat.zero_le _, rfl, rfl⟩
  case round =>
    obtain ⟨k, m, hk, rfl, rfl⟩ := hrel
    by_cases hlt : k < it.ps.length
    · obtain ⟨ga, rfl, _, ta⟩ := h1.2 (by omega)
      obtain ⟨gb, rfl, _, tb⟩ := g1.2 (by omega)
      obtain ⟨t, ht⟩ : ∃ t, it.ps[k]? = some t := ⟨_, List.getElem?_eq_getElem hlt⟩
      have a0 := ta k t ht 0 _ rfl
      have a1 := ta k t ht 1 _ rfl
      have a2 := ta k t ht 2 _ rfl
      have b0 := tb k t ht 0 _ rfl
      have b1 := tb k t ht 1 _ rfl
      have b2 := tb k t ht 2 _ rfl
      rw [Nat.add_zero] at a0 b0
      clear ta tb h1 h2 h3 h4 g1 g2 g3 g4 ht
      go_wp2
      go_quiet (fail)
      go_wp2
      go_roundw
      case rel => exact ⟨k + 1, m + nq, by omega, by go_num, by simp⟩
      case measure => simp [upN, intOf]; omega
    · clear h1 g1 cA3 cB3
      go_wp2
      go_loopw [86] (fun i wr => RelQ it.ss.length W1 i wr) (fun i _ => upN it.ss.length i)
      case atStart => exact ⟨0, m, Nat.zero_le _, rfl, rfl⟩
      case round =>
        obtain ⟨k2, m2, hk2, rfl, rfl⟩ := hrel
        by_cases hlt2 : k2 < it.ss.length
        · obtain ⟨ga, rfl, _, ta⟩ := h2.2 (by omega)
          obtain ⟨gb, rfl, _, tb⟩ := g2.2 (by omega)
          obtain ⟨t, ht⟩ : ∃ t, it.ss[k2]? = some t := ⟨_, List.getElem?_eq_getElem hlt2⟩
          have a0 := ta k2 t ht 0 _ rfl
          have a1 := ta k2 t ht 1 _ rfl
          have b0 := tb k2 t ht 0 _ rfl
          have b1 := tb k2 t ht 1 _ rfl
          rw [Nat.add_zero] at a0 b0
          clear ta tb h2 h3 h4 g2 g3 g4 ht
          go_wp2
          go_quiet (fail)
          go_wp2
          go_roundw
          case rel => exact ⟨k2 + 1, m2 + nq, by omega, by go_num, by simp⟩
          case measure => simp [upN, intOf]; omega
        · have kT1 : SlT (fun k => k < B) (RdS n (fun k => k < B) (W1.drewN m2)) (W1.drewN m2) 15 it.bd p3 := h3.kept (w' := W1.drewN m2) kk (fun _ h => h) (RdS.kept n (w' := W1.drewN m2) kk (fun _ h => h))
          have kT2 : SlT (fun k => k < B) (RdS n (fun k => k < B) (W1.drewN m2)) (W1.drewN m2) 15 it.bd q3 := g3.kept (w' := W1.drewN m2) kk (fun _ h => h) (RdS.kept n (w' := W1.drewN m2) kk (fun _ h => h))
          have hB2 : B ≤ (W1.drewN m2).heap.size := by show B ≤ W1.heap.size; omega
          have s1 : w.heap.size < W1.heap.size := by omega
          have hBW : ∀ k, k < B → k < W1.heap.size := fun k hk => by omega
          clear h2 g2 cA4 cB4
          go_wp2_with (first
            | (go_at_call 50; refine (sameStmts_any n it.bd _ _ _ _ _ B hB2 kT1 kT2).mono ?_; rintro e w3 ⟨rfl, hb3⟩; have z1 := bstayN hb3 _ _ _ s1 cA9; have z2 := bstayN hb3 _ _ _ hz cB9; have k4 := h4.kept (w' := w3) (fun k hk => hb3.block k (hBW k hk)); have k5 := g4.kept (w' := w3) (fun k hk => hb3.block k (hBW k hk)))
            | (go_at_call 11; refine (sameDiags_any it.ds _ _ _ _ _ _ k4 k5).mono ?_; rintro e w4 ⟨rfl, m4, hw4⟩; subst w4))
          go_ret
          exact ⟨rfl, below_drewN (hW.trans ((below_drewN (Below.refl _ _) m2).trans (hb3.mono hW.size) |>.mono (Nat.le_refl _))) _⟩
/-- Items that lie one behind the other. -/
def RdIs (ok : Nat → Prop) (w : World) (l : List (Int × It)) (g : Nat) : Prop := ∀ (j : Nat) (e : Int × It), l[j]? = some e → ∃ v, CellsV w g (j * 10) v ∧ RdI ok w e.1 e.2 v
theorem RdIs.kept {ok ok' : Nat → Prop} {w w' : World} {l : List (Int × It)} {g : Nat} (h : RdIs ok w l g) (hg : ok g) (hw : ∀ k, ok k → w'.heap[k]? = w.heap[k]?) (ho : ∀ k, ok k → ok' k) : RdIs ok' w' l g := by
  intro j e hj
  obtain ⟨v, h1, h2⟩ := h j e hj
  exact ⟨v, h1.kept (hw g hg), h2.kept hw ho⟩
/-- A file in memory. -/
def RdF (ok : Nat → Prop) (w : World) (l : List (Int × It)) (v : Value) : Prop :=
  ∃ p cap, v = .agg #[.slice p l.length cap] ∧ l.length ≤ 1099511627776 ∧ (0 < l.length → ∃ g, p = some ⟨g, 0, none⟩ ∧ ok g ∧ RdIs ok w l g)
set_option maxHeartbeats 4000000 in
set_option maxRecDepth 100000 in
theorem sameFile_any (l : List (Int × It)) (w : World) (va vb : Value) (B : Nat) (hB : B ≤ w.heap.size) (ha : RdF (fun k => k < B) w l va) (hb : RdF (fun k => k < B) w l vb) :
    Calls Try.prog 14 #[va, vb] w fun e w' => e = .returned (.bool true) ∧ Below w.heap.size w w' := by
  obtain ⟨pa, ca, rfl, hm, ha⟩ := ha
  obtain ⟨pb, cb, rfl, _, hb⟩ := hb
  go_enter Try.func14, Try.ntmps14
  go_wp2
  generalize ho1 : (Obj.cells #[.slice pa l.length ca] 24) = o1
  generalize ho2 : (Obj.cells #[.slice pb l.length cb] 24) = o2
  have hW : Below w.heap.size w ((w.alloc o1).alloc o2) := ((Below.refl _ _).alloc (Nat.le_refl _) _).alloc (by simp) _
  have hc1 := (cells_one (w := w) o1 o2 _ _ _ _ ho1.symm ho2.symm 0 _).1 rfl
  have hc2 := (cells_one (w := w) o1 o2 _ _ _ _ ho1.symm ho2.symm 0 _).2 rfl
  have hz : w.heap.size + 1 < ((w.alloc o1).alloc o2).heap.size := by simp
  clear ho1 ho2
  generalize (w.alloc o1).alloc o2 = W1 at *
  go_loopw [16] (fun i wr => RelS l.length W1 i wr) (fun i _ => upN l.length i)
  case atStart => exact ⟨0, Nat.zero_le _, rfl, Below.refl _ _⟩
  case round =>
    obtain ⟨j, hj, rfl, hbel⟩ := hrel
    have hsz := hbel.size
    by_cases hlt : j < l.length
    · obtain ⟨ga, rfl, hga, hra⟩ := ha (by omega)
      obtain ⟨gb, rfl, hgb, hrb⟩ := hb (by omega)
      obtain ⟨⟨at_, it⟩, he1⟩ : ∃ e1, l[j]? = some e1 := ⟨_, List.getElem?_eq_getElem hlt⟩
      have hkept : ∀ k, k < B → wr.heap[k]? = w.heap[k]? := fun k hk => (hbel.block k (by omega)).trans (hW.block k (by omega))
      obtain ⟨v1, cv1, rv1⟩ := (hra.kept (w' := wr) (ok' := fun k => k < B) hga hkept (fun _ h => h)) j _ he1
      obtain ⟨v2, cv2, rv2⟩ := (hrb.kept (w' := wr) (ok' := fun k => k < B) hgb hkept (fun _ h => h)) j _ he1
      have rw1 := rv1
      have rw2 := rv2
      obtain ⟨a1, ac1, a2, ac2, a3, ac3, a4, ac4, rfl, _⟩ := rw1
      obtain ⟨b1, bc1, b2, bc2, b3, bc3, b4, bc4, rfl, _⟩ := rw2
      simp only at cv1 cv2 rv1 rv2
      have p0 := cv1.get 0 _ rfl
      have p1 := cv1.get 1 _ rfl
      have p2 := cv1.get 2 _ rfl
      have p3 := cv1.get 3 _ rfl
      have p4 := cv1.get 4 _ rfl
      have p5 := cv1.get 5 _ rfl
      have p6 := cv1.get 6 _ rfl
      have p7 := cv1.get 7 _ rfl
      have p8 := cv1.get 8 _ rfl
      have p9 := cv1.get 9 _ rfl
      have q0 := cv2.get 0 _ rfl
      have q1 := cv2.get 1 _ rfl
      have q2 := cv2.get 2 _ rfl
      have q3 := cv2.get 3 _ rfl
      have q4 := cv2.get 4 _ rfl
      have q5 := cv2.get 5 _ rfl
      have q6 := cv2.get 6 _ rfl
      have q7 := cv2.get 7 _ rfl
      have q8 := cv2.get 8 _ rfl
      have q9 := cv2.get 9 _ rfl
      rw [Nat.add_zero] at p0 q0
      rw [← hbel.cell (p := ⟨w.heap.size, 0, none⟩) (by simp; omega)] at hc1
      rw [← hbel.cell (p := ⟨w.heap.size + 1, 0, none⟩) hz] at hc2
      have hi : (0 : Int) ≤ (j : Int) := by omega
      have hi2 : (j : Int) < (l.length : Int) := by omega
      have hB' : B ≤ wr.drew.heap.size := by show B ≤ wr.heap.size; omega
      have rv1' : RdI (fun k => k < B) wr.drew at_ it _ := rv1.kept (w' := wr.drew) (fun _ _ => rfl) (fun _ h => h)
      have rv2' : RdI (fun k => k < B) wr.drew at_ it _ := rv2.kept (w' := wr.drew) (fun _ _ => rfl) (fun _ h => h)
      have s1 : w.heap.size < wr.heap.size := by omega
      have s2 : w.heap.size + 1 < wr.heap.size := by omega
      have s3 : ga < wr.heap.size := by omega
      have s4 : gb < wr.heap.size := by omega
      clear ha hb hra hrb cv1 cv2 rv1 rv2
      go_wp2
      go_region_held3 (fun w' => w'.cell? ⟨w.heap.size, 0, none⟩ = some (.slice (some ⟨ga, 0, none⟩) l.length ca) ∧ w'.cell? ⟨w.heap.size + 1, 0, none⟩ = some (.slice (some ⟨gb, 0, none⟩) l.length cb) ∧ w'.cell? ⟨ga, j * 10, none⟩ = some (.int .i64 (it.k : Int)) ∧ w'.cell? ⟨ga, j * 10 + 1, none⟩ = some (.string it.x) ∧ w'.cell? ⟨ga, j * 10 + 2, none⟩ = some (.int .i64 (it.l : Int)) ∧ w'.cell? ⟨ga, j * 10 + 3, none⟩ = some (.slice a1 it.ps.length ac1) ∧ w'.cell? ⟨ga, j * 10 + 4, none⟩ = some (.slice a2 it.ss.length ac2) ∧ w'.cell? ⟨ga, j * 10 + 5, none⟩ = some (.slice a3 it.bd.length ac3) ∧ w'.cell? ⟨ga, j * 10 + 6, none⟩ = some (.int .i64 at_) ∧ w'.cell? ⟨ga, j * 10 + 7, none⟩ = some (.int .i64 (it.sz : Int)) ∧ w'.cell? ⟨ga, j * 10 + 8, none⟩ = some (.int .i64 (it.mrk : Int)) ∧ w'.cell? ⟨ga, j * 10 + 9, none⟩ = some (.slice a4 it.ds.length ac4) ∧ w'.cell? ⟨gb, j * 10, none⟩ = some (.int .i64 (it.k : Int)) ∧ w'.cell? ⟨gb, j * 10 + 1, none⟩ = some (.string it.x) ∧ w'.cell? ⟨gb, j * 10 + 2, none⟩ = some (.int .i64 (it.l : Int)) ∧ w'.cell? ⟨gb, j * 10 + 3, none⟩ = some (.slice b1 it.ps.length bc1) ∧ w'.cell? ⟨gb, j * 10 + 4, none⟩ = some (.slice b2 it.ss.length bc2) ∧ w'.cell? ⟨gb, j * 10 + 5, none⟩ = some (.slice b3 it.bd.length bc3) ∧ w'.cell? ⟨gb, j * 10 + 6, none⟩ = some (.int .i64 at_) ∧ w'.cell? ⟨gb, j * 10 + 7, none⟩ = some (.int .i64 (it.sz : Int)) ∧ w'.cell? ⟨gb, j * 10 + 8, none⟩ = some (.int .i64 (it.mrk : Int)) ∧ w'.cell? ⟨gb, j * 10 + 9, none⟩ = some (.slice b4 it.ds.length bc4))
        (first | go_keep | exact ⟨y _ _ _ s1 hc1, y _ _ _ s2 hc2, y _ _ _ s3 p0, y _ _ _ s3 p1, y _ _ _ s3 p2, y _ _ _ s3 p3, y _ _ _ s3 p4, y _ _ _ s3 p5, y _ _ _ s3 p6, y _ _ _ s3 p7, y _ _ _ s3 p8, y _ _ _ s3 p9, y _ _ _ s4 q0, y _ _ _ s4 q1, y _ _ _ s4 q2, y _ _ _ s4 q3, y _ _ _ s4 q4, y _ _ _ s4 q5, y _ _ _ s4 q6, y _ _ _ s4 q7, y _ _ _ s4 q8, y _ _ _ s4 q9⟩)
        ((go_at_call 29; refine (sameItem_any it at_ _ _ _ B hB' rv1' rv2').mono ?_; rintro e w2 ⟨rfl, hb2⟩; have y := bstay (wr := wr) hb2))
      clear y
      go_wp2
      go_roundw
      case rel => exact ⟨j + 1, by omega, by go_num, hbel.drew.trans (hb2.mono hsz)⟩
      case measure => simp [upN, intOf]; omega
    · go_wp2
      go_ret
      exact ⟨rfl, hW.trans (hbel.mono hW.size)⟩
end Go.Proofs.Ytjpmnholpeidmaa

namespace Go.Proofs.Ytjpmnholpeidmaa
open Go.RowKit
theorem RdF.kept {ok ok' : Nat → Prop} {w w' : World} {l : List (Int × It)} {v : Value} (h : RdF ok w l v) (hw : ∀ k, ok k → w'.heap[k]? = w.heap[k]?) (ho : ∀ k, ok k → ok' k) : RdF ok' w' l v := by
  obtain ⟨p, cap, rfl, h1, h2⟩ := h
  exact ⟨p, cap, rfl, h1, fun h0 => (let ⟨g, e1, e2, e3⟩ := h2 h0; ⟨g, e1, ho g e2, e3.kept e2 hw ho⟩)⟩
theorem RdIs.at {ok : Nat → Prop} {w w' : World} {l : List (Int × It)} {g : Nat} (h : RdIs ok w l g) (hg : w'.heap[g]? = w.heap[g]?) (hw : ∀ k, ok k → w'.heap[k]? = w.heap[k]?) {j : Nat} {e1 : Int} {e2 : It} (hj : l[j]? = some (e1, e2)) : ∃ v, CellsV w' g (j * 10) v ∧ RdI ok w' e1 e2 v := by
  obtain ⟨v, h1, h2⟩ := h j _ hj
  exact ⟨v, h1.kept hg, RdI.kept h2 hw (fun _ h => h)⟩
end Go.Proofs.Ytjpmnholpeidmaa


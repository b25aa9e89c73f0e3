/- The document's bytes as questions: what it is made of. -/
import Derived.Test.YtbkihppmikjcoaaDoorFrRnum
import Derived.Test.YtbkihppmikjcoaaDoorFrApp
import Derived.Test.YtbkihppmikjcoaaDoorFrFrame
import Derived.Test.YtbkihppmikjcoaaDoorFrUp
namespace Go.Proofs.YtbkihppmikjcoaaDoor
open Go.RowKit
set_option linter.unusedVariables false
attribute [local go_sem ↓] Go.wp_at_zero Go.wp_at_succ
set_option maxHeartbeats 1000000 in
set_option maxRecDepth 100000 in
/-- The fault that is told. -/
theorem bad_any (w : World) (e a : Int) (bp : Nat) (hb : w.heap[bp]? = some (.cells #[.int .i64 a] 3 (0, 0))) :
    Calls Tryd.prog 17 #[.int .i64 e, .pointer (some ⟨bp, 0, none⟩)] w fun ex w' => ex = .returned (.tuple #[.slice none 0 0, .agg #[.int .i64 e, .int .i64 a]]) ∧ Below w.heap.size w w' := by
  have c0 : w.cell? ⟨bp, 0, none⟩ = some (.int .i64 a) := cell_of_row _ _ 0 _ _ _ hb
  have c1 := cell_alloc c0
  have hne : ¬ w.heap.size = bp := by have := (Array.getElem?_eq_some_iff.1 hb).1; omega
  have hn0 := heap_alloc_new w (.cells #[.int .i64 0, .int .i64 0] 30)
  obtain ⟨f0, f1, ff⟩ := row2 hn0
  have HN0 := hid hn0
  go_enter Tryd.func17, Tryd.ntmps17
  go_wp2
  go_region
  go_wp2
  have hb9 := ((Below.refl w.heap.size w).alloc (Nat.le_refl _) (.cells #[.int .i64 e, .int .i64 a] 30)).drew
  have hn9 : ((w.alloc (.cells #[.int .i64 e, .int .i64 a] 30)).drew).heap[w.heap.size]? = some (.cells #[.int .i64 e, .int .i64 a] 30 (0, 0)) := heap_alloc_new w _
  obtain ⟨z0, z1, _⟩ := row2 hn9
  generalize (w.alloc (.cells #[.int .i64 e, .int .i64 a] 30)).drew = w9 at *
  exact bodyPost_ret (v := .tuple #[.slice none 0 0, .agg #[.int .i64 e, .int .i64 a]]) (by simp [results, Tryd.results17, go_sem, z0, z1]) rfl ⟨rfl, hb9⟩
/-- Questions whose Args lie below block bp. -/
structure OwnU (base bp : Nat) (w : World) (v : Value) (L : List (Ak × Option Addr × Nat)) : Prop where
  own : w.ownsRow base 26 6 v L.length (akX L)
  args : ∀ p ∈ L, 0 < p.1.args.length → ∃ g cs, p.2.1 = some ⟨g, 0, none⟩ ∧ base ≤ g ∧ g < bp ∧ w.heap[g]? = some (.cells cs 3 (0, 0)) ∧ ∀ (j : Nat) (n : Int), p.1.args[j]? = some n → cs[j]? = some (Value.int .i64 n)
theorem OwnU.inB {base bp : Nat} {w : World} {v : Value} {L : List (Ak × Option Addr × Nat)} (h : OwnU base bp w v L) : AksB base w v (L.map (·.1)) := by
  obtain ⟨h1, h2⟩ := h
  by_cases hn : 0 < L.length
  · obtain ⟨g, cap, hv⟩ : ∃ g cap, v = .slice (some ⟨g, 0, none⟩) L.length cap := by
      obtain ⟨_, ⟨_, h0⟩ | ⟨g, cap, cur, hv, _⟩⟩ := h1
      · omega
      · exact ⟨g, cap, hv⟩
    subst hv
    refine ⟨some ⟨g, 0, none⟩, cap, by rw [List.length_map], nofun, fun _ => ⟨g, 0, rfl, (h1.lt g rfl).1, (h1.lt g rfl).2, fun j a hj => ?_⟩⟩
    rw [List.getElem?_map] at hj
    cases hp : L[j]? with
    | none => rw [hp] at hj; cases hj
    | some p =>
      rw [hp] at hj
      simp at hj
      subst hj
      refine ⟨p.2.1, p.2.2, fun i u hu => ?_, fun hl => ?_⟩
      · have hi : i < 6 := by
          have := (List.getElem?_eq_some_iff.1 hu).1
          simpa [akC] using this
        have := h1.cells (g := g) rfl (j * 6 + i) u (by rw [akX_at L j p hp i hi]; exact hu)
        rw [show (⟨g, 0, none⟩ : Addr).add (j * 6 + i) = ⟨g, 0 + (j * 6 + i), none⟩ by unfold Addr.add; split <;> simp_all, ← Nat.add_assoc] at this
        exact this
      · obtain ⟨g2, cs, e, hb, _, h4, h5⟩ := h2 p (List.mem_of_getElem? hp) hl
        exact ⟨g2, 0, e, hb, (Array.getElem?_eq_some_iff.1 h4).1, fun i n hi => by rw [Nat.zero_add, cell_of_row _ _ i _ _ _ h4]; exact h5 i n hi⟩
  · have hL : L = [] := List.length_eq_zero_iff.1 (by omega)
    subst hL
    obtain ⟨_, ⟨hv, h0⟩ | ⟨g, cap, cur, hv, _⟩⟩ := h1
    · exact ⟨none, 0, hv, fun _ => rfl, fun h => absurd h (by simp)⟩
    · exact ⟨some ⟨g, 0, none⟩, cap, hv, nofun, fun h => absurd h (by simp)⟩
theorem Tryd.infoInt2 : (Tryd.prog.info? 3).map (fun i => (i.zero, i.size, i.bytes)) = some (some (.int .i64 0), 1, 8) := by kernel_rfl
def RelH (W1 : World) (A : Nat) (B : List UInt8) (R : Option (List Int × List UInt8)) (k ok i : Value) (w2 : World) : Prop :=
  ∃ j : Nat, j ≤ 6 ∧ i = .int .i64 (j : Int) ∧ Ch [A] W1 w2 ∧
    ((∃ (ns : List Int) (a : Nat), ok = .bool true ∧ ns.length = j ∧ a ≤ B.length ∧ k = .int .i64 (a : Int) ∧ w2.heap[A]? = some (.cells (row ns (6 - j)) 46 (0, 0)) ∧ R = mapL ns (rl (6 - j) (B.drop a))) ∨
     (∃ (k' : Int) (cs : Array Value), ok = .bool false ∧ k = .int .i64 k' ∧ w2.heap[A]? = some (.cells cs 46 (0, 0)) ∧ cs.size = 6 ∧ R = none))
def RelC (W3 : World) (X : Nat) (B : List UInt8) (mm : Nat) (h0 h1 h2 h3 : Int) (R : Option (List Int × List UInt8)) (k ok i : Value) (w4 : World) : Prop :=
  ∃ j : Nat, j ≤ mm ∧ i = .int .i64 (j : Int) ∧ W3.grownBy w4 (some X) ∧
    ((∃ (ns : List Int) (a : Nat) (v : Value), ok = .bool true ∧ ns.length = j ∧ a ≤ B.length ∧ k = .int .i64 (a : Int) ∧ w4.heap[X]? = some (.cells #[.int .i64 h0, .int .i64 h1, .int .i64 h2, .int .i64 h3, .string ⟨#[]⟩, v] 26 (0, 0)) ∧
        w4.ownsRow (X + 1) 3 1 v j (ns.map (Value.int .i64)) ∧ R = mapL ns (ra (mm - j) (B.drop a))) ∨
     (∃ k' : Int, ok = .bool false ∧ k = .int .i64 k' ∧ R = none))
def RelUn (n g o c : Nat) (B : List UInt8) (w : World) (X : List Ak ⊕ (Int × Nat)) (v pt : Value) (wr : World) : Prop :=
  ∃ (L : List (Ak × Option Addr × Nat)) (a bp : Nat), a ≤ B.length ∧ L.length ≤ a ∧ pt = .pointer (some ⟨bp, 0, none⟩) ∧ n < bp ∧ wr.heap[bp]? = some (.cells #[.int .i64 (a : Int)] 3 (0, 0)) ∧ OwnU n bp wr v L ∧ Below n w wr ∧
    wr.heap[n]? = some (.cells #[.int .i64 0, .int .i64 0] 30 (0, 0)) ∧ X = preP (L.map (·.1)) a (pr (B.drop a))
theorem OwnU.kept {base bp : Nat} {w w' : World} {v : Value} {L : List (Ak × Option Addr × Nat)} (h : OwnU base bp w v L) (hb : Below w.heap.size w w') : OwnU base bp w' v L :=
  ⟨own_below h.own hb, fun p hp hl => by
    obtain ⟨g, cs, e1, e2, e3, e4, e5⟩ := h.args p hp hl
    exact ⟨g, cs, e1, e2, e3, (hb.block g (Array.getElem?_eq_some_iff.1 e4).1).trans e4, e5⟩⟩
theorem rh_step {W1 w2 w3 : World} {A : Nat} {B : List UInt8} {R : Option (List Int × List UInt8)} {j a : Nat} {ns : List Int} {n : Int} {t : List UInt8} (hj : j < 6) (hC : Ch [A] W1 w2) (hb : Below w2.heap.size w2 w3) (hns : ns.length = j) (hA : w2.heap[A]? = some (.cells (row ns (6 - j)) 46 (0, 0)))
    (hR : R = mapL ns (rl (6 - j) (B.drop a))) (hrn : rn (if 6 - j - 1 = 0 then 10 else 32) (B.drop a) = some (n, t)) :
    RelH W1 A B R (.int .i64 ((B.length - t.length : Nat) : Int)) (.bool true) (.int .i64 ((j : Int) + 1)) (w3.setCell ⟨A, j, none⟩ (.int .i64 n)) := by
  have hd := drop_rest (rn_some hrn).1
  obtain ⟨r, hr⟩ : ∃ r, 6 - j = r + 1 := ⟨6 - j - 1, by omega⟩
  rw [hr, Nat.add_sub_cancel] at hrn
  refine ⟨j + 1, by omega, by simp, (hC.trans (Ch.below hb)).set (.inl (by simp)) rfl, .inl ⟨ns ++ [n], B.length - t.length, rfl, by simp [hns], by omega, rfl, ?_, ?_⟩⟩
  · have h1 := (hb.block A (Array.getElem?_eq_some_iff.1 hA).1).trans hA
    rw [heap_put h1, hr, ← hns, row_put, hns, show 6 - (j + 1) = r by omega]
  · rw [hR, hr, rl_step, hrn, hd, show 6 - (j + 1) = r by omega]
theorem rh_fail {W1 w2 w3 : World} {A : Nat} {B : List UInt8} {R : Option (List Int × List UInt8)} {j a : Nat} {ns : List Int} {n k : Int} (hj : j < 6) (hC : Ch [A] W1 w2) (hb : Below w2.heap.size w2 w3) (hns : ns.length = j) (hA : w2.heap[A]? = some (.cells (row ns (6 - j)) 46 (0, 0)))
    (hR : R = mapL ns (rl (6 - j) (B.drop a))) (hrn : rn (if 6 - j - 1 = 0 then 10 else 32) (B.drop a) = none) :
    RelH W1 A B R (.int .i64 k) (.bool false) (.int .i64 ((j : Int) + 1)) (w3.setCell ⟨A, j, none⟩ (.int .i64 n)) := by
  obtain ⟨r, hr⟩ : ∃ r, 6 - j = r + 1 := ⟨6 - j - 1, by omega⟩
  rw [hr, Nat.add_sub_cancel] at hrn
  have h1 := (hb.block A (Array.getElem?_eq_some_iff.1 hA).1).trans hA
  refine ⟨j + 1, by omega, by simp, (hC.trans (Ch.below hb)).set (.inl (by simp)) rfl, .inr ⟨k, _, rfl, rfl, heap_put h1 _, ?_, ?_⟩⟩
  · simp [row, hns]; omega
  · rw [hR, hr, rl_step, hrn]
theorem un_none {X : List Ak ⊕ (Int × Nat)} {L : List Ak} {a : Nat} {B : List UInt8} (hX : X = preP L a (pr (B.drop a))) (hlt : a < B.length) (h : akR (B.drop a) = none) : X = .inr (2, a) := by
  rw [hX, pr_none (fun e => by have := congrArg List.length e; rw [List.length_drop] at this; simp at this; omega) h]
  rfl
theorem akR_head {b : List UInt8} (h : rl 6 b = none) : akR b = none := by unfold akR; rw [h]
theorem below_ch {A : Nat} {w a b : World} (h : Below w.heap.size w a) (hn : w.heap.size ≤ A) (k : Ch [A] a b) : Below w.heap.size w b :=
  ⟨k.os.trans h.os, k.tape.trans h.tape, k.output.trans h.output, Nat.le_trans h.size k.size, fun i hi => (k.block i (Nat.lt_of_lt_of_le hi h.size) (by simp; omega)).trans (h.block i hi)⟩
theorem gr_old {w w5 w6 : World} {X j Y : Nat} {v : Value} {us : List Value} {o4 x : Obj} (hX : w.heap[Y]? = some x) (hY : Y ≤ X) (hb : Below w.heap.size w w5) (ho : w.ownsRow (X + 1) 3 1 v j us) (hg : (w5.alloc o4).grownBy w6 v.ownBlock) : w6.heap[Y]? = some x := by
  have h0 := (Array.getElem?_eq_some_iff.1 hX).1
  have h1 := (hb.block Y h0).trans hX
  have h2 := (Below.heap_alloc w5 o4 Y (Array.getElem?_eq_some_iff.1 h1).1).trans h1
  exact (hg.block Y (Array.getElem?_eq_some_iff.1 h2).1 (fun e => by have := (ho.lt Y e.symm).1; omega)).trans h2
theorem gr_step {W3 w w5 w6 : World} {X j : Nat} {v v6 : Value} {us : List Value} {o4 : Obj} (hXs : W3.heap.size = X + 1) (hG : W3.grownBy w (some X)) (hb : Below w.heap.size w w5) (ho : w.ownsRow (X + 1) 3 1 v j us) (hg : (w5.alloc o4).grownBy w6 v.ownBlock) :
    W3.grownBy (w6.setCell ⟨X, 5, none⟩ v6) (some X) := by
  refine ⟨hg.os.trans (hb.os.trans hG.os), hg.tape.trans (hb.tape.trans hG.tape), hg.output.trans (hb.output.trans hG.output), ?_, fun k hk hn => ?_⟩
  · have h1 := hG.size
    have h2 := hb.size
    have h3 := hg.size
    simp at h3 ⊢
    omega
  · have hne : k ≠ X := fun e => hn (by rw [e])
    have h0 := (hG.block k hk hn)
    have h1 : k < w.heap.size := Nat.lt_of_lt_of_le hk hG.size
    rw [Below.heap_setCell _ _ _ k hne, ← h0]
    exact (gr_old (Array.getElem?_eq_getElem h1) (by omega) hb ho hg).trans (Array.getElem?_eq_getElem h1).symm
theorem rc_step {W3 w w5 w6 : World} {X : Nat} {B : List UInt8} {mm j a g6 cap6 : Nat} {h0 h1 h2 h3 n : Int} {R : Option (List Int × List UInt8)} {ns : List Int} {t : List UInt8} {v : Value} {o4 : Obj} (hj : j < mm) (hXs : W3.heap.size = X + 1) (hG : W3.grownBy w (some X)) (hb : Below w.heap.size w w5) (hns : ns.length = j)
    (hX : w.heap[X]? = some (.cells #[.int .i64 h0, .int .i64 h1, .int .i64 h2, .int .i64 h3, .string ⟨#[]⟩, v] 26 (0, 0))) (ho : w.ownsRow (X + 1) 3 1 v j (ns.map (Value.int .i64))) (hg : (w5.alloc o4).grownBy w6 v.ownBlock)
    (hO : w6.ownsRow (X + 1) 3 1 (.slice (some ⟨g6, 0, none⟩) (j + 1) cap6) (j + 1) (ns.map (Value.int .i64) ++ [.int .i64 n])) (hR : R = mapL ns (ra (mm - j) (B.drop a))) (hrn : rn 10 (B.drop a) = some (n, t)) :
    RelC W3 X B mm h0 h1 h2 h3 R (.int .i64 ((B.length - t.length : Nat) : Int)) (.bool true) (.int .i64 ((j : Int) + 1)) (w6.setCell ⟨X, 5, none⟩ (.slice (some ⟨g6, 0, none⟩) (j + 1) cap6)) := by
  have hd := drop_rest (rn_some hrn).1
  obtain ⟨r, hr⟩ : ∃ r, mm - j = r + 1 := ⟨mm - j - 1, by omega⟩
  refine ⟨j + 1, by omega, by simp, gr_step hXs hG hb ho hg, .inl ⟨ns ++ [n], B.length - t.length, _, rfl, by simp [hns], by omega, rfl, heap_put (gr_old hX (Nat.le_refl _) hb ho hg) _, ?_, ?_⟩⟩
  · rw [List.map_append]
    refine hO.kept (row := some X) ⟨rfl, rfl, rfl, by simp, fun k _ hk => Below.heap_setCell _ _ _ k (fun e => hk (by rw [e]))⟩ (.inr (fun e => ?_))
    have := (hO.lt X e).1
    omega
  · rw [hR, hr, ra_step, hrn, hd, show mm - (j + 1) = r by omega]
theorem rc_fail {W3 w w5 w6 : World} {X : Nat} {B : List UInt8} {mm j a : Nat} {h0 h1 h2 h3 k : Int} {R : Option (List Int × List UInt8)} {ns : List Int} {v v6 : Value} {o4 : Obj} (hj : j < mm) (hXs : W3.heap.size = X + 1) (hG : W3.grownBy w (some X)) (hb : Below w.heap.size w w5)
    (ho : w.ownsRow (X + 1) 3 1 v j (ns.map (Value.int .i64))) (hg : (w5.alloc o4).grownBy w6 v.ownBlock) (hR : R = mapL ns (ra (mm - j) (B.drop a))) (hrn : rn 10 (B.drop a) = none) :
    RelC W3 X B mm h0 h1 h2 h3 R (.int .i64 k) (.bool false) (.int .i64 ((j : Int) + 1)) (w6.setCell ⟨X, 5, none⟩ v6) := by
  obtain ⟨r, hr⟩ : ∃ r, mm - j = r + 1 := ⟨mm - j - 1, by omega⟩
  refine ⟨j + 1, by omega, by simp, gr_step hXs hG hb ho hg, .inr ⟨k, rfl, rfl, ?_⟩⟩
  rw [hR, hr, ra_step, hrn]
theorem gr_of_ch {A : Nat} {a b : World} (k : Ch [A] a b) : a.grownBy b (some A) :=
  ⟨k.os, k.tape, k.output, k.size, fun i hi hn => k.block i hi (by simpa using hn)⟩
theorem OwnU.grow {base bp Y : Nat} {w w' : World} {v : Value} {L : List (Ak × Option Addr × Nat)} (h : OwnU base bp w v L) (hg : w.grownBy w' (some Y)) (hY : bp ≤ Y) (hv : v.ownBlock ≠ some Y) : OwnU base bp w' v L :=
  ⟨h.own.kept hg (.inr hv), fun p hp hl => by
    obtain ⟨g, cs, e1, e2, e3, e4, e5⟩ := h.args p hp hl
    exact ⟨g, cs, e1, e2, e3, (hg.block g (Array.getElem?_eq_some_iff.1 e4).1 (fun e => by injection e with e; omega)).trans e4, e5⟩⟩
theorem OwnU.not {base bp : Nat} {w : World} {v : Value} {L : List (Ak × Option Addr × Nat)} (h : OwnU base bp w v L) {k : Nat} {cs : Array Value} {T : TypeId} (hk : w.heap[k]? = some (.cells cs T (0, 0))) (hT : T ≠ 26) : v.ownBlock ≠ some k := fun e => by
  obtain ⟨_, ⟨hv, h0⟩ | ⟨g, cap, cur, hv, _, h3, _⟩⟩ := h.own
  · subst hv; cases e
  · subst hv
    injection e with e
    have e : g = k := e
    rw [e, hk] at h3
    simp at h3
    exact hT h3.2
theorem gr_below {X : Nat} {w a b : World} (h : Below w.heap.size w a) (hn : w.heap.size ≤ X) (k : a.grownBy b (some X)) : Below w.heap.size w b :=
  ⟨k.os.trans h.os, k.tape.trans h.tape, k.output.trans h.output, Nat.le_trans h.size k.size, fun i hi => (k.block i (Nat.lt_of_lt_of_le hi h.size) (fun e => by injection e with e; omega)).trans (h.block i hi)⟩
theorem gr_at {X Y : Nat} {a b : World} {x : Obj} (k : a.grownBy b (some X)) (hY : Y ≠ X) (h : a.heap[Y]? = some x) : b.heap[Y]? = some x :=
  (k.block Y (Array.getElem?_eq_some_iff.1 h).1 (fun e => by injection e with e; exact hY e)).trans h
def akS (q0 q1 q2 q3 s : Int) : Option (List Int × List UInt8) → Option (Ak × List UInt8)
  | none => none
  | some (l, u) => if (u.length : Int) < s then none else some (⟨q0, q1, q2, q3, u.take s.toNat, l⟩, u.drop s.toNat)
theorem akT_pos {q0 q1 q2 q3 m s : Int} {b : List UInt8} (hm : ¬ m < 0) (hs : ¬ s < 0) : akT q0 q1 q2 q3 m s b = akS q0 q1 q2 q3 s (ra (min m.toNat 6) b) := by
  unfold akT
  rw [if_neg (by omega)]
  rfl
theorem own_args {w : World} {b j : Nat} {v : Value} {ns : List Int} (h : w.ownsRow b 3 1 v j (ns.map (Value.int .i64))) (hn : ns.length = j) :
    ∃ p c, v = .slice p j c ∧ (0 < ns.length → ∃ g cs, p = some ⟨g, 0, none⟩ ∧ b ≤ g ∧ w.heap[g]? = some (.cells cs 3 (0, 0)) ∧ ∀ (i : Nat) (n : Int), ns[i]? = some n → cs[i]? = some (Value.int .i64 n)) := by
  have h' := h
  obtain ⟨_, ⟨hv, h0⟩ | ⟨g, cap, cur, hv, hb, hg, _⟩⟩ := h'
  · subst hv
    exact ⟨none, 0, by rw [h0], fun hl => by omega⟩
  · subst hv
    refine ⟨some ⟨g, 0, none⟩, cap, rfl, fun _ => ⟨g, cur, rfl, hb, hg, fun i n hi => ?_⟩⟩
    have := h.cells (g := g) rfl i (.int .i64 n) (by rw [List.getElem?_map, hi]; rfl)
    rw [show (⟨g, 0, none⟩ : Addr).add i = ⟨g, 0 + i, none⟩ by unfold Addr.add; split <;> simp_all, Nat.zero_add, cell_of_row _ _ i _ _ _ hg] at this
    exact this
theorem un_wrong {X : List Ak ⊕ (Int × Nat)} {L : List Ak} {a : Nat} {B t : List UInt8} {q : Ak} (hX : X = preP L a (pr (B.drop a))) (hlt : a < B.length) (h : akR (B.drop a) = some (q, t)) (hw : akW q ≠ 0) : X = .inr (akW q, a) := by
  rw [hX, pr_wrong (fun e => by have h1 := congrArg List.length e; rw [List.length_drop, List.length_nil] at h1; omega) h hw]
  rfl
theorem un_step {n g o c N a bp g6 cap6 cq : Nat} {B : List UInt8} {w w5 w6 : World} {X : List Ak ⊕ (Int × Nat)} {v : Value} {L : List (Ak × Option Addr × Nat)} {q : Ak} {p : Option Addr} {o4 : Obj} (hB5 : Below n w w5) (hn5 : n ≤ w5.heap.size)
    (hF5 : w5.heap[n]? = some (.cells #[.int .i64 0, .int .i64 0] 30 (0, 0))) (hO5 : OwnU n bp w5 v L) (hnb : n < bp) (hbp5 : w5.heap[bp]? = some (.cells #[.int .i64 (a : Int)] 3 (0, 0)))
    (harg : 0 < q.args.length → ∃ g cs, p = some ⟨g, 0, none⟩ ∧ bp < g ∧ w5.heap[g]? = some (.cells cs 3 (0, 0)) ∧ ∀ (i : Nat) (m : Int), q.args[i]? = some m → cs[i]? = some (Value.int .i64 m))
    (hown : w6.ownsRow n 26 6 (.slice (some ⟨g6, 0, none⟩) (L.length + 1) cap6) (L.length + 1) (akX L ++ akC q p cq)) (hg : (w5.alloc o4).grownBy w6 v.ownBlock)
    (hLa : L.length ≤ a) (ha : a < B.length) (hX : X = preP (L.map (·.1)) a (pr (B.drop a))) (hak : akR (B.drop a) = some (q, B.drop N)) (hw : akW q = 0) (hN : N ≤ B.length) :
    RelUn n g o c B w X (.slice (some ⟨g6, 0, none⟩) (L.length + 1) cap6) (.pointer (some ⟨w6.heap.size, 0, none⟩)) ((w6.setCell ⟨bp, 0, none⟩ (.int .i64 (N : Int))).alloc (.cells #[.int .i64 (N : Int)] 3)) ∧ a < N ∧
      ((w6.setCell ⟨bp, 0, none⟩ (.int .i64 (N : Int))).alloc (.cells #[.int .i64 (N : Int)] 3)).cell? ⟨w6.heap.size, 0, none⟩ = some (.int .i64 (N : Int)) := by
  have hl := akR_len hak
  rw [List.length_drop, List.length_drop] at hl
  have hs5 : w5.heap.size + 1 ≤ w6.heap.size := by have := hg.size; simpa using this
  have hk5 : ∀ {k : Nat} {cs : Array Value} {T : TypeId}, w5.heap[k]? = some (.cells cs T (0, 0)) → T ≠ 26 → w6.heap[k]? = some (.cells cs T (0, 0)) := fun {k cs T} h hT => by
    have h1 := (Array.getElem?_eq_some_iff.1 h).1
    exact (hg.block k (by simp; omega) (fun e => hO5.not h hT e.symm)).trans ((Below.heap_alloc w5 o4 k h1).trans h)
  have hlt6 : ∀ {k : Nat} {x : Obj}, w5.heap[k]? = some x → k < w6.heap.size := fun {k x} h => by have := (Array.getElem?_eq_some_iff.1 h).1; omega
  have hbp6 := hk5 hbp5 (by decide)
  have hF6 := hk5 hF5 (by decide)
  have hO6 : OwnU n w6.heap.size w6 (.slice (some ⟨g6, 0, none⟩) (L.length + 1) cap6) (L ++ [(q, p, cq)]) := by
    refine ⟨?_, fun x hx hl => ?_⟩
    · rw [List.length_append, List.length_singleton, show akX (L ++ [(q, p, cq)]) = akX L ++ akC q p cq by simp [akX]]
      exact hown
    · rcases List.mem_append.1 hx with hx | hx
      · obtain ⟨g, cs, e1, e2, e3, e4, e5⟩ := hO5.args x hx hl
        exact ⟨g, cs, e1, e2, hlt6 e4, hk5 e4 (by decide), e5⟩
      · obtain rfl := List.mem_singleton.1 hx
        obtain ⟨g, cs, e1, e3, e4, e5⟩ := harg hl
        exact ⟨g, cs, e1, by omega, hlt6 e4, hk5 e4 (by decide), e5⟩
  have hne : ∀ x ∈ L ++ [(q, p, cq)], 0 < x.1.args.length → ∀ g, x.2.1 = some ⟨g, 0, none⟩ → g ≠ bp := fun x hx hl g hg2 => by
    rcases List.mem_append.1 hx with hx | hx
    · obtain ⟨g1, cs, e1, e2, e3, e4, e5⟩ := hO5.args x hx hl
      rw [e1] at hg2
      injection hg2 with hg2
      injection hg2 with hg2
      omega
    · obtain rfl := List.mem_singleton.1 hx
      obtain ⟨g1, cs, e1, e3, e4, e5⟩ := harg hl
      have hg2 : p = some ⟨g, 0, none⟩ := hg2
      rw [e1] at hg2
      injection hg2 with hg2
      injection hg2 with hg2
      omega
  have hO7 : OwnU n w6.heap.size (w6.setCell ⟨bp, 0, none⟩ (.int .i64 (N : Int))) (.slice (some ⟨g6, 0, none⟩) (L.length + 1) cap6) (L ++ [(q, p, cq)]) := by
    refine ⟨hO6.own.kept (row := some bp) ⟨rfl, rfl, rfl, by simp, fun k _ hk => Below.heap_setCell _ _ _ k (fun e => hk (by rw [e]))⟩ (.inr (hO6.not hbp6 (by decide))), fun x hx hl => ?_⟩
    obtain ⟨g, cs, e1, e2, e3, e4, e5⟩ := hO6.args x hx hl
    exact ⟨g, cs, e1, e2, e3, (Below.heap_setCell _ _ _ g (hne x hx hl g e1)).trans e4, e5⟩
  have hs7 : (w6.setCell ⟨bp, 0, none⟩ (.int .i64 (N : Int))).heap.size = w6.heap.size := by simp
  have hF7 : (w6.setCell ⟨bp, 0, none⟩ (.int .i64 (N : Int))).heap[n]? = some (.cells #[.int .i64 0, .int .i64 0] 30 (0, 0)) := (Below.heap_setCell _ _ _ n (show n ≠ bp by omega)).trans hF6
  have hB7 : Below n w (w6.setCell ⟨bp, 0, none⟩ (.int .i64 (N : Int))) := ((hB5.alloc hn5 o4).grown hg (by simp; omega) (fun k e => (hO5.own.lt k e).1)).setCell (p := ⟨bp, 0, none⟩) (Nat.le_of_lt hnb) _
  have hn6 : n ≤ w6.heap.size := by omega
  generalize hW : w6.setCell ⟨bp, 0, none⟩ (.int .i64 (N : Int)) = w7 at *
  have hdw := (Below.refl w7.heap.size w7).alloc (Nat.le_refl _) (.cells #[.int .i64 (N : Int)] 3)
  have hnew := heap_alloc_new w7 (.cells #[.int .i64 (N : Int)] 3)
  rw [hs7] at hnew
  refine ⟨⟨L ++ [(q, p, cq)], N, w6.heap.size, hN, by rw [List.length_append, List.length_singleton]; omega, rfl, by have := hlt6 hF5; omega, hnew, hO7.kept hdw, hB7.alloc (by omega) _, (hdw.block n (Array.getElem?_eq_some_iff.1 hF7).1).trans hF7, ?_⟩, by omega, cell_of_row _ _ 0 _ _ _ hnew⟩
  rw [hX, pr_more hak hw]
  have hd : (B.drop a).length - (B.drop N).length = N - a := by rw [List.length_drop, List.length_drop]; omega
  rw [hd]
  cases pr (B.drop N) with
  | inl m => simp [preP]
  | inr p =>
    obtain ⟨e, k⟩ := p
    simp only [preP, Sum.inr.injEq, Prod.mk.injEq, true_and]
    omega
theorem un_keep {n bp : Nat} {w5 w6 : World} {v : Value} {L : List (Ak × Option Addr × Nat)} {o4 : Obj} (hO5 : OwnU n bp w5 v L) (hg : (w5.alloc o4).grownBy w6 v.ownBlock) {k : Nat} {cs : Array Value} {T : TypeId} (h : w5.heap[k]? = some (.cells cs T (0, 0))) (hT : T ≠ 26) : w6.heap[k]? = some (.cells cs T (0, 0)) := by
  have h1 := (Array.getElem?_eq_some_iff.1 h).1
  exact (hg.block k (by simp; omega) (fun e => hO5.not h hT e.symm)).trans ((Below.heap_alloc w5 o4 k h1).trans h)
theorem set_at {b Y : Nat} {w : World} {i : Nat} {u : Value} {x : Obj} (h : w.heap[Y]? = some x) (hY : Y ≠ b) : (w.setCell ⟨b, i, none⟩ u).heap[Y]? = some x := (Below.heap_setCell _ _ _ Y hY).trans h
theorem OwnU.set {base bp b i : Nat} {w : World} {v u : Value} {L : List (Ak × Option Addr × Nat)} (h : OwnU base bp w v L) (hY : bp ≤ b) (hv : v.ownBlock ≠ some b) : OwnU base bp (w.setCell ⟨b, i, none⟩ u) v L :=
  h.grow (Y := b) ⟨rfl, rfl, rfl, by simp, fun k _ hk => Below.heap_setCell _ _ _ k (fun e => hk (by rw [e]))⟩ hY hv
theorem OwnU.but {base bp n : Nat} {w w' : World} {v : Value} {L : List (Ak × Option Addr × Nat)} (h : OwnU base bp w v L) {cs : Array Value} (hn : w.heap[n]? = some (.cells cs 30 (0, 0))) (hg : w.grownBy w' (some n)) : OwnU base bp w' v L :=
  ⟨h.own.kept hg (.inr (h.not hn (by decide))), fun p hp hl => by
    obtain ⟨g, cs, e1, e2, e3, e4, e5⟩ := h.args p hp hl
    refine ⟨g, cs, e1, e2, e3, (hg.block g (Array.getElem?_eq_some_iff.1 e4).1 (fun e => ?_)).trans e4, e5⟩
    injection e with e
    rw [e, hn] at e4
    simp at e4⟩
end Go.Proofs.YtbkihppmikjcoaaDoor

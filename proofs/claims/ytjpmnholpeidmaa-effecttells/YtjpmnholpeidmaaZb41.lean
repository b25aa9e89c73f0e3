/- Texts of this seat, one behind the other: EffRsg, EffDia, EffDi2. -/
import Derived.Test.YtjpmnholpeidmaaZb40
import Derived.Test.YtjpmnholpeidmaaZb01b
import Derived.Test.YtjpmnholpeidmaaZb05
import Derived.Maps.Ext
import Derived.Maps.RangeWalk
import Derived.BigRegion
import Derived.Deep.RegionHeld3
import Derived.Test.YtjpmnholpeidmaaZb16
import Derived.Deep.AppendLies
namespace Go.Proofs.Ytjpmnholpeidmaa
open Go.RowKit Go.Sort Go.WideMaps Go.Maps
set_option linter.unusedVariables false
attribute [local go_sem ↓] Go.wp_at_zero Go.wp_at_succ
/-- A set of names, as a map. -/
def wnD : List BL → DataW Unit
  | [] => .map []
  | s :: r => (wnD r).put (kyB (bA s)) (.lit (.bool true))
def WnAt (w : World) (b : Nat) (ns : List BL) : Prop := ∃ n, n ≤ ns.length ∧ w.ownsMap Try.prog 9 (plainElem (H := Unit) Try.prog 4) b n (wnD ns)
theorem WnAt.kept {w w' : World} {b : Nat} {ns : List BL} (h : WnAt w b ns) (hg : w'.heap[b]? = w.heap[b]?) : WnAt w' b ns := by
  obtain ⟨n, hn, es, clock, h1, h2⟩ := h
  exact ⟨n, hn, es, clock, hg.trans h1, h2⟩
theorem wnD_map (ns : List BL) : IsMap (wnD ns) := by
  induction ns with
  | nil => exact isMap_empty
  | cons e r ih => exact ih.put _ _
theorem bA_of (x : ByteArray) : bA x.data.toList = x := by unfold bA; exact Lib.mk_data x
theorem wnD_has (ns : List BL) (x : ByteArray) : has (wnD ns) (kyB x) = decide (x.data.toList ∈ ns) := by
  induction ns with
  | nil => rfl
  | cons s r ih =>
    unfold wnD
    by_cases h : x = bA s
    · subst h
      rw [has_put_same (wnD_map r) (kyB_lit _) _]
      exact (decide_eq_true (List.mem_cons.2 (.inl rfl))).symm
    · rw [has_put_other (fun e => h (kyB_inj e)) _, ih]
      refine decide_eq_decide.2 ?_
      rw [List.mem_cons]
      constructor
      · exact fun h => .inr h
      · rintro (h2 | h2)
        · exact absurd (by rw [← h2]; exact (bA_of x).symm) h
        · exact h2
theorem wnD_at (ns : List BL) (x : ByteArray) (h : x.data.toList ∈ ns) (z : DataW Unit) : (wnD ns).atKey (kyB x) z = .lit (.bool true) := by
  induction ns with
  | nil => cases h
  | cons s r ih =>
    unfold wnD
    by_cases hx : x = bA s
    · subst hx
      exact atKey_put_same (wnD_map r) (kyB_lit _) _ _
    · rw [atKey_put_other (fun e => hx (kyB_inj e))]
      refine ih ?_
      rcases List.mem_cons.1 h with h2 | h2
      · exact absurd (by rw [← h2]; exact (bA_of x).symm) hx
      · exact h2
theorem wn_keyStr {key : Value} {kl : Lit} (h : keyOf Try.prog 9 key = some kl) : ∃ x, key = .string x ∧ kl = kyB x ∧ x.size ≤ maxLen := by
  have hk := Try.underlying9
  cases key <;> simp [keyOf, hk, mapKey] at h
  obtain ⟨h1, h2⟩ := h
  exact ⟨_, rfl, h2.symm, h1⟩
theorem plBool_inv {v : Value} {z : DataW Unit × List MemPlace} (h : plainElem (H := Unit) Try.prog 4 v = some z) : ∃ c, v = .bool c ∧ z = (.lit (.bool c), []) := by
  have hb := Try.underlying4
  cases v <;> simp [plainElem, hb] at h
  exact ⟨_, rfl, h.symm⟩
/-- A Bool that the walk does not part. -/
def bvN (n : Nat) : Value := .bool (decide (0 < n))
theorem plBool_bvN {v : Value} {z : DataW Unit × List MemPlace} (h : plainElem (H := Unit) Try.prog 4 v = some z) : ∃ c, v = bvN c := by
  obtain ⟨c, rfl, _⟩ := plBool_inv h
  cases c
  · exact ⟨0, rfl⟩
  · exact ⟨1, rfl⟩
theorem bvN_true {c : Nat} {ps : List MemPlace} (h : plainElem (H := Unit) Try.prog 4 (bvN c) = some (.lit (.bool true), ps)) : bvN c = .bool true := by
  obtain ⟨c', h1, h2⟩ := plBool_inv h
  rw [h1]
  have h3 := (Prod.mk.inj h2).1
  have h4 : (DataW.lit (Lit.bool true) : DataW Unit) = .lit (.bool c') := h3
  rw [← Lit.bool.inj (DataW.lit.inj h4)]
/-- Strings are put behind others. -/
theorem run_app_str {w : World} (base n : Nat) (v : Value) (xs : List Value) (hown : w.ownsRow base 9 1 v n xs) (vu : Value) (ns : List BL) (D : Option Nat) (hu : StrAt w D ns vu) (hn : n + ns.length < 2199023255552) (hbase : base ≤ w.heap.size) :
    ∃ v' w', (Builtin.append_ #[36, 36] 36 #[v, vu]).run Try.prog w = .ok v' w' ∧ w'.ownsRow base 9 1 v' (n + ns.length) (xs ++ ns.map encStr) ∧ w.grownBy w' v.ownBlock ∧ (v'.ownBlock = v.ownBlock ∨ v'.ownBlock = some w.heap.size) := by
  obtain ⟨i0, hi0, hz0, hz1, hz2⟩ := info_parts Try.infoStr
  obtain ⟨p, cap, rfl, h1, h2⟩ := hu
  cases p with
  | none =>
    obtain ⟨e1, e2⟩ := h1 rfl
    have hn0 : ns = [] := List.eq_nil_of_length_eq_zero e2
    subst hn0
    subst e1
    have hrun := run_append_owned_none (P := Try.prog) (w := w) base 36 36 9 i0 1 Try.underlying36 hi0 v n xs hown
    exact ⟨v, w, hrun, by rw [List.map_nil, List.append_nil]; exact hown, ⟨rfl, rfl, rfl, Nat.le_refl _, fun _ _ _ => rfl⟩, .inl rfl⟩
  | some ad =>
    obtain ⟨v', w', k1, k2, k3, _, k4⟩ := run_append_own_at (P := Try.prog) w base 36 36 9 i0 _ 1 16 Try.underlying36 hi0 hz0 hz1 hz2 rfl (by decide) v n xs hown ad ns.length cap (ns.map encStr) (by simp) (fun j u hj => by
      rw [List.getElem?_map] at hj
      obtain ⟨s0, hs0, rfl⟩ := Option.map_eq_some_iff.1 hj
      obtain ⟨g, o, e1, _, _, e4⟩ := h2 (by have := (List.getElem?_eq_some_iff.1 hs0).1; omega)
      have e1 := Option.some.inj e1
      subst e1
      have h3 := e4 j s0 hs0
      have h5 : (⟨g, o, none⟩ : Addr).add j = ⟨g, o + j, none⟩ := by simp only [Addr.add]; split <;> simp_all
      rw [h5]
      exact h3) (fun u hu => by
      obtain ⟨s0, _, rfl⟩ := List.mem_map.1 hu
      rfl) (by unfold maxLen; omega) (by omega) hbase
    exact ⟨v', w', k1, k2, k3, k4⟩
theorem step_app_str {w : World} {ops : Array Oper} {o : Oper} {a : Act} {K : Act → World → Prop} {Q : Exit → Act → World → Prop} {E : Prop} (hgd : o.guard = none) (s x : Operand)
    (ho : o.op = .call { callee := .builtin .append, args := #[s, x], argTypes := #[36, 36] }) (hty : o.type = 36)
    (base n : Nat) (v : Value) (ss : List BL) (hs : a.eval s = v) (hown : w.ownsRow base 9 1 v n (ss.map encStr)) (vu : Value) (ns : List BL) (D : Option Nat) (hx : a.eval x = vu) (hu : StrAt w D ns vu) (hn : n + ns.length < 2199023255552) (hbase : base ≤ w.heap.size)
    (h : ∀ v' w', w'.ownsRow base 9 1 v' (n + ns.length) ((ss ++ ns).map encStr) → w.grownBy w' v.ownBlock → (v'.ownBlock = v.ownBlock ∨ v'.ownBlock = some w.heap.size) → K (a.put o.dst v') w') :
    if Region.wanted o (yielded ops a.tmps) = true then Oper.wp Try.prog o a w K Q else E := by
  have hw : Region.wanted o (yielded ops a.tmps) = true := by simp [Region.wanted, hgd]
  rw [if_pos hw]
  obtain ⟨v', w', hr, h2, h3, h4⟩ := run_app_str base n v _ hown vu ns D hu hn hbase
  unfold Oper.wp execOp
  simp only [ho, hty, resolve, invoke, builtin, Sem.run_bind, Sem.run_pure, Result.andThen_ok, List.map_toArray, List.map_cons, List.map_nil, hs, hx, hr]
  exact h v' w' (by rw [List.map_append]; exact h2) h3 h4
/-- The list so far: what has come of the set. -/
def RelRg (b n : Nat) (D0 : DataW Unit) (w : World) (v : Value) (wr : World) : Prop := ∃ (left : Lit → Bool) (cnt : Nat) (Dg : DataW Unit) (R : List BL), wr.ranges Try.prog 9 (plainElem (H := Unit) Try.prog 4) b w.heap.size n D0 left cnt ∧ cnt ≤ size D0 ∧ IsMap Dg ∧ Agree Dg D0 left ∧ wr.ownsRow (w.heap.size + 1) 9 1 v R.length (R.map encStr) ∧ (R = [] → v = .slice none 0 0) ∧ Inc R ∧ (∀ x : ByteArray, x.data.toList ∈ R ↔ has Dg (kyB x) = true) ∧ R.length ≤ size D0 - cnt ∧ Below w.heap.size w wr ∧ w.heap.size < wr.heap.size
def RelRi (R : List BL) (nm : BL) (W : World) (i : Value) (wr : World) : Prop := ∃ k : Nat, k ≤ R.length ∧ i = .int .i64 (k : Int) ∧ (∀ j s, j < k → R[j]? = some s → s < nm) ∧ wr = W
theorem own_str {w : World} {base n : Nat} {v : Value} {R : List BL} (h : w.ownsRow base 9 1 v n (R.map encStr)) : n = R.length ∧ StrAt w v.ownBlock R v := by
  have h0 : n = R.length := by have := h.1; simpa using this.symm
  subst h0
  refine ⟨rfl, ?_⟩
  rcases id h.2 with ⟨h1, h2⟩ | ⟨g, cap, cur, h1, h2, h3, _⟩
  · subst h1; exact ⟨none, 0, by rw [h2], fun _ => ⟨rfl, h2⟩, fun h => by omega⟩
  · subst h1
    refine ⟨_, cap, rfl, (fun e => by cases e), fun _ => ⟨g, 0, rfl, rfl, (h.lt g rfl).2, fun j s hj => ?_⟩⟩
    have h3 := h.cells (g := g) rfl j (encStr s) (by rw [List.getElem?_map, hj]; rfl)
    rw [add0E] at h3
    rw [Nat.zero_add]
    exact h3
/-- What the walk comes to. -/
def RgI (base : Nat) (W X : World) (v : Value) (n : Nat) (ss : List BL) : Prop := X.ownsRow base 9 1 v n (ss.map encStr) ∧ Below W.heap.size W X ∧ base ≤ W.heap.size ∧ ∀ k, v.ownBlock = some k → W.heap.size ≤ k
theorem RgI.alloc {base : Nat} {W X : World} {v : Value} {n : Nat} {ss : List BL} (h : RgI base W X v n ss) (o : Obj) : RgI base W (X.alloc o) v n ss := ⟨h.1.alloc o, h.2.1.alloc h.2.1.size o, h.2.2⟩
theorem RgI.drew {base : Nat} {W X : World} {v : Value} {n : Nat} {ss : List BL} (h : RgI base W X v n ss) : RgI base W X.drew v n ss := ⟨h.1.drew, h.2.1.drew, h.2.2⟩
theorem RgI.start {base : Nat} {W X : World} (hB : base ≤ W.heap.size) (h : Below W.heap.size W X) : RgI base W (X.alloc (.cells #[] 9)) (.slice (some ⟨X.heap.size, 0, none⟩) 0 0) 0 [] :=
  ⟨⟨rfl, .inr ⟨X.heap.size, 0, #[], rfl, Nat.le_trans hB h.size, heap_alloc_new X _, Nat.le_refl _, Nat.zero_le _, rfl, rfl⟩⟩, h.alloc h.size _, hB, fun k e => by injection e with e; rw [← e]; exact h.size⟩
theorem step_app_rg {w : World} {ops : Array Oper} {o : Oper} {a : Act} {K : Act → World → Prop} {Q : Exit → Act → World → Prop} {E : Prop} (hgd : o.guard = none) (s x : Operand)
    (ho : o.op = .call { callee := .builtin .append, args := #[s, x], argTypes := #[36, 36] }) (hty : o.type = 36)
    {base n : Nat} {W : World} {v : Value} {ss : List BL} (hI : RgI base W w v n ss) (hs : a.eval s = v) (ns : List BL) (D : Option Nat) {vu : Value} (hu : StrAt w D ns vu) (hx : a.eval x = vu) (hn : n + ns.length < 2199023255552)
    (h : ∀ v' w', RgI base W w' v' (n + ns.length) (ss ++ ns) → w.grownBy w' v.ownBlock → K (a.put o.dst v') w') :
    if Region.wanted o (yielded ops a.tmps) = true then Oper.wp Try.prog o a w K Q else E :=
  step_app_str hgd s x ho hty base n v ss hs hI.1 vu ns D hx hu hn (Nat.le_trans hI.2.2.1 hI.2.1.size) (fun v' w' h1 h2 h3 => h v' w' ⟨h1, hI.2.1.grown h2 hI.2.1.size hI.2.2.2, hI.2.2.1, fun k e => by
    rcases h3 with h4 | h4
    · exact hI.2.2.2 k (by rw [← h4]; exact e)
    · rw [h4] at e; injection e with e; rw [← e]; exact hI.2.1.size⟩ h2)
theorem strB {w : World} {b : Nat} {y : ByteArray} (h : w.heap[b]? = some (.cells #[.string y] 9 (0, 0))) : StrAt w (some b) [y.data.toList] (.slice (some ⟨b, 0, none⟩) 1 1) :=
  ⟨_, 1, rfl, (fun e => by cases e), fun _ => ⟨b, 0, rfl, rfl, (Array.getElem?_eq_some_iff.1 h).1, fun j s hj => by
    have hj0 : j = 0 := by have := (List.getElem?_eq_some_iff.1 hj).1; simp at this; exact this
    subst hj0
    injection hj with hj
    subst hj
    rw [show encStr y.data.toList = .string y from congrArg Value.string (bA_of y)]
    exact cell_of_row _ _ 0 _ _ _ h⟩⟩
theorem strTake {w : World} {g k cap : Nat} {R : List BL} {D : Option Nat} {c0 : Nat} (h : StrAt w D R (.slice (some ⟨g, 0, none⟩) R.length c0)) (hk : k ≤ R.length) : StrAt w D (R.take k) (.slice (some ⟨g, 0, none⟩) k cap) := by
  obtain ⟨p, c, e, h1, h2⟩ := h
  injection e with e1 _ _
  subst e1
  refine ⟨_, cap, by rw [List.length_take, Nat.min_eq_left hk], (fun e => by cases e), fun hl => ?_⟩
  obtain ⟨g', o, e1, e2, e3, e4⟩ := h2 (by rw [List.length_take] at hl; omega)
  exact ⟨g', o, e1, e2, e3, fun j s hj => e4 j s (by rw [List.getElem?_take] at hj; split at hj; exact hj; cases hj)⟩
theorem strDrop {w : World} {g k cap : Nat} {R : List BL} {D : Option Nat} {c0 : Nat} (h : StrAt w D R (.slice (some ⟨g, 0, none⟩) R.length c0)) (hk : k < R.length) : StrAt w D (R.drop k) (.slice (some ⟨g, k, none⟩) (R.length - k) cap) := by
  obtain ⟨p, c, e, h1, h2⟩ := h
  injection e with e1 _ _
  subst e1
  refine ⟨_, cap, by rw [List.length_drop], (fun e => by cases e), fun hl => ?_⟩
  obtain ⟨g', o, e1, e2, e3, e4⟩ := h2 (by omega)
  injection e1 with e1
  injection e1 with e5 e6
  subst e5 e6
  exact ⟨g, k, rfl, e2, e3, fun j s hj => by rw [List.getElem?_drop] at hj; have := e4 (k + j) s hj; rw [Nat.zero_add] at this; exact this⟩
theorem strNil (w : World) (D : Option Nat) (p : Option Addr) (c : Nat) (h : p = none → c = 0) : StrAt w D [] (.slice p 0 c) := ⟨p, c, rfl, fun e => ⟨h e, rfl⟩, fun h => by exact absurd h (by decide)⟩
theorem rg_two (wr : World) (y : ByteArray) : (((wr.alloc (.cells #[] 9)).alloc (.cells #[.string y] 9)).drew).heap[wr.heap.size + 1]? = some (.cells #[.string y] 9 (0, 0)) ∧ wr.heap.size + 1 < (((wr.alloc (.cells #[] 9)).alloc (.cells #[.string y] 9)).drew).heap.size ∧ some (wr.heap.size + 1) ≠ (Value.slice (some ⟨wr.heap.size, 0, none⟩) 0 0).ownBlock := by
  have e : ∀ W : World, W.drew.heap = W.heap := fun _ => rfl
  refine ⟨?_, by simp, fun e => ?_⟩
  · rw [e, show wr.heap.size + 1 = (wr.alloc (.cells #[] 9)).heap.size from by simp]
    exact heap_alloc_new _ _
  · have : wr.heap.size + 1 = wr.heap.size := Option.some.inj e
    omega
theorem rg_three (wr : World) (y : ByteArray) : (((wr.alloc (.cells #[.string y] 9)).alloc (.cells #[] 9)).drew).heap[wr.heap.size]? = some (.cells #[.string y] 9 (0, 0)) ∧ wr.heap.size < (((wr.alloc (.cells #[.string y] 9)).alloc (.cells #[] 9)).drew).heap.size ∧ some wr.heap.size ≠ (Value.slice (some ⟨wr.heap.size + 1, 0, none⟩) 0 0).ownBlock := by
  have e : ∀ W : World, W.drew.heap = W.heap := fun _ => rfl
  refine ⟨?_, by simp; omega, fun e => ?_⟩
  · rw [e]
    exact (Below.heap_alloc (wr.alloc (.cells #[.string y] 9)) (.cells #[] 9) wr.heap.size (by simp)).trans (heap_alloc_new wr _)
  · have : wr.heap.size = wr.heap.size + 1 := Option.some.inj e
    omega
theorem rg_hn (R : List BL) (k : Nat) (y : BL) (h : R.length < 1099511627776) : 0 + (R.take k).length < 2199023255552 ∧ 0 + (R.take k).length + [y].length < 2199023255552 ∧ 0 + (R.take k).length + [y].length + (R.drop k).length < 2199023255552 := by
  rw [List.length_take, List.length_drop, List.length_singleton]
  omega
theorem Below.free {w w' : World} (h : Below w.heap.size w w') : w.grownBy w' none := ⟨h.os, h.tape, h.output, h.size, fun k hk _ => h.block k hk⟩
/-- What is held while a name is put in. -/
def RgA (b n : Nat) (D0 : DataW Unit) (w : World) (left : Lit → Bool) (cnt cnt1 : Nat) (Dg : DataW Unit) (R : List BL) (y : ByteArray) (v : Value) (wr : World) : Prop := Agree Dg D0 left ∧ (∀ x : ByteArray, x.data.toList ∈ R ↔ has Dg (kyB x) = true) ∧ Inc R ∧ wr.ownsRow (w.heap.size + 1) 9 1 v R.length (R.map encStr) ∧ Below w.heap.size w wr ∧ y.data.toList ∉ R ∧ IsMap Dg ∧ (∀ zd, D0.atKey (kyB y) zd = .lit (.bool true)) ∧ wr.ranges Try.prog 9 (plainElem (H := Unit) Try.prog 4) b w.heap.size n D0 (fun z => left z && !z.sameKey (kyB y)) cnt1 ∧ cnt1 < cnt ∧ R.length ≤ size D0 - cnt ∧ (R = [] → v = .slice none 0 0) ∧ w.heap.size < wr.heap.size ∧ cnt ≤ size D0
theorem rg_next {b n : Nat} {D0 : DataW Unit} {w : World} {left : Lit → Bool} {cnt cnt1 : Nat} {Dg : DataW Unit} {R : List BL} {y : ByteArray} {v : Value} {wr : World} (h : RgA b n D0 w left cnt cnt1 Dg R y v wr) {k : Nat} (hk : k ≤ R.length) (h1 : ∀ j s, j < k → R[j]? = some s → s < y.data.toList) (h2 : ∀ s, R[k]? = some s → ¬ s < y.data.toList) {v4 : Value} {w4 : World} (h4 : RgI (w.heap.size + 1) wr w4 v4 (0 + (R.take k).length + [y.data.toList].length + (R.drop k).length) ([] ++ R.take k ++ [y.data.toList] ++ R.drop k)) :
    RelRg b n D0 w v4 w4 := by
  obtain ⟨hA, hmem, hinc, hout, hbw, hyR, hgm, hat, hrg, hlt, hlen, hnil, hsz, hcs⟩ := h
  obtain ⟨hI, hb4, _, _⟩ := h4
  have hins := ins_inc hinc hk h1 h2 hyR
  have hl : [] ++ R.take k ++ [y.data.toList] ++ R.drop k = R.take k ++ y.data.toList :: R.drop k := by simp
  rw [hl] at hI
  have hn := (own_str hI).1
  rw [hn] at hI
  refine ⟨_, cnt1, Dg.put (kyB y) (.lit (.bool true)), R.take k ++ y.data.toList :: R.drop k, hrg.kept (Below.free hb4) (fun e => by cases e) (fun e => by cases e), by omega, hgm.put _ _, agree_step hA hgm (kyB_lit _) hat, hI, (fun e => by simp at e), hins.1, fun x => ?_, ?_, hbw.trans (hb4.mono hbw.size), Nat.lt_of_lt_of_le hsz hb4.size⟩
  · rw [hins.2]
    by_cases hx : x = y
    · subst hx
      rw [has_put_same hgm (kyB_lit _)]
      exact ⟨fun _ => rfl, fun _ => .inr rfl⟩
    · rw [has_put_other (fun e => hx (kyB_inj e)), ← hmem x]
      constructor
      · rintro (h | h)
        · exact h
        · exact absurd (bytes_inj h) hx
      · exact fun h => .inl h
  · have : (R.take k ++ y.data.toList :: R.drop k).length = R.length + 1 := by simp; omega
    omega
theorem rg_less {b n : Nat} {D0 : DataW Unit} {w : World} {left : Lit → Bool} {cnt cnt1 : Nat} {Dg : DataW Unit} {R : List BL} {y : ByteArray} {v : Value} {wr : World} (h : RgA b n D0 w left cnt cnt1 Dg R y v wr) {v4 : Value} {w4 : World} {m : Nat} {ss : List BL} (h4 : RgI (w.heap.size + 1) wr w4 v4 m ss) : w4.rangeLeft b w.heap.size < cnt := by
  obtain ⟨hA, hmem, hinc, hout, hbw, hyR, hgm, hat, hrg, hlt, hlen, hnil, hsz, hcs⟩ := h
  rw [(hrg.kept (Below.free h4.2.1) (fun e => by cases e) (fun e => by cases e)).left_eq]
  exact hlt
set_option maxHeartbeats 4000000 in
set_option maxRecDepth 100000 in
theorem rising_ref (ns : List BL) (b : Nat) (w : World) (hm : WnAt w b ns) (hns : ns.length < 1099511627776) :
    Calls Try.prog 25 #[.map (some b)] w fun e w' => ∃ v R D, e = .returned v ∧ StrAt w' D R v ∧ Inc R ∧ (∀ s : BL, s ∈ R ↔ s ∈ ns) ∧ Below w.heap.size w w' ∧ ∀ k, some k = D → w.heap.size ≤ k := by
  obtain ⟨n, hnl, hown⟩ := id hm
  have hbl := hown.lt
  have hsize := hown.size_le
  have HD0 := hid (fun x : ByteArray => wnD_has ns x)
  have HD1 := hid (fun x : ByteArray => wnD_at ns x)
  generalize hD0 : wnD ns = D0 at *
  clear hD0
  go_enter Try.func25, Try.ntmps25
  go_wp2_with (first
    | (at_range; refine wpList_range_own _ rfl _ 54 rfl 9 4 kStr Try.underlying54 _ b n _ rfl hown ?_; intro w0 hrg0 hg0 hs0)
    | go_in)
  go_frame
  go_loopw [3] (fun v wr => RelRg b n D0 w v wr) (fun _ wr => wr.rangeLeft b w.heap.size)
  case atStart =>
    exact ⟨_, _, .map [], [], hrg0, Nat.le_refl _, isMap_empty, agree_start D0, World.ownsRow_nil _ _ _ _, fun _ => rfl, List.Pairwise.nil, fun x => ⟨(fun h => by simp at h), (fun h => by cases h)⟩, Nat.zero_le _, (Below.refl _ _).grown hg0 (Nat.le_refl _) (fun j hj => by cases hj), by omega⟩
  case round =>
    obtain ⟨left, cnt, Dg, R, hrg, hcs, hgm, hA, hout, hnil, hinc, hmem, hlen, hbw, hsz⟩ := hrel
    clear hrg0 hg0 hs0
    go_wp2_with (first
      | (at_next; refine wpList_next_ranges _ rfl _ rfl 9 kStr (plainElem (H := Unit) Try.prog 4) Value.string bvN (fun key kl h => (let ⟨x, h1, _⟩ := wn_keyStr h; ⟨x, h1⟩)) (fun v y h => plBool_bvN h) b w.heap.size n _ _ _ rfl hrg ?_ ?_)
      | go_in)
    · intro hc0 hl0
      have HE := hid (And.intro hA (And.intro hmem (And.intro hinc (And.intro hout hbw))))
      obtain ⟨pv, cv, hv⟩ := own_form hout
      subst hv
      clear hA hmem hinc hout hbw hnil hrg hgm hlen
      go_wp2
      go_ret
      obtain ⟨hA, hmem, hinc, hout, hbw⟩ := HE.out
      refine ⟨_, R, _, rfl, (own_str hout).2, hinc, fun s => ?_, hbw, fun k hk => by have := (hout.lt k hk.symm).1; omega⟩
      have h1 := hmem (bA s)
      rw [hA.1, hl0, HD0.out] at h1
      have h2 : (bA s).data.toList = s := rfl
      rw [h2] at h1
      simpa using h1
    · intro y c kl z zs w1 cnt1 hkx hlx hvc hat hrg1 hlt hg1 hs1 hen
      obtain ⟨y', hy1, hy2, hy3⟩ := wn_keyStr hkx
      injection hy1 with hy1
      subst hy1 hy2
      have hh0 : has D0 (kyB y) = true := has_true_of_atKey hat
      have hyn : y.data.toList ∈ ns := by have := HD0.out y; rw [hh0] at this; exact of_decide_eq_true this.symm
      have hz : z = .lit (.bool true) := (hat (.lit (.bool true))).symm.trans (HD1.out y hyn _)
      subst hz
      have hbv := bvN_true hvc
      rw [hbv] at hen
      have hgy : has Dg (kyB y) = false := by rw [hA.1, hlx]; simp
      have hyR : y.data.toList ∉ R := fun h => by have := (hmem y).1 h; rw [hgy] at this; cases this
      have hout1 := own_kept hout (fun k e => hg1.block k ((hout.lt k e).2) (fun e2 => by have := (hout.lt k e).1; have := Option.some.inj e2; omega))
      have hbw1 : Below w.heap.size w w1 := hbw.grown hg1 hbw.size (fun j hj => by cases hj; exact Nat.le_refl _)
      obtain ⟨pv, cv, hv⟩ := own_form hout1
      subst hv
      have hlt0 : R.length < 1099511627776 := by omega
      have HL0 := hid hlt0
      have hrl := hrg.left_eq
      have HA2 := hid (show w.heap.size + 1 ≤ w1.heap.size by rw [hs1]; exact hsz)
      have HA := hid (show RgA b n D0 w left cnt cnt1 Dg R y (.slice pv R.length cv) w1 from ⟨hA, hmem, hinc, hout1, hbw1, hyR, hgm, hat, hrg1, hlt, hlen, hnil, by rw [hs1]; exact hsz, hcs⟩)
      have HS := hid (own_str hout1).2
      have HRL := hid hrl
      clear hA hmem hinc hout hout1 hbw hbw1 hnil hrg hgm hlen hat hyR hkx hvc hrg1 hlt hg1 hbv hgy hyn hh0 hlx hsz hrl hs1
      go_wp2
      go_loopw [6] (fun i wr => RelRi R y.data.toList w1 i wr) (fun i _ => upN R.length i)
      case atStart => exact ⟨0, Nat.zero_le _, rfl, fun j s h => by omega, rfl⟩
      case round =>
        obtain ⟨k, hkl, rfl, hls, hww⟩ := hrel
        subst hww
        have gk : (0 : Int) ≤ (k : Int) := by omega
        have hkb : k < 1099511627776 := by omega
        have HLS := hid hls
        clear hls
        by_cases hkR : k < R.length
        · obtain ⟨g, c', hv', hgb, hgl⟩ := HA.out.2.2.2.1.form (by omega)
          injection hv' with e1 _ e2
          subst e1 e2
          obtain ⟨s, hs⟩ : ∃ s, R[k]? = some s := ⟨_, List.getElem?_eq_getElem hkR⟩
          have a0 : wr.cell? ⟨g, k, none⟩ = some (.string (bA s)) := by
            have h3 := HA.out.2.2.2.1.cells (g := g) rfl k (encStr s) (by rw [List.getElem?_map, hs]; rfl)
            rwa [add0E] at h3
          have gk1 : (k : Int) < (R.length : Int) := by omega
          have HK := hid hkR
          have HSS := hid hs
          by_cases hsl : s < y.data.toList
          · have gl : Op.bytesLess (bA s).toList y.toList = true := by rw [bytesLess_eq, Lib.toList_data, Lib.toList_data]; exact decide_eq_true hsl
            have HSL := hid hsl
            clear hkR hs hsl hkl hgb hgl
            go_wp2
            go_roundw
            case rel => exact ⟨k + 1, HK.out, by go_num, fun j s' hj hs' => by
              rcases Nat.lt_or_ge j k with h | h
              · exact HLS.out j s' h hs'
              · obtain rfl : j = k := by omega
                rw [HSS.out] at hs'
                injection hs' with hs'
                rw [← hs']
                exact HSL.out, rfl⟩
            case measure => have := HK.out; simp [upN, Go.RowKit.intOf]; omega
          · have gl : Op.bytesLess (bA s).toList y.toList = false := by rw [bytesLess_eq, Lib.toList_data, Lib.toList_data]; exact decide_eq_false hsl
            have hcap : R.length ≤ cv := by
              rcases HA.out.2.2.2.1.2 with ⟨h0, _⟩ | ⟨g', cap', cur, h1, _, _, h2, _⟩
              · cases h0
              · injection h1 with _ _ h1; omega
            have gkc : (k : Int) ≤ (cv : Int) := by omega
            have gkl : (k : Int) ≤ (R.length : Int) := by omega
            have gne : ¬ cv = k := by omega
            have gne2 : ¬ cv = 0 := by omega
            have hstop : ∀ s, R[k]? = some s → ¬ s < y.data.toList := fun s' hs' => by rw [hs] at hs'; injection hs' with hs'; rw [← hs']; exact hsl
            have HT := hid (fun (X : World) (hX : Below wr.heap.size wr X) => strTake (cap := cv) (HS.out.kept hX.size (fun k' e => hX.block k' (by injection e with e; rw [e]; exact hgl))) hkl)
            have HDr := hid (fun (X : World) (hX : Below wr.heap.size wr X) => strDrop (cap := cv - k) (HS.out.kept hX.size (fun k' e => hX.block k' (by injection e with e; rw [e]; exact hgl))) hkR)
            have HHN := hid (rg_hn R k y.data.toList HL0.out)
            have HW1 := hid ((RgI.start HA2.out (Below.refl wr.heap.size wr)).drew)
            have HW2 := hid (((RgI.start HA2.out (Below.refl wr.heap.size wr)).alloc (.cells #[.string y] 9)).drew)
            have HW3 := hid (show RgI (w.heap.size + 1) wr (((wr.alloc (.cells #[.string y] 9)).alloc (.cells #[] 9)).drew) (.slice (some ⟨wr.heap.size + 1, 0, none⟩) 0 0) 0 [] from by have h := (RgI.start HA2.out ((Below.refl wr.heap.size wr).alloc (Nat.le_refl _) (.cells #[.string y] 9))).drew; simpa using h)
            have HN2 := hid (rg_two wr y)
            have HN3 := hid (rg_three wr y)
            have HEND := hid (fun (v4 : Value) (w4 : World) (h4 : RgI (w.heap.size + 1) wr w4 v4 (0 + (R.take k).length + [y.data.toList].length + (R.drop k).length) ([] ++ R.take k ++ [y.data.toList] ++ R.drop k)) => rg_next HA.out hkl HLS.out hstop h4)
            have HMEA := hid (fun (v4 : Value) (w4 : World) (h4 : RgI (w.heap.size + 1) wr w4 v4 (0 + (R.take k).length + [y.data.toList].length + (R.drop k).length) ([] ++ R.take k ++ [y.data.toList] ++ R.drop k)) => rg_less HA.out h4)
            clear hkR hs hkl hgb hgl hcap hstop
            go_wp2
            go_region_held3 (fun _ => True) (trivial)
              (first
                | (refine step_app_rg rfl (.tmp 30) (.tmp 33) rfl rfl HW1.out (by rfl) (R.take k) _ (HT.out _ HW1.out.2.1) (by rfl) HHN.out.1 ?_; intro v2 w2 h2 gr2)
                | (refine step_app_rg rfl (.tmp 30) (.tmp 33) rfl rfl HW2.out (by rfl) (R.take k) _ (HT.out _ HW2.out.2.1) (by rfl) HHN.out.1 ?_; intro v2 w2 h2 gr2; have hSB := strB ((gr2.block _ HN2.out.2.1 HN2.out.2.2).trans HN2.out.1))
                | (refine step_app_rg rfl (.tmp 30) (.tmp 33) rfl rfl HW3.out (by rfl) (R.take k) _ (HT.out _ HW3.out.2.1) (by rfl) HHN.out.1 ?_; intro v2 w2 h2 gr2; have hSB := strB ((gr2.block _ HN3.out.2.1 HN3.out.2.2).trans HN3.out.1))
                | (refine step_app_rg rfl (.tmp 34) (.tmp 36) rfl rfl h2 (by rfl) [y.data.toList] _ hSB (by rfl) HHN.out.2.1 ?_; intro v3 w3 h3 gr3)
                | (refine step_app_rg rfl (.tmp 34) (.tmp 36) rfl rfl (h2.alloc _) (by rfl) [y.data.toList] _ (strB (heap_alloc_new w2 _)) (by rfl) HHN.out.2.1 ?_; intro v3 w3 h3 gr3)
                | (refine step_app_rg rfl (.tmp 37) (.tmp 40) rfl rfl h3 (by rfl) (R.drop k) _ (HDr.out _ h3.2.1) (by rfl) HHN.out.2.2 ?_; intro v4 w4 h4 gr4))
            all_goals (go_wp2; go_roundw)
            all_goals first
              | exact HEND.out _ _ h4
              | (rw [HRL.out]; exact HMEA.out _ _ h4)
        · obtain rfl : k = R.length := by omega
          have hstop : ∀ s, R[R.length]? = some s → ¬ s < y.data.toList := fun s' hs' => by rw [List.getElem?_eq_none (Nat.le_refl _)] at hs'; cases hs'
          by_cases hR0 : R = []
          · have hnl := HA.out.2.2.2.2.2.2.2.2.2.2.2.1 hR0
            injection hnl with e1 e3 e2
            subst e1 e2
            subst hR0
            have HT := hid (fun (X : World) (hX : Below wr.heap.size wr X) => strNil X none none 0 (fun _ => rfl))
            have HDr := hid (fun (X : World) (hX : Below wr.heap.size wr X) => strNil X none none 0 (fun _ => rfl))
            have HHN := hid (rg_hn ([] : List BL) 0 y.data.toList HL0.out)
            have HW1 := hid ((RgI.start HA2.out (Below.refl wr.heap.size wr)).drew)
            have HW2 := hid (((RgI.start HA2.out (Below.refl wr.heap.size wr)).alloc (.cells #[.string y] 9)).drew)
            have HW3 := hid (show RgI (w.heap.size + 1) wr (((wr.alloc (.cells #[.string y] 9)).alloc (.cells #[] 9)).drew) (.slice (some ⟨wr.heap.size + 1, 0, none⟩) 0 0) 0 [] from by have h := (RgI.start HA2.out ((Below.refl wr.heap.size wr).alloc (Nat.le_refl _) (.cells #[.string y] 9))).drew; simpa using h)
            have HN2 := hid (rg_two wr y)
            have HN3 := hid (rg_three wr y)
            have HEND := hid (fun (v4 : Value) (w4 : World) (h4 : RgI (w.heap.size + 1) wr w4 v4 (0 + (([] : List BL)).length + [y.data.toList].length + (([] : List BL)).length) ([] ++ ([] : List BL) ++ [y.data.toList] ++ ([] : List BL))) => rg_next HA.out hkl HLS.out hstop h4)
            have HMEA := hid (fun (v4 : Value) (w4 : World) (h4 : RgI (w.heap.size + 1) wr w4 v4 (0 + (([] : List BL)).length + [y.data.toList].length + (([] : List BL)).length) ([] ++ ([] : List BL) ++ [y.data.toList] ++ ([] : List BL))) => rg_less HA.out h4)
            clear hkR hkl hstop
            go_wp2
            go_region_held3 (fun _ => True) (trivial)
              (first
                | (refine step_app_rg rfl (.tmp 30) (.tmp 33) rfl rfl HW1.out (by rfl) ([] : List BL) _ (HT.out _ HW1.out.2.1) (by rfl) HHN.out.1 ?_; intro v2 w2 h2 gr2)
                | (refine step_app_rg rfl (.tmp 30) (.tmp 33) rfl rfl HW2.out (by rfl) ([] : List BL) _ (HT.out _ HW2.out.2.1) (by rfl) HHN.out.1 ?_; intro v2 w2 h2 gr2; have hSB := strB ((gr2.block _ HN2.out.2.1 HN2.out.2.2).trans HN2.out.1))
                | (refine step_app_rg rfl (.tmp 30) (.tmp 33) rfl rfl HW3.out (by rfl) ([] : List BL) _ (HT.out _ HW3.out.2.1) (by rfl) HHN.out.1 ?_; intro v2 w2 h2 gr2; have hSB := strB ((gr2.block _ HN3.out.2.1 HN3.out.2.2).trans HN3.out.1))
                | (refine step_app_rg rfl (.tmp 34) (.tmp 36) rfl rfl h2 (by rfl) [y.data.toList] _ hSB (by rfl) HHN.out.2.1 ?_; intro v3 w3 h3 gr3)
                | (refine step_app_rg rfl (.tmp 34) (.tmp 36) rfl rfl (h2.alloc _) (by rfl) [y.data.toList] _ (strB (heap_alloc_new w2 _)) (by rfl) HHN.out.2.1 ?_; intro v3 w3 h3 gr3)
                | (refine step_app_rg rfl (.tmp 37) (.tmp 40) rfl rfl h3 (by rfl) ([] : List BL) _ (HDr.out _ h3.2.1) (by rfl) HHN.out.2.2 ?_; intro v4 w4 h4 gr4))
            all_goals (go_wp2; go_roundw)
            all_goals first
              | exact HEND.out _ _ h4
              | (rw [HRL.out]; exact HMEA.out _ _ h4)
          · have hpos : 0 < R.length := List.length_pos_iff.2 hR0
            obtain ⟨g, c', hv', hgb, hgl⟩ := HA.out.2.2.2.1.form hpos
            injection hv' with e1 _ e2
            subst e1 e2
            have hcap : R.length ≤ cv := by
              rcases HA.out.2.2.2.1.2 with ⟨h0, _⟩ | ⟨g', cap', cur, h1, _, _, h2, _⟩
              · cases h0
              · injection h1 with _ _ h1; omega
            have gne2 : ¬ cv = 0 := by omega
            have gkc : (R.length : Int) ≤ (cv : Int) := by omega
            by_cases hcv : cv = R.length
            · subst hcv
              have HT := hid (fun (X : World) (hX : Below wr.heap.size wr X) => strTake (cap := R.length) (HS.out.kept hX.size (fun k' e => hX.block k' (by injection e with e; rw [e]; exact hgl))) hkl)
              have HDr := hid (fun (X : World) (hX : Below wr.heap.size wr X) => show StrAt X none (R.drop R.length) (.slice (some ⟨g, 0, none⟩) 0 0) from by rw [List.drop_length]; exact strNil X none _ 0 (fun _ => rfl))
              have HHN := hid (rg_hn R R.length y.data.toList HL0.out)
              have HW1 := hid ((RgI.start HA2.out (Below.refl wr.heap.size wr)).drew)
              have HW2 := hid (((RgI.start HA2.out (Below.refl wr.heap.size wr)).alloc (.cells #[.string y] 9)).drew)
              have HW3 := hid (show RgI (w.heap.size + 1) wr (((wr.alloc (.cells #[.string y] 9)).alloc (.cells #[] 9)).drew) (.slice (some ⟨wr.heap.size + 1, 0, none⟩) 0 0) 0 [] from by have h := (RgI.start HA2.out ((Below.refl wr.heap.size wr).alloc (Nat.le_refl _) (.cells #[.string y] 9))).drew; simpa using h)
              have HN2 := hid (rg_two wr y)
              have HN3 := hid (rg_three wr y)
              have HEND := hid (fun (v4 : Value) (w4 : World) (h4 : RgI (w.heap.size + 1) wr w4 v4 (0 + (R.take R.length).length + [y.data.toList].length + (R.drop R.length).length) ([] ++ R.take R.length ++ [y.data.toList] ++ R.drop R.length)) => rg_next HA.out hkl HLS.out hstop h4)
              have HMEA := hid (fun (v4 : Value) (w4 : World) (h4 : RgI (w.heap.size + 1) wr w4 v4 (0 + (R.take R.length).length + [y.data.toList].length + (R.drop R.length).length) ([] ++ R.take R.length ++ [y.data.toList] ++ R.drop R.length)) => rg_less HA.out h4)
              clear hkR hkl hgb hgl hcap hstop hpos hR0
              go_wp2
              go_region_held3 (fun _ => True) (trivial)
                (first
                  | (refine step_app_rg rfl (.tmp 30) (.tmp 33) rfl rfl HW1.out (by rfl) (R.take R.length) _ (HT.out _ HW1.out.2.1) (by rfl) HHN.out.1 ?_; intro v2 w2 h2 gr2)
                  | (refine step_app_rg rfl (.tmp 30) (.tmp 33) rfl rfl HW2.out (by rfl) (R.take R.length) _ (HT.out _ HW2.out.2.1) (by rfl) HHN.out.1 ?_; intro v2 w2 h2 gr2; have hSB := strB ((gr2.block _ HN2.out.2.1 HN2.out.2.2).trans HN2.out.1))
                  | (refine step_app_rg rfl (.tmp 30) (.tmp 33) rfl rfl HW3.out (by rfl) (R.take R.length) _ (HT.out _ HW3.out.2.1) (by rfl) HHN.out.1 ?_; intro v2 w2 h2 gr2; have hSB := strB ((gr2.block _ HN3.out.2.1 HN3.out.2.2).trans HN3.out.1))
                  | (refine step_app_rg rfl (.tmp 34) (.tmp 36) rfl rfl h2 (by rfl) [y.data.toList] _ hSB (by rfl) HHN.out.2.1 ?_; intro v3 w3 h3 gr3)
                  | (refine step_app_rg rfl (.tmp 34) (.tmp 36) rfl rfl (h2.alloc _) (by rfl) [y.data.toList] _ (strB (heap_alloc_new w2 _)) (by rfl) HHN.out.2.1 ?_; intro v3 w3 h3 gr3)
                  | (refine step_app_rg rfl (.tmp 37) (.tmp 40) rfl rfl h3 (by rfl) (R.drop R.length) _ (HDr.out _ h3.2.1) (by rfl) HHN.out.2.2 ?_; intro v4 w4 h4 gr4))
              all_goals (go_wp2; go_roundw)
              all_goals first
                | exact HEND.out _ _ h4
                | (rw [HRL.out]; exact HMEA.out _ _ h4)
            · have HT := hid (fun (X : World) (hX : Below wr.heap.size wr X) => strTake (cap := cv) (HS.out.kept hX.size (fun k' e => hX.block k' (by injection e with e; rw [e]; exact hgl))) hkl)
              have HDr := hid (fun (X : World) (hX : Below wr.heap.size wr X) => show StrAt X none (R.drop R.length) (.slice (some ⟨g, R.length, none⟩) 0 (cv - R.length)) from by rw [List.drop_length]; exact strNil X none _ _ (fun e => by cases e))
              have HHN := hid (rg_hn R R.length y.data.toList HL0.out)
              have HW1 := hid ((RgI.start HA2.out (Below.refl wr.heap.size wr)).drew)
              have HW2 := hid (((RgI.start HA2.out (Below.refl wr.heap.size wr)).alloc (.cells #[.string y] 9)).drew)
              have HW3 := hid (show RgI (w.heap.size + 1) wr (((wr.alloc (.cells #[.string y] 9)).alloc (.cells #[] 9)).drew) (.slice (some ⟨wr.heap.size + 1, 0, none⟩) 0 0) 0 [] from by have h := (RgI.start HA2.out ((Below.refl wr.heap.size wr).alloc (Nat.le_refl _) (.cells #[.string y] 9))).drew; simpa using h)
              have HN2 := hid (rg_two wr y)
              have HN3 := hid (rg_three wr y)
              have HEND := hid (fun (v4 : Value) (w4 : World) (h4 : RgI (w.heap.size + 1) wr w4 v4 (0 + (R.take R.length).length + [y.data.toList].length + (R.drop R.length).length) ([] ++ R.take R.length ++ [y.data.toList] ++ R.drop R.length)) => rg_next HA.out hkl HLS.out hstop h4)
              have HMEA := hid (fun (v4 : Value) (w4 : World) (h4 : RgI (w.heap.size + 1) wr w4 v4 (0 + (R.take R.length).length + [y.data.toList].length + (R.drop R.length).length) ([] ++ R.take R.length ++ [y.data.toList] ++ R.drop R.length)) => rg_less HA.out h4)
              clear hkR hkl hgb hgl hcap hstop hpos hR0
              go_wp2
              go_region_held3 (fun _ => True) (trivial)
                (first
                  | (refine step_app_rg rfl (.tmp 30) (.tmp 33) rfl rfl HW1.out (by rfl) (R.take R.length) _ (HT.out _ HW1.out.2.1) (by rfl) HHN.out.1 ?_; intro v2 w2 h2 gr2)
                  | (refine step_app_rg rfl (.tmp 30) (.tmp 33) rfl rfl HW2.out (by rfl) (R.take R.length) _ (HT.out _ HW2.out.2.1) (by rfl) HHN.out.1 ?_; intro v2 w2 h2 gr2; have hSB := strB ((gr2.block _ HN2.out.2.1 HN2.out.2.2).trans HN2.out.1))
                  | (refine step_app_rg rfl (.tmp 30) (.tmp 33) rfl rfl HW3.out (by rfl) (R.take R.length) _ (HT.out _ HW3.out.2.1) (by rfl) HHN.out.1 ?_; intro v2 w2 h2 gr2; have hSB := strB ((gr2.block _ HN3.out.2.1 HN3.out.2.2).trans HN3.out.1))
                  | (refine step_app_rg rfl (.tmp 34) (.tmp 36) rfl rfl h2 (by rfl) [y.data.toList] _ hSB (by rfl) HHN.out.2.1 ?_; intro v3 w3 h3 gr3)
                  | (refine step_app_rg rfl (.tmp 34) (.tmp 36) rfl rfl (h2.alloc _) (by rfl) [y.data.toList] _ (strB (heap_alloc_new w2 _)) (by rfl) HHN.out.2.1 ?_; intro v3 w3 h3 gr3)
                  | (refine step_app_rg rfl (.tmp 37) (.tmp 40) rfl rfl h3 (by rfl) (R.drop R.length) _ (HDr.out _ h3.2.1) (by rfl) HHN.out.2.2 ?_; intro v4 w4 h4 gr4))
              all_goals (go_wp2; go_roundw)
              all_goals first
                | exact HEND.out _ _ h4
                | (rw [HRL.out]; exact HMEA.out _ _ h4)
end Go.Proofs.Ytjpmnholpeidmaa

namespace Go.Proofs.Ytjpmnholpeidmaa
open Go.RowKit Go.Sort
set_option linter.unusedVariables false
attribute [local go_sem ↓] Go.wp_at_zero Go.wp_at_succ
/-- Whether it says so. -/
def isRf (s : ByteArray) (r : Rf) : Bool := decide (r.x = s)
def saidR (ss : List Rf) (s : ByteArray) : Bool := ss.any (isRf s)
def ridx (ss : List Rf) (s : ByteArray) : Int := match ss.findIdx? (isRf s) with | some i => (i : Int) | none => -1
def edC (s : BL) : List Value := [.int .i64 0, .int .i64 0, .int .i64 10, .string (bA s)]
def edF (ss : List Rf) (L : List BL) : List BL := L.filter (fun s => !saidR ss (bA s))
set_option maxHeartbeats 1000000 in
set_option maxRecDepth 100000 in
theorem saidOne_any (x : ByteArray) (a : Int) (nm : ByteArray) (bn : Nat) (w : World) (hn : w.cell? ⟨bn, 0, none⟩ = some (.string nm)) :
    Calls Try.prog 27 #[.agg #[.string x, .int .i64 a], .pointer (some ⟨bn, 0, none⟩)] w fun e w' => e = .returned (.bool (decide (x = nm))) ∧ Below w.heap.size w w' := by
  have hn' := cell_alloc hn
  have hb0 := fun o => (Below.refl w.heap.size w).alloc (Nat.le_refl _) o
  go_enter Try.func27, Try.ntmps27
  by_cases h2 : x = nm
  · have g2 : (x.toList == nm.toList) = true := (Lib.bytes_beq_iff _ _).2 h2
    have e : decide (x = nm) = true := by simp [h2]
    rw [e]
    clear h2 e
    go_wp2
    go_ret
    exact ⟨rfl, hb0 _⟩
  · have g2 : (x.toList == nm.toList) = false := (Lib.bytes_beq_false_iff _ _).2 h2
    have e : decide (x = nm) = false := by simp [h2]
    rw [e]
    clear h2 e
    go_wp2
    go_ret
    exact ⟨rfl, hb0 _⟩
def RelRx (ss : List Rf) (nm : ByteArray) (W : World) (i : Value) (wr : World) : Prop := ∃ k : Nat, k ≤ ss.length ∧ i = .int .i64 (k : Int) ∧ (∀ j r, j < k → ss[j]? = some r → isRf nm r = false) ∧ Below W.heap.size W wr
theorem ridx_hit {ss : List Rf} {nm : ByteArray} {k : Nat} {r : Rf} (h : ∀ j r, j < k → ss[j]? = some r → isRf nm r = false) (hk : ss[k]? = some r) (he : isRf nm r = true) : ss.findIdx? (isRf nm) = some k := by
  obtain ⟨h1, h2⟩ := List.getElem?_eq_some_iff.1 hk
  rw [List.findIdx?_eq_some_iff_getElem]
  refine ⟨h1, by rw [h2]; exact he, fun j hj => ?_⟩
  have := h j ss[j] hj (List.getElem?_eq_getElem (by omega))
  simp [this]
theorem ridx_miss {ss : List Rf} {nm : ByteArray} (h : ∀ j r, j < ss.length → ss[j]? = some r → isRf nm r = false) : ss.findIdx? (isRf nm) = none := by
  rw [List.findIdx?_eq_none_iff]
  intro x hx
  obtain ⟨j, hj⟩ := List.mem_iff_getElem?.1 hx
  exact h j x (List.getElem?_eq_some_iff.1 hj).1 hj
set_option maxHeartbeats 1000000 in
set_option maxRecDepth 100000 in
theorem indexRef_any (ss : List Rf) (p : Option Addr) (c : Nat) (nm : ByteArray) (bn : Nat) (w : World) (ok : Nat → Prop) (hok : ∀ k, ok k → k < w.heap.size) (hn : w.cell? ⟨bn, 0, none⟩ = some (.string nm)) (hS : SlAt ok w 2 rfC ss p) :
    Calls Try.prog 49 #[.slice p ss.length c, .func (.func 27) #[] #[.pointer (some ⟨bn, 0, none⟩)]] w fun e w' => e = .returned (.int .i64 (ridx ss nm)) ∧ Below w.heap.size w w' := by
  generalize hr : ridx ss nm = r
  have HR : Hid (ridx ss nm = r) := hr
  have hl := hS.1
  clear hr
  go_enter Try.func49, Try.ntmps49
  go_wp2
  go_loopw [8] (fun i wr => RelRx ss nm w i wr) (fun i _ => upN ss.length i)
  case atStart => exact ⟨0, Nat.zero_le _, rfl, fun j e h => by omega, Below.refl _ _⟩
  case round =>
    obtain ⟨k, hkl, rfl, hno, hbr⟩ := hrel
    by_cases hlt : k < ss.length
    · obtain ⟨g, hpg, hg, hF⟩ := hS.2 (by omega)
      subst hpg
      obtain ⟨e, he⟩ : ∃ e, ss[k]? = some e := ⟨_, List.getElem?_eq_getElem hlt⟩
      have hcg : ∀ o, wr.cell? ⟨g, o, none⟩ = w.cell? ⟨g, o, none⟩ := fun o => World.cell?_of_block (a := ⟨g, o, none⟩) (hbr.block g (hok g hg))
      have d0 := (hcg (k * 2 + 0)).trans (hF k e he 0 (.string e.x) rfl)
      have d1 := (hcg (k * 2 + 1)).trans (hF k e he 1 (.int .i64 (e.a : Int)) rfl)
      rw [Nat.add_zero] at d0
      have hn2 := (hbr.cell (World.block_lt_of_cell? w _ hn)).trans hn
      have gk : (0 : Int) ≤ (k : Int) := by omega
      have gk1 : (k : Int) < (ss.length : Int) := by omega
      have HL : Hid (k < ss.length) := hlt
      have HE : Hid (ss[k]? = some e) := he
      have HNO : Hid (∀ j r, j < k → ss[j]? = some r → isRf nm r = false) := hno
      have hkb : k < 1099511627776 := by omega
      clear hF hcg he hno hlt hkl hS
      cases hp : isRf nm e
      · go_wp2_with (first
          | (go_at_call 27; refine (saidOne_any e.x (e.a : Int) nm bn _ hn2).mono ?_; rintro e' w5 ⟨rfl, hb5⟩; (have hp2 : decide (e.x = nm) = false := hp); rw [hp2]))
        go_roundw
        case rel =>
          refine ⟨k + 1, by have := HL.out; omega, by go_num, fun j f hj hf => ?_, hbr.trans (hb5.mono hbr.size)⟩
          rcases Nat.lt_or_ge j k with h | h
          · exact HNO.out j f h hf
          · obtain rfl : j = k := by omega
            rw [HE.out] at hf
            injection hf with hf
            rw [← hf]
            exact hp
        case measure => have := HL.out; simp [upN, Go.RowKit.intOf]; omega
      · have hres : r = (k : Int) := by rw [← HR.out]; unfold ridx; rw [ridx_hit HNO.out HE.out hp]
        go_wp2_with (first
          | (go_at_call 27; refine (saidOne_any e.x (e.a : Int) nm bn _ hn2).mono ?_; rintro e' w5 ⟨rfl, hb5⟩; (have hp2 : decide (e.x = nm) = true := hp); rw [hp2]))
        go_ret
        exact ⟨by rw [hres]; rfl, hbr.trans (hb5.mono hbr.size)⟩
    · obtain rfl : k = ss.length := by omega
      have hres : r = -1 := by rw [← HR.out]; unfold ridx; rw [ridx_miss hno]
      clear hlt hkl hno hS
      go_wp2
      go_ret
      exact ⟨by rw [hres]; rfl, hbr⟩
theorem saidR_idx (ss : List Rf) (nm : ByteArray) : decide (ridx ss nm ≥ 0) = saidR ss nm := by
  unfold ridx saidR
  cases h : ss.findIdx? (isRf nm) with
  | none =>
    rw [List.findIdx?_eq_none_iff] at h
    have : ss.any (isRf nm) = false := by rw [List.any_eq_false]; intro x hx; simp [h x hx]
    rw [this]
    simp
  | some i =>
    obtain ⟨h1, h2, _⟩ := List.findIdx?_eq_some_iff_getElem.1 h
    have : ss.any (isRf nm) = true := List.any_eq_true.2 ⟨_, List.getElem_mem h1, h2⟩
    rw [this]
    simp
set_option maxHeartbeats 1000000 in
set_option maxRecDepth 100000 in
theorem contRef_any (ss : List Rf) (p : Option Addr) (c : Nat) (nm : ByteArray) (bn : Nat) (w : World) (ok : Nat → Prop) (hok : ∀ k, ok k → k < w.heap.size) (hn : w.cell? ⟨bn, 0, none⟩ = some (.string nm)) (hS : SlAt ok w 2 rfC ss p) :
    Calls Try.prog 28 #[.slice p ss.length c, .func (.func 27) #[] #[.pointer (some ⟨bn, 0, none⟩)]] w fun e w' => e = .returned (.bool (saidR ss nm)) ∧ Below w.heap.size w w' := by
  have HC := hid (indexRef_any ss p c nm bn w ok hok hn hS)
  have hx := saidR_idx ss nm
  generalize ridx ss nm = r at *
  generalize saidR ss nm = b at *
  go_enter Try.func28, Try.ntmps28
  go_wp2_with (first
    | (go_at_call 49; refine Calls.mono HC.out ?_; rintro e w2 ⟨rfl, hb2⟩))
  go_ret
  exact ⟨by first | rfl | (rw [← hx]; rfl) | simp, hb2⟩
end Go.Proofs.Ytjpmnholpeidmaa

namespace Go.Proofs.Ytjpmnholpeidmaa
open Go.RowKit Go.Sort
set_option linter.unusedVariables false
attribute [local go_sem ↓] Go.wp_at_zero Go.wp_at_succ
theorem own_low {w : World} {b b' size n : Nat} {e : TypeId} {v : Value} {xs : List Value} (h : w.ownsRow b e size v n xs) (hb : b' ≤ b) : w.ownsRow b' e size v n xs := by
  obtain ⟨h1, h2 | ⟨g, cap, cur, h2, h3, h4⟩⟩ := h
  · exact ⟨h1, .inl h2⟩
  · exact ⟨h1, .inr ⟨g, cap, cur, h2, Nat.le_trans hb h3, h4⟩⟩
theorem own_formD {w : World} {base st n : Nat} {e : TypeId} {v : Value} {xs : List Value} (h : w.ownsRow base e st v n xs) : ∃ p c, v = .slice p n c := by
  rcases h.2 with ⟨e0, h0⟩ | ⟨g, cap, _, e0, _⟩
  · subst h0; exact ⟨_, _, e0⟩
  · exact ⟨_, _, e0⟩
def RelEd (ss : List Rf) (R : List BL) (W : World) (v i : Value) (wr : World) : Prop := ∃ k : Nat, k ≤ R.length ∧ i = .int .i64 (k : Int) ∧ wr.ownsRow W.heap.size 60 4 v (edF ss (R.take k)).length ((edF ss (R.take k)).flatMap edC) ∧ Below W.heap.size W wr
theorem edF_yes {ss : List Rf} {R : List BL} {k : Nat} {s : BL} (h : R[k]? = some s) (hs : saidR ss (bA s) = true) : edF ss (R.take (k + 1)) = edF ss (R.take k) := by
  unfold edF
  rw [List.take_add_one, h, List.filter_append]
  simp [hs]
theorem edF_no {ss : List Rf} {R : List BL} {k : Nat} {s : BL} (h : R[k]? = some s) (hs : saidR ss (bA s) = false) : edF ss (R.take (k + 1)) = edF ss (R.take k) ++ [s] := by
  unfold edF
  rw [List.take_add_one, h, List.filter_append]
  simp [hs]
theorem edF_le (ss : List Rf) (R : List BL) (k : Nat) : (edF ss (R.take k)).length ≤ R.length := by
  unfold edF
  refine Nat.le_trans (List.length_filter_le _ _) ?_
  rw [List.length_take]
  omega
set_option maxHeartbeats 4000000 in
set_option maxRecDepth 100000 in
theorem ediags_any (l : List (Int × It)) (q : Option Addr) (c : Nat) (w : World) (ok : Nat → Prop) (hok : ∀ k, ok k → k < w.heap.size) (hR : RdF ok w l (.agg #[.slice q l.length c])) (hnE : ∀ e ∈ l, (esI e.2).length < 1099511627776) (i : Nat) (pp : Int) (it : It) (hit : l[i]? = some (pp, it)) (hn : (dfs l l.length (List.replicate l.length false, []) (i : Int)).2.length < 1099511627776) :
    Calls Try.prog 12 #[.agg #[.slice q l.length c], .int .i64 (i : Int)] w fun e w' => ∃ v, e = .returned v ∧ w'.ownsRow w.heap.size 60 4 v (edF it.ss (reaL l (i : Int))).length ((edF it.ss (reaL l (i : Int))).flatMap edC) ∧ Below w.heap.size w w' := by
  have hlen : l.length ≤ 1099511627776 := by obtain ⟨_, _, _, h, _⟩ := hR; exact h
  have hil := (List.getElem?_eq_some_iff.1 hit).1
  obtain ⟨i0, hi0, hz0, hz1, hz2⟩ := info_parts Try.infoDg
  have hmf : ∀ (fn : Go.Fn) (first cap : Array Value) (w : World), (Instr.makeFunc fn first cap).run Try.prog w = .ok (.func fn first cap) w := fun _ _ _ _ => rfl
  have hb1 := (Below.refl w.heap.size w).alloc (Nat.le_refl _) (.cells #[.slice q l.length c] 24)
  have y0 := one_new w (.slice q l.length c) 24
  have hRW : RdF (fun k => k < w.heap.size) (w.alloc (.cells #[.slice q l.length c] 24)) l (.agg #[.slice q l.length c]) := RdF.kept hR (fun k hk => hb1.block k (hok k hk)) (fun k hk => hok k hk)
  have e1 : (w.alloc (.cells #[.slice q l.length c] 24)).heap.size = w.heap.size + 1 := by simp
  have HC := hid (reached_any l q c (w.alloc (.cells #[.slice q l.length c] 24)) (fun k => k < w.heap.size) (fun k hk => by omega) hRW hnE (i : Int) hn)
  have hrl : (reaL l (i : Int)).length < 1099511627776 := Nat.lt_of_le_of_lt (risB_le _) hn
  generalize reaL l (i : Int) = R at *
  obtain ⟨g, vI, hq, hgo, hcv, hI⟩ := RdF.itemF hRW hit
  obtain ⟨p1, c1, p2, c2, p3, c3, p4, c4, rfl, hu1, hSs, hu2⟩ := hI
  clear hu1 hu2
  subst hq
  have i4 := hcv.get 4 _ rfl
  have HB1 := hid hb1
  have HRL := hid hrl
  have gi : (0 : Int) ≤ (i : Int) := by omega
  have gi1 : (i : Int) < (l.length : Int) := by omega
  have hib : i < 1099511627776 := by omega
  have HSs := hid hSs
  clear hR hok hb1 hRW hcv hSs hnE hn hit hrl
  go_enter Try.func12, Try.ntmps12
  go_wp2_with (first
    | (go_at_call 19; refine Calls.mono HC.out ?_; rintro e w2 ⟨v2, rfl, hS2, hb2⟩; have HN2 := hid hS2.lt; obtain ⟨D2, hS2', _⟩ := id hS2; obtain ⟨p2', c2', hv2, _⟩ := id hS2'; subst hv2; clear hS2 hS2'))
  generalize w.alloc (.cells #[.slice (some ⟨g, 0, none⟩) l.length c] 24) = W1 at *
  have hsz2 := hb2.size
  go_loopw [5, 13] (fun v j wr => RelEd it.ss R w2 v j wr) (fun _ j _ => upN R.length j)
  case atStart => exact ⟨0, Nat.zero_le _, rfl, World.ownsRow_nil _ _ _ _, Below.refl _ _⟩
  case round =>
    obtain ⟨k, hkl, rfl, hown, hbr⟩ := hrel
    obtain ⟨D2, hS2, hD2⟩ := HN2.out
    have z0 := (World.cell?_of_block (a := ⟨w.heap.size, 0, none⟩) ((hbr.block w.heap.size (by omega)).trans (hb2.block w.heap.size (by omega)))).trans y0
    have z4 := (World.cell?_of_block (a := ⟨g, i * 10 + 4, none⟩) ((hbr.block g (by omega)).trans (hb2.block g (by omega)))).trans i4
    obtain ⟨pv, cv, hv⟩ := own_formD hown
    subst hv
    by_cases hlt : k < R.length
    · obtain ⟨s, hs⟩ : ∃ s, R[k]? = some s := ⟨_, List.getElem?_eq_getElem hlt⟩
      obtain ⟨p', cap', e', _, h2⟩ := hS2
      injection e' with e5 _ e6
      subst e5 e6
      obtain ⟨g2, o2, e7, e8, e9, e10⟩ := h2 (by omega)
      subst e7
      have a0 : wr.cell? ⟨g2, o2 + k, none⟩ = some (.string (bA s)) := (World.cell?_of_block (a := ⟨g2, o2 + k, none⟩) (hbr.block g2 e9)).trans (e10 k s hs)
      have gk : (0 : Int) ≤ (k : Int) := by omega
      have gk1 : (k : Int) < (R.length : Int) := by omega
      have hkb : k < 1099511627776 := by have := HRL.out; omega
      have hba := (Below.refl wr.heap.size wr).alloc (Nat.le_refl _) (.cells #[.string (bA s)] 9)
      have x0 := one_new wr (.string (bA s)) 9
      have za := cell_alloc z0
      have zb := cell_alloc z4
      have hszr := hbr.size
      have HCt := hid (contRef_any it.ss p2 c2 (bA s) wr.heap.size (wr.alloc (.cells #[.string (bA s)] 9)) (fun k => k < w.heap.size) (fun k hk => by have := hba.size; omega) x0 (HSs.out.kept (fun k hk => (hba.block k (by omega)).trans ((hbr.block k (by omega)).trans (hb2.block k (by omega))))))
      have HL := hid hlt
      have HO := hid (And.intro hown (And.intro hbr hba))
      have HLE := hid (edF_le it.ss R k)
      have HX := hid x0
      cases hsd : saidR it.ss (bA s)
      · have HE := hid (edF_no hs hsd)
        rw [hsd] at HCt
        clear hsd hs e8 e9 e10 h2 hD2 hown hba x0 hlt hkl
        have hmax : (edF it.ss (R.take k)).length + 1 ≤ maxLen := by have := HLE.out; have := HRL.out; unfold maxLen; omega
        have hbyt : ((edF it.ss (R.take k)).length + 1) * 40 ≤ 140737488355328 := by have := HLE.out; have := HRL.out; omega
        go_wp2_with (first
          | (go_at_call 28; refine Calls.mono HCt.out ?_; rintro e w5 ⟨rfl, hb5⟩; have x5 := (World.cell?_of_block (a := ⟨wr.heap.size, 0, none⟩) (hb5.block wr.heap.size (by have := HO.out.2.2; simp))).trans HX.out; have hO5 := own_kept (HO.out.1.alloc (.cells #[.string (bA s)] 9)) (fun z e => hb5.block z ((HO.out.1.alloc (.cells #[.string (bA s)] 9)).lt z e).2); have HNW := hid (World.news_of_block (heap_alloc_new w5 (.cells #[.int .i64 0, .int .i64 0, .int .i64 10, .string (bA s)] 60))); have HO5 := hid (hO5.alloc (.cells #[.int .i64 0, .int .i64 0, .int .i64 10, .string (bA s)] 60)); have HZ5 := hid hb5; have hz5 : w2.heap.size ≤ (w5.alloc (.cells #[.int .i64 0, .int .i64 0, .int .i64 10, .string (bA s)] 60)).heap.size := (by have := hb5.size; simp at this; simp; omega); clear hO5)
          | (at_builtin; refine wpList_append_lies _ rfl (.tmp 27) (.tmp 30) 33 rfl w2.heap.size 60 i0 _ 4 40 Try.underlying33 hi0 hz0 hz1 hz2 rfl (by decide) _ _ _ rfl HO5.out ⟨w5.heap.size, 0, none⟩ 1 1 [.int .i64 0, .int .i64 0, .int .i64 10, .string (bA s)] rfl rfl HNW.out (by intro u hu; simp at hu; rcases hu with rfl | rfl | rfl <;> rfl) (by decide) hmax hbyt hz5 _ rfl ?_; intro g6 cap6 w6 hown6 hgrow6 hat6 hlt6))
        go_roundw
        case rel =>
          refine ⟨k + 1, HL.out, by go_num, ?_, ?_⟩
          · rw [HE.out, List.length_append, List.flatMap_append]
            simpa [edC] using hown6
          · have hba5 : Below w2.heap.size w2 w5 := (HO.out.2.1.trans (HO.out.2.2.mono (by omega))).trans (HZ5.out.mono (by simp; omega))
            exact (hba5.alloc (by have := HZ5.out.size; simp at this; omega) _).grown hgrow6 hz5 (fun z e => (HO5.out.lt z e).1)
        case measure => have := HL.out; simp [upN, Go.RowKit.intOf]; omega
      · have HE := hid (edF_yes hs hsd)
        rw [hsd] at HCt
        clear hsd hs e8 e9 e10 h2 hD2 hown hba x0 hlt hkl
        go_wp2_with (first
          | (go_at_call 28; refine Calls.mono HCt.out ?_; rintro e w5 ⟨rfl, hb5⟩))
        go_roundw
        case rel =>
          refine ⟨k + 1, HL.out, by go_num, ?_, ?_⟩
          · rw [HE.out]
            exact own_kept (HO.out.1.alloc _) (fun z e => hb5.block z ((HO.out.1.alloc _).lt z e).2)
          · exact (HO.out.2.1.trans (HO.out.2.2.mono (by omega))).trans (hb5.mono (by simp; omega))
        case measure => have := HL.out; simp [upN, Go.RowKit.intOf]; omega
    · obtain rfl : k = R.length := by omega
      have HO := hid (And.intro hown hbr)
      rw [List.take_length] at HO ⊢
      clear hlt hkl hown hS2 hD2
      go_wp2
      go_ret
      exact ⟨_, rfl, own_low HO.out.1 (by omega), HB1.out.trans ((hb2.mono (by omega)).trans (HO.out.2.mono (by omega)))⟩
end Go.Proofs.Ytjpmnholpeidmaa


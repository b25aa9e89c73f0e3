/- Rows one behind the other: append, whatever is appended. -/
import Derived.Test.YtbkihppmikjcoaaDoorFrBytes
import Derived.Laws.AppendOwnNone
namespace Go.Proofs.YtbkihppmikjcoaaDoor
open Go.RowKit
set_option linter.unusedVariables false
attribute [local go_sem ↓] Go.wp_at_zero Go.wp_at_succ
/-- append, kept as it is. -/
def appE (P : Program) (ts : Array TypeId) (ty : TypeId) (vs : Array Value) (w : World) := (Builtin.append_ ts ty vs).run P w
theorem appE_hide (P : Program) (ρ : Operand → Value) (dst : Option Tmp) (xs : Array Operand) (ats : Array TypeId) (ty : TypeId) (pos : String) (after : Array Edge) (guard : Option (Nat × Bool)) (w : World) :
    (execOp ρ { dst, op := .call { callee := .builtin .append, args := xs, argTypes := ats }, type := ty, pos, after, guard }).run P w = (appE P ats ty (xs.map ρ) w).andThen fun v w' => .ok (.value v) w' := by
  show (do pure (Next.value (← Builtin.append_ ats ty (xs.map ρ))) : Sem Next).run P w = _
  simp only [Sem.run_bind, Sem.run_pure]
  rfl
/-- Bytes behind bytes. -/
theorem app_bytes {base : Nat} {w : World} {s v : Value} {bs A : List UInt8} (ho : OwnB base w s bs) (hb : base ≤ w.heap.size) (hv : BytIn w v A) (hl : bs.length + A.length ≤ 1099511627776) :
    ∃ v' w', appE Tryd.prog #[23, 23] 23 #[s, v] w = .ok v' w' ∧ OwnB base w' v' (bs ++ A) ∧ w.grownBy w' s.ownBlock := by
  obtain ⟨i0, hi0, hz0, hz1, hz2⟩ := info_parts Tryd.infoByte
  obtain ⟨p, c, rfl, hcap, hz, hh⟩ := hv
  by_cases hA : A = []
  · subst hA
    cases p with
    | none =>
      have hc := hz rfl
      subst hc
      have := run_append_owned_none (P := Tryd.prog) (w := w) base 23 23 5 i0 1 Tryd.underlying23 hi0 s bs.length _ ho
      exact ⟨s, w, this, by rw [List.append_nil]; exact ho, ⟨rfl, rfl, rfl, Nat.le_refl _, fun _ _ _ => rfl⟩⟩
    | some ad =>
      obtain ⟨v', w', h1, h2, h3, _⟩ := run_append_own (P := Tryd.prog) w base 23 23 5 i0 _ 1 1 Tryd.underlying23 hi0 hz0 hz1 hz2 rfl (by decide) s bs.length _ ho ad 0 c [] rfl (fun j u h => by simp at h) (fun u h => by cases h) (by unfold maxLen; omega) (by omega) hb
      exact ⟨v', w', h1, ownB_mk (m := []) h2 rfl, h3⟩
  · obtain ⟨g, o, rfl, hg, hby⟩ := hh (List.length_pos_iff.2 hA)
    obtain ⟨v', w', h1, h2, h3, _⟩ := run_append_own (P := Tryd.prog) w base 23 23 5 i0 _ 1 1 Tryd.underlying23 hi0 hz0 hz1 hz2 rfl (by decide) s bs.length _ ho ⟨g, o, none⟩ A.length c (Lib.byteCells A) (by simp [Lib.byteCells]) (fun j u h => by
        simp only [Lib.byteCells, List.getElem?_map] at h
        cases hj : A[j]? with
        | none => rw [hj] at h; cases h
        | some b =>
          rw [hj] at h
          simp at h
          subst h
          rw [show (⟨g, o, none⟩ : Addr).add j = ⟨g, o + j, none⟩ by unfold Addr.add; split <;> simp_all]
          exact hby j b hj) (fun u h => by
        simp only [Lib.byteCells, List.mem_map] at h
        obtain ⟨b, _, rfl⟩ := h
        rfl) (by unfold maxLen; omega) (by omega) hb
    exact ⟨v', w', h1, ownB_mk (m := A) h2 rfl, h3⟩
/-- Questions of which each one's cells are known. -/
def akX (L : List (Ak × Option Addr × Nat)) : List Value := L.flatMap (fun p => akC p.1 p.2.1 p.2.2)
structure OwnX (base : Nat) (w : World) (v : Value) (L : List (Ak × Option Addr × Nat)) : Prop where
  own : w.ownsRow base 26 6 v L.length (akX L)
  args : ∀ p ∈ L, 0 < p.1.args.length → ∃ g o, p.2.1 = some ⟨g, o, none⟩ ∧ g < base ∧ Nums w g o p.1.args
theorem akX_len (L : List (Ak × Option Addr × Nat)) : (akX L).length = L.length * 6 := by
  induction L with
  | nil => rfl
  | cons t l ih => simp only [akX, List.flatMap_cons, List.length_append, List.length_cons] at ih ⊢; rw [ih]; simp [akC]; omega
theorem akX_at (L : List (Ak × Option Addr × Nat)) (j : Nat) (p : Ak × Option Addr × Nat) (h : L[j]? = some p) (i : Nat) (hi : i < 6) : (akX L)[j * 6 + i]? = (akC p.1 p.2.1 p.2.2)[i]? := by
  induction L generalizing j with
  | nil => cases h
  | cons q l ih =>
    cases j with
    | zero =>
      simp at h; subst h
      rw [show akX (q :: l) = akC q.1 q.2.1 q.2.2 ++ akX l from rfl, Nat.zero_mul, Nat.zero_add, List.getElem?_append_left (by simp [akC]; omega)]
    | succ j =>
      simp at h
      have := ih j h
      rw [show akX (q :: l) = akC q.1 q.2.1 q.2.2 ++ akX l from rfl, show (j + 1) * 6 + i = (akC q.1 q.2.1 q.2.2).length + (j * 6 + i) by simp [akC]; omega, List.getElem?_append_right (Nat.le_add_right _ _), Nat.add_sub_cancel_left]
      exact this
/-- What lies there, one by one. -/
theorem Aks.list {w : World} {g o : Nat} : ∀ {l : List Ak}, Aks w g o l → ∃ L : List (Ak × Option Addr × Nat), L.map (·.1) = l ∧ (∀ j u, (akX L)[j]? = some u → w.cell? ⟨g, o + j, none⟩ = some u) ∧ ∀ p ∈ L, ArgIn w p.2.1 p.1.args := by
  intro l h
  have hx : ∀ n, n ≤ l.length → ∃ L : List (Ak × Option Addr × Nat), L.map (·.1) = l.take n ∧ (∀ j u, (akX L)[j]? = some u → w.cell? ⟨g, o + j, none⟩ = some u) ∧ ∀ p ∈ L, ArgIn w p.2.1 p.1.args := by
    intro n
    induction n with
    | zero => exact fun _ => ⟨[], by simp, fun j u hu => by simp [akX] at hu, fun p hp => by cases hp⟩
    | succ n ih =>
      intro hn
      obtain ⟨L, h1, h2, h3⟩ := ih (by omega)
      obtain ⟨a, ha⟩ : ∃ a, l[n]? = some a := ⟨_, List.getElem?_eq_getElem (by omega)⟩
      obtain ⟨p, c, h4, h5⟩ := h n a ha
      have hLn : L.length = n := by
        have := congrArg List.length h1
        rw [List.length_map, List.length_take] at this
        omega
      refine ⟨L ++ [(a, p, c)], by rw [List.map_append, h1, List.take_add_one, ha]; rfl, fun j u hu => ?_, fun q hq => ?_⟩
      · rw [show akX (L ++ [(a, p, c)]) = akX L ++ akC a p c by simp [akX]] at hu
        rcases Nat.lt_or_ge j (akX L).length with hj | hj
        · rw [List.getElem?_append_left hj] at hu
          exact h2 j u hu
        · rw [List.getElem?_append_right hj] at hu
          have h6 := h4 _ u hu
          rw [akX_len, hLn] at h6 hj
          rw [show o + n * 6 + (j - n * 6) = o + j by omega] at h6
          exact h6
      · rcases List.mem_append.1 hq with hq | hq
        · exact h3 q hq
        · obtain rfl := List.mem_singleton.1 hq
          exact h5
  obtain ⟨L, h1, h2, h3⟩ := hx l.length (Nat.le_refl _)
  exact ⟨L, by rw [h1, List.take_length], h2, h3⟩
theorem ArgIn.low {w : World} {p : Option Addr} {l : List Int} (h : ArgIn w p l) {base : Nat} (hb : w.heap.size ≤ base) : 0 < l.length → ∃ g o, p = some ⟨g, o, none⟩ ∧ g < base ∧ Nums w g o l := fun hl => by
  obtain ⟨g, o, e, h1, h2⟩ := h hl
  exact ⟨g, o, e, by omega, h2⟩
theorem OwnX.in_ {base : Nat} {w : World} {v : Value} {L : List (Ak × Option Addr × Nat)} (h : OwnX base w v L) (hb : base ≤ w.heap.size) : AksIn w v (L.map (·.1)) := by
  obtain ⟨h1, h2⟩ := h
  by_cases hn : 0 < L.length
  · obtain ⟨g, cap, hv⟩ : ∃ g cap, v = .slice (some ⟨g, 0, none⟩) L.length cap := by
      obtain ⟨_, ⟨_, h0⟩ | ⟨g, cap, cur, hv, _⟩⟩ := h1
      · omega
      · exact ⟨g, cap, hv⟩
    subst hv
    refine ⟨some ⟨g, 0, none⟩, cap, by rw [List.length_map], nofun, fun _ => ⟨g, 0, rfl, (h1.lt g rfl).2, fun j a hj => ?_⟩⟩
    rw [List.getElem?_map] at hj
    cases hp : L[j]? with
    | none => rw [hp] at hj; cases hj
    | some p =>
      rw [hp] at hj
      simp at hj
      subst hj
      refine ⟨p.2.1, p.2.2, fun i u hu => ?_, fun hl => ?_⟩
      · have hi : i < 6 := by
          have := (List.getElem?_eq_some_iff.1 hu).1
          simpa [akC] using this
        have := h1.cells (g := g) rfl (j * 6 + i) u (by rw [akX_at L j p hp i hi]; exact hu)
        rw [show (⟨g, 0, none⟩ : Addr).add (j * 6 + i) = ⟨g, 0 + (j * 6 + i), none⟩ by unfold Addr.add; split <;> simp_all, ← Nat.add_assoc] at this
        exact this
      · obtain ⟨g2, o2, e, h3, h4⟩ := h2 p (List.mem_of_getElem? hp) hl
        exact ⟨g2, o2, e, by omega, h4⟩
  · have hL : L = [] := List.length_eq_zero_iff.1 (by omega)
    subst hL
    obtain ⟨_, ⟨hv, h0⟩ | ⟨g, cap, cur, hv, _⟩⟩ := h1
    · exact ⟨none, 0, hv, fun _ => rfl, fun h => absurd h (by simp)⟩
    · exact ⟨some ⟨g, 0, none⟩, cap, hv, nofun, fun h => absurd h (by simp)⟩
theorem akX_one (L : List (Ak × Option Addr × Nat)) : ∀ u ∈ akX L, u.oneCell' = true := by
  intro u hu
  simp only [akX, List.mem_flatMap] at hu
  obtain ⟨p, _, hu⟩ := hu
  simp only [akC, List.mem_cons, List.not_mem_nil, or_false] at hu
  rcases hu with rfl | rfl | rfl | rfl | rfl | rfl <;> rfl
theorem OwnX.grown {base : Nat} {w w' : World} {s v' : Value} {L L' : List (Ak × Option Addr × Nat)} (ho : OwnX base w s L) (hb : base ≤ w.heap.size) (hg : w.grownBy w' s.ownBlock) (h : w'.ownsRow base 26 6 v' (L.length + L'.length) (akX L ++ akX L'))
    (hL : ∀ p ∈ L', 0 < p.1.args.length → ∃ g o, p.2.1 = some ⟨g, o, none⟩ ∧ g < base ∧ Nums w g o p.1.args) : OwnX base w' v' (L ++ L') := by
  refine ⟨?_, fun p hp hl => ?_⟩
  · rw [List.length_append, show akX (L ++ L') = akX L ++ akX L' by simp [akX]]
    exact h
  · obtain ⟨g, o, e, h1, h2⟩ : ∃ g o, p.2.1 = some ⟨g, o, none⟩ ∧ g < base ∧ Nums w g o p.1.args := by
      rcases List.mem_append.1 hp with hp | hp
      · exact ho.args p hp hl
      · exact hL p hp hl
    exact ⟨g, o, e, h1, h2.kept (hg.block g (by omega) (fun e2 => by have := (ho.own.lt g e2.symm).1; omega))⟩
/-- Questions behind questions. -/
theorem app_asks {base : Nat} {w w0 : World} {s v : Value} {L : List (Ak × Option Addr × Nat)} {m : List Ak} (ho : OwnX base w s L) (hb : base ≤ w.heap.size) (hv : AksIn w0 v m) (h0 : w0.heap.size ≤ base) (hbel : Below w0.heap.size w0 w) (hl : L.length + m.length ≤ 1099511627776) :
    ∃ v' w' L', appE Tryd.prog #[22, 22] 22 #[s, v] w = .ok v' w' ∧ OwnX base w' v' (L ++ L') ∧ L'.map (·.1) = m ∧ w.grownBy w' s.ownBlock := by
  obtain ⟨i0, hi0, hz0, hz1, hz2⟩ := info_parts Tryd.infoAk
  obtain ⟨p, c, rfl, hz, hh⟩ := hv
  by_cases hA : m = []
  · subst hA
    cases p with
    | none =>
      have hc := hz rfl
      subst hc
      have := run_append_owned_none (P := Tryd.prog) (w := w) base 22 22 26 i0 6 Tryd.underlying22 hi0 s L.length _ ho.own
      exact ⟨s, w, [], this, by rw [List.append_nil]; exact ho, rfl, ⟨rfl, rfl, rfl, Nat.le_refl _, fun _ _ _ => rfl⟩⟩
    | some ad =>
      obtain ⟨v', w', h1, h2, h3, _⟩ := run_append_own (P := Tryd.prog) w base 22 22 26 i0 _ 6 72 Tryd.underlying22 hi0 hz0 hz1 hz2 rfl (by decide) s L.length _ ho.own ad 0 c [] rfl (fun j u h => by simp at h) (fun u h => by cases h) (by simp at hl; unfold maxLen; omega) (by simp at hl; omega) hb
      exact ⟨v', w', [], h1, ho.grown hb h3 (L' := []) h2 (fun p hp => by cases hp), rfl, h3⟩
  · obtain ⟨g, o, rfl, hg, hak⟩ := hh (List.length_pos_iff.2 hA)
    obtain ⟨L', hL1, hL2, hL3⟩ := hak.list
    have hlen : L'.length = m.length := by have := congrArg List.length hL1; rw [List.length_map] at this; exact this
    have kc : ∀ j, w.cell? ⟨g, j, none⟩ = w0.cell? ⟨g, j, none⟩ := fun j => World.cell?_of_block (a := ⟨g, j, none⟩) (hbel.block g hg)
    obtain ⟨v', w', h1, h2, h3, _⟩ := run_append_own (P := Tryd.prog) w base 22 22 26 i0 _ 6 72 Tryd.underlying22 hi0 hz0 hz1 hz2 rfl (by decide) s L.length _ ho.own ⟨g, o, none⟩ m.length c (akX L') (by rw [akX_len, hlen]) (fun j u h => by
        rw [show (⟨g, o, none⟩ : Addr).add j = ⟨g, o + j, none⟩ by unfold Addr.add; split <;> simp_all, kc]
        exact hL2 j u h) (akX_one L') (by unfold maxLen; omega) (by omega) hb
    rw [← hlen] at h2
    refine ⟨v', w', L', h1, ho.grown hb h3 h2 (fun p hp hl => ?_), hL1, h3⟩
    obtain ⟨g2, o2, e, h4, h5⟩ := hL3 p hp hl
    exact ⟨g2, o2, e, by omega, h5.kept (hbel.block g2 h4)⟩
end Go.Proofs.YtbkihppmikjcoaaDoor

/- Arguments as data: bytes, and questions. -/
import Derived.Test.YtbkihppmikjcoaaDoorFrLaid
import Derived.Deep.Slices
import Derived.ChangeOld
import Derived.Carry
namespace Go.Proofs.YtbkihppmikjcoaaDoor
open Go.ChangeShapes Go.WideShapes Go.ChangeAt Go.RowKit
set_option linter.unusedVariables false
theorem bulk_one {H : Type} (d : DataW H) : 1 ≤ Rows.uptoBulk d := by
  cases d with
  | lit l => cases l <;> simp [Rows.uptoBulk]
  | nil => simp [Rows.uptoBulk]
  | ptr d => simp [Rows.uptoBulk]
  | slice elems spare => simp [Rows.uptoBulk]
  | agg parts => simp [Rows.uptoBulk]
  | iface t d => simp [Rows.uptoBulk]
  | map entries => simp [Rows.uptoBulk]
  | held h => simp [Rows.uptoBulk]
theorem bulk_len {H : Type} (l : List (DataW H)) : l.length ≤ Rows.uptoBulkAll l := by
  induction l with
  | nil => simp [Rows.uptoBulkAll]
  | cons x r ih => have := bulk_one x; simp only [Rows.uptoBulkAll, List.length_cons]; omega
theorem bulk_slice {H : Type} (elems spare : List (DataW H)) : elems.length ≤ Rows.uptoBulk (.slice elems spare) := by
  have h1 := bulk_len elems
  simp only [Rows.uptoBulk]
  omega
theorem bulk_bound {H : Type} {l : List (DataW H)} (hk : Rows.uptoSmall H l = true) : Rows.uptoBulkAll l ≤ 1048576 := of_decide_eq_true hk
section
variable {H : Type} {enc : TypeId × Value → H} {W : World} {base : Nat} {v : Value} {d : DataW H} {p : List MemPlace}
/-- An argument of bytes. -/
theorem bytes_open (hv : Value.okWide Tryd.prog W .any base 23 v) (h : DataW.Trod enc Tryd.prog W 0 (fun _ => true) true 23 v d p) : ∃ B : List UInt8, BytIn W v B ∧ B.length ≤ Rows.uptoBulk d := by
  obtain ⟨a0, len, cap, rfl⟩ := okWide_slice Tryd.underlying23 hv
  obtain ⟨fuel, hf⟩ := h
  rcases open_ints Tryd.underlying23 Tryd.underlying5 cellsB (by simpa [Value.cells] using hf) with ⟨hcs, hx⟩ | ⟨a, len', cap', zs, hcs, _, hl, hm, hz, hx, hcell, hwz⟩
  · simp at hcs
    obtain ⟨rfl, rfl, rfl⟩ := hcs
    exact ⟨[], ⟨none, 0, rfl, Nat.le_refl _, fun _ => rfl, fun h => absurd h (by simp)⟩, Nat.zero_le _⟩
  · simp at hcs
    obtain ⟨rfl, rfl, rfl⟩ := hcs
    simp at hz
    have hB : ((zs.take len).map (fun n => UInt8.ofNat n.toNat)).length = len := by rw [List.length_map, List.length_take]; omega
    refine ⟨(zs.take len).map (fun n => UInt8.ofNat n.toNat), ⟨some a, cap, by rw [hB], by rw [hB]; exact hl, nofun, fun hp => ?_⟩, ?_⟩
    · rw [hB] at hp
      obtain ⟨b, off, rfl, hc⟩ := ints_at hcell (by omega)
      refine ⟨b, off, rfl, World.block_lt_of_cell? W _ (hc 0 (by omega)), fun j x hj => ?_⟩
      rw [List.getElem?_map] at hj
      cases hz2 : (zs.take len)[j]? with
      | none => rw [hz2] at hj; cases hj
      | some n =>
        rw [hz2] at hj
        simp at hj
        subst hj
        have hjl : j < len := by
          have := (List.getElem?_eq_some_iff.1 hz2).1
          rw [List.length_take] at this
          omega
        rw [List.getElem?_take, if_pos hjl] at hz2
        have hwn := bounds_u8 (hwz n (List.mem_of_getElem? hz2))
        rw [hc j (by omega), List.getD_eq_getElem?_getD, hz2]
        congr 2
        simp
        omega
    · simp only [Prod.mk.injEq] at hx
      rw [hx.1, hB]
      refine Nat.le_trans ?_ (bulk_slice _ _)
      simp [lits]
      omega
theorem cellsAk : Tryd.prog.cellsOf 26 = 6 := by kernel_rfl
theorem cellsLi : Tryd.prog.cellsOf 24 = 1 := by kernel_rfl
/-- A question's cells as data. -/
theorem ask_open {n : Nat} {cs : List Value} {x : DataW H × List MemPlace} (h : DataW.trod enc Tryd.prog W 0 (fun _ => true) true n 26 cs = some x) :
    ∃ (a : Ak) (q : Option Addr) (c : Nat), a.ok ∧ cs = akC a q c ∧ ArgIn W q a.args := by
  obtain ⟨xs, n, _, _, hl, hlen, hf⟩ := DataW.trod_struct Tryd.underlying26 h
  rw [cellsAk] at hl
  match cs, hl with
  | [c0, c1, c2, c3, c4, c5], _ =>
  match xs, hlen with
  | [y0, y1, y2, y3, y4, y5], _ =>
  have h0 := hf 0 _ rfl
  have h1 := hf 1 _ rfl
  have h2 := hf 2 _ rfl
  have h3 := hf 3 _ rfl
  have h4 := hf 4 _ rfl
  have h5 := hf 5 _ rfl
  obtain ⟨i, e0, _, w0⟩ := DataW.trod_int Tryd.underlying3 h0
  obtain ⟨k, e1, _, w1⟩ := DataW.trod_int Tryd.underlying3 h1
  obtain ⟨f, e2, _, w2⟩ := DataW.trod_int Tryd.underlying3 h2
  obtain ⟨t, e3, _, w3⟩ := DataW.trod_int Tryd.underlying3 h3
  obtain ⟨s, e4, _, w4⟩ := DataW.trod_string Tryd.underlying9 h4
  simp [cellsI, cellsS] at e0 e1 e2 e3 e4
  subst e0 e1 e2 e3 e4
  rcases open_ints Tryd.underlying24 Tryd.underlying3 cellsI h5 with ⟨hcs, hx⟩ | ⟨a, len', cap', zs, hcs, _, hl, hm, hz, hx, hcell, hwz⟩
  · simp [cellsLi] at hcs
    subst hcs
    exact ⟨⟨i, k, f, t, s.data.toList, []⟩, none, 0, ⟨bounds_i64 w0, bounds_i64 w1, bounds_i64 w2, bounds_i64 w3, fun n hn => by cases hn⟩, by simp [akC, ba_of], fun h => absurd h (by simp)⟩
  · simp [cellsLi] at hcs
    subst hcs
    simp at hz
    have hB : (zs.take len').length = len' := by rw [List.length_take]; omega
    refine ⟨⟨i, k, f, t, s.data.toList, zs.take len'⟩, some a, cap', ⟨bounds_i64 w0, bounds_i64 w1, bounds_i64 w2, bounds_i64 w3, fun n hn => bounds_i64 (hwz n (List.mem_of_mem_take hn))⟩, by simp [akC, ba_of, hB], fun hp => ?_⟩
    rw [hB] at hp
    obtain ⟨b, off, rfl, hc⟩ := ints_at hcell (by omega)
    refine ⟨b, off, rfl, World.block_lt_of_cell? W _ (hc 0 (by omega)), fun j n hj => ?_⟩
    have hjl : j < len' := by
      have := (List.getElem?_eq_some_iff.1 hj).1
      rw [List.length_take] at this
      omega
    rw [List.getElem?_take, if_pos hjl] at hj
    rw [hc j (by omega), List.getD_eq_getElem?_getD, hj]
    rfl
/-- An argument of questions. -/
theorem asks_open (hv : Value.okWide Tryd.prog W .any base 22 v) (h : DataW.Trod enc Tryd.prog W 0 (fun _ => true) true 22 v d p) : ∃ l : List Ak, AksIn W v l ∧ (∀ a ∈ l, a.ok) ∧ l.length ≤ Rows.uptoBulk d := by
  obtain ⟨a0, len, cap, rfl⟩ := okWide_slice Tryd.underlying22 hv
  obtain ⟨fuel, hf⟩ := h
  rcases Go.Deep.open_slice Tryd.underlying22 (by simpa [Value.cells] using hf) with ⟨hcs, hx⟩ | ⟨a, len', cap', m, n, D, Pl, hcs, _, hl, hm, hmm, hx, hel⟩
  · simp at hcs
    obtain ⟨rfl, rfl, rfl⟩ := hcs
    exact ⟨[], ⟨none, 0, rfl, fun _ => rfl, fun h => absurd h (by simp)⟩, (fun a ha => by cases ha), Nat.zero_le _⟩
  · simp at hcs
    obtain ⟨rfl, rfl, rfl⟩ := hcs
    simp at hmm
    subst hmm
    have key : ∀ k, k ≤ len → ∃ l : List Ak, l.length = k ∧ (∀ x ∈ l, x.ok) ∧ (∀ j x, l[j]? = some x → ∃ q c, (∀ i u, (akC x q c)[i]? = some u → W.cell? ((a.add (j * 6)).add i) = some u) ∧ ArgIn W q x.args) := by
      intro k
      induction k with
      | zero => exact fun _ => ⟨[], rfl, (fun x hx => by cases hx), (fun j x hj => by simp at hj)⟩
      | succ k ih =>
        intro hk
        obtain ⟨l, h1, h2, h3⟩ := ih (by omega)
        obtain ⟨cs', e1, e2⟩ := hel k (by omega)
        rw [cellsAk] at e1
        obtain ⟨x, q, c, g1, g2, g3⟩ := ask_open e2
        obtain ⟨_, g5, g6⟩ := World.cells?_some e1
        refine ⟨l ++ [x], by simp [h1], fun y hy => ?_, fun j y hj => ?_⟩
        · rcases List.mem_append.1 hy with hy | hy
          · exact h2 y hy
          · rw [List.mem_singleton.1 hy]; exact g1
        · rcases Nat.lt_or_ge j l.length with hjl | hjl
          · rw [List.getElem?_append_left hjl] at hj
            exact h3 j y hj
          · rw [List.getElem?_append_right hjl] at hj
            have hj0 : j = k := by
              have := (List.getElem?_eq_some_iff.1 hj).1
              simp at this
              omega
            subst hj0
            rw [h1, Nat.sub_self] at hj
            simp at hj
            subst hj
            refine ⟨q, c, fun i u hu => ?_, g3⟩
            have hi : i < 6 := by
              have := (List.getElem?_eq_some_iff.1 hu).1
              simpa [akC] using this
            rw [g6 i hi, g2]
            exact hu
    obtain ⟨l, h1, h2, h3⟩ := key len (Nat.le_refl _)
    refine ⟨l, ⟨some a, m, by rw [h1], nofun, fun hp => ?_⟩, h2, ?_⟩
    · obtain ⟨x, hx0⟩ : ∃ x, l[0]? = some x := ⟨_, List.getElem?_eq_getElem hp⟩
      obtain ⟨q, c, g1, _⟩ := h3 0 x hx0
      have hc0 := g1 0 _ rfl
      obtain ⟨b, off, spot⟩ := a
      have hspot : spot = none := by simpa [Addr.add] using World.cell?_spot hc0
      subst hspot
      refine ⟨b, off, rfl, ?_, fun j y hj => ?_⟩
      · have := World.block_lt_of_cell? W _ hc0
        simpa [Addr.add] using this
      · obtain ⟨q, c, g1, g2⟩ := h3 j y hj
        refine ⟨q, c, fun i u hu => ?_, g2⟩
        have := g1 i u hu
        rwa [Go.WideShapes.add_plain, Go.WideShapes.add_plain] at this
    · simp only [Prod.mk.injEq] at hx
      rw [hx.1, h1]
      refine Nat.le_trans ?_ (bulk_slice _ _)
      simp
end
end Go.Proofs.YtbkihppmikjcoaaDoor

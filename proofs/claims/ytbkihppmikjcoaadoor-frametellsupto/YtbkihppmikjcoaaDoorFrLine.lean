/- The reader reads a line of numbers. -/
import Derived.Test.YtbkihppmikjcoaaDoorFrNum
namespace Go.Proofs.YtbkihppmikjcoaaDoor
open Go.RowKit
set_option linter.unusedVariables false
attribute [local go_sem ↓] Go.wp_at_zero Go.wp_at_succ
/-- A number put into a block's cell. -/
def setC (j : Nat) (n : Int) : Obj → Obj
  | .cells cs T fr => .cells (cs.setIfInBounds j (.int .i64 n)) T fr
  | x => x
/-- Numbers put where pointers lead: what becomes of block k. -/
def pal (k : Nat) : List ((Nat × Nat) × Int) → Option Obj → Option Obj
  | [], o => o
  | (p, n) :: r, o => pal k r (if p.1 = k then o.map (setC p.2 n) else o)
theorem pal_app (k : Nat) (p : Nat × Nat) (n : Int) : ∀ (l : List ((Nat × Nat) × Int)) (o : Option Obj), pal k (l ++ [(p, n)]) o = if p.1 = k then (pal k l o).map (setC p.2 n) else pal k l o
  | [], o => rfl
  | (q, m) :: r, o => pal_app k p n r _
theorem pal_cells (k : Nat) : ∀ (l : List ((Nat × Nat) × Int)) {cs : Array Value} {T : TypeId} {fr : Nat × Nat}, ∃ cs', pal k l (some (.cells cs T fr)) = some (.cells cs' T fr) ∧ cs'.size = cs.size
  | [], cs, T, fr => ⟨cs, rfl, rfl⟩
  | (q, m) :: r, cs, T, fr => by
    unfold pal
    split
    · obtain ⟨cs', h1, h2⟩ := pal_cells k r (cs := cs.setIfInBounds q.2 (.int .i64 m)) (T := T) (fr := fr)
      exact ⟨cs', h1, by rw [h2]; simp⟩
    · exact pal_cells k r
/-- Pointers that numbers may be put through. -/
structure Ptrs (ps : List (Nat × Nat)) (gp g pb : Nat) (w : World) : Prop where
  at_ : ∀ p ∈ ps, 3 ≤ p.1 ∧ p.1 ≠ gp ∧ p.1 ≠ g ∧ p.1 ≠ pb ∧ ∃ cs T, w.heap[p.1]? = some (.cells cs T (0, 0)) ∧ p.2 < cs.size
  row : ∀ i p, ps[i]? = some p → w.cell? ⟨pb, i, none⟩ = some (.pointer (some ⟨p.1, p.2, none⟩))
  lt : pb < w.heap.size
  ne : pb ≠ gp
def LineP (gp g o c : Nat) (B : List UInt8) (ps : List (Nat × Nat)) (w : World) (x : Option (List Int × List UInt8)) (ok : Bool) (w' : World) : Prop :=
  match x with
  | some (l, t) => ok = true ∧ Rd gp w' g o c B (B.length - t.length) ∧ ∀ k, k < w.heap.size → k ≠ gp → w'.heap[k]? = pal k (ps.zip l) w.heap[k]?
  | none => ok = false
def mapL (ns : List Int) : Option (List Int × List UInt8) → Option (List Int × List UInt8)
  | some (l, t) => some (ns ++ l, t)
  | none => none
theorem rl_step {k : Nat} {b : List UInt8} {ns : List Int} : mapL ns (rl (k + 1) b) = match rn (if k = 0 then 10 else 32) b with | none => none | some (n, t) => mapL (ns ++ [n]) (rl k t) := by
  show mapL ns (match rn (if k = 0 then 10 else 32) b with | none => none | some (n, t) => match rl k t with | none => none | some (l, u) => some (n :: l, u)) = _
  cases rn (if k = 0 then 10 else 32) b with
  | none => rfl
  | some p =>
    obtain ⟨n, t⟩ := p
    simp only
    cases rl k t with
    | none => rfl
    | some q =>
      obtain ⟨l, u⟩ := q
      simp [mapL]
def RelLn (gp g o c : Nat) (B : List UInt8) (ps : List (Nat × Nat)) (w : World) (X : Option (List Int × List UInt8)) (i : Value) (wr : World) : Prop :=
  ∃ (k : Nat) (ns : List Int) (a : Nat), k ≤ ps.length ∧ i = .int .i64 (k : Int) ∧ ns.length = k ∧ Rd gp wr g o c B a ∧ Ch (gp :: ps.map (·.1)) w wr ∧ (∀ j, j < w.heap.size → j ≠ gp → wr.heap[j]? = pal j ((ps.take k).zip ns) w.heap[j]?) ∧ X = mapL ns (rl (ps.length - k) (B.drop a))
theorem drop_rest {B : List UInt8} {a : Nat} {x : List UInt8} {e : UInt8} {t : List UInt8} (h : B.drop a = x ++ e :: t) : B.drop (B.length - t.length) = t := by
  have h2 : B = (B.take a ++ x ++ [e]) ++ t := by
    conv => lhs; rw [← List.take_append_drop a B, h]
    simp
  generalize B.take a ++ x ++ [e] = y at h2
  rw [h2]
  simp
theorem ln_step {gp g o c k r : Nat} {B : List UInt8} {ps : List (Nat × Nat)} {w wr w2 : World} {X : Option (List Int × List UInt8)} {ns : List Int} {p : Nat × Nat} {n : Int} {t : List UInt8} {cs' : Array Value} {T : TypeId}
    (hlt : k < ps.length) (hp : ps[k]? = some p) (hns : ns.length = k) (hr : ps.length - k = r + 1) (hR2 : Rd gp w2 g o c B (B.length - t.length)) (hC1 : Ch (gp :: ps.map (·.1)) w wr) (hC2 : Ch [gp, p.1] wr w2) (hsub : ∀ j ∈ [gp, p.1], j ∈ gp :: ps.map (·.1))
    (hB1 : ∀ j, j < w.heap.size → j ≠ gp → wr.heap[j]? = pal j ((ps.take k).zip ns) w.heap[j]?) (hE : pal p.1 ((ps.take k).zip ns) w.heap[p.1]? = some (.cells cs' T (0, 0))) (hQ : w2.heap[p.1]? = some (.cells (cs'.setIfInBounds p.2 (.int .i64 n)) T (0, 0)))
    (hX : X = mapL (ns ++ [n]) (rl r t)) (hT : B.drop (B.length - t.length) = t) : RelLn gp g o c B ps w X (.int .i64 ((k : Int) + 1)) w2 := by
  refine ⟨k + 1, ns ++ [n], B.length - t.length, hlt, by simp, by simp [hns], hR2, hC1.trans (hC2.mono hsub), fun j h1 h2 => ?_, ?_⟩
  · have e : (ps.take (k + 1)).zip (ns ++ [n]) = (ps.take k).zip ns ++ [(p, n)] := by
      rw [List.take_add_one, hp, Option.toList_some, List.zip_append (by rw [List.length_take]; omega)]
      rfl
    rw [e, pal_app]
    by_cases hj : p.1 = j
    · subst hj
      rw [if_pos rfl, hQ, hE]
      rfl
    · rw [if_neg hj, hC2.block j (Nat.lt_of_lt_of_le h1 hC1.size) (by simp; exact ⟨h2, fun h => hj h.symm⟩)]
      exact hB1 j h1 h2
  · rw [hX, hT, show ps.length - (k + 1) = r by omega]
section
variable {gp : Nat} {w : World} {g o c : Nat} {B : List UInt8} {at_ : Nat}
set_option maxHeartbeats 1000000 in
set_option maxRecDepth 100000 in
theorem line_any (hR : Rd gp w g o c B at_) (ps : List (Nat × Nat)) (pb cp : Nat) (hP : Ptrs ps gp g pb w) (hn : ps.length ≤ 6) :
    Calls Tryd.prog 21 #[.pointer (some ⟨gp, 0, none⟩), .slice (some ⟨pb, 0, none⟩) ps.length cp] w fun ex w' =>
      ∃ ok, ex = .returned (.bool ok) ∧ Ch (gp :: ps.map (·.1)) w w' ∧ LineP gp g o c B ps w (rl ps.length (B.drop at_)) ok w' := by
  obtain ⟨X, hX⟩ : ∃ X, rl ps.length (B.drop at_) = X := ⟨_, rfl⟩
  have HX : Hid (X = mapL [] (rl (ps.length - 0) (B.drop at_))) := by
    show _ = _
    rw [Nat.sub_zero, ← hX]
    cases rl ps.length (B.drop at_) with
    | none => rfl
    | some p => rfl
  rw [hX]
  clear hX
  go_enter Tryd.func21, Tryd.ntmps21
  go_wp2
  go_loopw [10] (fun i wr => RelLn gp g o c B ps w X i wr) (fun i _ => upN ps.length i)
  case atStart => exact ⟨0, [], at_, Nat.zero_le _, rfl, rfl, hR, Ch.refl _ _, fun j _ _ => rfl, HX.out⟩
  case round =>
    obtain ⟨k, ns, a, hkl, rfl, hns, hR1, hC1, hB1, hX1⟩ := hrel
    by_cases hlt : k < ps.length
    · obtain ⟨p, hp⟩ : ∃ p, ps[k]? = some p := ⟨_, List.getElem?_eq_getElem hlt⟩
      have hpm := List.mem_of_getElem? hp
      obtain ⟨p3, p4, p5, p6, cs, T, p7, p8⟩ := hP.at_ p hpm
      have hps : p.1 < w.heap.size := (Array.getElem?_eq_some_iff.1 p7).1
      obtain ⟨cs', e1, e2⟩ := pal_cells p.1 ((ps.take k).zip ns) (cs := cs) (T := T) (fr := (0, 0))
      have hq : wr.heap[p.1]? = some (.cells cs' T (0, 0)) := by rw [hB1 p.1 hps p4, p7]; exact e1
      have hpbm : pb ∉ gp :: ps.map (·.1) := by
        intro hm
        rcases List.mem_cons.1 hm with e | hm
        · exact hP.ne e
        · obtain ⟨x, hx, hx2⟩ := List.mem_map.1 hm
          exact (hP.at_ x hx).2.2.2.1 hx2
      have xp : wr.cell? ⟨pb, k, none⟩ = some (.pointer (some ⟨p.1, p.2, none⟩)) := (World.cell?_of_block (a := ⟨pb, k, none⟩) (hC1.block pb hP.lt hpbm)).trans (hP.row k p hp)
      have gk : (0 : Int) ≤ (k : Int) := by omega
      have gk1 : (k : Int) < (ps.length : Int) := by omega
      obtain ⟨r, hr⟩ : ∃ r, ps.length - k = r + 1 := ⟨ps.length - k - 1, by omega⟩
      have HM : Hid (X = match rn (if r = 0 then 10 else 32) (B.drop a) with | none => none | some (n, t) => mapL (ns ++ [n]) (rl r t)) := by
        show _ = _
        rw [hX1, hr]
        exact rl_step
      have hsub : ∀ j ∈ [gp, p.1], j ∈ gp :: ps.map (·.1) := by
        intro j hj
        simp only [List.mem_cons, List.not_mem_nil, or_false] at hj
        rcases hj with rfl | rfl
        · exact List.mem_cons_self ..
        · exact List.mem_cons_of_mem _ (List.mem_map.2 ⟨p, hpm, rfl⟩)
      have HL := hid hlt
      have HK := hid hns
      have HRk := hid hr
      have HC1 := hid hC1
      have HB1 := hid hB1
      have HPp := hid hp
      have HE : Hid (pal p.1 ((ps.take k).zip ns) w.heap[p.1]? = some (.cells cs' T (0, 0))) := by show _ = _; rw [p7]; exact e1
      by_cases h0 : r = 0
      · have hke : ((k : Int) == (ps.length : Int) - 1) = true := by rw [beq_iff_eq]; omega
        have HN := number_any hR1 p.1 p.2 cs' T hq (by omega) p3 p4 p5 10
        rw [show (((10 : UInt8).toNat : Nat) : Int) = 10 from rfl] at HN
        have HN := hid HN
        have HM : Hid (X = match rn 10 (B.drop a) with | none => none | some (n, t) => mapL (ns ++ [n]) (rl r t)) := by
          have h := HM.out
          rw [if_pos h0] at h
          exact h
        clear hR1 hq hlt hns hr hC1 hB1 hp hpm h0 p7 p8 e1 e2 hX1 hkl p3 p4 p5 p6
        cases hrn : rn 10 (B.drop a) with
        | none =>
          have HM2 : Hid (X = none) := by show _ = _; rw [HM.out, hrn]
          have HN : Hid (_ ∧ _) := ⟨HN.out, hrn⟩
          clear hrn HM
          go_wp2_with (first
            | (go_at_call 27; refine Calls.mono HN.out.1 ?_; rintro ex w2 ⟨ok, rfl, hC2, hP2⟩; rw [HN.out.2] at hP2; obtain rfl : ok = false := hP2; have HC2 := hid hC2; clear hC2))
          go_ret
          refine ⟨false, rfl, HC1.out.trans (HC2.out.mono hsub), ?_⟩
          rw [HM2.out]
          exact rfl
        | some nt =>
          obtain ⟨n, t⟩ := nt
          have HM2 : Hid (X = mapL (ns ++ [n]) (rl r t)) := by show _ = _; rw [HM.out, hrn]
          have HT := hid (drop_rest (rn_some hrn).1)
          have HN : Hid (_ ∧ _) := ⟨HN.out, hrn⟩
          clear hrn HM
          go_wp2_with (first
            | (go_at_call 27; refine Calls.mono HN.out.1 ?_; rintro ex w2 ⟨ok, rfl, hC2, hP2⟩; rw [HN.out.2] at hP2; obtain ⟨rfl, hR2, hq2⟩ := hP2; have HC2 := hid hC2; have HR2 := hid hR2; have HQ2 := hid hq2; clear hC2 hR2 hq2))
          go_roundw
          case rel => exact ln_step HL.out HPp.out HK.out HRk.out HR2.out HC1.out HC2.out hsub HB1.out HE.out HQ2.out HM2.out HT.out
          case measure => have := HL.out; simp [upN, intOf]; omega
      · have hke : ((k : Int) == (ps.length : Int) - 1) = false := by rw [beq_eq_false_iff_ne]; omega
        have HN := number_any hR1 p.1 p.2 cs' T hq (by omega) p3 p4 p5 32
        rw [show (((32 : UInt8).toNat : Nat) : Int) = 32 from rfl] at HN
        have HN := hid HN
        have HM : Hid (X = match rn 32 (B.drop a) with | none => none | some (n, t) => mapL (ns ++ [n]) (rl r t)) := by
          have h := HM.out
          rw [if_neg h0] at h
          exact h
        clear hR1 hq hlt hns hr hC1 hB1 hp hpm h0 p7 p8 e1 e2 hX1 hkl p3 p4 p5 p6
        cases hrn : rn 32 (B.drop a) with
        | none =>
          have HM2 : Hid (X = none) := by show _ = _; rw [HM.out, hrn]
          have HN : Hid (_ ∧ _) := ⟨HN.out, hrn⟩
          clear hrn HM
          go_wp2_with (first
            | (go_at_call 27; refine Calls.mono HN.out.1 ?_; rintro ex w2 ⟨ok, rfl, hC2, hP2⟩; rw [HN.out.2] at hP2; obtain rfl : ok = false := hP2; have HC2 := hid hC2; clear hC2))
          go_ret
          refine ⟨false, rfl, HC1.out.trans (HC2.out.mono hsub), ?_⟩
          rw [HM2.out]
          exact rfl
        | some nt =>
          obtain ⟨n, t⟩ := nt
          have HM2 : Hid (X = mapL (ns ++ [n]) (rl r t)) := by show _ = _; rw [HM.out, hrn]
          have HT := hid (drop_rest (rn_some hrn).1)
          have HN : Hid (_ ∧ _) := ⟨HN.out, hrn⟩
          clear hrn HM
          go_wp2_with (first
            | (go_at_call 27; refine Calls.mono HN.out.1 ?_; rintro ex w2 ⟨ok, rfl, hC2, hP2⟩; rw [HN.out.2] at hP2; obtain ⟨rfl, hR2, hq2⟩ := hP2; have HC2 := hid hC2; have HR2 := hid hR2; have HQ2 := hid hq2; clear hC2 hR2 hq2))
          go_roundw
          case rel => exact ln_step HL.out HPp.out HK.out HRk.out HR2.out HC1.out HC2.out hsub HB1.out HE.out HQ2.out HM2.out HT.out
          case measure => have := HL.out; simp [upN, intOf]; omega
    · obtain rfl : k = ps.length := by omega
      have HX1 : Hid (X = some (ns, B.drop a)) := by
        show _ = _
        rw [hX1, Nat.sub_self]
        simp [mapL, rl]
      have hR1' := hid hR1
      have hB1' := hid hB1
      have hC1' := hid hC1
      clear hR1 hB1 hC1 hX1 hkl hlt
      go_wp2
      go_ret
      refine ⟨true, rfl, hC1'.out, ?_⟩
      rw [HX1.out]
      refine ⟨rfl, ?_, fun j h1 h2 => ?_⟩
      · have := hR1'.out.le
        rw [List.length_drop, show B.length - (B.length - a) = a by omega]
        exact hR1'.out
      · have := hB1'.out j h1 h2
        rw [List.take_length] at this
        exact this
end
end Go.Proofs.YtbkihppmikjcoaaDoor

/- The reader reads a question's Args, and its Text. -/
import Derived.Test.YtbkihppmikjcoaaDoorFrLine
import Derived.Laws.MakeOwn
namespace Go.Proofs.YtbkihppmikjcoaaDoor
open Go.RowKit
set_option linter.unusedVariables false
attribute [local go_sem ↓] Go.wp_at_zero Go.wp_at_succ
theorem Tryd.infoInt : (Tryd.prog.info? 3).map (fun i => (i.zero, i.size, i.bytes)) = some (some (.int .i64 0), 1, 8) := by kernel_rfl
section
variable {gp : Nat} {w : World} {g o c : Nat} {B : List UInt8} {at_ : Nat}
def TextP (gp g o c : Nat) (B : List UInt8) (at_ : Nat) (n : Int) (v : Value) (ok : Bool) (w' : World) : Prop :=
  if n < 0 ∨ ((B.drop at_).length : Int) < n then ok = false else ok = true ∧ v = .string (ba ((B.drop at_).take n.toNat)) ∧ Rd gp w' g o c B (at_ + n.toNat)
set_option maxHeartbeats 1000000 in
set_option maxRecDepth 100000 in
theorem text_any (hR : Rd gp w g o c B at_) (n : Int) (hn : I64 n) :
    Calls Tryd.prog 23 #[.pointer (some ⟨gp, 0, none⟩), .int .i64 n] w fun ex w' =>
      ∃ x ok, ex = .returned (.tuple #[.string x, .bool ok]) ∧ Ch [gp] w w' ∧ TextP gp g o c B at_ n (.string x) ok w' := by
  have c0 : w.cell? ⟨gp, 0, none⟩ = some (.slice (some ⟨g, o, none⟩) B.length c) := cell_of_row _ _ 0 _ _ _ hR.blk
  have c1 : w.cell? ⟨gp, 1, none⟩ = some (.int .i64 (at_ : Int)) := cell_of_row _ _ 1 _ _ _ hR.blk
  have fg : w.frozen? ⟨gp, 1, none⟩ = false := by simp [World.frozen?, hR.blk]
  have hle := hR.le
  have hcap := hR.cap
  have hbig := hR.big
  obtain ⟨hn1, hn2⟩ := hn
  have gw : IntKind.i64.wrap ((B.length : Int) - (at_ : Int)) = (B.length : Int) - (at_ : Int) := wrap_id _ (by omega) (by omega)
  have hdl : (B.drop at_).length = B.length - at_ := List.length_drop
  by_cases hneg : n < 0
  · have HX : Hid (∀ v w', TextP gp g o c B at_ n v false w') := fun v w' => by unfold TextP; rw [if_pos (.inl hneg)]
    clear hdl
    go_enter Tryd.func23, Tryd.ntmps23
    go_wp2
    go_quiet (fail)
    go_wp2
    go_ret2
    exact ⟨_, false, rfl, Ch.below (below_drewN (Below.refl _ _) _), HX.out _ _⟩
  · by_cases hbg : ((B.drop at_).length : Int) < n
    · have HX : Hid (∀ v w', TextP gp g o c B at_ n v false w') := fun v w' => by unfold TextP; rw [if_pos (.inr hbg)]
      have gt : (n > (B.length : Int) - (at_ : Int)) := by omega
      clear hdl hbg
      go_enter Tryd.func23, Tryd.ntmps23
      go_wp2
      go_quiet (fail)
      go_wp2
      go_ret2
      exact ⟨_, false, rfl, Ch.below (below_drewN (Below.refl _ _) _), HX.out _ _⟩
    · obtain ⟨m, rfl⟩ : ∃ m : Nat, n = (m : Int) := ⟨n.toNat, by omega⟩
      have HX : Hid (∀ v w', TextP gp g o c B at_ (m : Int) v true w' ↔ (v = .string (ba ((B.drop at_).take m)) ∧ Rd gp w' g o c B (at_ + m))) := fun v w' => by unfold TextP; rw [if_neg (by omega)]; simp
      have hm : at_ + m ≤ B.length := by omega
      obtain ⟨o1, ho1, hB1⟩ : ∃ o1, (if c = at_ then some (⟨g, o, none⟩ : Addr) else some ⟨g, o + at_, none⟩) = some ⟨g, o1, none⟩ ∧ Byt w g o1 ((B.drop at_).take m) := by
        by_cases hc : c = at_
        · refine ⟨o, by rw [if_pos hc], fun i b hb => ?_⟩
          rw [List.drop_eq_nil_of_le (by omega)] at hb
          simp at hb
        · exact ⟨o + at_, by rw [if_neg hc], (hR.byt.drop at_).take m⟩
      obtain ⟨N, hN⟩ : ∃ N, N = at_ + m := ⟨_, rfl⟩
      have HP : Hid (Rd gp (w.setCell ⟨gp, 1, none⟩ (.int .i64 (N : Int))) g o c B (at_ + m)) := by
        have := hR.put (at_ + m) hm
        rw [← hN] at this ⊢
        exact this
      have hl : ((B.drop at_).take m).length = N - at_ := by rw [List.length_take]; omega
      have hcv : ∀ i k, (convert 23 9 (.slice (some ⟨g, o1, none⟩) (N - at_) (c - at_))).run Tryd.prog (((w.drewN i).setCell ⟨gp, 1, none⟩ (.int .i64 (N : Int))).drewN k) = .ok (.string (ba ((B.drop at_).take m))) (((w.drewN i).setCell ⟨gp, 1, none⟩ (.int .i64 (N : Int))).drewN k) := fun i k => conv_byt _ g _ _ _ _ hl (hB1.kept (Below.heap_setCell w _ _ g hR.ne))
      have HC : Hid (Ch [gp] w (w.setCell ⟨gp, 1, none⟩ (.int .i64 (N : Int)))) := (Ch.refl _ _).set (.inl (by simp)) rfl
      have gl : (m : Int) ≤ (B.length : Int) - (at_ : Int) := by omega
      have gN : (at_ : Int) + (m : Int) = (N : Int) := by omega
      have gb : (N : Int) ≤ (c : Int) := by omega
      have gd : (at_ : Int) ≤ (N : Int) := by omega
      clear hdl hbg hl hN
      generalize (B.drop at_).take m = x at *
      go_enter Tryd.func23, Tryd.ntmps23
      go_wp2
      go_quiet (fail)
      go_wp2
      go_quiet (fail)
      go_wp2
      go_ret2
      exact ⟨_, true, rfl, (show Ch [gp] w (((w.drewN _).setCell ⟨gp, 1, none⟩ (.int .i64 (N : Int))).drewN _) from ⟨HC.out.os, HC.out.tape, HC.out.output, HC.out.size, HC.out.block, HC.out.kind⟩), (HX.out _ _).2 ⟨rfl, HP.out.at rfl⟩⟩
theorem ra_step {k : Nat} {b : List UInt8} {ns : List Int} : mapL ns (ra (k + 1) b) = match rn 10 b with | none => none | some (n, t) => mapL (ns ++ [n]) (ra k t) := by
  show mapL ns (match rn 10 b with | none => none | some (n, t) => match ra k t with | none => none | some (l, u) => some (n :: l, u)) = _
  cases rn 10 b with
  | none => rfl
  | some p =>
    obtain ⟨n, t⟩ := p
    simp only
    cases ra k t with
    | none => rfl
    | some q =>
      obtain ⟨l, u⟩ := q
      simp [mapL]
theorem rl_one (b : List UInt8) : rl 1 b = match rn 10 b with | none => none | some (n, t) => some ([n], t) := by
  show (match rn 10 b with | none => none | some (n, t) => some ([n], t)) = _
  rfl
theorem Ch.far {gp : Nat} {S : List Nat} {w a b : World} (h : Ch [gp] w a) (k : Ch S a b) (hS : ∀ j ∈ S, j = gp ∨ w.heap.size ≤ j) : Ch [gp] w b :=
  ⟨k.os.trans h.os, k.tape.trans h.tape, k.output.trans h.output, Nat.le_trans h.size k.size, fun i h1 h2 => (k.block i (Nat.lt_of_lt_of_le h1 h.size) (fun hm => by
    rcases hS i hm with e | e
    · exact h2 (by simp [e])
    · omega)).trans (h.block i h1 h2), fun j cs T fr hj => by
    obtain ⟨c1, e1, e2, e3⟩ := h.kind j cs T fr hj
    obtain ⟨c2, f1, f2, f3⟩ := k.kind j c1 T fr e1
    exact ⟨c2, f1, f2.trans e2, fun h => f3 (e3 h)⟩⟩
/-- Numbers read so far, and room for more. -/
def row (ns : List Int) (r : Nat) : Array Value := (ns.map (Value.int .i64) ++ List.replicate r (Value.int .i64 0)).toArray
theorem row_put {ns : List Int} {r : Nat} {n : Int} : (row ns (r + 1)).setIfInBounds ns.length (.int .i64 n) = row (ns ++ [n]) r := by
  unfold row
  apply Array.ext'
  rw [Array.toList_setIfInBounds]
  simp [List.replicate_succ]
def ArgsP (gp g o c : Nat) (B : List UInt8) (b0 : Nat) (x : Option (List Int × List UInt8)) (v : Value) (ok : Bool) (w' : World) : Prop :=
  match x with
  | some (l, t) => ok = true ∧ Rd gp w' g o c B (B.length - t.length) ∧ ∃ G, b0 ≤ G ∧ v = .slice (some ⟨G, 0, none⟩) l.length l.length ∧ w'.heap[G]? = some (.cells (row l 0) 3 (0, 0))
  | none => ok = false
def RelAr (gp g o c : Nat) (B : List UInt8) (n : Nat) (w : World) (X : Option (List Int × List UInt8)) (i : Value) (wr : World) : Prop :=
  ∃ (k : Nat) (ns : List Int) (a : Nat), k ≤ n ∧ i = .int .i64 (k : Int) ∧ ns.length = k ∧ Rd gp wr g o c B a ∧ Ch [gp] w wr ∧ wr.heap[w.heap.size]? = some (.cells (row ns (n - k)) 3 (0, 0)) ∧ X = mapL ns (ra (n - k) (B.drop a))
theorem ar_step {gp g o c k r n : Nat} {B : List UInt8} {w wr w2 : World} {X : Option (List Int × List UInt8)} {ns : List Int} {m : Int} {t : List UInt8}
    (hlt : k < n) (hns : ns.length = k) (hr : n - k = r + 1) (hR2 : Rd gp w2 g o c B (B.length - t.length)) (hC1 : Ch [gp] w wr) (hC2 : Ch (gp :: [w.heap.size]) wr w2)
    (hG : wr.heap[w.heap.size]? = some (.cells (row ns (r + 1)) 3 (0, 0))) (hQ : w2.heap[w.heap.size]? = pal w.heap.size [((w.heap.size, k), m)] wr.heap[w.heap.size]?)
    (hX : X = mapL (ns ++ [m]) (ra r t)) (hT : B.drop (B.length - t.length) = t) : RelAr gp g o c B n w X (.int .i64 ((k : Int) + 1)) w2 := by
  refine ⟨k + 1, ns ++ [m], B.length - t.length, hlt, by simp, by simp [hns], hR2, hC1.far hC2 (fun j hj => by simp at hj; omega), ?_, ?_⟩
  · rw [hQ, hG]
    unfold pal
    rw [if_pos rfl]
    show some (Obj.cells ((row ns (r + 1)).setIfInBounds k _) _ _) = _
    rw [← hns, row_put, show n - (ns.length + 1) = r by omega]
  · rw [hX, hT, show n - (k + 1) = r by omega]
set_option maxHeartbeats 1000000 in
set_option maxRecDepth 100000 in
theorem args_any (hR : Rd gp w g o c B at_) (m : Int) (hm : I64 m) (X : Option (List Int × List UInt8)) (hX : X = if m < 0 then none else ra (min m.toNat 6) (B.drop at_)) :
    Calls Tryd.prog 22 #[.pointer (some ⟨gp, 0, none⟩), .int .i64 m] w fun ex w' =>
      ∃ p n cp ok, ex = .returned (.tuple #[.slice p n cp, .bool ok]) ∧ Ch [gp] w w' ∧ ArgsP gp g o c B w.heap.size X (.slice p n cp) ok w' := by
  obtain ⟨hm1, hm2⟩ := hm
  have HX := hid hX
  have hgp := hR.gp_lt
  obtain ⟨i0, hi, hz0, hz1, hz2⟩ := info_parts Tryd.infoInt
  obtain ⟨n, hn, hn6, hnm⟩ : ∃ n : Nat, n = min m.toNat 6 ∧ n ≤ 6 ∧ max (0 : Int) (min m 6) = (n : Int) := ⟨_, rfl, by omega, by omega⟩
  have hmk : ∀ W : World, (Instr.makeSlice 24 (.int .i64 (n : Int)) (.int .i64 (n : Int))).run Tryd.prog W = .ok (.slice (some ⟨W.heap.size, 0, none⟩) n n) (W.alloc (.cells (row [] n) 3)) := fun W => by
    have h := run_make (P := Tryd.prog) W 24 3 i0 (.int .i64 0) Tryd.underlying24 hi hz0 .i64 .i64 (n : Int) (n : Int) (by omega) (by omega) (by rw [hz2]; omega) (by omega)
    have e : madeCells (Value.int .i64 0).cells (((n : Nat) : Int).toNat * i0.size) = row [] n := by
      rw [hz1]
      apply Array.ext
      · simp [row, size_madeCells]
      · intro i h1 h2
        simp [row, madeCells, Value.cells, Nat.mod_one]
    rw [e] at h
    simpa using h
  obtain ⟨Y, hY⟩ : ∃ Y, ra n (B.drop at_) = Y := ⟨_, rfl⟩
  have HY : Hid (Y = mapL [] (ra (n - 0) (B.drop at_))) := by
    show _ = _
    rw [Nat.sub_zero, hY]
    cases Y with
    | none => rfl
    | some p => rfl
  have HXY : Hid (X = if m < 0 then none else Y) := by
    show _ = _
    rw [hX, ← hY, hn]
  have hb1 := (Below.refl w.heap.size w).alloc (Nat.le_refl _) (.cells (row [] n) 3)
  have hR1 := hR.below hb1
  have hn0 := heap_alloc_new w (.cells (row [] n) 3)
  have HR0 := hid hR1
  have HC0 : Hid (Ch [gp] w (w.alloc (.cells (row [] n) 3))) := Ch.below hb1
  have HG0 := hid hn0
  have h3 := hR.law.low
  have hgs := hR.g_lt
  clear hX hn hY hR1 hn0 hb1 hi hz0 hz1 hz2 hR
  go_enter Tryd.func22, Tryd.ntmps22
  go_wp2
  go_loopw [14] (fun i wr => RelAr gp g o c B n w Y i wr) (fun i _ => upN n i)
  case atStart => exact ⟨0, [], at_, Nat.zero_le _, rfl, rfl, HR0.out, HC0.out, HG0.out, HY.out⟩
  case round =>
    obtain ⟨k, ns, a, hkl, rfl, hns, hR1, hC1, hG1, hX1⟩ := hrel
    by_cases hlt : k < n
    · obtain ⟨r, hr⟩ : ∃ r, n - k = r + 1 := ⟨n - k - 1, by omega⟩
      have HM : Hid (Y = match rn 10 (B.drop a) with | none => none | some (n, t) => mapL (ns ++ [n]) (ra r t)) := by
        show _ = _
        rw [hX1, hr]
        exact ra_step
      rw [hr] at hG1
      have hsz := hC1.size
      have hgs1 : w.heap.size < wr.heap.size := (Array.getElem?_eq_some_iff.1 hG1).1
      have hb2 := (Below.refl wr.heap.size wr).alloc (Nat.le_refl _) (.cells #[.pointer (some ⟨w.heap.size, k, none⟩)] 52)
      have hnew := heap_alloc_new wr (.cells #[.pointer (some ⟨w.heap.size, k, none⟩)] 52)
      have hPt : Ptrs [(w.heap.size, k)] gp g wr.heap.size (wr.alloc (.cells #[.pointer (some ⟨w.heap.size, k, none⟩)] 52)) := by
        refine ⟨fun p hp => ?_, fun i p hp => ?_, by simp, by omega⟩
        · obtain rfl := List.mem_singleton.1 hp
          refine ⟨h3, by simp; omega, by simp; omega, by simp; omega, _, _, (hb2.block _ hgs1).trans hG1, ?_⟩
          simp [row]
          omega
        · cases i with
          | succ i => simp at hp
          | zero =>
            simp at hp
            subst hp
            exact cell_of_row _ _ 0 _ _ _ hnew
      have HN := hid (line_any (hR1.below hb2) [(w.heap.size, k)] wr.heap.size 1 hPt (by simp))
      have gk : (0 : Int) ≤ (k : Int) := by omega
      have gk1 : (k : Int) < (n : Int) := by omega
      have HL := hid hlt
      have HK := hid hns
      have HRk := hid hr
      have HC1 := hid hC1
      have HG1 := hid hG1
      have HB2 := hid hb2
      clear hR1 hlt hns hr hC1 hG1 hX1 hkl hPt hb2 hnew
      cases hrn : rn 10 (B.drop a) with
      | none =>
        have HM2 : Hid (X = none) := by show _ = _; rw [HXY.out, HM.out, hrn]; simp
        have HN : Hid (_ ∧ _) := ⟨HN.out, hrn⟩
        clear hrn HM
        go_wp2_with (first
          | (go_at_call 21; refine Calls.mono HN.out.1 ?_; rintro ex w2 ⟨ok, rfl, hC2, hP2⟩; rw [show [(w.heap.size, k)].length = 1 from rfl, rl_one, HN.out.2] at hP2; obtain rfl : ok = false := hP2; have HC2 := hid hC2; clear hC2))
        go_ret2
        refine ⟨_, _, _, false, rfl, (HC1.out.trans (Ch.below HB2.out)).far HC2.out (fun j hj => by simp at hj; omega), ?_⟩
        rw [HM2.out]
        exact rfl
      | some nt =>
        obtain ⟨v, t⟩ := nt
        have HM2 : Hid (Y = mapL (ns ++ [v]) (ra r t)) := by show _ = _; rw [HM.out, hrn]
        have HT := hid (drop_rest (rn_some hrn).1)
        have HN : Hid (_ ∧ _) := ⟨HN.out, hrn⟩
        clear hrn HM
        go_wp2_with (first
          | (go_at_call 21; refine Calls.mono HN.out.1 ?_; rintro ex w2 ⟨ok, rfl, hC2, hP2⟩; rw [show [(w.heap.size, k)].length = 1 from rfl, rl_one, HN.out.2] at hP2; obtain ⟨rfl, hR2, hq2⟩ := hP2; have HC2 := hid hC2; have HR2 := hid hR2; have HQ2 := hid hq2; clear hC2 hR2 hq2))
        go_roundw
        case rel => exact ar_step HL.out HK.out HRk.out HR2.out HC1.out ((Ch.below HB2.out).trans HC2.out) HG1.out ((HQ2.out w.heap.size (by simp; omega) (by omega)).trans (congrArg _ (HB2.out.block _ hgs1))) HM2.out HT.out
        case measure => have := HL.out; simp [upN, intOf]; omega
    · obtain rfl : k = n := by omega
      have HX1 : Hid (Y = some (ns, B.drop a)) := by
        show _ = _
        rw [hX1, Nat.sub_self]
        simp [mapL, ra]
      have hR1' := hid hR1
      have hG1' := hid hG1
      have hC1' := hid hC1
      have HK := hid hns
      clear hR1 hG1 hC1 hX1 hkl hlt hns
      go_wp2
      go_ret2
      refine ⟨_, _, _, _, rfl, hC1'.out, ?_⟩
      rw [HXY.out]
      by_cases hneg : m < 0
      · rw [if_pos hneg]
        show decide _ = false
        simp; omega
      · rw [if_neg hneg, HX1.out]
        refine ⟨by simp; omega, ?_, w.heap.size, Nat.le_refl _, by rw [HK.out], ?_⟩
        · have := hR1'.out.le
          rw [List.length_drop, show B.length - (B.length - a) = a by omega]
          exact hR1'.out
        · have := hG1'.out
          rw [Nat.sub_self] at this
          exact this
end
end Go.Proofs.YtbkihppmikjcoaaDoor

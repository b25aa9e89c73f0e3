/- The reader reads a number. -/
import Derived.Test.YtbkihppmikjcoaaDoorFrLow
import Derived.Deep.QuietTactic
import Derived.BigQuiet
import Derived.Lib.SlicesS
namespace Go.Proofs.YtbkihppmikjcoaaDoor
open Go.RowKit
set_option linter.unusedVariables false
attribute [local go_sem ↓] Go.wp_at_zero Go.wp_at_succ
/-- Values of one cell. -/
def Ones (cs : Array Value) : Prop := ∀ (i : Nat) (u : Value), cs[i]? = some u → u.oneCell' = true
/-- What is left as it was: all but some blocks; and those are of as many cells as they were. -/
structure Ch (S : List Nat) (w w' : World) : Prop where
  os : w'.os = w.os
  tape : w'.tape = w.tape
  output : w'.output = w.output
  size : w.heap.size ≤ w'.heap.size
  block : ∀ k, k < w.heap.size → k ∉ S → w'.heap[k]? = w.heap[k]?
  kind : ∀ (k : Nat) (cs : Array Value) (T : TypeId) (fr : Nat × Nat), w.heap[k]? = some (.cells cs T fr) → ∃ cs', w'.heap[k]? = some (.cells cs' T fr) ∧ cs'.size = cs.size ∧ (Ones cs → Ones cs')
theorem Ch.refl (S : List Nat) (w : World) : Ch S w w := ⟨rfl, rfl, rfl, Nat.le_refl _, fun _ _ _ => rfl, fun _ cs _ _ h => ⟨cs, h, rfl, id⟩⟩
theorem Ch.trans {S : List Nat} {a b c : World} (h : Ch S a b) (k : Ch S b c) : Ch S a c :=
  ⟨k.os.trans h.os, k.tape.trans h.tape, k.output.trans h.output, Nat.le_trans h.size k.size, fun i hi hn => (k.block i (Nat.lt_of_lt_of_le hi h.size) hn).trans (h.block i hi hn), fun j cs T fr hj => by
    obtain ⟨c1, e1, e2, e3⟩ := h.kind j cs T fr hj
    obtain ⟨c2, f1, f2, f3⟩ := k.kind j c1 T fr e1
    exact ⟨c2, f1, f2.trans e2, fun h => f3 (e3 h)⟩⟩
theorem Ch.mono {S S' : List Nat} {w w' : World} (h : Ch S w w') (hs : ∀ k ∈ S, k ∈ S') : Ch S' w w' := ⟨h.os, h.tape, h.output, h.size, fun k hk hn => h.block k hk (fun hm => hn (hs k hm)), h.kind⟩
theorem Ch.below {S : List Nat} {w w' : World} (h : Below w.heap.size w w') : Ch S w w' := ⟨h.os, h.tape, h.output, h.size, fun k hk _ => h.block k hk, fun k cs T fr hk => ⟨cs, (h.block k (Array.getElem?_eq_some_iff.1 hk).1).trans hk, rfl, id⟩⟩
theorem Ones.set {cs : Array Value} (h : Ones cs) (j : Nat) {u : Value} (hu : u.oneCell' = true) : Ones (cs.setIfInBounds j u) := fun i v hv => by
  rw [Array.getElem?_setIfInBounds] at hv
  split at hv
  · split at hv
    · injection hv with hv
      rw [← hv]; exact hu
    · cases hv
  · exact h i v hv
theorem Ch.set {S : List Nat} {w w' : World} (h : Ch S w w') {a : Addr} (ha : a.block ∈ S ∨ w.heap.size ≤ a.block) {u : Value} (hu : u.oneCell' = true) : Ch S w (w'.setCell a u) :=
  ⟨h.os, h.tape, h.output, by simpa using h.size, fun k hk hn => (Below.heap_setCell w' a u k (fun e => by rcases ha with ha | ha; exact hn (e ▸ ha); omega)).trans (h.block k hk hn), fun k cs T fr hk => by
    obtain ⟨c1, e1, e2, e3⟩ := h.kind k cs T fr hk
    by_cases hb : k = a.block
    · subst hb
      simp only [World.setCell, Array.getElem?_modify, if_true, e1, Option.map_some]
      by_cases hs : a.spot.isSome = true
      · rw [if_pos hs]
        exact ⟨c1, rfl, e2, e3⟩
      · rw [if_neg hs]
        exact ⟨_, rfl, by simp [e2], fun h => (e3 h).set _ hu⟩
    · exact ⟨c1, (Below.heap_setCell w' a u k hb).trans e1, e2, e3⟩⟩
/-- The reader at block gp: the bytes B, and where it is. -/
structure Rd (gp : Nat) (w : World) (g o c : Nat) (B : List UInt8) (at_ : Nat) : Prop where
  blk : w.heap[gp]? = some (.cells #[.slice (some ⟨g, o, none⟩) B.length c, .int .i64 (at_ : Int)] 42 (0, 0))
  le : at_ ≤ B.length
  cap : B.length ≤ c
  big : B.length ≤ 1099511627776
  low : 3 ≤ gp
  g_lt : g < w.heap.size
  ne : g ≠ gp
  byt : Byt w g o B
  law : Lw w
theorem Lw.at {w w' : World} (h : Lw w) (e : w'.heap = w.heap) : Lw w' := h.kept (by rw [e]; exact Nat.le_refl _) (fun k _ => by rw [e])
theorem Rd.gp_lt {gp : Nat} {w : World} {g o c : Nat} {B : List UInt8} {at_ : Nat} (h : Rd gp w g o c B at_) : gp < w.heap.size := (Array.getElem?_eq_some_iff.1 h.blk).1
theorem Rd.kept {gp : Nat} {w w' : World} {g o c : Nat} {B : List UInt8} {at_ : Nat} (h : Rd gp w g o c B at_) (hs : w.heap.size ≤ w'.heap.size) (h0 : w'.heap[gp]? = w.heap[gp]?) (h1 : w'.heap[g]? = w.heap[g]?) (h2 : ∀ k, k < 3 → w'.heap[k]? = w.heap[k]?) : Rd gp w' g o c B at_ :=
  ⟨h0.trans h.blk, h.le, h.cap, h.big, h.low, Nat.lt_of_lt_of_le h.g_lt hs, h.ne, h.byt.kept h1, h.law.kept hs h2⟩
theorem Rd.at {gp : Nat} {w w' : World} {g o c : Nat} {B : List UInt8} {at_ : Nat} (h : Rd gp w g o c B at_) (e : w'.heap = w.heap) : Rd gp w' g o c B at_ :=
  h.kept (by rw [e]; exact Nat.le_refl _) (by rw [e]) (by rw [e]) (fun k _ => by rw [e])
theorem Rd.below {gp : Nat} {w w' : World} {g o c : Nat} {B : List UInt8} {at_ : Nat} (h : Rd gp w g o c B at_) (hb : Below w.heap.size w w') : Rd gp w' g o c B at_ :=
  h.kept hb.size (hb.block gp h.gp_lt) (hb.block g h.g_lt) (fun k hk => hb.block k (by have := h.law.low; omega))
/-- The reader is set on. -/
theorem Rd.put {gp : Nat} {w : World} {g o c : Nat} {B : List UInt8} {at_ : Nat} (h : Rd gp w g o c B at_) (n : Nat) (hn : n ≤ B.length) : Rd gp (w.setCell ⟨gp, 1, none⟩ (.int .i64 (n : Int))) g o c B n := by
  have hl := h.low
  refine ⟨?_, hn, h.cap, h.big, h.low, by simpa using h.g_lt, h.ne, h.byt.kept (Below.heap_setCell w _ _ g h.ne), h.law.kept (by simp) (fun k hk => Below.heap_setCell w _ _ k (show k ≠ gp by omega))⟩
  simp [World.setCell, Array.getElem?_modify, h.blk]
theorem indexByte_q {w : World} {n g o c k : Nat} {l : List UInt8} (hl : l.length = k) (h : Byt w g o l) (e : UInt8) :
    Calls Tryd.prog 35 #[.slice (some ⟨g, o, none⟩) k c, .int .u8 (e.toNat : Int)] (w.drewN n) fun ex w' => ex = .returned (.int .i64 (Lib.indexByte l e)) ∧ ∃ m, w' = w.drewN m :=
  Calls.quiet_of_same (indexByte_any (w.drewN n) g o c k l hl (h.kept (w' := w.drewN n) rfl) e)
theorem heap_put {w : World} {q j : Nat} {cs : Array Value} {T : TypeId} {fr : Nat × Nat} (h : w.heap[q]? = some (.cells cs T fr)) (u : Value) : (w.setCell ⟨q, j, none⟩ u).heap[q]? = some (.cells (cs.setIfInBounds j u) T fr) := by
  simp [World.setCell, Array.getElem?_modify, h]
/-- What a number read leaves. -/
def NumP (gp q g o c j : Nat) (B : List UInt8) (cs : Array Value) (T : TypeId) (x : Option (Int × List UInt8)) (ok : Bool) (w' : World) : Prop :=
  match x with
  | some (n, t) => ok = true ∧ Rd gp w' g o c B (B.length - t.length) ∧ w'.heap[q]? = some (.cells (cs.setIfInBounds j (.int .i64 n)) T (0, 0))
  | none => ok = false
section
variable {gp : Nat} {w : World} {g o c : Nat} {B : List UInt8} {at_ : Nat}
set_option maxHeartbeats 1000000 in
set_option maxRecDepth 100000 in
theorem number_any (hR : Rd gp w g o c B at_) (q j : Nat) (cs : Array Value) (T : TypeId) (hq : w.heap[q]? = some (.cells cs T (0, 0))) (hj : j < cs.size) (h3 : 3 ≤ q) (hgp : q ≠ gp) (hqg : q ≠ g) (e : UInt8) :
    Calls Tryd.prog 27 #[.pointer (some ⟨gp, 0, none⟩), .pointer (some ⟨q, j, none⟩), .int .u8 (e.toNat : Int)] w fun ex w' =>
      ∃ ok, ex = .returned (.bool ok) ∧ Ch [gp, q] w w' ∧ NumP gp q g o c j B cs T (rn e (B.drop at_)) ok w' := by
  have c0 : w.cell? ⟨gp, 0, none⟩ = some (.slice (some ⟨g, o, none⟩) B.length c) := cell_of_row _ _ 0 _ _ _ hR.blk
  have c1 : w.cell? ⟨gp, 1, none⟩ = some (.int .i64 (at_ : Int)) := cell_of_row _ _ 1 _ _ _ hR.blk
  have hle := hR.le
  have hcap := hR.cap
  have hbig := hR.big
  have hdl : (B.drop at_).length = B.length - at_ := List.length_drop
  have HI := hid hdl
  cases hcut : cutAt e (B.drop at_) with
  | none =>
    obtain ⟨o1, ho1, HB⟩ : ∃ o1, (if c = at_ then some (⟨g, o, none⟩ : Addr) else some ⟨g, o + at_, none⟩) = some ⟨g, o1, none⟩ ∧ Byt w g o1 (B.drop at_) := by
      by_cases hc : c = at_
      · refine ⟨o, by rw [if_pos hc], fun i b hb => ?_⟩
        rw [List.drop_eq_nil_of_le (by omega)] at hb
        cases hb
      · exact ⟨o + at_, by rw [if_neg hc], hR.byt.drop at_⟩
    have HX : Hid (rn e (B.drop at_) = none) := by show _ = _; unfold rn; rw [hcut]
    have hx := cut_none hcut
    clear hdl hcut
    generalize hD : B.drop at_ = D at *
    clear hD
    go_enter Tryd.func27, Tryd.ntmps27
    go_wp2
    go_quiet ((go_at_call 35; exact indexByte_q HI.out HB e))
    go_wp2
    go_ret
    exact ⟨false, rfl, Ch.below (below_drewN (Below.refl _ _) _), by rw [HX.out]; exact rfl⟩
  | some st =>
    obtain ⟨s, t⟩ := st
    obtain ⟨hx, hst, _⟩ := cut_some hcut
    have hln : (B.drop at_).length = s.length + 1 + t.length := by rw [hst, List.length_append, List.length_cons]; omega
    have hne : ¬ c = at_ := by omega
    have hBs : Byt w g (o + at_) s := by
      have := (hR.byt.drop at_).take s.length
      rw [hst, List.take_left] at this
      exact this
    have HB := hR.byt.drop at_
    have hcv : ∀ m, (convert 23 9 (.slice (some ⟨g, o + at_, none⟩) s.length (c - at_))).run Tryd.prog (w.drewN m) = .ok (.string (ba s)) (w.drewN m) := fun m => conv_byt _ g _ _ _ s rfl (hBs.kept rfl)
    have HX : Hid (rn e (B.drop at_) = match Lib.atoiAll s with | .ok n => if Lib.itoa n = s then some (n, t) else none | _ => none) := by show rn _ _ = _; unfold rn; rw [hcut]; rfl
    have hsl : at_ + s.length + 1 ≤ B.length := by omega
    have HT : Hid (B.length - t.length = at_ + (s.length + 1)) := by show _ = _; omega
    have hlow := hR.low
    have hqs : q < w.heap.size := (Array.getElem?_eq_some_iff.1 hq).1
    obtain ⟨u0, hu0⟩ : ∃ u0, cs[j]? = some u0 := ⟨_, Array.getElem?_eq_getElem hj⟩
    have cq : w.cell? ⟨q, j, none⟩ = some u0 := (cell_of_row _ _ j _ _ _ hq).trans hu0
    have fq : w.frozen? ⟨q, j, none⟩ = false := by simp [World.frozen?, hq]
    have fg : w.frozen? ⟨gp, 1, none⟩ = false := by simp [World.frozen?, hR.blk]
    obtain ⟨S, hS⟩ : ∃ S : Int, S = (at_ : Int) + ((s.length : Int) + 1) := ⟨_, rfl⟩
    have HP : Hid (Rd gp (w.setCell ⟨gp, 1, none⟩ (.int .i64 S)) g o c B (at_ + (s.length + 1))) := by
      have := hR.put (at_ + (s.length + 1)) (by omega)
      rw [show ((at_ + (s.length + 1) : Nat) : Int) = S by omega] at this
      exact this
    have hsb : s.length ≤ 1099511627776 := by omega
    have HQ : Hid ((w.setCell ⟨gp, 1, none⟩ (.int .i64 S)).heap[q]? = some (.cells cs T (0, 0))) := (Below.heap_setCell w _ _ q hgp).trans hq
    have HC : Hid (Ch [gp, q] w (w.setCell ⟨gp, 1, none⟩ (.int .i64 S))) := (Ch.refl _ _).set (.inl (by simp)) rfl
    have HU := hid hu0
    have HS := hid hS
    have hS2 := hS.symm
    clear hdl hcut hst hln hu0 hS
    generalize hD : B.drop at_ = D at *
    clear hD
    cases ha : Lib.atoiAll s with
    | ok v =>
      have HA := hid ha
      have HV := hid (Lib.atoiAll_bounds ha)
      have HX2 : Hid (rn e D = if Lib.itoa v = s then some (v, t) else none) := by show _ = _; rw [HX.out, ha]
      clear ha
      by_cases hit : Lib.itoa v = s
      · have hbe : ((ba (Lib.itoa v)).toList == (ba s).toList) = true := (Lib.bytes_beq_iff _ _).2 (by rw [hit])
        have HIT := hid hit
        clear hit
        go_enter Tryd.func27, Tryd.ntmps27
        go_wp2
        go_quiet ((go_at_call 35; exact indexByte_q HI.out HB e))
        go_wp2
        go_quiet (fail)
        go_wp2_with (first
          | (go_at_call 24; refine Calls.mono (atoi_any s hsb _ (by exact HP.out.law.at rfl)) ?_; rintro e2 w2 ⟨v2, er, rfl, hb2, hor⟩; obtain ⟨hok, rfl⟩ := hor.resolve_right (fun hno => hno.1 _ HA.out); obtain rfl : v2 = v := (by have := HA.out.symm.trans hok; injection this with this; exact this.symm); clear hor hok; have q2 : w2.heap[q]? = some (.cells cs T (0, 0)) := (hb2.block q (by simp; omega)).trans HQ.out; have x2 : w2.cell? ⟨q, j, none⟩ = some u0 := (cell_of_row _ _ j _ _ _ q2).trans HU.out; have f2 : w2.frozen? ⟨q, j, none⟩ = false := (by simp [World.frozen?, q2]); have p2 : Hid (Rd gp w2 g o c B (at_ + (s.length + 1))) := Rd.below (by exact HP.out.at rfl) hb2; have Q2 := hid q2; have C2 := hid hb2; clear q2 hb2)
          | (go_at_call 15; refine Calls.mono (itoa_any _ HV.out _ (by exact p2.out.law.kept (by simp) (fun k hk => Below.heap_setCell _ _ _ k (show k ≠ q by omega)))) ?_; rintro e3 w3 ⟨rfl, hb3⟩; have C3 := hid hb3; clear hb3))
        go_ret
        have h1 : Ch [gp, q] w w2 := (show Ch [gp, q] w ((w.drewN _).setCell ⟨gp, 1, none⟩ (.int .i64 S)) from ⟨HC.out.os, HC.out.tape, HC.out.output, HC.out.size, HC.out.block, HC.out.kind⟩).trans (Ch.below C2.out)
        have h2 := (h1.set (a := ⟨q, j, none⟩) (.inl (by simp)) (u := .int .i64 v2) rfl).trans (Ch.below C3.out)
        refine ⟨true, ret_bool (by simp), h2, ?_⟩
        rw [HX2.out, if_pos HIT.out]
        refine ⟨rfl, ?_, (C3.out.block q (by have := h1.size; simp; omega)).trans (heap_put Q2.out _)⟩
        rw [HT.out]
        exact (p2.out.kept (by simp) (Below.heap_setCell _ _ _ gp (Ne.symm hgp)) (Below.heap_setCell _ _ _ g (Ne.symm hqg)) (fun k hk => Below.heap_setCell _ _ _ k (show k ≠ q by omega))).below C3.out
      · have hbe : ((ba (Lib.itoa v)).toList == (ba s).toList) = false := (Lib.bytes_beq_false_iff _ _).2 (fun h => hit (ba_inj h))
        have HIT := hid hit
        clear hit
        go_enter Tryd.func27, Tryd.ntmps27
        go_wp2
        go_quiet ((go_at_call 35; exact indexByte_q HI.out HB e))
        go_wp2
        go_quiet (fail)
        go_wp2_with (first
          | (go_at_call 24; refine Calls.mono (atoi_any s hsb _ (by exact HP.out.law.at rfl)) ?_; rintro e2 w2 ⟨v2, er, rfl, hb2, hor⟩; obtain ⟨hok, rfl⟩ := hor.resolve_right (fun hno => hno.1 _ HA.out); obtain rfl : v2 = v := (by have := HA.out.symm.trans hok; injection this with this; exact this.symm); clear hor hok; have q2 : w2.heap[q]? = some (.cells cs T (0, 0)) := (hb2.block q (by simp; omega)).trans HQ.out; have x2 : w2.cell? ⟨q, j, none⟩ = some u0 := (cell_of_row _ _ j _ _ _ q2).trans HU.out; have f2 : w2.frozen? ⟨q, j, none⟩ = false := (by simp [World.frozen?, q2]); have p2 : Hid (Rd gp w2 g o c B (at_ + (s.length + 1))) := Rd.below (by exact HP.out.at rfl) hb2; have Q2 := hid q2; have C2 := hid hb2; clear q2 hb2)
          | (go_at_call 15; refine Calls.mono (itoa_any _ HV.out _ (by exact p2.out.law.kept (by simp) (fun k hk => Below.heap_setCell _ _ _ k (show k ≠ q by omega)))) ?_; rintro e3 w3 ⟨rfl, hb3⟩; have C3 := hid hb3; clear hb3))
        go_ret
        have h1 : Ch [gp, q] w w2 := (show Ch [gp, q] w ((w.drewN _).setCell ⟨gp, 1, none⟩ (.int .i64 S)) from ⟨HC.out.os, HC.out.tape, HC.out.output, HC.out.size, HC.out.block, HC.out.kind⟩).trans (Ch.below C2.out)
        have h2 := (h1.set (a := ⟨q, j, none⟩) (.inl (by simp)) (u := .int .i64 v2) rfl).trans (Ch.below C3.out)
        refine ⟨false, ret_bool (by simp), h2, ?_⟩
        rw [HX2.out, if_neg HIT.out]
        exact rfl
    | _ =>
      have HA : Hid (∀ n, Lib.atoiAll s ≠ .ok n) := by intro n hn; rw [ha] at hn; cases hn
      have HX2 : Hid (rn e D = none) := by show _ = _; rw [HX.out, ha]
      clear ha
      go_enter Tryd.func27, Tryd.ntmps27
      go_wp2
      go_quiet ((go_at_call 35; exact indexByte_q HI.out HB e))
      go_wp2
      go_quiet (fail)
      go_wp2_with (first
        | (go_at_call 24; refine Calls.mono (atoi_any s hsb _ (by exact HP.out.law.at rfl)) ?_; rintro e2 w2 ⟨v2, er, rfl, hb2, hor⟩; obtain ⟨_, et, ep, rfl⟩ := hor.resolve_left (fun hno => HA.out _ hno.1); clear hor; have q2 : w2.heap[q]? = some (.cells cs T (0, 0)) := (hb2.block q (by simp; omega)).trans HQ.out; have x2 : w2.cell? ⟨q, j, none⟩ = some u0 := (cell_of_row _ _ j _ _ _ q2).trans HU.out; have f2 : w2.frozen? ⟨q, j, none⟩ = false := (by simp [World.frozen?, q2]); have p2 : Hid (Rd gp w2 g o c B (at_ + (s.length + 1))) := Rd.below (by exact HP.out.at rfl) hb2; have Q2 := hid q2; have C2 := hid hb2; clear q2 hb2))
      go_ret
      have h1 : Ch [gp, q] w w2 := (show Ch [gp, q] w ((w.drewN _).setCell ⟨gp, 1, none⟩ (.int .i64 S)) from ⟨HC.out.os, HC.out.tape, HC.out.output, HC.out.size, HC.out.block, HC.out.kind⟩).trans (Ch.below C2.out)
      refine ⟨false, ret_bool (by simp), h1.set (a := ⟨q, j, none⟩) (.inl (by simp)) rfl, ?_⟩
      rw [HX2.out]
      exact rfl
end
end Go.Proofs.YtbkihppmikjcoaaDoor

/- Bytes as questions: frame.Parse. -/
import Derived.Test.YtbkihppmikjcoaaDoorFrAsk
import Derived.Test.YtbkihppmikjcoaaDoorFrWrong
namespace Go.Proofs.YtbkihppmikjcoaaDoor
open Go.RowKit
set_option linter.unusedVariables false
attribute [local go_sem ↓] Go.wp_at_zero Go.wp_at_succ
theorem Tryd.infoAk : (Tryd.prog.info? 26).map (fun i => (i.zero, i.size, i.bytes)) = some (some (.agg #[.int .i64 0, .int .i64 0, .int .i64 0, .int .i64 0, .string ⟨#[]⟩, .slice none 0 0]), 6, 72) := by kernel_rfl
/-- Questions whose Args lie each in a block of its own. -/
def akL (L : List (Ak × Nat)) : List Value := L.flatMap (fun p => akC p.1 (some ⟨p.2, 0, none⟩) p.1.args.length)
theorem akL_snoc (L : List (Ak × Nat)) (p : Ak × Nat) : akL (L ++ [p]) = akL L ++ akC p.1 (some ⟨p.2, 0, none⟩) p.1.args.length := by simp [akL]
theorem akL_len (L : List (Ak × Nat)) : (akL L).length = L.length * 6 := by
  induction L with
  | nil => rfl
  | cons t l ih => simp only [akL, List.flatMap_cons, List.length_append, List.length_cons] at ih ⊢; rw [ih]; simp [akC]; omega
theorem akL_at (L : List (Ak × Nat)) (j : Nat) (p : Ak × Nat) (h : L[j]? = some p) (i : Nat) (u : Value) (hu : (akC p.1 (some ⟨p.2, 0, none⟩) p.1.args.length)[i]? = some u) : (akL L)[j * 6 + i]? = some u := by
  induction L generalizing j with
  | nil => cases h
  | cons q l ih =>
    have hi : i < 6 := by
      have := (List.getElem?_eq_some_iff.1 hu).1
      simpa [akC] using this
    cases j with
    | zero =>
      simp at h; subst h
      rw [show akL (q :: l) = akC q.1 (some ⟨q.2, 0, none⟩) q.1.args.length ++ akL l from rfl, Nat.zero_mul, Nat.zero_add, List.getElem?_append_left (by simp [akC]; omega)]
      exact hu
    | succ j =>
      simp at h
      have := ih j h
      rw [show akL (q :: l) = akC q.1 (some ⟨q.2, 0, none⟩) q.1.args.length ++ akL l from rfl, show (j + 1) * 6 + i = (akC q.1 (some ⟨q.2, 0, none⟩) q.1.args.length).length + (j * 6 + i) by simp [akC]; omega, List.getElem?_append_right (Nat.le_add_right _ _), Nat.add_sub_cancel_left]
      exact this
structure OwnAk (base : Nat) (w : World) (v : Value) (L : List (Ak × Nat)) : Prop where
  own : w.ownsRow base 26 6 v L.length (akL L)
  args : ∀ p ∈ L, base ≤ p.2 ∧ w.heap[p.2]? = some (.cells (row p.1.args 0) 3 (0, 0))
theorem row_cell {w : World} {G : Nat} {l : List Int} (h : w.heap[G]? = some (.cells (row l 0) 3 (0, 0))) : Nums w G 0 l := fun j n hj => by
  rw [Nat.zero_add, cell_of_row _ _ j _ _ _ h]
  simp [row, hj]
theorem OwnAk.in_ {base : Nat} {w : World} {v : Value} {L : List (Ak × Nat)} (h : OwnAk base w v L) : AksIn w v (L.map (·.1)) := by
  obtain ⟨h1, h2⟩ := h
  by_cases hn : 0 < L.length
  · obtain ⟨g, cap, hv⟩ : ∃ g cap, v = .slice (some ⟨g, 0, none⟩) L.length cap := by
      obtain ⟨_, ⟨_, h0⟩ | ⟨g, cap, cur, hv, _⟩⟩ := h1
      · omega
      · exact ⟨g, cap, hv⟩
    subst hv
    refine ⟨some ⟨g, 0, none⟩, cap, by rw [List.length_map], nofun, fun _ => ⟨g, 0, rfl, (h1.lt g rfl).2, fun j a hj => ?_⟩⟩
    rw [List.getElem?_map] at hj
    cases hp : L[j]? with
    | none => rw [hp] at hj; cases hj
    | some p =>
      rw [hp] at hj
      simp at hj
      subst hj
      refine ⟨some ⟨p.2, 0, none⟩, p.1.args.length, fun i u hu => ?_, fun _ => ⟨p.2, 0, rfl, (Array.getElem?_eq_some_iff.1 (h2 p (List.mem_of_getElem? hp)).2).1, row_cell (h2 p (List.mem_of_getElem? hp)).2⟩⟩
      · have := h1.cells (g := g) rfl _ _ (akL_at L j p hp i u hu)
        rw [show (⟨g, 0, none⟩ : Addr).add (j * 6 + i) = ⟨g, 0 + (j * 6 + i), none⟩ by unfold Addr.add; split <;> simp_all, ← Nat.add_assoc] at this
        exact this
  · have hL : L = [] := List.length_eq_zero_iff.1 (by omega)
    subst hL
    obtain ⟨_, ⟨hv, h0⟩ | ⟨g, cap, cur, hv, _⟩⟩ := h1
    · exact ⟨none, 0, hv, fun _ => rfl, fun h => absurd h (by simp)⟩
    · exact ⟨some ⟨g, 0, none⟩, cap, hv, nofun, fun h => absurd h (by simp)⟩
/-- Another block's doings leave them as they were. -/
theorem OwnAk.below {base : Nat} {w w' : World} {v : Value} {L : List (Ak × Nat)} (h : OwnAk base w v L) (hb : Below w.heap.size w w') : OwnAk base w' v L :=
  ⟨own_below h.own hb, fun p hp => ⟨(h.args p hp).1, (hb.block _ (Array.getElem?_eq_some_iff.1 (h.args p hp).2).1).trans (h.args p hp).2⟩⟩
theorem OwnAk.ch {base gp : Nat} {w w' : World} {v : Value} {L : List (Ak × Nat)} (h : OwnAk base w v L) (hb : Ch [gp] w w') {cs : Array Value} (hg : w.heap[gp]? = some (.cells cs 42 (0, 0))) : OwnAk base w' v L := by
  have hne : ∀ p ∈ L, p.2 ≠ gp := fun p hp e => by
    have := (h.args p hp).2
    rw [e, hg] at this
    simp at this
  refine ⟨h.own.kept (row := some gp) ⟨hb.os, hb.tape, hb.output, hb.size, fun k hk hn => hb.block k hk (by simpa using hn)⟩ ?_, fun p hp => ⟨(h.args p hp).1, (hb.block _ (Array.getElem?_eq_some_iff.1 (h.args p hp).2).1 (by simpa using hne p hp)).trans (h.args p hp).2⟩⟩
  obtain ⟨_, ⟨hv, h0⟩ | ⟨g, cap, cur, hv, _, h3, _⟩⟩ := h.own
  · subst hv; exact .inl rfl
  · subst hv
    refine .inr (fun e => ?_)
    injection e with e
    have e : g = gp := e
    rw [e, hg] at h3
    simp at h3
/-- One more. -/
theorem OwnAk.put {base : Nat} {w w' : World} {v v' : Value} {L : List (Ak × Nat)} (h : OwnAk base w v L) (p : Ak × Nat) (hp : base ≤ p.2 ∧ w.heap[p.2]? = some (Obj.cells (row p.1.args 0) 3 (0, 0)))
    (hown : w'.ownsRow base 26 6 v' (L.length + 1) (akL L ++ akC p.1 (some ⟨p.2, 0, none⟩) p.1.args.length)) (hg : w.grownBy w' v.ownBlock) : OwnAk base w' v' (L ++ [p]) := by
  have hne : ∀ (G : Nat) (cs : Array Value), w.heap[G]? = some (.cells cs 3 (0, 0)) → w'.heap[G]? = some (.cells cs 3 (0, 0)) := fun G cs hG => by
    refine (hg.block G (Array.getElem?_eq_some_iff.1 hG).1 (fun e => ?_)).trans hG
    obtain ⟨_, ⟨hv, h0⟩ | ⟨g, cap, cur, hv, _, h3, _⟩⟩ := h.own
    · subst hv; cases e
    · subst hv
      injection e with e
      have e : G = g := e
      rw [← e, hG] at h3
      simp at h3
  refine ⟨by rw [List.length_append, akL_snoc]; exact hown, fun q hq => ?_⟩
  rcases List.mem_append.1 hq with hq | hq
  · exact ⟨(h.args q hq).1, hne _ _ (h.args q hq).2⟩
  · obtain rfl := List.mem_singleton.1 hq
    exact ⟨hp.1, hne _ _ hp.2⟩
def ParseP (x : List Ak ⊕ (Int × Nat)) (r : Value) (e k : Int) (w' : World) : Prop :=
  match x with
  | .inl m => e = 0 ∧ k = 0 ∧ AksIn w' r m
  | .inr (e', k') => r = .slice none 0 0 ∧ e = e' ∧ k = (k' : Int)
def preP (done : List Ak) (a : Nat) : List Ak ⊕ (Int × Nat) → List Ak ⊕ (Int × Nat)
  | .inl m => .inl (done ++ m)
  | .inr (e, k) => .inr (e, a + k)
def RelPa (n g o c : Nat) (B : List UInt8) (w : World) (X : List Ak ⊕ (Int × Nat)) (v : Value) (wr : World) : Prop :=
  ∃ (L : List (Ak × Nat)) (a : Nat), Rd (n + 1) wr g o c B a ∧ OwnAk n wr v L ∧ Below n w wr ∧ wr.heap[n]? = some (.cells #[.int .i64 0, .int .i64 0] 30 (0, 0)) ∧ L.length ≤ a ∧ X = preP (L.map (·.1)) a (pr (B.drop a))
def meaP (gp len : Nat) (w : World) : Nat := match w.cell? ⟨gp, 1, none⟩ with | some (.int _ n) => len - n.toNat | _ => 0
theorem meaP_at {gp : Nat} {w : World} {g o c : Nat} {B : List UInt8} {a : Nat} (h : Rd gp w g o c B a) : meaP gp B.length w = B.length - a := by
  unfold meaP
  rw [cell_of_row _ _ 1 _ _ _ h.blk]
  rfl
theorem akR_suf {b t : List UInt8} {a : Ak} (h : akR b = some (a, t)) : ∃ x, b = x ++ t := by
  unfold akR at h
  split at h
  · next i k f t2 m s u hl =>
    obtain ⟨h1, h2, h3⟩ := rl_some hl
    unfold akT at h
    split at h
    · cases h
    · split at h
      · cases h
      · next l u2 hr =>
        split at h
        · cases h
        · obtain ⟨h4, h5, h6⟩ := ra_some hr
          simp only [Option.some.injEq, Prod.mk.injEq] at h
          obtain ⟨_, rfl⟩ := h
          refine ⟨wl [i, k, f, t2, m, s] ++ wa l ++ u2.take s.toNat, ?_⟩
          conv => lhs; rw [h1, h4]
          simp
  · cases h
theorem pa_step {n g o c : Nat} {B : List UInt8} {w w6 : World} {X : List Ak ⊕ (Int × Nat)} {v6 : Value} {L : List (Ak × Nat)} {a G : Nat} {q : Ak} {t : List UInt8} (hR : Rd (n + 1) w6 g o c B (B.length - t.length)) (hO : OwnAk n w6 v6 (L ++ [(q, G)])) (hB : Below n w w6)
    (hF : w6.heap[n]? = some (.cells #[.int .i64 0, .int .i64 0] 30 (0, 0))) (hLa : L.length ≤ a) (ha : a < B.length) (hX : X = preP (L.map (·.1)) a (pr (B.drop a))) (hak : akR (B.drop a) = some (q, t)) (hw : akW q = 0) : RelPa n g o c B w X v6 w6 := by
  have hl := akR_len hak
  obtain ⟨x, hx⟩ := akR_suf hak
  have hd := drop_tail hx
  rw [List.length_drop] at hl
  refine ⟨L ++ [(q, G)], B.length - t.length, hR, hO, hB, hF, by rw [List.length_append, List.length_singleton]; omega, ?_⟩
  rw [hX, pr_more hak hw, hd, List.length_drop]
  cases pr t with
  | inl m => simp [preP]
  | inr p =>
    obtain ⟨e, k⟩ := p
    simp only [preP, Sum.inr.injEq, Prod.mk.injEq, true_and]
    omega
theorem OwnAk.not {base : Nat} {w : World} {v : Value} {L : List (Ak × Nat)} (h : OwnAk base w v L) {k : Nat} {cs : Array Value} {T : TypeId} (hk : w.heap[k]? = some (.cells cs T (0, 0))) (hT : T ≠ 26) : some k ≠ v.ownBlock := fun e => by
  obtain ⟨_, ⟨hv, h0⟩ | ⟨g, cap, cur, hv, _, h3, _⟩⟩ := h.own
  · subst hv; cases e
  · subst hv
    injection e with e
    have e : k = g := e
    rw [← e, hk] at h3
    simp at h3
    exact hT h3.2
theorem ch_below {n : Nat} {w wr w2 : World} (hB : Below n w wr) (hn : n = w.heap.size) (hC : Ch [n + 1] wr w2) : Below n w w2 :=
  ⟨hC.os.trans hB.os, hC.tape.trans hB.tape, hC.output.trans hB.output, Nat.le_trans hB.size hC.size, fun k hk => (hC.block k (by have := hB.size; omega) (by simp; omega)).trans (hB.block k hk)⟩
/-- What a round leaves. -/
theorem pa_round {n g o c : Nat} {B : List UInt8} {w wr w2 w3 w6 : World} {X : List Ak ⊕ (Int × Nat)} {u4 v6 : Value} {L : List (Ak × Nat)} {a G : Nat} {q : Ak} {t : List UInt8} (hn : n = w.heap.size) (hgl : g < w.heap.size) (h3 : 3 ≤ w.heap.size) (hB1 : Below n w wr) (hC2 : Ch [n + 1] wr w2) (hR2 : Rd (n + 1) w2 g o c B (B.length - t.length)) (hO2 : OwnAk n w2 u4 L)
    (hF2 : w2.heap[n]? = some (.cells #[.int .i64 0, .int .i64 0] 30 (0, 0))) (hG0 : wr.heap.size ≤ G) (hG2 : w2.heap[G]? = some (.cells (row q.args 0) 3 (0, 0))) (hB4 : Below w2.heap.size w2 w3)
    (hown : w6.ownsRow n 26 6 v6 (L.length + 1) (akL L ++ akC q (some ⟨G, 0, none⟩) q.args.length)) (o4 : Obj) (hg : (w3.alloc o4).grownBy w6 u4.ownBlock)
    (hLa : L.length ≤ a) (ha : a < B.length) (hX : X = preP (L.map (·.1)) a (pr (B.drop a))) (hak : akR (B.drop a) = some (q, t)) (hw : akW q = 0) : RelPa n g o c B w X v6 w6 ∧ Rd (n + 1) w6 g o c B (B.length - t.length) := by
  have hB5 := hB4.trans ((Below.refl w3.heap.size w3).alloc (Nat.le_refl _) o4 |>.mono hB4.size)
  have hO4 := hO2.below hB5
  have hR4 := hR2.below hB5
  have hG4 := (hB5.block G (Array.getElem?_eq_some_iff.1 hG2).1).trans hG2
  have hF4 := (hB5.block n (Array.getElem?_eq_some_iff.1 hF2).1).trans hF2
  have hBn := (ch_below hB1 hn hC2).trans (hB5.mono (by have := (ch_below hB1 hn hC2).size; omega))
  have hlo : ∀ k, u4.ownBlock = some k → n ≤ k := fun k e => (hO4.own.lt k e).1
  have hk : ∀ k, k < n → w6.heap[k]? = (w3.alloc o4).heap[k]? := fun k hk => hg.block k (by have := hBn.size; omega) (fun e => by have := hlo k e.symm; omega)
  have hR6 : Rd (n + 1) w6 g o c B (B.length - t.length) := hR4.kept hg.size (hg.block _ hR4.gp_lt (hO4.not hR4.blk (by decide))) (hk g (by omega)) (fun k hk2 => hk k (by omega))
  refine ⟨pa_step hR6 (hO4.put (q, G) ⟨by have := hB1.size; simp only; omega, hG4⟩ hown hg) (hBn.grown hg (by have := hBn.size; omega) hlo) ?_ hLa ha hX hak hw, hR6⟩
  · exact (hg.block n (Array.getElem?_eq_some_iff.1 hF4).1 (hO4.not hF4 (by decide))).trans hF4
theorem OwnAk.but {base : Nat} {w w' : World} {v : Value} {L : List (Ak × Nat)} (h : OwnAk base w v L) {n : Nat} {cs : Array Value} (hn : w.heap[n]? = some (.cells cs 30 (0, 0))) (hb : Below n w w') (hs : ∀ k, k ≠ n → w'.heap[k]? = w.heap[k]?) : OwnAk base w' v L := by
  refine ⟨h.own.kept (row := some n) ⟨hb.os, hb.tape, hb.output, hb.size, fun k _ hk => hs k (fun e => hk (by rw [e]))⟩ (.inr (fun e => h.not hn (by decide) e.symm)), fun p hp => ⟨(h.args p hp).1, (hs _ (fun e => ?_)).trans (h.args p hp).2⟩⟩
  have := (h.args p hp).2
  rw [e, hn] at this
  simp at this
theorem fin2 {w : World} {n : Nat} {T : TypeId} {r0 r1 : Value} (h : w.heap[n]? = some (.cells #[r0, r1] T (0, 0))) (u0 u1 : Value) : ((w.setCell ⟨n, 0, none⟩ u0).setCell ⟨n, 1, none⟩ u1).cell? ⟨n, 0, none⟩ = some u0 ∧ ((w.setCell ⟨n, 0, none⟩ u0).setCell ⟨n, 1, none⟩ u1).cell? ⟨n, 1, none⟩ = some u1 := by
  have h2 : ((w.setCell ⟨n, 0, none⟩ u0).setCell ⟨n, 1, none⟩ u1).heap[n]? = some (.cells #[u0, u1] T (0, 0)) := heap_put (heap_put h u0) u1
  exact ⟨cell_of_row _ _ 0 _ _ _ h2, cell_of_row _ _ 1 _ _ _ h2⟩
theorem row2 {w : World} {b : Nat} {v0 v1 : Value} {T : TypeId} (h : w.heap[b]? = some (.cells #[v0, v1] T (0, 0))) : w.cell? ⟨b, 0, none⟩ = some v0 ∧ w.cell? ⟨b, 1, none⟩ = some v1 ∧ (∀ o, w.frozen? ⟨b, o, none⟩ = false) :=
  ⟨cell_of_row _ _ _ _ _ _ h, cell_of_row _ _ _ _ _ _ h, fun o => by simp [World.frozen?, h]⟩
theorem frozen_alloc {w : World} {b : Nat} {cs : Array Value} {T : TypeId} (h : w.heap[b]? = some (.cells cs T (0, 0))) : ∀ x o, (w.alloc x).frozen? ⟨b, o, none⟩ = false := fun x o => by
  have := (Below.heap_alloc w x b (Array.getElem?_eq_some_iff.1 h).1).trans h
  simp [World.frozen?, this]
set_option maxHeartbeats 1000000 in
set_option maxRecDepth 100000 in
theorem parse_nil (w : World) (p : Option Addr) (c : Nat) :
    Calls Tryd.prog 10 #[.slice p 0 c] w fun ex w' => ∃ r e k, ex = .returned (.tuple #[r, faV e k]) ∧ Below w.heap.size w w' ∧ ParseP (.inl []) r e k w' := by
  have hb1 := ((Below.refl w.heap.size w).alloc (Nat.le_refl _) (.cells #[.int .i64 0, .int .i64 0] 30)).alloc (by simp) (.cells #[.slice p 0 c, .int .i64 0] 42)
  have hn1 := heap_alloc_new (w.alloc (.cells #[.int .i64 0, .int .i64 0] 30)) (.cells #[.slice p 0 c, .int .i64 0] 42)
  have hn0 := (Below.heap_alloc (w.alloc (.cells #[.int .i64 0, .int .i64 0] 30)) (.cells #[.slice p 0 c, .int .i64 0] 42) w.heap.size (by simp)).trans (heap_alloc_new w _)
  rw [show (w.alloc (.cells #[.int .i64 0, .int .i64 0] 30)).heap.size = w.heap.size + 1 by simp] at hn1
  have HB := hid hb1
  have HN0 := hid hn0
  have HN1 := hid hn1
  clear hb1 hn1 hn0
  go_enter Tryd.func10, Tryd.ntmps10
  go_wp2
  go_loopw [4] (fun v wr => v = .slice none 0 0 ∧ Below w.heap.size w wr ∧ wr.cell? ⟨w.heap.size + 1, 1, none⟩ = some (.int .i64 0) ∧ wr.heap[w.heap.size]? = some (.cells #[.int .i64 0, .int .i64 0] 30 (0, 0))) (fun _ _ => 0)
  case atStart => exact ⟨rfl, HB.out, cell_of_row _ _ 1 _ _ _ HN1.out, HN0.out⟩
  case round =>
    obtain ⟨rfl, hb1, c1, c2⟩ := hrel
    obtain ⟨d0, d1, df⟩ := row2 c2
    have C2 := hid c2
    have HB2 := hid hb1
    clear c2 hb1
    go_wp2
    obtain ⟨z0, z1⟩ := fin2 C2.out (.int .i64 0) (.int .i64 0)
    have hb9 := (HB2.out.setCell (p := ⟨w.heap.size, 0, none⟩) (Nat.le_refl _) (.int .i64 0)).setCell (p := ⟨w.heap.size, 1, none⟩) (Nat.le_refl _) (.int .i64 0)
    generalize (wr.setCell ⟨w.heap.size, 0, none⟩ (.int .i64 0)).setCell ⟨w.heap.size, 1, none⟩ (.int .i64 0) = w9 at *
    exact bodyPost_ret (v := .tuple #[.slice none 0 0, faV 0 0]) (by simp [results, Tryd.results10, go_sem, z0, z1, faV]) rfl ⟨_, 0, 0, rfl, hb9, rfl, rfl, none, 0, rfl, fun _ => rfl, fun h => absurd h (by simp)⟩
set_option maxHeartbeats 2000000 in
set_option maxRecDepth 100000 in
theorem parse_any (w : World) (hL : Lw w) (v : Value) (B : List UInt8) (hv : BytIn w v B) (hbig : B.length ≤ 1099511627776) :
    Calls Tryd.prog 10 #[v] w fun ex w' => ∃ r e k, ex = .returned (.tuple #[r, faV e k]) ∧ Below w.heap.size w w' ∧ ParseP (pr B) r e k w' := by
  obtain ⟨p, c, rfl, hcap, _, hp⟩ := hv
  by_cases hB : B = []
  · subst hB
    rw [pr_nil]
    exact parse_nil w p c
  obtain ⟨g, o, rfl, hgl, hbyt⟩ := hp (List.length_pos_iff.2 hB)
  obtain ⟨i0, hi0, hz0, hz1, hz2⟩ := info_parts Tryd.infoAk
  obtain ⟨X, hX⟩ : ∃ X, pr B = X := ⟨_, rfl⟩
  rw [hX]
  have hb1 := ((Below.refl w.heap.size w).alloc (Nat.le_refl _) (.cells #[.int .i64 0, .int .i64 0] 30)).alloc (by simp) (.cells #[.slice (some ⟨g, o, none⟩) B.length c, .int .i64 0] 42)
  have hn1 := heap_alloc_new (w.alloc (.cells #[.int .i64 0, .int .i64 0] 30)) (.cells #[.slice (some ⟨g, o, none⟩) B.length c, .int .i64 0] 42)
  have hn0 := (Below.heap_alloc (w.alloc (.cells #[.int .i64 0, .int .i64 0] 30)) (.cells #[.slice (some ⟨g, o, none⟩) B.length c, .int .i64 0] 42) w.heap.size (by simp)).trans (heap_alloc_new w _)
  rw [show (w.alloc (.cells #[.int .i64 0, .int .i64 0] 30)).heap.size = w.heap.size + 1 by simp] at hn1
  have h3 := hL.low
  have HR0 := hid (show Rd (w.heap.size + 1) _ g o c B 0 from ⟨hn1, Nat.zero_le _, hcap, hbig, by omega, Nat.lt_of_lt_of_le hgl hb1.size, by omega, hbyt.kept (hb1.block g hgl), hL.below h3 hb1⟩)
  have HB := hid hb1
  have HN0 := hid hn0
  have HX0 : Hid (X = preP [] 0 (pr (B.drop 0))) := by
    show _ = _
    rw [List.drop_zero, hX]
    cases X with
    | inl m => rfl
    | inr p => simp [preP]
  have HBs := hid hB
  clear hb1 hn1 hn0 hX hbyt hcap hp hB
  go_enter Tryd.func10, Tryd.ntmps10
  go_wp2
  go_loopw [4] (fun v wr => RelPa w.heap.size g o c B w X v wr) (fun _ wr => meaP (w.heap.size + 1) B.length wr)
  case atStart => exact ⟨[], 0, HR0.out, ⟨World.ownsRow_nil _ _ _ _, fun p hp => by cases hp⟩, HB.out, HN0.out, Nat.le_refl _, HX0.out⟩
  case round =>
    obtain ⟨L, a, hR1, hO, hB1, hF, hLa, hX1⟩ := hrel
    have c1 : wr.cell? ⟨w.heap.size + 1, 1, none⟩ = some (.int .i64 (a : Int)) := cell_of_row _ _ 1 _ _ _ hR1.blk
    have hale := hR1.le
    by_cases hlt : a < B.length
    · have HA := hid (ask_any hR1)
      have HBl := hid hR1.blk
      have HM := hid (meaP_at hR1)
      cases hak : akR (B.drop a) with
      | none => 
        have HX2 : Hid (X = .inr (2, a)) := by
          show _ = _
          rw [hX1, pr_none (fun e => by have := congrArg List.length e; rw [List.length_drop] at this; simp at this; omega) hak]
          rfl
        have HA : Hid (_ ∧ _) := ⟨HA.out, hak⟩
        have HF := hid hF
        have HB1 := hid hB1
        clear hak hR1 hO hB1 hF hX1
        go_wp2_with (first
          | (go_at_call 16; refine Calls.mono HA.out.1 ?_; rintro ex w2 ⟨u0, u1, u2, u3, u4, u5, ok, rfl, on2, hC2, hP2⟩; rw [HA.out.2] at hP2; obtain rfl : ok = false := hP2; have s0 := fun a m W => run_store Tryd.prog W a u0 m (on2 0 u0 rfl); have s1 := fun a m W => run_store Tryd.prog W a u1 m (on2 1 u1 rfl); have s2 := fun a m W => run_store Tryd.prog W a u2 m (on2 2 u2 rfl); have s3 := fun a m W => run_store Tryd.prog W a u3 m (on2 3 u3 rfl); have s4 := fun a m W => run_store Tryd.prog W a u4 m (on2 4 u4 rfl); have s5 := fun a m W => run_store Tryd.prog W a u5 m (on2 5 u5 rfl); have f2 := (hC2.block w.heap.size (Array.getElem?_eq_some_iff.1 HF.out).1 (by simp)).trans HF.out; obtain ⟨f20, f21, f2f⟩ := row2 f2; have F2 := hid f2; have HC2 := hid hC2; have g20 := cell_alloc f20; have g21 := cell_alloc f21; have gf := frozen_alloc f2; clear on2 hC2 f2))
        have hb2 : Below w.heap.size w w2 := ⟨HC2.out.os.trans HB1.out.os, HC2.out.tape.trans HB1.out.tape, HC2.out.output.trans HB1.out.output, Nat.le_trans HB1.out.size HC2.out.size, fun k hk => (HC2.out.block k (by have := HB1.out.size; omega) (by simp; omega)).trans (HB1.out.block k hk)⟩
        have hb3 := hb2.alloc hb2.size (.cells #[u0, u1, u2, u3, u4, u5] 26)
        have f3 := (Below.heap_alloc w2 (.cells #[u0, u1, u2, u3, u4, u5] 26) w.heap.size (Array.getElem?_eq_some_iff.1 F2.out).1).trans F2.out
        obtain ⟨z0, z1⟩ := fin2 f3 (.int .i64 2) (.int .i64 (a : Int))
        have hb9 := (hb3.setCell (p := ⟨w.heap.size, 0, none⟩) (Nat.le_refl _) (.int .i64 2)).setCell (p := ⟨w.heap.size, 1, none⟩) (Nat.le_refl _) (.int .i64 (a : Int))
        generalize ((w2.alloc (.cells #[u0, u1, u2, u3, u4, u5] 26)).setCell ⟨w.heap.size, 0, none⟩ (.int .i64 2)).setCell ⟨w.heap.size, 1, none⟩ (.int .i64 (a : Int)) = w9 at *
        exact bodyPost_ret (v := .tuple #[.slice none 0 0, faV 2 (a : Int)]) (by simp [results, Tryd.results10, go_sem, z0, z1, faV]) rfl ⟨_, _, _, rfl, hb9, by rw [HX2.out]; exact ⟨rfl, rfl, rfl⟩⟩
      | some qt =>
        obtain ⟨q, t⟩ := qt
        have HA : Hid (_ ∧ _) := ⟨HA.out, hak⟩
        have HF := hid hF
        have HB1 := hid hB1
        have HO := hid hO
        have HX1 := hid hX1
        have HLt := hid hlt
        have HLa := hid hLa
        have HAK := hid hak
        have hLb : L.length + 1 ≤ 1099511627776 := by omega
        by_cases hw : akW q = 0
        · have HW := hid hw
          have hmax : L.length + 1 ≤ maxLen := by unfold maxLen; omega
          have hbyt : (L.length + 1) * 72 ≤ 140737488355328 := by omega
          clear hak hR1 hO hB1 hF hX1 hlt hLa
          go_wp2_with (first
            | (go_at_call 16; refine Calls.mono HA.out.1 ?_; rintro ex w2 ⟨u0, u1, u2, u3, u4, u5, ok, rfl, on2, hC2, hP2⟩; rw [HA.out.2] at hP2; obtain ⟨rfl, hR2, G, hG0, hv2, hG2⟩ := hP2; simp only [akV, Value.agg.injEq, Array.mk.injEq, List.cons.injEq, and_true] at hv2; obtain ⟨rfl, rfl, rfl, rfl, rfl, rfl⟩ := hv2; have HR2 := hid hR2; have HG2 := hid hG2; have HG0 := hid hG0; have HO2 := hid (HO.out.ch hC2 HBl.out); have F2 := hid ((hC2.block w.heap.size (Array.getElem?_eq_some_iff.1 HF.out).1 (by simp)).trans HF.out); have HC2 := hid hC2; clear on2 hC2 hG0 hG2 hR2)
            | (go_at_call 6; refine Calls.mono (wrong_any q (some ⟨G, 0, none⟩) q.args.length _) ?_; rintro ex w3 ⟨rfl, hb3⟩; have x3 := (hb3.block w2.heap.size (by simp)).trans (heap_alloc_new w2 (.cells #[.int .i64 q.id, .int .i64 q.kind, .int .i64 q.fr, .int .i64 q.to, .string (ba q.text), .slice (some ⟨G, 0, none⟩) q.args.length q.args.length] 26)); obtain ⟨x30, x31, x32, x33, x34, x35, x3f⟩ := row6 x3; have hb4 : Below w2.heap.size w2 w3 := ((Below.refl w2.heap.size w2).alloc (Nat.le_refl _) _).trans (hb3.mono (by simp)); have HB4 := hid hb4; have hsz3 : w2.heap.size + 1 ≤ w3.heap.size := (by simpa using hb3.size); have HSZ := hid hsz3; have HO3 := hid (HO2.out.below hb4); have HOW := hid (World.ownsRow.alloc HO3.out.own (.cells #[.int .i64 q.id, .int .i64 q.kind, .int .i64 q.fr, .int .i64 q.to, .string (ba q.text), .slice (some ⟨G, 0, none⟩) q.args.length q.args.length] 26)); have HN := hid (World.news_of_block (heap_alloc_new w3 (.cells #[.int .i64 q.id, .int .i64 q.kind, .int .i64 q.fr, .int .i64 q.to, .string (ba q.text), .slice (some ⟨G, 0, none⟩) q.args.length q.args.length] 26))); clear x3 hb3 hb4 hsz3)
            | (at_builtin; refine wpList_append_lies _ rfl (.tmp 34) (.tmp 36) 22 rfl w.heap.size 26 i0 _ 6 72 Tryd.underlying22 hi0 hz0 hz1 hz2 rfl (by decide) _ _ _ rfl HOW.out ⟨w3.heap.size, 0, none⟩ 1 1 (akC q (some ⟨G, 0, none⟩) q.args.length) rfl rfl HN.out (by intro u hu; simp [akC] at hu; rcases hu with rfl | rfl | rfl | rfl | rfl | rfl <;> rfl) (by decide) hmax hbyt (by have := HB1.out.size; have := HC2.out.size; have := HSZ.out; simp; omega) _ rfl ?_; intro g6 cap6 w6 hown6 hgrow6 hat6 hlt6; have HOWN := hid hown6; have HG6 := hid hgrow6; clear hown6 hgrow6 hat6 hlt6))
          go_roundw
          case rel => exact pa_round rfl hgl h3 HB1.out HC2.out HR2.out HO2.out F2.out HG0.out HG2.out HB4.out HOWN.out _ HG6.out HLa.out HLt.out HX1.out (HAK.out) HW.out |>.1
          case measure =>
            have hR6 := (pa_round rfl hgl h3 HB1.out HC2.out HR2.out HO2.out F2.out HG0.out HG2.out HB4.out HOWN.out _ HG6.out HLa.out HLt.out HX1.out HAK.out HW.out).2
            have h1 := meaP_at hR6
            have h2 := akR_len HAK.out
            have h3 := HLt.out
            rw [List.length_drop] at h2
            show meaP (w.heap.size + 1) B.length w6 < meaP (w.heap.size + 1) B.length wr
            rw [h1, HM.out]
            omega
        · have HW := hid hw
          have HX2 : Hid (X = .inr (akW q, a)) := by
            show _ = _
            rw [HX1.out, pr_wrong (fun e => by have h1 := congrArg List.length e; rw [List.length_drop, List.length_nil] at h1; have := HLt.out; omega) HAK.out hw]
            rfl
          have hwb : (akW q != 0) = true := by simpa using hw
          clear hak hR1 hO hB1 hF hX1 hlt hLa
          go_wp2_with (first
            | (go_at_call 16; refine Calls.mono HA.out.1 ?_; rintro ex w2 ⟨u0, u1, u2, u3, u4, u5, ok, rfl, on2, hC2, hP2⟩; rw [HA.out.2] at hP2; obtain ⟨rfl, hR2, G, hG0, hv2, hG2⟩ := hP2; simp only [akV, Value.agg.injEq, Array.mk.injEq, List.cons.injEq, and_true] at hv2; obtain ⟨rfl, rfl, rfl, rfl, rfl, rfl⟩ := hv2; have HR2 := hid hR2; have HG2 := hid hG2; have HG0 := hid hG0; have HO2 := hid (HO.out.ch hC2 HBl.out); have F2 := hid ((hC2.block w.heap.size (Array.getElem?_eq_some_iff.1 HF.out).1 (by simp)).trans HF.out); have HC2 := hid hC2; clear on2 hC2 hG0 hG2 hR2)
            | (go_at_call 6; refine Calls.mono (wrong_any q (some ⟨G, 0, none⟩) q.args.length _) ?_; rintro ex w3 ⟨rfl, hb3⟩; have x3 := (hb3.block w.heap.size (by have := (Array.getElem?_eq_some_iff.1 F2.out).1; simp; omega)).trans ((Below.heap_alloc w2 _ _ (Array.getElem?_eq_some_iff.1 F2.out).1).trans F2.out); obtain ⟨x30, x31, x3f⟩ := row2 x3; have X3 := hid x3; have HB4 := hid (((Below.refl w2.heap.size w2).alloc (Nat.le_refl _) _).trans (hb3.mono (by simp))); clear x3 hb3))
          obtain ⟨z0, z1⟩ := fin2 X3.out (.int .i64 (akW q)) (.int .i64 (a : Int))
          have hb9 := ((ch_below HB1.out rfl HC2.out).trans (HB4.out.mono (by have := (ch_below HB1.out rfl HC2.out).size; omega))).setCell (p := ⟨w.heap.size, 0, none⟩) (Nat.le_refl _) (.int .i64 (akW q)) |>.setCell (p := ⟨w.heap.size, 1, none⟩) (Nat.le_refl _) (.int .i64 (a : Int))
          generalize (w3.setCell ⟨w.heap.size, 0, none⟩ (.int .i64 (akW q))).setCell ⟨w.heap.size, 1, none⟩ (.int .i64 (a : Int)) = w9 at *
          exact bodyPost_ret (v := .tuple #[.slice none 0 0, faV (akW q) (a : Int)]) (by simp [results, Tryd.results10, go_sem, z0, z1, faV]) rfl ⟨_, _, _, rfl, hb9, by rw [HX2.out]; exact ⟨rfl, rfl, rfl⟩⟩
    · obtain rfl : a = B.length := by omega
      have HX2 : Hid (X = .inl (L.map (·.1))) := by
        show _ = _
        rw [hX1, List.drop_length, pr_nil]
        simp [preP]
      obtain ⟨d0, d1, df⟩ := row2 hF
      have HF := hid hF
      have HO := hid hO
      have HB1 := hid hB1
      clear hR1 hO hB1 hF hX1 hlt hLa hale
      go_wp2
      obtain ⟨z0, z1⟩ := fin2 HF.out (.int .i64 0) (.int .i64 0)
      have hb9 := (HB1.out.setCell (p := ⟨w.heap.size, 0, none⟩) (Nat.le_refl _) (.int .i64 0)).setCell (p := ⟨w.heap.size, 1, none⟩) (Nat.le_refl _) (.int .i64 0)
      have hO9 := HO.out.but HF.out ((Below.refl w.heap.size wr).setCell (p := ⟨w.heap.size, 0, none⟩) (Nat.le_refl _) (.int .i64 0) |>.setCell (p := ⟨w.heap.size, 1, none⟩) (Nat.le_refl _) (.int .i64 0)) (fun k hk => (Below.heap_setCell _ _ _ k hk).trans (Below.heap_setCell _ _ _ k hk))
      generalize (wr.setCell ⟨w.heap.size, 0, none⟩ (.int .i64 0)).setCell ⟨w.heap.size, 1, none⟩ (.int .i64 0) = w9 at *
      refine bodyPost_ret (v := .tuple #[_, faV 0 0]) (by simp [results, Tryd.results10, go_sem, z0, z1, faV]; rfl) rfl ⟨_, _, _, rfl, hb9, by rw [HX2.out]; exact ⟨rfl, rfl, hO9.in_⟩⟩
end Go.Proofs.YtbkihppmikjcoaaDoor

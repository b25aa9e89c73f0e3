/- The reader reads a question. -/
import Derived.Test.YtbkihppmikjcoaaDoorFrArgs
namespace Go.Proofs.YtbkihppmikjcoaaDoor
open Go.RowKit
set_option linter.unusedVariables false
attribute [local go_sem ↓] Go.wp_at_zero Go.wp_at_succ
def AskP (gp g o c : Nat) (B : List UInt8) (b0 : Nat) (x : Option (Ak × List UInt8)) (v : Value) (ok : Bool) (w' : World) : Prop :=
  match x with
  | some (a, t) => ok = true ∧ Rd gp w' g o c B (B.length - t.length) ∧ ∃ G, b0 ≤ G ∧ v = akV a (some ⟨G, 0, none⟩) a.args.length ∧ w'.heap[G]? = some (.cells (row a.args 0) 3 (0, 0))
  | none => ok = false
/-- Six pointers. -/
def six (n : Nat) : List (Nat × Nat) := [(n + 1, 0), (n + 1, 1), (n + 1, 2), (n + 1, 3), (n + 2, 0), (n + 3, 0)]
def sixV (n : Nat) : Array Value := #[.pointer (some ⟨n + 1, 0, none⟩), .pointer (some ⟨n + 1, 1, none⟩), .pointer (some ⟨n + 1, 2, none⟩), .pointer (some ⟨n + 1, 3, none⟩), .pointer (some ⟨n + 2, 0, none⟩), .pointer (some ⟨n + 3, 0, none⟩)]
def ak0 : Array Value := #[.int .i64 0, .int .i64 0, .int .i64 0, .int .i64 0, .string ⟨#[]⟩, .slice none 0 0]
theorem six_pal (n : Nat) (i k f t m s : Int) :
    pal (n + 1) ((six n).zip [i, k, f, t, m, s]) (some (.cells ak0 26 (0, 0))) = some (.cells #[.int .i64 i, .int .i64 k, .int .i64 f, .int .i64 t, .string ⟨#[]⟩, .slice none 0 0] 26 (0, 0)) ∧
    pal (n + 2) ((six n).zip [i, k, f, t, m, s]) (some (.cells #[.int .i64 0] 3 (0, 0))) = some (.cells #[.int .i64 m] 3 (0, 0)) ∧
    pal (n + 3) ((six n).zip [i, k, f, t, m, s]) (some (.cells #[.int .i64 0] 3 (0, 0))) = some (.cells #[.int .i64 s] 3 (0, 0)) := by
  refine ⟨?_, ?_, ?_⟩ <;> simp [six, pal, setC, ak0]
/-- The world ahead of the line: the answer, the question, two counts, six pointers. -/
def w5 (w : World) : World := ((((w.alloc (.cells ak0 26)).alloc (.cells ak0 26)).alloc (.cells #[.int .i64 0] 3)).alloc (.cells #[.int .i64 0] 3)).alloc (.cells (sixV w.heap.size) 52)
theorem w5_below (w : World) : Below w.heap.size w (w5 w) :=
  (((((Below.refl w.heap.size w).alloc (Nat.le_refl _) _).alloc (by simp) _).alloc (by simp <;> omega) _).alloc (by simp <;> omega) _).alloc (by simp <;> omega) _
theorem w5_size (w : World) : (w5 w).heap.size = w.heap.size + 5 := by simp [w5]
theorem w5_at (w : World) : (w5 w).heap[w.heap.size]? = some (.cells ak0 26 (0, 0)) ∧ (w5 w).heap[w.heap.size + 1]? = some (.cells ak0 26 (0, 0)) ∧ (w5 w).heap[w.heap.size + 2]? = some (.cells #[.int .i64 0] 3 (0, 0)) ∧
    (w5 w).heap[w.heap.size + 3]? = some (.cells #[.int .i64 0] 3 (0, 0)) ∧ (w5 w).heap[w.heap.size + 4]? = some (.cells (sixV w.heap.size) 52 (0, 0)) := by
  have e : (w5 w).heap = ((((w.heap.push (.cells ak0 26 (0, 0))).push (.cells ak0 26 (0, 0))).push (.cells #[.int .i64 0] 3 (0, 0))).push (.cells #[.int .i64 0] 3 (0, 0))).push (.cells (sixV w.heap.size) 52 (0, 0)) := rfl
  rw [e]
  have n1 : ∀ (a : Array Obj) (x : Obj), (a.push x)[a.size]? = some x := fun a x => by simp
  have n2 : ∀ (a : Array Obj) (x : Obj) (k : Nat), k < a.size → (a.push x)[k]? = a[k]? := fun a x k hk => by rw [Array.getElem?_push, if_neg (by omega)]
  refine ⟨?_, ?_, ?_, ?_, ?_⟩
  · rw [n2 _ _ _ (by simp <;> omega), n2 _ _ _ (by simp <;> omega), n2 _ _ _ (by simp <;> omega), n2 _ _ _ (by simp), n1]
  · rw [n2 _ _ _ (by simp <;> omega), n2 _ _ _ (by simp <;> omega), n2 _ _ _ (by simp)]
    exact (congrArg _ (by simp)).trans (n1 _ _)
  · rw [n2 _ _ _ (by simp <;> omega), n2 _ _ _ (by simp)]
    exact (congrArg _ (by simp)).trans (n1 _ _)
  · rw [n2 _ _ _ (by simp)]
    exact (congrArg _ (by simp)).trans (n1 _ _)
  · exact (congrArg _ (by simp)).trans (n1 _ _)
theorem w5_ptrs {gp g : Nat} {w : World} (h3 : 3 ≤ w.heap.size) (hgp : gp < w.heap.size) (hg : g < w.heap.size) : Ptrs (six w.heap.size) gp g (w.heap.size + 4) (w5 w) := by
  obtain ⟨a0, a1, a2, a3, a4⟩ := w5_at w
  refine ⟨fun p hp => ?_, fun i p hp => ?_, by rw [w5_size]; omega, by omega⟩
  · simp only [six, List.mem_cons, List.not_mem_nil, or_false] at hp
    rcases hp with rfl | rfl | rfl | rfl | rfl | rfl
    · exact ⟨by omega, by simp; omega, by simp; omega, by simp, _, _, a1, show 0 < 6 by decide⟩
    · exact ⟨by omega, by simp; omega, by simp; omega, by simp, _, _, a1, show 1 < 6 by decide⟩
    · exact ⟨by omega, by simp; omega, by simp; omega, by simp, _, _, a1, show 2 < 6 by decide⟩
    · exact ⟨by omega, by simp; omega, by simp; omega, by simp, _, _, a1, show 3 < 6 by decide⟩
    · exact ⟨by omega, by simp; omega, by simp; omega, by simp, _, _, a2, show 0 < 1 by decide⟩
    · exact ⟨by omega, by simp; omega, by simp; omega, by simp, _, _, a3, show 0 < 1 by decide⟩
  · rw [cell_of_row _ _ i _ _ _ a4]
    match i, hp with
    | 0, hp => simp [six] at hp; subst hp; rfl
    | 1, hp => simp [six] at hp; subst hp; rfl
    | 2, hp => simp [six] at hp; subst hp; rfl
    | 3, hp => simp [six] at hp; subst hp; rfl
    | 4, hp => simp [six] at hp; subst hp; rfl
    | 5, hp => simp [six] at hp; subst hp; rfl
    | i + 6, hp => simp [six] at hp
theorem drop_tail {B : List UInt8} {a : Nat} {x t : List UInt8} (h : B.drop a = x ++ t) : B.drop (B.length - t.length) = t := by
  have h2 : B = (B.take a ++ x) ++ t := by
    conv => lhs; rw [← List.take_append_drop a B, h]
    simp
  generalize B.take a ++ x = y at h2
  rw [h2]
  simp
theorem six_far (gp n : Nat) : ∀ j ∈ gp :: (six n).map (·.1), j = gp ∨ n ≤ j := by
  intro j hj
  simp only [six, List.map_cons, List.map_nil, List.mem_cons, List.not_mem_nil, or_false] at hj
  omega
theorem row6 {w : World} {b : Nat} {v0 v1 v2 v3 v4 v5 : Value} {T : TypeId} (h : w.heap[b]? = some (.cells #[v0, v1, v2, v3, v4, v5] T (0, 0))) :
    w.cell? ⟨b, 0, none⟩ = some v0 ∧ w.cell? ⟨b, 1, none⟩ = some v1 ∧ w.cell? ⟨b, 2, none⟩ = some v2 ∧ w.cell? ⟨b, 3, none⟩ = some v3 ∧ w.cell? ⟨b, 4, none⟩ = some v4 ∧ w.cell? ⟨b, 5, none⟩ = some v5 ∧ (∀ o, w.frozen? ⟨b, o, none⟩ = false) :=
  ⟨cell_of_row _ _ _ _ _ _ h, cell_of_row _ _ _ _ _ _ h, cell_of_row _ _ _ _ _ _ h, cell_of_row _ _ _ _ _ _ h, cell_of_row _ _ _ _ _ _ h, cell_of_row _ _ _ _ _ _ h, fun o => by simp [World.frozen?, h]⟩
theorem ones6 {u0 u1 u2 u3 u4 u5 : Value} (h0 : u0.oneCell' = true) (h1 : u1.oneCell' = true) (h2 : u2.oneCell' = true) (h3 : u3.oneCell' = true) (h4 : u4.oneCell' = true) (h5 : u5.oneCell' = true) : Ones #[u0, u1, u2, u3, u4, u5] := fun i u hu => by
  match i, hu with
  | 0, hu => simp at hu; subst hu; exact h0
  | 1, hu => simp at hu; subst hu; exact h1
  | 2, hu => simp at hu; subst hu; exact h2
  | 3, hu => simp at hu; subst hu; exact h3
  | 4, hu => simp at hu; subst hu; exact h4
  | 5, hu => simp at hu; subst hu; exact h5
  | i + 6, hu => simp at hu
theorem kind6 {S : List Nat} {w w2 : World} (h : Ch S w w2) {b : Nat} {T : TypeId} (hb : w.heap[b]? = some (.cells ak0 T (0, 0))) :
    ∃ u0 u1 u2 u3 u4 u5, w2.heap[b]? = some (.cells #[u0, u1, u2, u3, u4, u5] T (0, 0)) ∧ Ones #[u0, u1, u2, u3, u4, u5] ∧ (∀ a m W, (store a u0 m).run Tryd.prog W = stored Tryd.prog W a u0 m) ∧ (∀ a m W, (store a u1 m).run Tryd.prog W = stored Tryd.prog W a u1 m) ∧
      (∀ a m W, (store a u2 m).run Tryd.prog W = stored Tryd.prog W a u2 m) ∧ (∀ a m W, (store a u3 m).run Tryd.prog W = stored Tryd.prog W a u3 m) ∧ (∀ a m W, (store a u4 m).run Tryd.prog W = stored Tryd.prog W a u4 m) ∧ (∀ a m W, (store a u5 m).run Tryd.prog W = stored Tryd.prog W a u5 m) := by
  obtain ⟨cs, h1, h2, h3⟩ := h.kind _ _ _ _ hb
  have h4 := h3 (fun i u hu => by
    match i, hu with
    | 0, hu => simp [ak0] at hu; subst hu; rfl
    | 1, hu => simp [ak0] at hu; subst hu; rfl
    | 2, hu => simp [ak0] at hu; subst hu; rfl
    | 3, hu => simp [ak0] at hu; subst hu; rfl
    | 4, hu => simp [ak0] at hu; subst hu; rfl
    | 5, hu => simp [ak0] at hu; subst hu; rfl
    | i + 6, hu => simp [ak0] at hu)
  obtain ⟨l⟩ := cs
  match l, h2, h4, h1 with
  | [u0, u1, u2, u3, u4, u5], _, h4, h1 => exact ⟨u0, u1, u2, u3, u4, u5, h1, h4, fun a m W => run_store _ W a _ m (h4 0 u0 rfl), fun a m W => run_store _ W a _ m (h4 1 u1 rfl), fun a m W => run_store _ W a _ m (h4 2 u2 rfl), fun a m W => run_store _ W a _ m (h4 3 u3 rfl), fun a m W => run_store _ W a _ m (h4 4 u4 rfl), fun a m W => run_store _ W a _ m (h4 5 u5 rfl)⟩
/-- Six values put into a block of six. -/
def put6 (w : World) (b : Nat) (u0 u1 u2 u3 u4 u5 : Value) : World := (((((w.setCell ⟨b, 0, none⟩ u0).setCell ⟨b, 1, none⟩ u1).setCell ⟨b, 2, none⟩ u2).setCell ⟨b, 3, none⟩ u3).setCell ⟨b, 4, none⟩ u4).setCell ⟨b, 5, none⟩ u5
theorem put6_at {w : World} {b : Nat} {T : TypeId} {r0 r1 r2 r3 r4 r5 : Value} (h : w.heap[b]? = some (.cells #[r0, r1, r2, r3, r4, r5] T (0, 0))) (u0 u1 u2 u3 u4 u5 : Value) : (put6 w b u0 u1 u2 u3 u4 u5).heap[b]? = some (.cells #[u0, u1, u2, u3, u4, u5] T (0, 0)) :=
  heap_put (heap_put (heap_put (heap_put (heap_put (heap_put h u0) u1) u2) u3) u4) u5
theorem put6_ne (w : World) (b : Nat) (u0 u1 u2 u3 u4 u5 : Value) (k : Nat) (hk : k ≠ b) : (put6 w b u0 u1 u2 u3 u4 u5).heap[k]? = w.heap[k]? := by
  unfold put6
  rw [Below.heap_setCell _ _ _ k hk, Below.heap_setCell _ _ _ k hk, Below.heap_setCell _ _ _ k hk, Below.heap_setCell _ _ _ k hk, Below.heap_setCell _ _ _ k hk, Below.heap_setCell _ _ _ k hk]
theorem put6_below {B : Nat} (a : World) {b : Nat} (hb : B ≤ b) (u0 u1 u2 u3 u4 u5 : Value) : Below B a (put6 a b u0 u1 u2 u3 u4 u5) :=
  ((((((Below.refl B a).setCell hb u0).setCell hb u1).setCell hb u2).setCell hb u3).setCell hb u4).setCell hb u5
theorem Ch.fresh {S : List Nat} {w a b : World} (h : Ch S w a) (k : Below w.heap.size a b) : Ch S w b :=
  ⟨k.os.trans h.os, k.tape.trans h.tape, k.output.trans h.output, Nat.le_trans h.size k.size, fun i h1 h2 => (k.block i h1).trans (h.block i h1 h2), fun j cs T fr e => by
    obtain ⟨c1, e1, e2⟩ := h.kind j cs T fr e
    exact ⟨c1, (k.block j (Array.getElem?_eq_some_iff.1 e).1).trans e1, e2⟩⟩
theorem Rd.put6 {gp : Nat} {w : World} {g o c : Nat} {B : List UInt8} {at_ b : Nat} (h : Rd gp w g o c B at_) (h1 : b ≠ gp) (h2 : b ≠ g) (h3 : 3 ≤ b) (u0 u1 u2 u3 u4 u5 : Value) : Rd gp (put6 w b u0 u1 u2 u3 u4 u5) g o c B at_ :=
  h.kept (put6_below w (Nat.zero_le _) _ _ _ _ _ _).size (put6_ne _ _ _ _ _ _ _ _ _ (Ne.symm h1)) (put6_ne _ _ _ _ _ _ _ _ _ (Ne.symm h2)) (fun k hk => put6_ne _ _ _ _ _ _ _ _ k (by omega))
section
variable {gp : Nat} {w : World} {g o c : Nat} {B : List UInt8} {at_ : Nat}
set_option maxHeartbeats 1000000 in
set_option maxRecDepth 100000 in
theorem ask_any (hR : Rd gp w g o c B at_) :
    Calls Tryd.prog 16 #[.pointer (some ⟨gp, 0, none⟩)] w fun ex w' =>
      ∃ u0 u1 u2 u3 u4 u5 ok, ex = .returned (.tuple #[.agg #[u0, u1, u2, u3, u4, u5], .bool ok]) ∧ Ones #[u0, u1, u2, u3, u4, u5] ∧ Ch [gp] w w' ∧ AskP gp g o c B w.heap.size (akR (B.drop at_)) (.agg #[u0, u1, u2, u3, u4, u5]) ok w' := by
  have hgp := hR.gp_lt
  have hgl := hR.g_lt
  have hw3 := hR.law.low
  have HN := hid (line_any (hR.below (w5_below w)) (six w.heap.size) (w.heap.size + 4) 6 (w5_ptrs hR.law.low hgp hR.g_lt) (Nat.le_refl 6))
  have HC5 : Hid (Ch [gp] w (w5 w)) := Ch.below (w5_below w)
  have H5 := hid (w5_at w)
  have H5s := hid (w5_size w)
  generalize hX : akR (B.drop at_) = X
  have HX := hid hX
  clear hX hR
  cases hrl : rl 6 (B.drop at_) with
  | none =>
    have HX2 : Hid (X = none) := by show _ = _; rw [← HX.out]; unfold akR; rw [hrl]
    have HN : Hid (_ ∧ _) := ⟨HN.out, hrl⟩
    clear hrl
    go_enter Tryd.func16, Tryd.ntmps16
    go_wp2_with (first
      | (go_at_call 21; refine Calls.mono HN.out.1 ?_; rintro ex w2 ⟨ok, rfl, hC2, hP2⟩; rw [show (six w.heap.size).length = 6 from rfl, HN.out.2] at hP2; obtain rfl : ok = false := hP2; have HC2 := hid (HC5.out.far hC2 (six_far _ _)); obtain ⟨u0, u1, u2, u3, u4, u5, a2, on2, s0, s1, s2, s3, s4, s5⟩ := kind6 hC2 H5.out.2.1; obtain ⟨a20, a21, a22, a23, a24, a25, a2f⟩ := row6 a2; obtain ⟨r0, r1, r2, r3, r4, r5, q2, _⟩ := kind6 hC2 H5.out.1; obtain ⟨q20, q21, q22, q23, q24, q25, q2f⟩ := row6 q2; have ON2 := hid on2; clear hC2 a2 on2))
    have q3 := put6_at q2 u0 u1 u2 u3 u4 u5
    have hC3 := HC2.out.fresh (put6_below w2 (Nat.le_refl _) u0 u1 u2 u3 u4 u5)
    obtain ⟨z0, z1, z2, z3, z4, z5, _⟩ := row6 q3
    unfold put6 at z0 z1 z2 z3 z4 z5 hC3
    generalize (((((w2.setCell ⟨w.heap.size, 0, none⟩ u0).setCell ⟨w.heap.size, 1, none⟩ u1).setCell ⟨w.heap.size, 2, none⟩ u2).setCell ⟨w.heap.size, 3, none⟩ u3).setCell ⟨w.heap.size, 4, none⟩ u4).setCell ⟨w.heap.size, 5, none⟩ u5 = w3 at *
    exact bodyPost_ret (v := .tuple #[.agg #[u0, u1, u2, u3, u4, u5], .bool false]) (by simp [results, Tryd.results16, go_sem, z0, z1, z2, z3, z4, z5]) rfl ⟨_, _, _, _, _, _, false, rfl, ON2.out, hC3, by rw [HX2.out]; exact rfl⟩
  | some lu =>
    obtain ⟨l, u⟩ := lu
    obtain ⟨hl1, hl2, hl3⟩ := rl_some hrl
    obtain ⟨i, k, f, t, m, s, rfl⟩ : ∃ i k f t m s, l = [i, k, f, t, m, s] := by
      match l, hl2 with
      | [i, k, f, t, m, s], _ => exact ⟨i, k, f, t, m, s, rfl⟩
    have HM := hid (hl3 m (by simp))
    have HS := hid (hl3 s (by simp))
    have HT := hid (drop_tail hl1)
    have HX1 : Hid (X = akT i k f t m s u) := by show _ = _; rw [← HX.out]; unfold akR; rw [hrl]
    have HN : Hid (_ ∧ _) := ⟨HN.out, hrl⟩
    clear hrl hl1 hl2 hl3 HX
    obtain ⟨XA, hXA⟩ : ∃ XA, XA = if m < 0 then none else ra (min m.toNat 6) u := ⟨_, rfl⟩
    cases XA with
    | none =>
      have HX2 : Hid (X = none) := by
        show _ = _
        rw [HX1.out]
        unfold akT
        split
        · rfl
        · next hms =>
          rw [if_neg (by omega)] at hXA
          rw [← hXA]
      have HXA := hid hXA
      clear hXA HX1
      go_enter Tryd.func16, Tryd.ntmps16
      go_wp2_with (first
        | (go_at_call 21; refine Calls.mono HN.out.1 ?_; rintro ex w2 ⟨ok, rfl, hC2, hP2⟩; rw [show (six w.heap.size).length = 6 from rfl, HN.out.2] at hP2; obtain ⟨rfl, hR2, hB2⟩ := hP2; have HC2 := hid (HC5.out.far hC2 (six_far _ _)); have HR2 := hid hR2; have a2 : w2.heap[w.heap.size + 1]? = some (.cells #[.int .i64 i, .int .i64 k, .int .i64 f, .int .i64 t, .string ⟨#[]⟩, .slice none 0 0] 26 (0, 0)) := (by rw [hB2 _ (by rw [H5s.out]; omega) (by omega), H5.out.2.1]; exact (six_pal _ _ _ _ _ _ _).1); have A2 := hid a2; obtain ⟨a20, a21, a22, a23, a24, a25, a2f⟩ := row6 a2; have b2 : w2.heap[w.heap.size + 1 + 1]? = some (.cells #[.int .i64 m] 3 (0, 0)) := (by rw [hB2 _ (by rw [H5s.out]; omega) (by omega), show w.heap.size + 1 + 1 = w.heap.size + 2 from rfl, H5.out.2.2.1]; exact (six_pal _ _ _ _ _ _ _).2.1); have b20 : w2.cell? ⟨w.heap.size + 1 + 1, 0, none⟩ = some (.int .i64 m) := cell_of_row _ _ 0 _ _ _ b2; have q2 := (hC2.block w.heap.size (by rw [H5s.out]; omega) (by simp [six]; omega)).trans H5.out.1; have Q2 := hid q2; clear hC2 hR2 hB2 a2 b2 q2)
        | (go_at_call 22; refine Calls.mono (args_any HR2.out m HM.out none (by rw [HT.out]; exact HXA.out)) ?_; rintro ex w3 ⟨p, n, cp, ok, rfl, hC3, hP3⟩; obtain rfl : ok = false := hP3; have HC3 := hid hC3; have a3 := (hC3.block (w.heap.size + 1) ((Array.getElem?_eq_some_iff.1 A2.out).1) (by simp; omega)).trans A2.out; obtain ⟨a30, a31, a32, a33, a34, a35, a3f⟩ := row6 a3; have q3 := (hC3.block w.heap.size ((Array.getElem?_eq_some_iff.1 Q2.out).1) (by simp; omega)).trans Q2.out; have Q3 := hid q3; obtain ⟨q30, q31, q32, q33, q34, q35, q3f⟩ := row6 q3; clear hC3 a3 q3))
      have q4 := put6_at ((Below.heap_setCell _ _ _ _ (by simp)).trans Q3.out : ((w3.setCell ⟨w.heap.size + 1, 5, none⟩ (.slice p n cp))).heap[w.heap.size]? = _) (.int .i64 i) (.int .i64 k) (.int .i64 f) (.int .i64 t) (.string ⟨#[]⟩) (.slice p n cp)
      have hC4 := ((HC2.out.trans HC3.out).fresh ((Below.refl w.heap.size w3).setCell (by simp) _)).fresh (put6_below ((w3.setCell ⟨w.heap.size + 1, 5, none⟩ (.slice p n cp))) (Nat.le_refl _) (.int .i64 i) (.int .i64 k) (.int .i64 f) (.int .i64 t) (.string ⟨#[]⟩) (.slice p n cp))
      obtain ⟨z0, z1, z2, z3, z4, z5, _⟩ := row6 q4
      unfold put6 at z0 z1 z2 z3 z4 z5 hC4
      generalize (((((((w3.setCell ⟨w.heap.size + 1, 5, none⟩ (.slice p n cp)).setCell ⟨w.heap.size, 0, none⟩ (.int .i64 i)).setCell ⟨w.heap.size, 1, none⟩ (.int .i64 k)).setCell ⟨w.heap.size, 2, none⟩ (.int .i64 f)).setCell ⟨w.heap.size, 3, none⟩ (.int .i64 t)).setCell ⟨w.heap.size, 4, none⟩ (.string ⟨#[]⟩)).setCell ⟨w.heap.size, 5, none⟩ (.slice p n cp)) = w9 at *
      exact bodyPost_ret (v := .tuple #[.agg #[.int .i64 i, .int .i64 k, .int .i64 f, .int .i64 t, .string ⟨#[]⟩, .slice p n cp], .bool false]) (by simp [results, Tryd.results16, go_sem, z0, z1, z2, z3, z4, z5]) rfl ⟨_, _, _, _, _, _, false, rfl, ones6 rfl rfl rfl rfl rfl rfl, hC4, by rw [HX2.out]; exact rfl⟩
    | some lu2 =>
      obtain ⟨la, u2⟩ := lu2
      have hm0 : ¬ m < 0 := by intro h; rw [if_pos h] at hXA; cases hXA
      have hra : ra (min m.toNat 6) u = some (la, u2) := by rw [if_neg hm0] at hXA; exact hXA.symm
      have HT2 := hid (drop_tail (B := B) (a := B.length - u.length) (x := wa la) (t := u2) (by rw [HT.out]; exact (ra_some hra).1))
      by_cases hsn : s < 0 ∨ (u2.length : Int) < s
      · have HX2 : Hid (X = none) := by
          show _ = _
          rw [HX1.out]
          unfold akT
          by_cases hs0 : s < 0
          · rw [if_pos (.inr hs0)]
          · rw [if_neg (by omega), hra]
            simp only
            rw [if_pos (by omega)]
        have HSn := hid hsn
        have HXA := hid hXA
        clear hXA HX1 hsn hra
        go_enter Tryd.func16, Tryd.ntmps16
        go_wp2_with (first
          | (go_at_call 21; refine Calls.mono HN.out.1 ?_; rintro ex w2 ⟨ok, rfl, hC2, hP2⟩; rw [show (six w.heap.size).length = 6 from rfl, HN.out.2] at hP2; obtain ⟨rfl, hR2, hB2⟩ := hP2; have HC2 := hid (HC5.out.far hC2 (six_far _ _)); have HR2 := hid hR2; have a2 : w2.heap[w.heap.size + 1]? = some (.cells #[.int .i64 i, .int .i64 k, .int .i64 f, .int .i64 t, .string ⟨#[]⟩, .slice none 0 0] 26 (0, 0)) := (by rw [hB2 _ (by rw [H5s.out]; omega) (by omega), H5.out.2.1]; exact (six_pal _ _ _ _ _ _ _).1); have A2 := hid a2; obtain ⟨a20, a21, a22, a23, a24, a25, a2f⟩ := row6 a2; have b2 : w2.heap[w.heap.size + 1 + 1]? = some (.cells #[.int .i64 m] 3 (0, 0)) := (by rw [hB2 _ (by rw [H5s.out]; omega) (by omega), show w.heap.size + 1 + 1 = w.heap.size + 2 from rfl, H5.out.2.2.1]; exact (six_pal _ _ _ _ _ _ _).2.1); have b20 : w2.cell? ⟨w.heap.size + 1 + 1, 0, none⟩ = some (.int .i64 m) := cell_of_row _ _ 0 _ _ _ b2; have c2 : w2.heap[w.heap.size + 1 + 1 + 1]? = some (.cells #[.int .i64 s] 3 (0, 0)) := (by rw [hB2 _ (by rw [H5s.out]; omega) (by omega), show w.heap.size + 1 + 1 + 1 = w.heap.size + 3 from rfl, H5.out.2.2.2.1]; exact (six_pal _ _ _ _ _ _ _).2.2); have S2 := hid c2; have q2 := (hC2.block w.heap.size (by rw [H5s.out]; omega) (by simp [six]; omega)).trans H5.out.1; have Q2 := hid q2; clear hC2 hR2 hB2 a2 b2 q2 c2)
          | (go_at_call 22; refine Calls.mono (args_any HR2.out m HM.out (some (la, u2)) (by rw [HT.out]; exact HXA.out)) ?_; rintro ex w3 ⟨p, n, cp, ok, rfl, hC3, hP3⟩; obtain ⟨rfl, hR3, G, hG0, hv, hGc⟩ := hP3; injection hv with hv1 hv2 hv3; subst hv1 hv2 hv3; have HG0 := hid hG0; have HGc := hid hGc; have HR3 := hid hR3; have HC3 := hid hC3; have HA2 := hid (Array.getElem?_eq_some_iff.1 A2.out).1; have a3 := (hC3.block (w.heap.size + 1) HA2.out (by simp; omega)).trans A2.out; have A3 := hid a3; obtain ⟨a30, a31, a32, a33, a34, a35, a3f⟩ := row6 a3; have q3 := (hC3.block w.heap.size ((Array.getElem?_eq_some_iff.1 Q2.out).1) (by simp; omega)).trans Q2.out; have Q3 := hid q3; have c3 := (hC3.block (w.heap.size + 1 + 1 + 1) ((Array.getElem?_eq_some_iff.1 S2.out).1) (by simp; omega)).trans S2.out; have c30 : w3.cell? ⟨w.heap.size + 1 + 1 + 1, 0, none⟩ = some (.int .i64 s) := cell_of_row _ _ 0 _ _ _ c3; clear hC3 a3 q3 c3 hR3 hGc hG0)
          | (go_at_call 23; refine Calls.mono (text_any (by exact HR3.out.kept (w' := w3.setCell ⟨w.heap.size + 1, 5, none⟩ (.slice (some ⟨G, 0, none⟩) la.length la.length)) (by simp) (Below.heap_setCell _ _ _ _ (by simp; omega)) (Below.heap_setCell _ _ _ _ (by simp; omega)) (fun j hj => Below.heap_setCell _ _ _ _ (by simp; omega))) s HS.out) ?_; rintro ex w4 ⟨x, ok, rfl, hC4, hP4⟩; obtain rfl : ok = false := (by have h := hP4; unfold TextP at h; rw [HT2.out, if_pos HSn.out] at h; exact h); have HC4 := hid hC4; have a4 := (hC4.block (w.heap.size + 1) (by have := (Array.getElem?_eq_some_iff.1 A3.out).1; simpa using this) (by simp; omega)).trans (heap_put A3.out _); obtain ⟨a40, a41, a42, a43, a44, a45, a4f⟩ := row6 a4; have q4 := (hC4.block w.heap.size (by have := (Array.getElem?_eq_some_iff.1 Q3.out).1; simpa using this) (by simp; omega)).trans ((Below.heap_setCell _ _ _ _ (by simp)).trans Q3.out); have Q4 := hid q4; obtain ⟨q40, q41, q42, q43, q44, q45, q4f⟩ := row6 q4; clear hC4 a4 q4))
        have q5 := put6_at ((Below.heap_setCell _ _ _ _ (by simp)).trans Q4.out : ((w4.setCell ⟨w.heap.size + 1, 4, none⟩ (.string x))).heap[w.heap.size]? = _) (.int .i64 i) (.int .i64 k) (.int .i64 f) (.int .i64 t) (.string x) (.slice (some ⟨G, 0, none⟩) la.length la.length)
        have hC5 := (((HC2.out.trans HC3.out).fresh ((Below.refl w.heap.size w3).setCell (show w.heap.size ≤ w.heap.size + 1 by omega) _)).trans HC4.out |>.fresh ((Below.refl w.heap.size w4).setCell (show w.heap.size ≤ w.heap.size + 1 by omega) _)).fresh (put6_below ((w4.setCell ⟨w.heap.size + 1, 4, none⟩ (.string x))) (Nat.le_refl _) (.int .i64 i) (.int .i64 k) (.int .i64 f) (.int .i64 t) (.string x) (.slice (some ⟨G, 0, none⟩) la.length la.length))
        obtain ⟨z0, z1, z2, z3, z4, z5, _⟩ := row6 q5
        unfold put6 at z0 z1 z2 z3 z4 z5 hC5
        generalize (((((((w4.setCell ⟨w.heap.size + 1, 4, none⟩ (.string x)).setCell ⟨w.heap.size, 0, none⟩ (.int .i64 i)).setCell ⟨w.heap.size, 1, none⟩ (.int .i64 k)).setCell ⟨w.heap.size, 2, none⟩ (.int .i64 f)).setCell ⟨w.heap.size, 3, none⟩ (.int .i64 t)).setCell ⟨w.heap.size, 4, none⟩ (.string x)).setCell ⟨w.heap.size, 5, none⟩ (.slice (some ⟨G, 0, none⟩) la.length la.length)) = w9 at *
        exact bodyPost_ret (v := .tuple #[.agg #[.int .i64 i, .int .i64 k, .int .i64 f, .int .i64 t, .string x, .slice (some ⟨G, 0, none⟩) la.length la.length], .bool false]) (by simp [results, Tryd.results16, go_sem, z0, z1, z2, z3, z4, z5]) rfl ⟨_, _, _, _, _, _, false, rfl, ones6 rfl rfl rfl rfl rfl rfl, hC5, by rw [HX2.out]; exact rfl⟩
      · have HX2 : Hid (X = some (⟨i, k, f, t, u2.take s.toNat, la⟩, u2.drop s.toNat)) := by
          show _ = _
          rw [HX1.out]
          unfold akT
          rw [if_neg (by omega), hra]
          simp only
          rw [if_neg (by omega)]
        have HLn : Hid (u2.length ≤ B.length ∧ s.toNat ≤ u2.length) := by
          have h1 := congrArg List.length HT2.out
          rw [List.length_drop] at h1
          exact ⟨by omega, by omega⟩
        have HSn := hid hsn
        have HXA := hid hXA
        clear hXA HX1 hsn hra
        go_enter Tryd.func16, Tryd.ntmps16
        go_wp2_with (first
          | (go_at_call 21; refine Calls.mono HN.out.1 ?_; rintro ex w2 ⟨ok, rfl, hC2, hP2⟩; rw [show (six w.heap.size).length = 6 from rfl, HN.out.2] at hP2; obtain ⟨rfl, hR2, hB2⟩ := hP2; have HC2 := hid (HC5.out.far hC2 (six_far _ _)); have HR2 := hid hR2; have a2 : w2.heap[w.heap.size + 1]? = some (.cells #[.int .i64 i, .int .i64 k, .int .i64 f, .int .i64 t, .string ⟨#[]⟩, .slice none 0 0] 26 (0, 0)) := (by rw [hB2 _ (by rw [H5s.out]; omega) (by omega), H5.out.2.1]; exact (six_pal _ _ _ _ _ _ _).1); have A2 := hid a2; obtain ⟨a20, a21, a22, a23, a24, a25, a2f⟩ := row6 a2; have b2 : w2.heap[w.heap.size + 1 + 1]? = some (.cells #[.int .i64 m] 3 (0, 0)) := (by rw [hB2 _ (by rw [H5s.out]; omega) (by omega), show w.heap.size + 1 + 1 = w.heap.size + 2 from rfl, H5.out.2.2.1]; exact (six_pal _ _ _ _ _ _ _).2.1); have b20 : w2.cell? ⟨w.heap.size + 1 + 1, 0, none⟩ = some (.int .i64 m) := cell_of_row _ _ 0 _ _ _ b2; have c2 : w2.heap[w.heap.size + 1 + 1 + 1]? = some (.cells #[.int .i64 s] 3 (0, 0)) := (by rw [hB2 _ (by rw [H5s.out]; omega) (by omega), show w.heap.size + 1 + 1 + 1 = w.heap.size + 3 from rfl, H5.out.2.2.2.1]; exact (six_pal _ _ _ _ _ _ _).2.2); have S2 := hid c2; have q2 := (hC2.block w.heap.size (by rw [H5s.out]; omega) (by simp [six]; omega)).trans H5.out.1; have Q2 := hid q2; clear hC2 hR2 hB2 a2 b2 q2 c2)
          | (go_at_call 22; refine Calls.mono (args_any HR2.out m HM.out (some (la, u2)) (by rw [HT.out]; exact HXA.out)) ?_; rintro ex w3 ⟨p, n, cp, ok, rfl, hC3, hP3⟩; obtain ⟨rfl, hR3, G, hG0, hv, hGc⟩ := hP3; injection hv with hv1 hv2 hv3; subst hv1 hv2 hv3; have HG0 := hid hG0; have HGc := hid hGc; have HR3 := hid hR3; have HC3 := hid hC3; have HA2 := hid (Array.getElem?_eq_some_iff.1 A2.out).1; have a3 := (hC3.block (w.heap.size + 1) HA2.out (by simp; omega)).trans A2.out; have A3 := hid a3; obtain ⟨a30, a31, a32, a33, a34, a35, a3f⟩ := row6 a3; have q3 := (hC3.block w.heap.size ((Array.getElem?_eq_some_iff.1 Q2.out).1) (by simp; omega)).trans Q2.out; have Q3 := hid q3; have c3 := (hC3.block (w.heap.size + 1 + 1 + 1) ((Array.getElem?_eq_some_iff.1 S2.out).1) (by simp; omega)).trans S2.out; have c30 : w3.cell? ⟨w.heap.size + 1 + 1 + 1, 0, none⟩ = some (.int .i64 s) := cell_of_row _ _ 0 _ _ _ c3; clear hC3 a3 q3 c3 hR3 hGc hG0)
          | (go_at_call 23; refine Calls.mono (text_any (by exact HR3.out.kept (w' := w3.setCell ⟨w.heap.size + 1, 5, none⟩ (.slice (some ⟨G, 0, none⟩) la.length la.length)) (by simp) (Below.heap_setCell _ _ _ _ (by simp; omega)) (Below.heap_setCell _ _ _ _ (by simp; omega)) (fun j hj => Below.heap_setCell _ _ _ _ (by simp; omega))) s HS.out) ?_; rintro ex w4 ⟨x, ok, rfl, hC4, hP4⟩; obtain ⟨rfl, hx, hR4⟩ : ok = true ∧ _ ∧ _ := (by have h := hP4; unfold TextP at h; rw [HT2.out, if_neg HSn.out] at h; exact h); injection hx with hx; have HXx := hid hx; have HR4 := hid hR4; clear hx hR4; have HC4 := hid hC4; have a4 := (hC4.block (w.heap.size + 1) (by have := (Array.getElem?_eq_some_iff.1 A3.out).1; simpa using this) (by simp; omega)).trans (heap_put A3.out _); obtain ⟨a40, a41, a42, a43, a44, a45, a4f⟩ := row6 a4; have q4 := (hC4.block w.heap.size (by have := (Array.getElem?_eq_some_iff.1 Q3.out).1; simpa using this) (by simp; omega)).trans ((Below.heap_setCell _ _ _ _ (by simp)).trans Q3.out); have Q4 := hid q4; obtain ⟨q40, q41, q42, q43, q44, q45, q4f⟩ := row6 q4; clear hC4 a4 q4))
        have q5 := put6_at ((Below.heap_setCell _ _ _ _ (by simp)).trans Q4.out : ((w4.setCell ⟨w.heap.size + 1, 4, none⟩ (.string x))).heap[w.heap.size]? = _) (.int .i64 i) (.int .i64 k) (.int .i64 f) (.int .i64 t) (.string x) (.slice (some ⟨G, 0, none⟩) la.length la.length)
        have hC5 := (((HC2.out.trans HC3.out).fresh ((Below.refl w.heap.size w3).setCell (show w.heap.size ≤ w.heap.size + 1 by omega) _)).trans HC4.out |>.fresh ((Below.refl w.heap.size w4).setCell (show w.heap.size ≤ w.heap.size + 1 by omega) _)).fresh (put6_below ((w4.setCell ⟨w.heap.size + 1, 4, none⟩ (.string x))) (Nat.le_refl _) (.int .i64 i) (.int .i64 k) (.int .i64 f) (.int .i64 t) (.string x) (.slice (some ⟨G, 0, none⟩) la.length la.length))
        obtain ⟨z0, z1, z2, z3, z4, z5, _⟩ := row6 q5
        have hG1 := (Array.getElem?_eq_some_iff.1 HGc.out).1
        have hG2 := (Array.getElem?_eq_some_iff.1 A2.out).1
        have hG3 := HG0.out
        have hgc : (put6 (w4.setCell ⟨w.heap.size + 1, 4, none⟩ (.string x)) w.heap.size (.int .i64 i) (.int .i64 k) (.int .i64 f) (.int .i64 t) (.string x) (.slice (some ⟨G, 0, none⟩) la.length la.length)).heap[G]? = some (.cells (row la 0) 3 (0, 0)) := (put6_ne _ _ _ _ _ _ _ _ G (by omega)).trans ((Below.heap_setCell _ _ _ _ (by simp; omega)).trans ((HC4.out.block G (by simpa using hG1) (by simp; omega)).trans ((Below.heap_setCell _ _ _ _ (by simp; omega)).trans HGc.out)))
        have hR5 := (HR4.out.kept (w' := (w4.setCell ⟨w.heap.size + 1, 4, none⟩ (.string x))) (by simp) (Below.heap_setCell _ _ _ _ (by simp; omega)) (Below.heap_setCell _ _ _ _ (by simp; omega)) (fun j hj => Below.heap_setCell _ _ _ _ (by simp; omega))).put6 (b := w.heap.size) (by omega) (by omega) (by omega) (.int .i64 i) (.int .i64 k) (.int .i64 f) (.int .i64 t) (.string x) (.slice (some ⟨G, 0, none⟩) la.length la.length)
        unfold put6 at z0 z1 z2 z3 z4 z5 hC5 hgc hR5
        generalize (((((((w4.setCell ⟨w.heap.size + 1, 4, none⟩ (.string x)).setCell ⟨w.heap.size, 0, none⟩ (.int .i64 i)).setCell ⟨w.heap.size, 1, none⟩ (.int .i64 k)).setCell ⟨w.heap.size, 2, none⟩ (.int .i64 f)).setCell ⟨w.heap.size, 3, none⟩ (.int .i64 t)).setCell ⟨w.heap.size, 4, none⟩ (.string x)).setCell ⟨w.heap.size, 5, none⟩ (.slice (some ⟨G, 0, none⟩) la.length la.length)) = w9 at *
        exact bodyPost_ret (v := .tuple #[.agg #[.int .i64 i, .int .i64 k, .int .i64 f, .int .i64 t, .string x, .slice (some ⟨G, 0, none⟩) la.length la.length], .bool true]) (by simp [results, Tryd.results16, go_sem, z0, z1, z2, z3, z4, z5]) rfl ⟨_, _, _, _, _, _, true, rfl, ones6 rfl rfl rfl rfl rfl rfl, hC5, by rw [HX2.out]; exact ⟨rfl, (by rw [List.length_drop, show B.length - (u2.length - s.toNat) = B.length - u2.length + s.toNat by have := HLn.out; omega]; exact hR5), G, (by have := HC2.out.size; omega), (by unfold akV; rw [HXx.out]), hgc⟩⟩
end
end Go.Proofs.YtbkihppmikjcoaaDoor

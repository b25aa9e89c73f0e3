/- Texts of this seat, one behind the other: Rx5, Rx6, Rx7, Rx8. -/
import Derived.Test.YtjpmnholpeidmaaZb43
import Derived.Test.YtjpmnholpeidmaaZb16
import Derived.Maps.Own
import Derived.Laws.IdiomStrings
namespace Go.Proofs.Ytjpmnholpeidmaa
open Go.RowKit Go.WideMaps Go.Maps
attribute [local go_sem ↓] Go.wp_at_zero Go.wp_at_succ
/-! How a sign binds: the map of five signs. -/
theorem strK : Go.Maps.Keyed Try.prog 9 := Go.Maps.string_keyed Try.underlying9
theorem zeroInt (w : World) : (zeroValue 3).run Try.prog w = .ok (.int .i64 0) w := by kernel_rfl
theorem keySQ (x : ByteArray) (h : x.size ≤ maxLen) : keyOf Try.prog 9 (.string x) = some (.string x.data.toList) := keyOf_string_mk Try.underlying9 h
theorem plI (n : Int) (h : (Lit.int .i64 n).wf = true) : plainElem (H := Unit) Try.prog 3 (.int .i64 n) = some (.lit (.int .i64 n), []) := plainElem_int Try.underlying3 h
theorem five : (((((DataW.map [] : DataW Unit).put (.string [61]) (.lit (.int .i64 1))).put (.string [60]) (.lit (.int .i64 1))).put (.string [43]) (.lit (.int .i64 2))).put (.string [45]) (.lit (.int .i64 2))).put (.string [42]) (.lit (.int .i64 3)) =
    .map [(.string [42], .lit (.int .i64 3)), (.string [43], .lit (.int .i64 2)), (.string [45], .lit (.int .i64 2)), (.string [60], .lit (.int .i64 1)), (.string [61], .lit (.int .i64 1))] := by
  simp [DataW.put, DataW.insert, Lit.sameKey, Lit.before, bytesBefore]
theorem bs1_iffQ (s : ByteArray) (c : UInt8) : s = bs1 c ↔ s.data.toList = [c] := by
  constructor
  · rintro rfl; rfl
  · intro h; exact bytes_inj (by rw [h]; rfl)
theorem tight_at (s : ByteArray) (c : Int) (h : (DataW.map [(.string [42], .lit (.int .i64 3)), (.string [43], .lit (.int .i64 2)), (.string [45], .lit (.int .i64 2)), (.string [60], .lit (.int .i64 1)), (.string [61], .lit (.int .i64 1))] : DataW Unit).atKey (.string s.data.toList) (.lit (.int .i64 0)) = .lit (.int .i64 c)) : c = (tight s : Nat) := by
  unfold tight
  simp only [bs1_iffQ]
  generalize s.data.toList = l at h
  by_cases h1 : l = [42]
  · subst h1; simp [DataW.atKey, Lit.sameKey] at h; simp [← h]
  by_cases h2 : l = [43]
  · subst h2; simp [DataW.atKey, Lit.sameKey] at h; simp [← h]
  by_cases h3 : l = [45]
  · subst h3; simp [DataW.atKey, Lit.sameKey] at h; simp [← h]
  by_cases h4 : l = [60]
  · subst h4; simp [DataW.atKey, Lit.sameKey] at h; simp [← h]
  by_cases h5 : l = [61]
  · subst h5; simp [DataW.atKey, Lit.sameKey] at h; simp [← h]
  have e1 : ∀ c, ¬ l = [c] → ([c] == l) = false := fun c hc => by simpa using fun e => hc e.symm
  simp [DataW.atKey, Lit.sameKey, List.find?, e1 _ h1, e1 _ h2, e1 _ h3, e1 _ h4, e1 _ h5] at h
  simp [h1, h2, h3, h4, h5, ← h]
set_option maxHeartbeats 1000000 in
set_option maxRecDepth 100000 in
theorem refTight_any (s : ByteArray) (w : World) (hs : s.size ≤ maxLen) :
    Calls Try.prog 113 #[.string s] w fun e w' => e = .returned (.int .i64 (tight s : Nat)) ∧ Below w.heap.size w w' := by
  have hmm := @run_makeMap Try.prog
  have ho0 := World.ownsMap_made w Try.prog 9 (plainElem (H := Unit) Try.prog 3)
  obtain ⟨w1, hr1, ho1, hg1⟩ := ho0.update strK Try.underlying168 (by decide) (keySQ ⟨#[61]⟩ (by decide)) (plI 1 (by decide))
  obtain ⟨w2, hr2, ho2, hg2⟩ := ho1.update strK Try.underlying168 (by decide) (keySQ ⟨#[60]⟩ (by decide)) (plI 1 (by decide))
  obtain ⟨w3, hr3, ho3, hg3⟩ := ho2.update strK Try.underlying168 (by decide) (keySQ ⟨#[43]⟩ (by decide)) (plI 2 (by decide))
  obtain ⟨w4, hr4, ho4, hg4⟩ := ho3.update strK Try.underlying168 (by decide) (keySQ ⟨#[45]⟩ (by decide)) (plI 2 (by decide))
  obtain ⟨w5, hr5, ho5, hg5⟩ := ho4.update strK Try.underlying168 (by decide) (keySQ ⟨#[42]⟩ (by decide)) (plI 3 (by decide))
  obtain ⟨c, hr6, hat, _⟩ := ho5.lookup_int strK Try.underlying168 Try.underlying3 (zeroInt _) (keySQ s hs)
  have hc : c = (tight s : Nat) := tight_at s c (by rw [← five]; exact hat)
  subst hc
  have hb0 := (Below.refl w.heap.size w).alloc (Nat.le_refl _) (.map #[] 0)
  have st : ∀ {a b : World}, Below w.heap.size w a → a.grownBy b (some w.heap.size) → Below w.heap.size w b := fun h g => h.grown g h.size (fun j hj => by cases hj; exact Nat.le_refl _)
  have HB : Hid (Below w.heap.size w w5) := st (st (st (st (st hb0 hg1) hg2) hg3) hg4) hg5
  clear ho0 ho1 ho2 ho3 ho4 ho5 hg1 hg2 hg3 hg4 hg5 hat st hb0
  go_enter Try.func113, Try.ntmps113
  go_wp2
  go_ret
  exact ⟨rfl, HB.out⟩
theorem tkFieldQ (k a : Int) (x : ByteArray) (w : World) : (Instr.field 83 (.agg #[.int .i64 k, .string x, .int .i64 a]) 2).run Try.prog w = .ok (.int .i64 a) w ∧ (Instr.field 83 (.agg #[.int .i64 k, .string x, .int .i64 a]) 1).run Try.prog w = .ok (.string x) w := ⟨by kernel_rfl, by kernel_rfl⟩
/-- What the reader laid down ahead of a step stays. -/
theorem laid {gp : Nat} {w w1 : World} {L : List Tok} {sz dp : Nat} {ds : List Dg} {D D1 : Option Nat} (hp : QSt gp w L sz ds dp D) {cs : Array Value} {t : TypeId} (hs : Stp gp D D1 (w.alloc (.cells cs t)) w1) :
    w1.heap[w.heap.size]? = some (.cells cs t (0, 0)) ∧ (∀ o, w1.frozen? ⟨w.heap.size, o, none⟩ = false) ∧ ∀ j u, cs[j]? = some u → w1.cell? ⟨w.heap.size, j, none⟩ = some u := by
  have hg := hp.gp_lt
  have hD : some w.heap.size ≠ D := fun e => by
    obtain ⟨p, c, v, h1, h2, h3, h4⟩ := hp.blk
    have := (h3.lt _ (h4.trans e.symm)).2
    omega
  have h : w1.heap[w.heap.size]? = some (.cells cs t (0, 0)) := (hs.block _ (by simp) (by omega) hD).trans (heap_alloc_new w _)
  exact ⟨h, fun o => by simp [World.frozen?, h], fun j u hj => (cell_of_row _ _ j _ _ _ h).trans hj⟩
theorem QSt.set {gp : Nat} {w : World} {L : List Tok} {sz dp : Nat} {ds : List Dg} {D : Option Nat} (h : QSt gp w L sz ds dp D) {b : Nat} (hb : gp < b) (hD : some b ≠ D) (o : Nat) (u : Value) : QSt gp (w.setCell ⟨b, o, none⟩ u) L sz ds dp D := by
  obtain ⟨p, c, v, h1, h2, h3, h4⟩ := h.blk
  have hv : v.ownBlock ≠ some b := fun e => hD (by rw [← h4, e])
  refine ⟨⟨p, c, v, (Below.heap_setCell w _ _ gp (by simp; omega)).trans h1, fun hl => ?_, ownsRow_setCell_other h3 hv _, h4⟩, h.len, h.siz, h.end_, h.inc, h.dp1⟩
  obtain ⟨g, e1, e2, e3⟩ := h2 hl
  refine ⟨g, e1, e2, fun j t ht => ?_⟩
  have e : ∀ k, (w.setCell ⟨b, o, none⟩ u).cell? ⟨g, k, none⟩ = w.cell? ⟨g, k, none⟩ := fun k => World.cell?_of_block (a := ⟨g, k, none⟩) (Below.heap_setCell w _ _ g (by simp; omega))
  rw [e, e, e]
  exact e3 j t ht
/-- A block laid down ahead of a step is not the list's. -/
theorem laid_ne {gp : Nat} {w w1 : World} {L : List Tok} {sz dp : Nat} {ds : List Dg} {D D1 : Option Nat} (hp : QSt gp w L sz ds dp D) {o : Obj} (hs : Stp gp D D1 (w.alloc o) w1) : gp < w.heap.size ∧ some w.heap.size ≠ D1 := by
  refine ⟨hp.gp_lt, fun e => ?_⟩
  rcases hs.own with e2 | ⟨j, e2, hj⟩
  · obtain ⟨p, c, v, h1, h2, h3, h4⟩ := hp.blk
    have := (h3.lt w.heap.size (by rw [h4, ← e2, e])).2
    omega
  · rw [e2] at e; injection e with e; simp at hj; omega
/-- An expression that was read from a place on: names that are tokens, small numbers, at most so many names as tokens that were gone past. -/
def zE (L : List Tok) : Nat → Nat → Tr → Prop
  | 0, _, _ => False
  | n + 1, c, e => ∃ (k : Nat) (x : ByteArray) (m : Nat) (al : List Tr) (f t : Nat), e = exMk k x m al f t ∧ m ≤ 1000000000 ∧ al.length ≤ 5 ∧
    (((k = 0 ∨ k = 1 ∨ k = 5) ∧ x = noB ∧ al = []) ∨ (k = 2 ∧ tkn L x f ∧ al = [] ∧ 1 ≤ c) ∨ (k = 3 ∧ 0 < tight x ∧ al.length = 2 ∧ wfL (zE L n) c al) ∨ (k = 4 ∧ tkn L x f ∧ ∃ c', c' + 1 ≤ c ∧ wfL (zE L n) c' al))
theorem zE_up (L : List Tok) (n : Nat) : ∀ (m c c' : Nat) (e : Tr), n ≤ m → c ≤ c' → zE L n c e → zE L m c' e := by
  induction n with
  | zero => intro m c c' e _ _ h; exact h.elim
  | succ n ih =>
    intro m c c' e hm hc h
    obtain ⟨m, rfl⟩ : ∃ q, m = q + 1 := ⟨m - 1, by omega⟩
    obtain ⟨k, x, q, al, f, t, he, hq, hl, h⟩ := h
    refine ⟨k, x, q, al, f, t, he, hq, hl, ?_⟩
    rcases h with h | ⟨h1, h2, h3, h4⟩ | ⟨h1, h2, h3, h4⟩ | ⟨h1, h2, c2, h3, h4⟩
    · exact .inl h
    · exact .inr (.inl ⟨h1, h2, h3, by omega⟩)
    · exact .inr (.inr (.inl ⟨h1, h2, h3, wfL_up (fun c c' a => ih m c c' a (by omega)) al c c' hc h4⟩))
    · exact .inr (.inr (.inr ⟨h1, h2, c2, by omega, wfL_up (fun c c' a => ih m c c' a (by omega)) al c2 c2 (Nat.le_refl _) h4⟩))
theorem zE_no (L : List Tok) (k c f t m : Nat) (hk : k = 0 ∨ k = 1 ∨ k = 5) (hm : m ≤ 1000000000) : zE L 1 c (exMk k noB m [] f t) := ⟨k, noB, m, [], f, t, rfl, hm, by simp, .inl ⟨hk, rfl, rfl⟩⟩
/-- An expression was read from token i to token j: it lies in memory; so much more is told as wrong at the most. -/
def XE (gp : Nat) (L : List Tok) (sz dp : Nat) (D : Option Nat) (ds : List Dg) (w w' : World) (i j : Nat) (e : Tr) (v : Value) : Prop :=
  ∃ D' n ds', QSt gp w' L sz ds' dp D' ∧ Stp gp D D' w w' ∧ RdE n (okS w.heap.size gp D' w') w' e v ∧ (∃ m, zE L m (j - i) e) ∧ i ≤ j ∧ j ≤ L.length ∧ ds.length ≤ ds'.length ∧ ds'.length + 4 * (L.length - j) ≤ ds.length + 4 * (L.length - i) + 1
section
variable {gp : Nat} {w : World} {L : List Tok} {sz dp : Nat} {ds : List Dg} {D : Option Nat}
/-- The end of an expression's reading: the result's block is written. -/
theorem xe_end {gp : Nat} {w w4 : World} {L : List Tok} {sz dp : Nat} {ds ds' : List Dg} {D D4 : Option Nat} {o : Obj} {i j : Nat} {e : Tr} {v : Value} {n B : Nat} (hp : QSt gp w L sz ds dp D) (hs : Stp gp D D4 (w.alloc o) w4) (hp4 : QSt gp w4 L sz ds' dp D4) (hr : RdE n (okS B gp D4 w4) w4 e v) (hB : w.heap.size < B) (u0 u1 u2 u3 u4 u5 : Value)
    (hz : ∃ m, zE L m (j - i) e) (h1 : i ≤ j) (h2 : j ≤ L.length) (h3 : ds.length ≤ ds'.length) (h4 : ds'.length + 4 * (L.length - j) ≤ ds.length + 4 * (L.length - i) + 1) :
    XE gp L sz dp D ds w ((((((w4.setCell ⟨w.heap.size, 0, none⟩ u0).setCell ⟨w.heap.size, 1, none⟩ u1).setCell ⟨w.heap.size, 2, none⟩ u2).setCell ⟨w.heap.size, 3, none⟩ u3).setCell ⟨w.heap.size, 4, none⟩ u4).setCell ⟨w.heap.size, 5, none⟩ u5) i j e v := by
  obtain ⟨hn1, hn2⟩ := laid_ne hp hs
  have hb0 := (Below.refl w.heap.size w).alloc (Nat.le_refl _) o
  refine ⟨D4, n, ds', ?_, ?_, ?_, hz, h1, h2, h3, h4⟩
  · exact (((((hp4.set hn1 hn2 _ _).set hn1 hn2 _ _).set hn1 hn2 _ _).set hn1 hn2 _ _).set hn1 hn2 _ _).set hn1 hn2 _ _
  · exact ((((((Stp.below hb0).trans hs).set (Nat.le_refl _) _ _).set (Nat.le_refl _) _ _).set (Nat.le_refl _) _ _).set (Nat.le_refl _) _ _).set (Nat.le_refl _) _ _ |>.set (Nat.le_refl _) _ _
  · exact ((((((hr.set hB _ _).set hB _ _).set hB _ _).set hB _ _).set hB _ _).set hB _ _).base (Nat.le_of_lt hB)
set_option maxHeartbeats 1000000 in
set_option maxRecDepth 100000 in
theorem refNone_any (hp : QSt gp w L sz ds dp D) (i : Nat) (hi : i ≤ L.length) (e0 : Nat) (hds : ds.length + 1 ≤ 1099511627776) :
    Calls Try.prog 122 #[.pointer (some ⟨gp, 0, none⟩), .int .i64 (i : Int), .int .i64 (e0 : Int)] w fun e w' => ∃ v x, e = .returned (.tuple #[v, .int .i64 (i : Int)]) ∧ XE gp L sz dp D ds w w' i i x v := by
  have hlen := hp.len
  go_enter Try.func122, Try.ntmps122
  have hb0 := (Below.refl w.heap.size w).alloc (Nat.le_refl _) (.cells #[.int .i64 0, .string ⟨#[]⟩, .int .i64 0, .slice none 0 0, .int .i64 0, .int .i64 0] 102)
  have hp0 := hp.below hb0
  have hfd := fun w2 => (tkFieldQ ((tk L sz i).k : Int) ((tk L sz i).a : Int) (tk L sz i).x w2).1
  go_wp2_with (first
    | (go_at_call 42; refine (refBad_any hp0 i (by omega) e0 hds).mono ?_; rintro e w1 ⟨rfl, D1, hp1, hs1⟩)
    | (go_at_call 38; refine (refT_any hp1 i (by omega)).mono ?_; rintro e w2 ⟨rfl, hb2⟩; unfold tkV; replace hp1 := hp1.below hb2; replace hs1 := hs1.trans (Stp.below hb2); obtain ⟨hl1, hl2, hl3⟩ := laid hp hs1; have hl4 := hl3 0 _ rfl; have hl5 := hl3 1 _ rfl; have hl6 := hl3 2 _ rfl; have hl7 := hl3 3 _ rfl; have hl8 := hl3 4 _ rfl; have hl9 := hl3 5 _ rfl; clear hl3))
  exact bodyPost_ret (v := .tuple #[.agg #[.int .i64 5, .string ⟨#[]⟩, .int .i64 0, .slice none 0 0, .int .i64 ((tk L sz i).a : Int), .int .i64 ((tk L sz i).a : Int)], .int .i64 (i : Int)]) (by simp [results, Try.results122, go_sem, hl4, hl5, hl6, hl7, hl8, hl9]) rfl ⟨_, exNo L sz i, rfl, xe_end hp hs1 hp1 (rd_none 5 noB 0 _ _ none 0) (Nat.lt_succ_self _) _ _ _ _ _ _ ⟨1, zE_no L 5 _ _ _ 0 (by omega) (by omega)⟩ (Nat.le_refl _) hi (by simp) (by simp; omega)⟩
end
end Go.Proofs.Ytjpmnholpeidmaa

namespace Go.Proofs.Ytjpmnholpeidmaa
open Go.RowKit
attribute [local go_sem ↓] Go.wp_at_zero Go.wp_at_succ
/-- How far a step goes, and how much it tells. -/
theorem need_bd {i : Nat} {s : ByteArray} {L : List Tok} {sz : Nat} (hi : i ≤ L.length) : i ≤ (pNeed L sz i s).i ∧ (pNeed L sz i s).i ≤ L.length ∧ (pNeed L sz i s).d.length ≤ 1 := by
  unfold pNeed
  split
  · rename_i h
    have := (isT_lt h).1
    exact ⟨by simp, by simp only; omega, by simp⟩
  · exact ⟨Nat.le_refl _, hi, by simp⟩
theorem named_bd {i : Nat} {L : List Tok} {sz : Nat} (hL : ∀ t ∈ L, okT t) (hi : i ≤ L.length) : i ≤ (pNamed L sz i).i ∧ (pNamed L sz i).i ≤ L.length ∧ (pNamed L sz i).d.length ≤ 1 := by
  have h := named_ok (sz := sz) hL hi
  refine ⟨h.ge, h.le, ?_⟩
  unfold pNamed
  split
  · simp
  · split <;> simp
/-- Expr's contract, up to so much fuel; Atom's. -/
def XX (L : List Tok) (sz f : Nat) : Prop := ∀ (gp : Nat) (w : World) (ds : List Dg) (dp : Nat) (D : Option Nat) (i w0 : Nat), QSt gp w L sz ds dp D → i ≤ L.length → 2 * (L.length - i) + 2 ≤ f → w0 ≤ 4 → ds.length + 4 * (L.length - i) + 20 ≤ 1099511627776 →
  Calls Try.prog 101 #[.pointer (some ⟨gp, 0, none⟩), .int .i64 (i : Int), .int .i64 (w0 : Int)] w fun e w' => ∃ v x j, e = .returned (.tuple #[v, .int .i64 ((j : Nat) : Int)]) ∧ XE gp L sz dp D ds w w' i j x v
def XA (L : List Tok) (sz f : Nat) : Prop := ∀ (gp : Nat) (w : World) (ds : List Dg) (dp : Nat) (D : Option Nat) (i : Nat), QSt gp w L sz ds dp D → i ≤ L.length → 2 * (L.length - i) + 1 ≤ f → ds.length + 4 * (L.length - i) + 20 ≤ 1099511627776 →
  Calls Try.prog 112 #[.pointer (some ⟨gp, 0, none⟩), .int .i64 (i : Int)] w fun e w' => ∃ v x j, e = .returned (.tuple #[v, .int .i64 ((j : Nat) : Int)]) ∧ XE gp L sz dp D ds w w' i j x v
/-- Six cells laid down. -/
theorem six_atQ {w w' : World} {u0 u1 u2 u3 u4 u5 : Value} {t : TypeId} (h : w' = w.alloc (.cells #[u0, u1, u2, u3, u4, u5] t)) :
    Below w.heap.size w w' ∧ w'.heap[w.heap.size]? = some (.cells #[u0, u1, u2, u3, u4, u5] t (0, 0)) ∧ w'.cell? ⟨w.heap.size, 0, none⟩ = some u0 ∧ w'.cell? ⟨w.heap.size, 1, none⟩ = some u1 ∧ w'.cell? ⟨w.heap.size, 2, none⟩ = some u2 ∧ w'.cell? ⟨w.heap.size, 3, none⟩ = some u3 ∧ w'.cell? ⟨w.heap.size, 4, none⟩ = some u4 ∧ w'.cell? ⟨w.heap.size, 5, none⟩ = some u5 := by
  subst h
  have hn := heap_alloc_new w (.cells #[u0, u1, u2, u3, u4, u5] t)
  exact ⟨(Below.refl _ _).alloc (Nat.le_refl _) _, hn, cell_of_row _ _ 0 _ _ _ hn, cell_of_row _ _ 1 _ _ _ hn, cell_of_row _ _ 2 _ _ _ hn, cell_of_row _ _ 3 _ _ _ hn, cell_of_row _ _ 4 _ _ _ hn, cell_of_row _ _ 5 _ _ _ hn⟩
section
variable {gp : Nat} {w : World} {L : List Tok} {sz dp : Nat} {ds : List Dg} {D : Option Nat}
set_option maxHeartbeats 1000000 in
set_option maxRecDepth 100000 in
theorem xAtom_rest (hp : QSt gp w L sz ds dp D) (i : Nat) (hi : i ≤ L.length) (hds : ds.length + 4 * (L.length - i) + 20 ≤ 1099511627776)
    (hInt : i < L.length → dp < 12 → (tk L sz i).k = 2 → Calls Try.prog 112 #[.pointer (some ⟨gp, 0, none⟩), .int .i64 (i : Int)] w fun e w' => ∃ v x j, e = .returned (.tuple #[v, .int .i64 ((j : Nat) : Int)]) ∧ XE gp L sz dp D ds w w' i j x v)
    (hPar : i < L.length → dp < 12 → ¬ (tk L sz i).k = 2 → (tk L sz i).x = bs1 40 → Calls Try.prog 112 #[.pointer (some ⟨gp, 0, none⟩), .int .i64 (i : Int)] w fun e w' => ∃ v x j, e = .returned (.tuple #[v, .int .i64 ((j : Nat) : Int)]) ∧ XE gp L sz dp D ds w w' i j x v)
    (hCall : i < L.length → dp < 12 → ¬ (tk L sz i).k = 2 → ¬ (tk L sz i).x = bs1 40 → nmB (tk L sz i).x = true → isT L (i + 1) (bs1 40) = true → Calls Try.prog 112 #[.pointer (some ⟨gp, 0, none⟩), .int .i64 (i : Int)] w fun e w' => ∃ v x j, e = .returned (.tuple #[v, .int .i64 ((j : Nat) : Int)]) ∧ XE gp L sz dp D ds w w' i j x v) :
    Calls Try.prog 112 #[.pointer (some ⟨gp, 0, none⟩), .int .i64 (i : Int)] w fun e w' => ∃ v x j, e = .returned (.tuple #[v, .int .i64 ((j : Nat) : Int)]) ∧ XE gp L sz dp D ds w w' i j x v := by
  have hlen := hp.len
  have hsiz := hp.siz
  have hgp := hp.gp_lt
  have htk := tk_smallQ hp i
  have hx : (tk L sz i).x.size ≤ maxLen := by unfold maxLen; omega
  have hb0 := (Below.refl w.heap.size w).alloc (Nat.le_refl _) (.cells #[.int .i64 0, .string ⟨#[]⟩, .int .i64 0, .slice none 0 0, .int .i64 0, .int .i64 0] 102)
  have hp0 := hp.below hb0
  by_cases h1 : L.length ≤ i
  · clear hInt hPar hCall
    go_enter Try.func112, Try.ntmps112
    go_wp2_with (first
      | (go_at_call 38; refine (refT_any hp0 i (by omega)).mono ?_; rintro e w2 ⟨rfl, hb2⟩; unfold tkV; obtain ⟨z0, z1, z2, hb3⟩ := tk_at (t := tk L sz i) hb2 (Below.refl _ _); have hp1 := hp0.below hb3; obtain ⟨p, c, v, c0, c1, c2, c3, hfz, htok, hown, hD⟩ := hp1.cells; clear htok)
      | (go_at_call 122; refine (refNone_any hp1 i (by omega) 2 (by omega)).mono ?_; rintro e w4 ⟨v4, x4, rfl, D4, n4, ds4, hp4, hs4, hr4, hz4, _, hj4, hd4, hd5⟩; have hs5 := (Stp.below hb3).trans hs4; obtain ⟨hl1, hl2, hl3⟩ := laid hp hs5; have hl4 := hl3 0 _ rfl; have hl5 := hl3 1 _ rfl; have hl6 := hl3 2 _ rfl; have hl7 := hl3 3 _ rfl; have hl8 := hl3 4 _ rfl; have hl9 := hl3 5 _ rfl; clear hl3; obtain ⟨k5, x5, m5, p5, l5, c5, rfl⟩ := hr4.shape))
    exact bodyPost_ret (v := .tuple #[.agg #[.int .i64 (k5 : Int), .string x5, .int .i64 (m5 : Int), .slice p5 l5 c5, .int .i64 (exF x4 : Int), .int .i64 (exT x4 : Int)], .int .i64 (i : Int)]) (by simp [results, Try.results112, go_sem, hl4, hl5, hl6, hl7, hl8, hl9]) rfl ⟨_, x4, i, rfl, xe_end hp hs5 hp4 hr4 (by have := hb3.size; simp at this ⊢; omega) _ _ _ _ _ _ hz4 (Nat.le_refl _) hj4 hd4 hd5⟩
  have hil : i < L.length := by omega
  clear h1
  by_cases h2 : 12 ≤ dp
  · clear hInt hPar hCall
    go_enter Try.func112, Try.ntmps112
    go_wp2_with (first
      | (go_at_call 38; refine (refT_any hp0 i (by omega)).mono ?_; rintro e w2 ⟨rfl, hb2⟩; unfold tkV; obtain ⟨z0, z1, z2, hb3⟩ := tk_at (t := tk L sz i) hb2 (Below.refl _ _); have hp1 := hp0.below hb3; obtain ⟨p, c, v, c0, c1, c2, c3, hfz, htok, hown, hD⟩ := hp1.cells; clear htok)
      | (go_at_call 122; refine (refNone_any hp1 i (by omega) 12 (by omega)).mono ?_; rintro e w4 ⟨v4, x4, rfl, D4, n4, ds4, hp4, hs4, hr4, hz4, _, hj4, hd4, hd5⟩; have hs5 := (Stp.below hb3).trans hs4; obtain ⟨hl1, hl2, hl3⟩ := laid hp hs5; have hl4 := hl3 0 _ rfl; have hl5 := hl3 1 _ rfl; have hl6 := hl3 2 _ rfl; have hl7 := hl3 3 _ rfl; have hl8 := hl3 4 _ rfl; have hl9 := hl3 5 _ rfl; clear hl3; obtain ⟨k5, x5, m5, p5, l5, c5, rfl⟩ := hr4.shape))
    exact bodyPost_ret (v := .tuple #[.agg #[.int .i64 (k5 : Int), .string x5, .int .i64 (m5 : Int), .slice p5 l5 c5, .int .i64 (exF x4 : Int), .int .i64 (exT x4 : Int)], .int .i64 (i : Int)]) (by simp [results, Try.results112, go_sem, hl4, hl5, hl6, hl7, hl8, hl9]) rfl ⟨_, x4, i, rfl, xe_end hp hs5 hp4 hr4 (by have := hb3.size; simp at this ⊢; omega) _ _ _ _ _ _ hz4 (Nat.le_refl _) hj4 hd4 hd5⟩
  have hdp : dp < 12 := by omega
  clear h2
  by_cases h3 : (tk L sz i).k = 2
  · exact hInt hil hdp h3
  by_cases h4 : (tk L sz i).x = bs1 40
  · exact hPar hil hdp h3 h4
  have hk2 : (((tk L sz i).k : Int) == 2) = false := by simp; omega
  have hx40 : ((tk L sz i).x.toList == [40]) = false := bne_of _ ⟨#[40]⟩ h4
  have hx41 : ¬ (tk L sz i).x.toList = [40] := fun h => by rw [h] at hx40; simp at hx40
  rcases Bool.eq_false_or_eq_true (nmB (tk L sz i).x) with hN | hN
  · have gw : IntKind.i64.wrap (((tk L sz i).a : Int) + ((tk L sz i).x.size : Int)) = ((tk L sz i).a : Int) + ((tk L sz i).x.size : Int) := wrap_id _ (by omega) (by omega)
    cases hI : isT L (i + 1) (bs1 40)
    · clear hInt hPar hCall
      go_enter Try.func112, Try.ntmps112
      go_wp2_with (first
        | (go_at_call 38; refine (refT_any hp0 i (by omega)).mono ?_; rintro e w2 ⟨rfl, hb2⟩; unfold tkV; obtain ⟨z0, z1, z2, hb3⟩ := tk_at (t := tk L sz i) hb2 (Below.refl _ _); have hp1 := hp0.below hb3; obtain ⟨p, c, v, c0, c1, c2, c3, hfz, htok, hown, hD⟩ := hp1.cells; clear htok)
        | (go_at_call 65; refine (refName_any _ _ hx).mono ?_; rintro e w3 ⟨rfl, hb4⟩; rw [hN]; obtain ⟨y0, y1, y2, hb5⟩ := tk_at (t := tk L sz i) hb2 hb4; have hp2 := hp0.below hb5)
        | (go_at_call 36; refine (refIs_any (hp2.below ((Below.refl _ _).alloc (Nat.le_refl _) _)) (i + 1) (by omega) (bs1 40)).mono ?_; rintro e w4 ⟨rfl, hw4⟩; rw [hI]; obtain ⟨hb6, hq, q0, q1, q2, q3, q4, q5⟩ := six_atQ hw4; clear hw4; have hp4 := hp2.below hb6; have hs5 : Stp gp D D _ w4 := (Stp.below hb5).trans (Stp.below hb6); obtain ⟨hl1, hl2, hl3⟩ := laid hp hs5; have hl4 := hl3 0 _ rfl; have hl5 := hl3 1 _ rfl; have hl6 := hl3 2 _ rfl; have hl7 := hl3 3 _ rfl; have hl8 := hl3 4 _ rfl; have hl9 := hl3 5 _ rfl; clear hl3))
      exact bodyPost_ret (v := .tuple #[.agg #[.int .i64 2, .string (tk L sz i).x, .int .i64 0, .slice none 0 0, .int .i64 ((tk L sz i).a : Int), .int .i64 ((tk L sz i).a + (tk L sz i).x.size : Nat)], .int .i64 ((i + 1 : Nat) : Int)]) (by simp [results, Try.results112, go_sem, hl4, hl5, hl6, hl7, hl8, hl9]) rfl ⟨_, _, i + 1, rfl, xe_end hp hs5 hp4 (rd_none 2 (tk L sz i).x 0 _ _ none 0) (Nat.lt_succ_self _) _ _ _ _ _ _ ⟨1, 2, _, 0, [], _, _, rfl, by omega, by simp, .inr (.inl ⟨rfl, tkn_tk hN, rfl, by omega⟩)⟩ (by omega) (by omega) (Nat.le_refl _) (by omega)⟩
    · exact hCall hil hdp h3 h4 hN hI
  · clear hInt hPar hCall
    go_enter Try.func112, Try.ntmps112
    go_wp2_with (first
      | (go_at_call 38; refine (refT_any hp0 i (by omega)).mono ?_; rintro e w2 ⟨rfl, hb2⟩; unfold tkV; obtain ⟨z0, z1, z2, hb3⟩ := tk_at (t := tk L sz i) hb2 (Below.refl _ _); have hp1 := hp0.below hb3; obtain ⟨p, c, v, c0, c1, c2, c3, hfz, htok, hown, hD⟩ := hp1.cells; clear htok)
      | (go_at_call 65; refine (refName_any _ _ hx).mono ?_; rintro e w3 ⟨rfl, hb4⟩; rw [hN]; obtain ⟨y0, y1, y2, hb5⟩ := tk_at (t := tk L sz i) hb2 hb4; have hp2 := hp0.below hb5)
      | (go_at_call 122; refine (refNone_any hp2 i (by omega) 2 (by omega)).mono ?_; rintro e w4 ⟨v4, x4, rfl, D4, n4, ds4, hp4, hs4, hr4, hz4, _, hj4, hd4, hd5⟩; have hs5 := (Stp.below hb5).trans hs4; obtain ⟨hl1, hl2, hl3⟩ := laid hp hs5; have hl4 := hl3 0 _ rfl; have hl5 := hl3 1 _ rfl; have hl6 := hl3 2 _ rfl; have hl7 := hl3 3 _ rfl; have hl8 := hl3 4 _ rfl; have hl9 := hl3 5 _ rfl; clear hl3; obtain ⟨k5, x5, m5, p5, l5, c5, rfl⟩ := hr4.shape))
    exact bodyPost_ret (v := .tuple #[.agg #[.int .i64 (k5 : Int), .string x5, .int .i64 (m5 : Int), .slice p5 l5 c5, .int .i64 (exF x4 : Int), .int .i64 (exT x4 : Int)], .int .i64 (i : Int)]) (by simp [results, Try.results112, go_sem, hl4, hl5, hl6, hl7, hl8, hl9]) rfl ⟨_, x4, i, rfl, xe_end hp hs5 hp4 hr4 (by have := hb5.size; simp at this ⊢; omega) _ _ _ _ _ _ hz4 (Nat.le_refl _) hj4 hd4 hd5⟩
end
end Go.Proofs.Ytjpmnholpeidmaa

namespace Go.Proofs.Ytjpmnholpeidmaa
open Go.RowKit
attribute [local go_sem ↓] Go.wp_at_zero Go.wp_at_succ
section
variable {gp : Nat} {w : World} {L : List Tok} {sz dp : Nat} {ds : List Dg} {D : Option Nat}
set_option maxHeartbeats 1000000 in
set_option maxRecDepth 100000 in
theorem xAtom_par (f : Nat) (hE : XX L sz f) (hp : QSt gp w L sz ds dp D) (i : Nat) (hil : i < L.length) (hf : 2 * (L.length - i) ≤ f) (hdp : dp < 12) (h3 : ¬ (tk L sz i).k = 2) (h4 : (tk L sz i).x = bs1 40) (hds : ds.length + 4 * (L.length - i) + 20 ≤ 1099511627776) :
    Calls Try.prog 112 #[.pointer (some ⟨gp, 0, none⟩), .int .i64 (i : Int)] w fun e w' => ∃ v x j, e = .returned (.tuple #[v, .int .i64 ((j : Nat) : Int)]) ∧ XE gp L sz dp D ds w w' i j x v := by
  have hlen := hp.len
  have hsiz := hp.siz
  have hgp := hp.gp_lt
  have htk := tk_smallQ hp i
  have hb0 := (Below.refl w.heap.size w).alloc (Nat.le_refl _) (.cells #[.int .i64 0, .string ⟨#[]⟩, .int .i64 0, .slice none 0 0, .int .i64 0, .int .i64 0] 102)
  have hp0 := hp.below hb0
  have hk2 : (((tk L sz i).k : Int) == 2) = false := by simp; omega
  have hx40 : ((tk L sz i).x.toList == [40]) = true := by rw [h4]; decide +kernel
  clear h3 h4
  go_enter Try.func112, Try.ntmps112
  go_wp2_with (first
    | (go_at_call 38; refine (refT_any hp0 i (by omega)).mono ?_; rintro e w2 ⟨rfl, hb2⟩; unfold tkV; obtain ⟨z0, z1, z2, hb3⟩ := tk_at (t := tk L sz i) hb2 (Below.refl _ _); have hp1 := hp0.below hb3; obtain ⟨p, c, v, c0, c1, c2, c3, hfz, htok, hown, hD⟩ := hp1.cells; clear htok; have hfz3 := hfz 3)
    | (go_at_call 101; refine (hE gp _ ds (dp + 1) D (i + 1) 1 (hp1.setDeep (dp + 1) (by omega)).1 (by omega) (by omega) (by omega) (by omega)).mono ?_; rintro e w5 ⟨v5, x5, j5, rfl, D5, n5, ds5, hp5, hs5, hr5, hz5, hi5, hj5, hd5, he5⟩; obtain ⟨k4, x4, m4, p4, l4, c4, rfl⟩ := hr5.shape; have hsA := ((Stp.below hb3).trans (hp1.setDeep (dp + 1) (by omega)).2).trans hs5))
  have hq1 : j5 ≤ (pNeed L sz j5 (bs1 41)).i ∧ (pNeed L sz j5 (bs1 41)).i ≤ L.length ∧ (pNeed L sz j5 (bs1 41)).d.length ≤ 1 := need_bd hj5
  refine (refNeed_any (hp5.below ((Below.refl _ _).alloc (Nat.le_refl _) _)) j5 (by omega) (bs1 41) (by omega)).mono ?_
  rintro e w7 ⟨rfl, D7, hp7, hs7⟩
  generalize pNeed L sz j5 (bs1 41) = q at *
  obtain ⟨hq2, hq3, hq4⟩ := hq1
  obtain ⟨hm1, hm2, hm3⟩ := laid hp5 hs7
  have hsB := (hsA.trans (Stp.below ((Below.refl _ _).alloc (Nat.le_refl _) _))).trans hs7
  obtain ⟨hl1, hl2, hl3⟩ := laid hp hsB
  have hm10 := hm3 0 _ rfl
  have hm11 := hm3 1 _ rfl
  have hm12 := hm3 2 _ rfl
  have hm13 := hm3 3 _ rfl
  have hm14 := hm3 4 _ rfl
  have hm15 := hm3 5 _ rfl
  have hl10 := hl3 0 _ rfl
  have hl11 := hl3 1 _ rfl
  have hl12 := hl3 2 _ rfl
  have hl13 := hl3 3 _ rfl
  have hl14 := hl3 4 _ rfl
  have hl15 := hl3 5 _ rfl
  clear hm3 hl3
  obtain ⟨pp, cc, vv, d0, d1, d2, d3, hfz7, htok7, hown7, hD7⟩ := hp7.cells
  clear htok7
  have hfy3 := hfz7 3
  have hn1 : ¬ w.heap.size = gp := by omega
  have hg5 := hp5.gp_lt
  have hn2 : ¬ w5.heap.size = gp := by omega
  go_wp2
  obtain ⟨hp8, hs8⟩ := hp7.setDeep dp (by omega)
  have hr8 := hr5.step (((Stp.below ((Below.refl _ _).alloc (Nat.le_refl _) _)).trans hs7).trans hs8)
  obtain ⟨mz, hz5⟩ := hz5
  exact bodyPost_ret (v := .tuple #[.agg #[.int .i64 (k4 : Int), .string x4, .int .i64 (m4 : Int), .slice p4 l4 c4, .int .i64 (exF x5 : Int), .int .i64 (exT x5 : Int)], .int .i64 (q.i : Int)]) (by simp [results, Try.results112, go_sem, hl10, hl11, hl12, hl13, hl14, hl15]) rfl ⟨_, x5, q.i, rfl, xe_end hp (hsB.trans hs8) hp8 hr8 (by have := hb3.size; simp at this ⊢; omega) _ _ _ _ _ _ ⟨mz, zE_up L mz mz _ _ x5 (Nat.le_refl _) (by omega) hz5⟩ (by omega) hq3 (by simp; omega) (by simp; omega)⟩
end
end Go.Proofs.Ytjpmnholpeidmaa

namespace Go.Proofs.Ytjpmnholpeidmaa
open Go.RowKit
attribute [local go_sem ↓] Go.wp_at_zero Go.wp_at_succ
/-- A text's bytes as a row. -/
theorem conv_any (w : World) (x : ByteArray) : ∃ cap w', (convert 9 186 (.string x)).run Try.prog w = .ok (.slice (some ⟨w.heap.size, 0, none⟩) x.size cap) w' ∧ Below w.heap.size w w' ∧ ∀ j (hj : j < x.size), w'.cell? ⟨w.heap.size, j, none⟩ = some (.int .u8 ((x[j]'hj).toNat : Int)) := by
  refine ⟨_, _, run_bytes_of_string w _ _ _ x Try.underlying9 Try.underlying186 Try.underlying5, ?_, ?_⟩
  · exact (⟨rfl, rfl, rfl, Nat.le_refl _, fun _ _ => rfl⟩ : Below w.heap.size w w.drew).alloc (Nat.le_refl _) _
  · intro j hj
    exact (cell_of_row _ _ j _ _ _ (heap_alloc_new w.drew _)).trans (bytesRow_at x _ j hj)
/-- The digits' loop. -/
def RelN (x : ByteArray) (n j : Value) : Prop := ∃ k m : Nat, k ≤ x.size ∧ m ≤ 10000000009 ∧ j = .int .i64 (k : Int) ∧ n = .int .i64 (m : Int) ∧ num (x.data.toList.drop k) m = num x.data.toList 0
theorem num_step (x : ByteArray) (k m : Nat) (hk : k < x.size) : num (x.data.toList.drop k) m = num (x.data.toList.drop (k + 1)) (if m ≤ 1000000000 then 10 * m + ((x[k]'hk).toNat - 48) else m) := by
  have h' : k < x.data.toList.length := by rw [← Lib.size_eq]; exact hk
  rw [List.drop_eq_getElem_cons h']
  rfl
/-- A token laid down behind the reader stays through a step. -/
theorem tk_keep {gp : Nat} {w0 w2 w3 w4 : World} {L : List Tok} {sz dp : Nat} {ds : List Dg} {D D4 : Option Nat} {t : Tok} (hp : QSt gp w0 L sz ds dp D) (h0 : w0.heap.size ≤ w2.heap.size) (hs : Stp gp D D4 w3 w4)
    (y0 : w3.cell? ⟨w2.heap.size, 0, none⟩ = some (.int .i64 (t.k : Int))) (y1 : w3.cell? ⟨w2.heap.size, 1, none⟩ = some (.string t.x)) (y2 : w3.cell? ⟨w2.heap.size, 2, none⟩ = some (.int .i64 (t.a : Int))) :
    w4.cell? ⟨w2.heap.size, 0, none⟩ = some (.int .i64 (t.k : Int)) ∧ w4.cell? ⟨w2.heap.size, 1, none⟩ = some (.string t.x) ∧ w4.cell? ⟨w2.heap.size, 2, none⟩ = some (.int .i64 (t.a : Int)) := by
  have hg := hp.gp_lt
  have hD : some w2.heap.size ≠ D := fun e => by
    obtain ⟨p, c, v, h1, h2, h3, h4⟩ := hp.blk
    have := (h3.lt _ (h4.trans e.symm)).2
    omega
  have h := hs.block w2.heap.size (World.block_lt_of_cell? w3 _ y0) (by omega) hD
  exact ⟨(World.cell?_of_block (a := ⟨w2.heap.size, 0, none⟩) h).trans y0, (World.cell?_of_block (a := ⟨w2.heap.size, 1, none⟩) h).trans y1, (World.cell?_of_block (a := ⟨w2.heap.size, 2, none⟩) h).trans y2⟩
section
variable {gp : Nat} {w : World} {L : List Tok} {sz dp : Nat} {ds : List Dg} {D : Option Nat}
set_option maxHeartbeats 1000000 in
set_option maxRecDepth 100000 in
theorem xAtom_int (hp : QSt gp w L sz ds dp D) (i : Nat) (hil : i < L.length) (hdp : dp < 12) (h3 : (tk L sz i).k = 2) (hds : ds.length + 4 * (L.length - i) + 20 ≤ 1099511627776) :
    Calls Try.prog 112 #[.pointer (some ⟨gp, 0, none⟩), .int .i64 (i : Int)] w fun e w' => ∃ v x j, e = .returned (.tuple #[v, .int .i64 ((j : Nat) : Int)]) ∧ XE gp L sz dp D ds w w' i j x v := by
  have hlen := hp.len
  have hsiz := hp.siz
  have hgp := hp.gp_lt
  have htk := tk_smallQ hp i
  have hb0 := (Below.refl w.heap.size w).alloc (Nat.le_refl _) (.cells #[.int .i64 0, .string ⟨#[]⟩, .int .i64 0, .slice none 0 0, .int .i64 0, .int .i64 0] 102)
  have hp0 := hp.below hb0
  have hk2 : (((tk L sz i).k : Int) == 2) = true := by rw [h3]; rfl
  have hdg := (hp.end_ _ (List.mem_of_getElem? (tok_of (sz := sz) hil))).2.2 h3
  clear h3
  go_enter Try.func112, Try.ntmps112
  go_wp2_with (first
    | (go_at_call 38; refine (refT_any hp0 i (by omega)).mono ?_; rintro e w2 ⟨rfl, hb2⟩; unfold tkV; obtain ⟨z0, z1, z2, hb3⟩ := tk_at (t := tk L sz i) hb2 (Below.refl _ _); have hp1 := hp0.below hb3; obtain ⟨p, c, v, c0, c1, c2, c3, hfz, htok, hown, hD⟩ := hp1.cells; clear htok; obtain ⟨cap, w3, hcv, hb4, hcl⟩ := conv_any (w2.alloc (.cells #[.int .i64 ((tk L sz i).k : Int), .string (tk L sz i).x, .int .i64 ((tk L sz i).a : Int)] 83)) (tk L sz i).x; obtain ⟨y0, y1, y2, hb5⟩ := tk_at (t := tk L sz i) hb2 hb4))
  have hp5 := hp0.below hb5
  clear hcv hb4
  go_loop [7, 48] (fun n j => RelN (tk L sz i).x n j) (fun _ j => upN (tk L sz i).x.size j)
  case atStart => exact ⟨0, 0, Nat.zero_le _, by omega, rfl, rfl, rfl⟩
  case round =>
    obtain ⟨k, m, hk, hm, rfl, rfl, hnum⟩ := hrel
    have HM : Hid (num ((tk L sz i).x.data.toList.drop k) m = num (tk L sz i).x.data.toList 0) := hnum
    clear hnum
    by_cases hlt : k < (tk L sz i).x.size
    · have hc : w3.cell? ⟨w2.heap.size + 1, k, none⟩ = some (.int .u8 (((tk L sz i).x[k]'hlt).toNat : Int)) := by simpa using hcl k hlt
      have hd := hdg k hlt
      rw [byt_get _ k hlt] at hd
      have hd2 : 48 ≤ ((tk L sz i).x[k]'hlt).toNat ∧ ((tk L sz i).x[k]'hlt).toNat ≤ 57 := by simpa [dgt] using hd
      have HS : Hid (_ = _) := num_step (tk L sz i).x k m hlt
      obtain ⟨hd3, hd4⟩ := hd2
      clear hcl hdg hd
      by_cases hm9 : m ≤ 1000000000
      · rw [if_pos hm9] at HS
        generalize ((tk L sz i).x[k]'hlt).toNat = cc at *
        go_wp2
        go_round
        case rel => exact ⟨k + 1, 10 * m + (cc - 48), by omega, by omega, by go_num, by go_num, by rw [← HS.out]; exact HM.out⟩
        case measure => simp [upN, intOf]; omega
      · rw [if_neg hm9] at HS
        generalize ((tk L sz i).x[k]'hlt).toNat = cc at *
        go_wp2
        go_round
        case rel => exact ⟨k + 1, m, by omega, by omega, by go_num, rfl, by rw [← HS.out]; exact HM.out⟩
        case measure => simp [upN, intOf]; omega
    · have hke : k = (tk L sz i).x.size := by omega
      subst hke
      clear hcl hdg
      have hme : m = num (tk L sz i).x.data.toList 0 := by
        have := HM.out
        rw [List.drop_of_length_le (by rw [← Lib.size_eq]; exact Nat.le_refl _)] at this
        exact this
      clear HM hme
      have gw : IntKind.i64.wrap (((tk L sz i).a : Int) + ((tk L sz i).x.size : Int)) = ((tk L sz i).a : Int) + ((tk L sz i).x.size : Int) := wrap_id _ (by omega) (by omega)
      by_cases hm9 : 1000000000 < m
      · go_wp2_with (first
          | (go_at_call 42; refine (refBad_any hp5 i (by omega) 3 (by omega)).mono ?_; rintro e w4 ⟨rfl, D4, hp4, hs4⟩; have hs5 := (Stp.below hb5).trans hs4; obtain ⟨g0, g1, g2⟩ := tk_keep (t := tk L sz i) hp0 hb2.size hs4 y0 y1 y2; obtain ⟨hl1, hl2, hl3⟩ := laid hp hs5; have hl4 := hl3 0 _ rfl; have hl5 := hl3 1 _ rfl; have hl6 := hl3 2 _ rfl; have hl7 := hl3 3 _ rfl; have hl8 := hl3 4 _ rfl; have hl9 := hl3 5 _ rfl; clear hl3))
        exact bodyPost_ret (v := .tuple #[.agg #[.int .i64 1, .string ⟨#[]⟩, .int .i64 0, .slice none 0 0, .int .i64 ((tk L sz i).a : Int), .int .i64 ((tk L sz i).a + (tk L sz i).x.size : Nat)], .int .i64 ((i + 1 : Nat) : Int)]) (by simp [results, Try.results112, go_sem, hl4, hl5, hl6, hl7, hl8, hl9]) rfl ⟨_, _, i + 1, rfl, xe_end hp hs5 hp4 (rd_none 1 noB 0 _ _ none 0) (Nat.lt_succ_self _) _ _ _ _ _ _ ⟨1, zE_no L 1 _ _ _ 0 (by omega) (by omega)⟩ (by omega) (by omega) (by simp) (by simp; omega)⟩
      · have hs5 : Stp gp D D _ w3 := Stp.below hb5
        obtain ⟨hl1, hl2, hl3⟩ := laid hp hs5
        have hl4 := hl3 0 _ rfl
        have hl5 := hl3 1 _ rfl
        have hl6 := hl3 2 _ rfl
        have hl7 := hl3 3 _ rfl
        have hl8 := hl3 4 _ rfl
        have hl9 := hl3 5 _ rfl
        clear hl3
        go_wp2
        exact bodyPost_ret (v := .tuple #[.agg #[.int .i64 1, .string ⟨#[]⟩, .int .i64 (m : Int), .slice none 0 0, .int .i64 ((tk L sz i).a : Int), .int .i64 ((tk L sz i).a + (tk L sz i).x.size : Nat)], .int .i64 ((i + 1 : Nat) : Int)]) (by simp [results, Try.results112, go_sem, hl4, hl5, hl6, hl7, hl8, hl9]) rfl ⟨_, _, i + 1, rfl, xe_end hp hs5 hp5 (rd_none 1 noB m _ _ none 0) (Nat.lt_succ_self _) _ _ _ _ _ _ ⟨1, zE_no L 1 _ _ _ m (by omega) (by omega)⟩ (by omega) (by omega) (Nat.le_refl _) (by omega)⟩
end
end Go.Proofs.Ytjpmnholpeidmaa


/- Texts of this seat, one behind the other: RxS1, RxS2. -/
import Derived.Test.YtjpmnholpeidmaaZb45
import Derived.Test.YtjpmnholpeidmaaZb07
import Derived.Test.YtjpmnholpeidmaaZb01
import Derived.Test.YtjpmnholpeidmaaZb01b
namespace Go.Proofs.Ytjpmnholpeidmaa
open Go.RowKit
set_option linter.unusedVariables false
/-- What a statement that sends counts, with or without a name. -/
def s5 (k : Nat) : Nat := if k = 5 then 1 else 0
theorem s5v : s5 1 = 0 ∧ s5 2 = 0 ∧ s5 3 = 0 ∧ s5 4 = 0 ∧ s5 5 = 1 ∧ s5 6 = 0 ∧ s5 7 = 0 ∧ s5 8 = 0 := by decide
/-- Statements that were read: as zE. -/
def zS (L : List Tok) : Nat → Nat → Tr → Prop
  | 0, _, _ => False
  | n + 1, c, s => ∃ (k : Nat) (x : ByteArray) (a lb : Nat) (o : Bool) (e : Tr) (th el : List Tr) (f t ce ct cl : Nat), s = stMk k x a lb o e th el f t ∧ lb < 256 ∧ th.length ≤ 40 ∧ el.length ≤ 40 ∧ (∃ m, zE L m ce e) ∧ wfL (zS L n) ct th ∧ wfL (zS L n) cl el ∧
    ((x = noB ∧ ce + ct + cl + s5 k ≤ c) ∨ (tkn L x a ∧ ce + ct + cl + 1 ≤ c)) ∧ (k = 2 → x ≠ noB) ∧ (k = 1 ∨ k = 2 ∨ k = 5 ∨ x = noB) ∧ (k = 3 ∨ k = 4 ∨ th = []) ∧ (k = 3 ∨ el = []) ∧ 1 ≤ k ∧ k ≤ 8 ∧ (k = 8 → e = exZ)
theorem zS_up (L : List Tok) (n : Nat) : ∀ (m c c' : Nat) (e : Tr), n ≤ m → c ≤ c' → zS L n c e → zS L m c' e := by
  induction n with
  | zero => intro m c c' e _ _ h; exact h.elim
  | succ n ih =>
    intro m c c' e hm hc h
    obtain ⟨m, rfl⟩ : ∃ q, m = q + 1 := ⟨m - 1, by omega⟩
    obtain ⟨k, x, a, lb, o, e, th, el, f, t, ce, ct, cl, he, h0, h1, h2, h3, h4, h5, h6, h7⟩ := h
    refine ⟨k, x, a, lb, o, e, th, el, f, t, ce, ct, cl, he, h0, h1, h2, h3, wfL_up (fun c c' a => ih m c c' a (by omega)) th ct ct (Nat.le_refl _) h4, wfL_up (fun c c' a => ih m c c' a (by omega)) el cl cl (Nat.le_refl _) h5, ?_, h7⟩
    rcases h6 with ⟨g1, g2⟩ | ⟨g1, g2⟩
    · exact .inl ⟨g1, by omega⟩
    · exact .inr ⟨g1, by omega⟩
/-- Where a statement begins. -/
def stFq : Tr → Nat
  | .agg [_, _, _, _, _, _, _, _, .lit (.int _ f), _] => f.toNat
  | _ => 0
theorem stFq_mk (k : Nat) (x : ByteArray) (a lb : Nat) (o : Bool) (e : Tr) (th el : List Tr) (f t : Nat) : stFq (stMk k x a lb o e th el f t) = f := by simp [stFq, stMk]
/-- What is gathered of statements, in turn. -/
def colS (p : Tr → List Nat) : Nat → Tr → List Nat
  | 0, _ => []
  | n + 1, s => p s ++ ((stTh s).flatMap (colS p n) ++ (stEl s).flatMap (colS p n))
theorem colS_fuel (p : Tr → List Nat) (n : Nat) : ∀ (m : Nat) (s : Tr), szT s ≤ n → szT s ≤ m → colS p n s = colS p m s := by
  induction n with
  | zero => intro m e h; have := szT_pos e; omega
  | succ n ih =>
    intro m e h1 h2
    cases m with
    | zero => have := szT_pos e; omega
    | succ m =>
      have h3 : ∀ a ∈ stTh e, colS p n a = colS p m a := fun a ha => ih m a (by have := stTh_less e a ha; omega) (by have := stTh_less e a ha; omega)
      have h4 : ∀ a ∈ stEl e, colS p n a = colS p m a := fun a ha => ih m a (by have := stEl_less e a ha; omega) (by have := stEl_less e a ha; omega)
      unfold colS
      rw [flat_same h3, flat_same h4]
def colY (p : Tr → List Nat) (s : Tr) : List Nat := colS p (szT s) s
def colB (p : Tr → List Nat) (l : List Tr) : List Nat := l.flatMap (colY p)
theorem colY_eq (p : Tr → List Nat) (s : Tr) : colY p s = p s ++ (colB p (stTh s) ++ colB p (stEl s)) := by
  have h3 : ∀ a ∈ stTh s, colS p (szT s) a = colY p a := fun a ha => colS_fuel p _ _ a (by have := stTh_less s a ha; omega) (Nat.le_refl _)
  have h4 : ∀ a ∈ stEl s, colS p (szT s) a = colY p a := fun a ha => colS_fuel p _ _ a (by have := stEl_less s a ha; omega) (Nat.le_refl _)
  have h1 : colY p s = colS p (szT s + 1) s := colS_fuel p _ _ s (Nat.le_refl _) (by omega)
  rw [h1]
  conv => lhs; unfold colS
  rw [flat_same h3, flat_same h4]
  rfl
theorem colB_snoc (p : Tr → List Nat) (l : List Tr) (s : Tr) : colB p (l ++ [s]) = colB p l ++ colY p s := by unfold colB; simp
/-- Of lets: where they begin. Of what is no statement: something. -/
def ltF (s : Tr) : List Nat := if exK s = 1 then [stFq s] else []
def bdF (s : Tr) : List Nat := if exK s = 8 then [0] else []
theorem ltY_mkQ (k : Nat) (x : ByteArray) (a lb : Nat) (o : Bool) (e : Tr) (th el : List Tr) (f t : Nat) : colY ltF (stMk k x a lb o e th el f t) = (if k = 1 then [f] else []) ++ (colB ltF th ++ colB ltF el) := by
  rw [colY_eq, stTh_mk, stEl_mk]; unfold ltF; rw [stK_mk, stFq_mk]
theorem bdY_mkQ (k : Nat) (x : ByteArray) (a lb : Nat) (o : Bool) (e : Tr) (th el : List Tr) (f t : Nat) : colY bdF (stMk k x a lb o e th el f t) = (if k = 8 then [0] else []) ++ (colB bdF th ++ colB bdF el) := by
  rw [colY_eq, stTh_mk, stEl_mk]; unfold bdF; rw [stK_mk]
/-- Places that rise, from token i's to ahead of token j's. -/
def InS (L : List Tok) (sz i j : Nat) (l : List Nat) : Prop := l.Pairwise (· < ·) ∧ ∀ x ∈ l, (tk L sz i).a ≤ x ∧ x < (tk L sz j).a
theorem InS.nil {L : List Tok} {sz i j : Nat} : InS L sz i j [] := ⟨List.Pairwise.nil, fun x h => absurd h (List.not_mem_nil)⟩
section
variable {gp : Nat} {w : World} {L : List Tok} {sz dp : Nat} {ds : List Dg} {D : Option Nat}
theorem QSt.lt (hp : QSt gp w L sz ds dp D) {i j : Nat} (h : i < j) (hj : j ≤ L.length) : (tk L sz i).a < (tk L sz j).a := by
  have hi := tok_of (L := L) (sz := sz) (i := i) (by omega)
  rcases Nat.lt_or_ge j L.length with h1 | h1
  · exact pair_get hp.inc hi (tok_of (sz := sz) h1) h
  · have h2 := hp.end_ _ (List.mem_of_getElem? hi)
    have h3 := h2.2.1.1
    rw [tok_no (sz := sz) h1]
    have h4 := h2.1
    simp only
    omega
theorem QSt.mono (hp : QSt gp w L sz ds dp D) {i j : Nat} (h : i ≤ j) (hj : j ≤ L.length) : (tk L sz i).a ≤ (tk L sz j).a := by
  rcases Nat.lt_or_ge i j with h1 | h1
  · exact Nat.le_of_lt (hp.lt h1 hj)
  · rw [show i = j by omega]; exact Nat.le_refl _
theorem InS.wide (hp : QSt gp w L sz ds dp D) {i i' j j' : Nat} {l : List Nat} (h : InS L sz i j l) (hi : i' ≤ i) (hi2 : i ≤ L.length) (hj : j ≤ j') (hj2 : j' ≤ L.length) : InS L sz i' j' l :=
  ⟨h.1, fun x hx => ⟨Nat.le_trans (hp.mono hi hi2) (h.2 x hx).1, Nat.lt_of_lt_of_le (h.2 x hx).2 (hp.mono hj hj2)⟩⟩
theorem InS.app (hp : QSt gp w L sz ds dp D) {i j j' k : Nat} {l m : List Nat} (h : InS L sz i j l) (q : InS L sz j' k m) (hi : i ≤ j) (hj : j ≤ j') (hk : j' ≤ k) (hk2 : k ≤ L.length) : InS L sz i k (l ++ m) := by
  have m1 := hp.mono hj (by omega)
  refine ⟨List.pairwise_append.2 ⟨h.1, q.1, fun a ha b hb => ?_⟩, fun x hx => ?_⟩
  · exact Nat.lt_of_lt_of_le (h.2 a ha).2 (Nat.le_trans m1 (q.2 b hb).1)
  · rcases List.mem_append.1 hx with hx | hx
    · exact ⟨(h.2 x hx).1, Nat.lt_of_lt_of_le (h.2 x hx).2 (hp.mono (by omega) hk2)⟩
    · exact ⟨Nat.le_trans (hp.mono (by omega) (by omega)) (q.2 x hx).1, (q.2 x hx).2⟩
theorem InS.one (hp : QSt gp w L sz ds dp D) {i j : Nat} (h : i < j) (hj : j ≤ L.length) : InS L sz i j [(tk L sz i).a] :=
  ⟨List.pairwise_singleton _ _, fun x hx => by rw [List.mem_singleton] at hx; subst hx; exact ⟨Nat.le_refl _, hp.lt h hj⟩⟩
end
/-- A statement in the making: its block b, of so many cells. -/
structure SB (gp b : Nat) (L : List Tok) (sz dp : Nat) (ds : List Dg) (D0 D : Option Nat) (w0 w : World) (cs : Array Value) : Prop where
  p : QSt gp w L sz ds dp D
  s : Stp gp D0 D w0 w
  g : gp < b
  d : some b ≠ D
  k : w.heap[b]? = some (.cells cs 104 (0, 0))
  z : w0.heap.size ≤ b
section
variable {gp b : Nat} {w0 w w' : World} {L : List Tok} {sz dp : Nat} {ds ds' : List Dg} {D0 D D' : Option Nat} {cs : Array Value}
theorem SB.lt (h : SB gp b L sz dp ds D0 D w0 w cs) : b < w.heap.size := (Array.getElem?_eq_some_iff.1 h.k).1
theorem SB.set (h : SB gp b L sz dp ds D0 D w0 w cs) (k : Nat) (v : Value) : SB gp b L sz dp ds D0 D w0 (w.setCell ⟨b, k, none⟩ v) (cs.setIfInBounds k v) :=
  ⟨h.p.set h.g h.d k v, h.s.set h.z k v, h.g, h.d, by simp [World.setCell, Array.getElem?_modify, h.k], h.z⟩
theorem SB.step (h : SB gp b L sz dp ds D0 D w0 w cs) (hp : QSt gp w' L sz ds' dp D') (hs : Stp gp D D' w w') : SB gp b L sz dp ds' D0 D' w0 w' cs :=
  ⟨hp, h.s.trans hs, h.g, hs.fresh h.lt h.d, (hs.block b h.lt (by have := h.g; omega) h.d).trans h.k, h.z⟩
theorem SB.below (h : SB gp b L sz dp ds D0 D w0 w cs) (hb : Below w.heap.size w w') : SB gp b L sz dp ds D0 D w0 w' cs := h.step (h.p.below hb) (Stp.below hb)
theorem SB.tol (h : SB gp b L sz dp ds D0 D w0 w cs) {d : List Dg} (ht : TolQ gp L sz dp D d w w') : ∃ D', SB gp b L sz dp d D0 D' w0 w' cs ∧ Stp gp D D' w w' := by
  obtain ⟨D', h1, h2⟩ := ht
  exact ⟨D', h.step h1 h2, h2⟩
theorem SB.lit {ct : Array Value} (h : SB gp b L sz dp ds D0 D w0 w cs) (e : cs = ct) : SB gp b L sz dp ds D0 D w0 w ct := e ▸ h
theorem SB.six (h : SB gp b L sz dp ds D0 D w0 w cs) (v5 v6 v7 v8 v9 v10 : Value) : SB gp b L sz dp ds D0 D w0 ((((((w.setCell ⟨b, 5, none⟩ v5).setCell ⟨b, 6, none⟩ v6).setCell ⟨b, 7, none⟩ v7).setCell ⟨b, 8, none⟩ v8).setCell ⟨b, 9, none⟩ v9).setCell ⟨b, 10, none⟩ v10) ((((((cs.setIfInBounds 5 v5).setIfInBounds 6 v6).setIfInBounds 7 v7).setIfInBounds 8 v8).setIfInBounds 9 v9).setIfInBounds 10 v10) :=
  (((((h.set 5 v5).set 6 v6).set 7 v7).set 8 v8).set 9 v9).set 10 v10
theorem SB.fresh (h : SB gp b L sz dp ds D0 D w0 w cs) : b < w.heap.size := h.lt
end
/-- What holds of a statement in the making behind its parts. -/
def RelStm (gp : Nat) (L : List Tok) (sz dp : Nat) (D : Option Nat) (ds : List Dg) (W : World) (b i0 : Nat) (v1 v8 : Value) (wr : World) : Prop :=
  ∃ (j : Nat) (semi : Bool) (ds' : List Dg) (D' : Option Nat) (k : Nat) (x : ByteArray) (a lb : Nat) (o : Bool) (e : Tr) (th el : List Tr) (k4 : Nat) (x4 : ByteArray) (m4 : Nat) (p4 : Option Addr) (l4 c4 f4 t4 : Nat) (p1 : Option Addr) (c1 : Nat) (p2 : Option Addr) (c2 : Nat) (ce ct cl : Nat),
    v1 = .int .i64 (j : Int) ∧ v8 = .bool semi ∧ i0 ≤ j ∧ j ≤ L.length ∧
    SB gp b L sz dp ds' D D' W wr #[.int .i64 (k : Int), .string x, .int .i64 (a : Int), .int .i64 (lb : Int), .bool o, .int .i64 (k4 : Int), .string x4, .int .i64 (m4 : Int), .slice p4 l4 c4, .int .i64 (f4 : Int), .int .i64 (t4 : Int), .slice p1 th.length c1, .slice p2 el.length c2, .int .i64 ((tk L sz i0).a : Int), .int .i64 0] ∧
    (∃ n, RdE n (okS (b + 1) gp D' wr) wr e (.agg #[.int .i64 (k4 : Int), .string x4, .int .i64 (m4 : Int), .slice p4 l4 c4, .int .i64 (f4 : Int), .int .i64 (t4 : Int)])) ∧
    (∃ n, SlT (okS (b + 1) gp D' wr) (RdS n (okS (b + 1) gp D' wr) wr) wr 15 th p1) ∧ (∃ n, SlT (okS (b + 1) gp D' wr) (RdS n (okS (b + 1) gp D' wr) wr) wr 15 el p2) ∧
    lb < 256 ∧ th.length ≤ 40 ∧ el.length ≤ 40 ∧ (∃ m, zE L m ce e) ∧ (∃ m, wfL (zS L m) ct th) ∧ (∃ m, wfL (zS L m) cl el) ∧
    ((x = noB ∧ ce + ct + cl + s5 k ≤ j - i0) ∨ (tkn L x a ∧ ce + ct + cl + 1 ≤ j - i0)) ∧ (k = 2 → x ≠ noB) ∧ (k = 1 ∨ k = 2 ∨ k = 5 ∨ x = noB) ∧ (k = 3 ∨ k = 4 ∨ th = []) ∧ (k = 3 ∨ el = []) ∧ 1 ≤ k ∧ k ≤ 8 ∧ (k = 8 → e = exZ) ∧
    ds.length ≤ ds'.length ∧ (ds'.length = ds.length → k ≠ 8 ∧ colB bdF th = [] ∧ colB bdF el = []) ∧
    InS L sz i0 j ((if k = 1 then [(tk L sz i0).a] else []) ++ (colB ltF th ++ colB ltF el)) ∧
    (semi = true → (j = i0 → ds'.length ≤ ds.length + 1) ∧ (i0 < j → ds'.length + 8 * (L.length - j) + 1 ≤ ds.length + 8 * (L.length - i0))) ∧
    (semi = false → (j = i0 → ds'.length ≤ ds.length + 2) ∧ (i0 < j → ds'.length + 8 * (L.length - j) ≤ ds.length + 8 * (L.length - i0)))
/-- A statement was read from token i to token j. -/
def XS (gp : Nat) (L : List Tok) (sz dp : Nat) (D : Option Nat) (ds : List Dg) (w w' : World) (i j : Nat) (s : Tr) (v : Value) : Prop :=
  ∃ D' n ds', QSt gp w' L sz ds' dp D' ∧ Stp gp D D' w w' ∧ RdS n (okS w.heap.size gp D' w') w' s v ∧ (∃ m, zS L m (j - i) s) ∧ i ≤ j ∧ j ≤ L.length ∧ ds.length ≤ ds'.length ∧ (j = i → ds'.length ≤ ds.length + 2) ∧ (i < j → ds'.length + 8 * (L.length - j) ≤ ds.length + 8 * (L.length - i)) ∧ (ds'.length = ds.length → colY bdF s = []) ∧ InS L sz i j (colY ltF s)
/-- A block was read. -/
def XB (gp : Nat) (L : List Tok) (sz dp : Nat) (D : Option Nat) (ds : List Dg) (w w' : World) (i j : Nat) (l : List Tr) (p : Option Addr) : Prop :=
  ∃ D' n ds', QSt gp w' L sz ds' dp D' ∧ Stp gp D D' w w' ∧ SlT (okS w.heap.size gp D' w') (RdS n (okS w.heap.size gp D' w') w') w' 15 l p ∧ l.length ≤ 40 ∧ (∃ m, wfL (zS L m) (j - i) l) ∧ i ≤ j ∧ j ≤ L.length ∧ ds.length ≤ ds'.length ∧ ds'.length + 8 * (L.length - j) ≤ ds.length + 8 * (L.length - i) + 1 ∧ (ds'.length = ds.length → colB bdF l = []) ∧ InS L sz i j (colB ltF l)
/-- What Stmt, and Block, are to answer, with so much fuel. -/
def XSC (L : List Tok) (sz f : Nat) : Prop := ∀ (gp : Nat) (w : World) (ds : List Dg) (dp : Nat) (D : Option Nat) (i : Nat), QSt gp w L sz ds dp D → i < L.length → 2 * (L.length - i) + 1 ≤ f → ds.length + 8 * (L.length - i) + 10000 ≤ 1099511627776 →
  Calls Try.prog 79 #[.pointer (some ⟨gp, 0, none⟩), .int .i64 (i : Int)] w fun e w' => ∃ v s j, e = .returned (.tuple #[v, .int .i64 ((j : Nat) : Int)]) ∧ XS gp L sz dp D ds w w' i j s v
def XBC (L : List Tok) (sz f : Nat) : Prop := ∀ (gp : Nat) (w : World) (ds : List Dg) (dp : Nat) (D : Option Nat) (i : Nat), QSt gp w L sz ds dp D → i ≤ L.length → 2 * (L.length - i) + 2 ≤ f → ds.length + 8 * (L.length - i) + 10000 ≤ 1099511627776 →
  Calls Try.prog 64 #[.pointer (some ⟨gp, 0, none⟩), .int .i64 (i : Int)] w fun e w' => ∃ l p c j, e = .returned (.tuple #[.slice p (l : List Tr).length c, .int .i64 ((j : Nat) : Int)]) ∧ XB gp L sz dp D ds w w' i j l p
theorem SlT.stepQ {gp B : Nat} {D D' : Option Nat} {w w' : World} {l : List Tr} {p : Option Addr} {n : Nat} (h : SlT (okS B gp D w) (RdS n (okS B gp D w) w) w 15 l p) (hs : Stp gp D D' w w') : SlT (okS B gp D' w') (RdS n (okS B gp D' w') w') w' 15 l p :=
  h.kept (okS.step hs).1 (okS.step hs).2 (fun _ _ h => RdS.step h hs)
theorem SlT.baseQ {gp B B' : Nat} {D : Option Nat} {w : World} {l : List Tr} {p : Option Addr} {n : Nat} (h : SlT (okS B gp D w) (RdS n (okS B gp D w) w) w 15 l p) (hB : B' ≤ B) : SlT (okS B' gp D w) (RdS n (okS B' gp D w) w) w 15 l p :=
  h.kept (fun _ _ => rfl) (fun _ hk => ⟨Nat.le_trans hB hk.1, hk.2⟩) (fun _ _ h => RdS.base h hB)
theorem SlT.upQ {gp B : Nat} {D : Option Nat} {w : World} {l : List Tr} {p : Option Addr} {n m : Nat} (h : SlT (okS B gp D w) (RdS n (okS B gp D w) w) w 15 l p) (hm : n ≤ m) : SlT (okS B gp D w) (RdS m (okS B gp D w) w) w 15 l p :=
  h.kept (fun _ _ => rfl) (fun _ hk => hk) (fun _ _ h => RdS.le h hm)
theorem SlT.setQ {gp B b : Nat} {D : Option Nat} {w : World} {l : List Tr} {p : Option Addr} {n : Nat} (h : SlT (okS B gp D w) (RdS n (okS B gp D w) w) w 15 l p) (hb : b < B) (o : Nat) (u : Value) : SlT (okS B gp D (w.setCell ⟨b, o, none⟩ u)) (RdS n (okS B gp D (w.setCell ⟨b, o, none⟩ u)) (w.setCell ⟨b, o, none⟩ u)) (w.setCell ⟨b, o, none⟩ u) 15 l p :=
  have h1 : ∀ k, okS B gp D w k → (w.setCell ⟨b, o, none⟩ u).heap[k]? = w.heap[k]? := fun k hk => Below.heap_setCell w _ _ k (by have := hk.1; simp; omega)
  have h2 : ∀ k, okS B gp D w k → okS B gp D (w.setCell ⟨b, o, none⟩ u) k := fun k hk => ⟨hk.1, by simpa using hk.2.1, hk.2.2⟩
  h.kept h1 h2 (fun _ _ h => RdS.kept n h1 h2 _ _ h)
theorem SlT.noneQ {ok : Nat → Prop} {rd : Tr → Value → Prop} {w : World} {p : Option Addr} : SlT ok rd w 15 [] p := ⟨by simp, fun h => absurd h (by simp)⟩
end Go.Proofs.Ytjpmnholpeidmaa

namespace Go.Proofs.Ytjpmnholpeidmaa
open Go.RowKit
set_option linter.unusedVariables false
attribute [local go_sem ↓] Go.wp_at_zero Go.wp_at_succ
theorem below_of_drewN {w w' : World} {m : Nat} (h : w' = w.drewN m) : Below w.heap.size w w' := by rw [h]; exact below_drewN (Below.refl _ _) m
theorem hidQ {p : Prop} (h : p) : Hid p := h
theorem labs_bd (L : List Tok) (sz f : Nat) : ∀ i n, n < 256 → i ≤ L.length → (pLabs L sz f i n).v < 256 ∧ (pLabs L sz f i n).d.length ≤ (pLabs L sz f i n).i - i + 1 ∧ i ≤ (pLabs L sz f i n).i ∧ (pLabs L sz f i n).i ≤ L.length := by
  induction f with
  | zero => intro i n hn hi; unfold pLabs; exact ⟨hn, by simp, Nat.le_refl _, hi⟩
  | succ f ih =>
    intro i n hn hi
    cases h1 : isT L i (bs1 125)
    · cases h2 : tagB (tk L sz i).x
      · rw [pLabs_no L sz f i n h1 h2]; exact ⟨hn, by simp, Nat.le_refl _, hi⟩
      · rw [pLabs_tag L sz f i n h1 h2]
        have hil := tag_in h2
        obtain ⟨c, hc⟩ : ∃ c, byt (tk L sz i).x 0 - 97 = c := ⟨_, rfl⟩
        have hc7 : c ≤ 7 := by
          have h3 : (tk L sz i).x.size = 1 ∧ 97 ≤ byt (tk L sz i).x 0 ∧ byt (tk L sz i).x 0 ≤ 104 := by simpa [tagB] using h2
          omega
        rw [hc]
        have hl : labN n (2 ^ c) < 256 := by
          unfold labN
          split
          · exact hn
          · exact add_small hn hc7 ‹_›
        have hd : (labD L sz i n (2 ^ c)).length ≤ 1 := by unfold labD; split <;> simp
        split
        · rename_i h4
          have h5 := isT_in h4
          obtain ⟨a1, a2, a3, a4⟩ := ih (i + 1) _ hl (by omega)
          exact ⟨a1, by simp only [List.length_append]; omega, by simp only; omega, a4⟩
        · split
          · rename_i h4
            have h5 := isT_in h4
            obtain ⟨a1, a2, a3, a4⟩ := ih (i + 2) _ hl (by omega)
            exact ⟨a1, by simp only [List.length_append]; omega, by simp only; omega, a4⟩
          · exact ⟨hl, by simp only [List.length_append, List.length_singleton]; omega, by simp only; omega, hil⟩
    · rw [pLabs_end L sz f i n h1]
      have := isT_in h1
      exact ⟨hn, by simp, by simp only; omega, this⟩
theorem lab_bd {L : List Tok} {sz i : Nat} (hi : i ≤ L.length) : (pLab L sz i).v < 256 ∧ (pLab L sz i).d.length ≤ (pLab L sz i).i - i + 1 ∧ i ≤ (pLab L sz i).i ∧ (pLab L sz i).i ≤ L.length := by
  unfold pLab
  split
  · rename_i h
    have h5 := isT_in h
    obtain ⟨a1, a2, a3, a4⟩ := labs_bd L sz (L.length + 1 - i) (i + 1) 0 (by omega) (by omega)
    exact ⟨a1, by omega, by omega, a4⟩
  · exact ⟨by simp, by simp, Nat.le_refl _, hi⟩
theorem rdZ {ok : Nat → Prop} {w : World} : RdE 1 ok w exZ (.agg #[.int .i64 0, .string ⟨#[]⟩, .int .i64 0, .slice none 0 0, .int .i64 0, .int .i64 0]) := rd_none 0 noB 0 0 0 none 0
/-- What holds of a statement in the making at token j, when all its parts are read. -/
def RelPQ (gp : Nat) (L : List Tok) (sz dp : Nat) (D : Option Nat) (ds : List Dg) (W : World) (b i j : Nat) (ds' : List Dg) (D' : Option Nat) (k : Nat) (x : ByteArray) (a lb : Nat) (o : Bool) (e : Tr) (th el : List Tr) (k4 : Nat) (x4 : ByteArray) (m4 : Nat) (p4 : Option Addr) (l4 c4 f4 t4 : Nat) (p1 : Option Addr) (c1 : Nat) (p2 : Option Addr) (c2 : Nat) (ce ct cl : Nat) (wr : World) (s1 s2 : Nat) : Prop :=
    i ≤ j ∧ j ≤ L.length ∧
    SB gp b L sz dp ds' D D' W wr #[.int .i64 (k : Int), .string x, .int .i64 (a : Int), .int .i64 (lb : Int), .bool o, .int .i64 (k4 : Int), .string x4, .int .i64 (m4 : Int), .slice p4 l4 c4, .int .i64 (f4 : Int), .int .i64 (t4 : Int), .slice p1 th.length c1, .slice p2 el.length c2, .int .i64 ((tk L sz i).a : Int), .int .i64 0] ∧
    (∃ n, RdE n (okS (b + 1) gp D' wr) wr e (.agg #[.int .i64 (k4 : Int), .string x4, .int .i64 (m4 : Int), .slice p4 l4 c4, .int .i64 (f4 : Int), .int .i64 (t4 : Int)])) ∧
    (∃ n, SlT (okS (b + 1) gp D' wr) (RdS n (okS (b + 1) gp D' wr) wr) wr 15 th p1) ∧ (∃ n, SlT (okS (b + 1) gp D' wr) (RdS n (okS (b + 1) gp D' wr) wr) wr 15 el p2) ∧
    lb < 256 ∧ th.length ≤ 40 ∧ el.length ≤ 40 ∧ (∃ m, zE L m ce e) ∧ (∃ m, wfL (zS L m) ct th) ∧ (∃ m, wfL (zS L m) cl el) ∧
    ((x = noB ∧ ce + ct + cl + s5 k ≤ j - i) ∨ (tkn L x a ∧ ce + ct + cl + 1 ≤ j - i)) ∧ (k = 2 → x ≠ noB) ∧ (k = 1 ∨ k = 2 ∨ k = 5 ∨ x = noB) ∧ (k = 3 ∨ k = 4 ∨ th = []) ∧ (k = 3 ∨ el = []) ∧ 1 ≤ k ∧ k ≤ 8 ∧ (k = 8 → e = exZ) ∧
    ds.length ≤ ds'.length ∧ (ds'.length = ds.length → k ≠ 8 ∧ colB bdF th = [] ∧ colB bdF el = []) ∧
    InS L sz i j ((if k = 1 then [(tk L sz i).a] else []) ++ (colB ltF th ++ colB ltF el)) ∧
    (j = i → ds'.length ≤ ds.length + s1) ∧ (i < j → ds'.length + 8 * (L.length - j) + s2 ≤ ds.length + 8 * (L.length - i))
section
variable {gp : Nat} {w : World} {L : List Tok} {sz dp : Nat} {ds : List Dg} {D : Option Nat}
/-- A statement was read: it is handed back. -/
theorem stm_fin {b i j k a lb k4 m4 l4 c4 f4 t4 c1 c2 ce ct cl tt : Nat} {w wA : World} {D' : Option Nat} {ds' : List Dg} {x x4 : ByteArray} {o : Bool} {e : Tr} {th el : List Tr} {p4 p1 p2 : Option Addr} {O : Obj} (hp : QSt gp w L sz ds dp D)
    (hS : SB gp b L sz dp ds' D D' (w.alloc O) wA #[.int .i64 (k : Int), .string x, .int .i64 (a : Int), .int .i64 (lb : Int), .bool o, .int .i64 (k4 : Int), .string x4, .int .i64 (m4 : Int), .slice p4 l4 c4, .int .i64 (f4 : Int), .int .i64 (t4 : Int), .slice p1 th.length c1, .slice p2 el.length c2, .int .i64 ((tk L sz i).a : Int), .int .i64 (tt : Int)])
    (hE : ∃ n, RdE n (okS (b + 1) gp D' wA) wA e (.agg #[.int .i64 (k4 : Int), .string x4, .int .i64 (m4 : Int), .slice p4 l4 c4, .int .i64 (f4 : Int), .int .i64 (t4 : Int)])) (h1 : ∃ n, SlT (okS (b + 1) gp D' wA) (RdS n (okS (b + 1) gp D' wA) wA) wA 15 th p1) (h2 : ∃ n, SlT (okS (b + 1) gp D' wA) (RdS n (okS (b + 1) gp D' wA) wA) wA 15 el p2)
    (g1 : lb < 256) (g2 : th.length ≤ 40) (g3 : el.length ≤ 40) (g4 : ∃ m, zE L m ce e) (g5 : ∃ m, wfL (zS L m) ct th) (g6 : ∃ m, wfL (zS L m) cl el) (g7 : (x = noB ∧ ce + ct + cl + s5 k ≤ j - i) ∨ (tkn L x a ∧ ce + ct + cl + 1 ≤ j - i)) (g8 : k = 2 → x ≠ noB) (g9 : k = 1 ∨ k = 2 ∨ k = 5 ∨ x = noB) (g10 : k = 3 ∨ k = 4 ∨ th = []) (g11 : k = 3 ∨ el = []) (g12 : 1 ≤ k) (g13 : k ≤ 8) (g14 : k = 8 → e = exZ)
    (q1 : i ≤ j) (q2 : j ≤ L.length) (q3 : ds.length ≤ ds'.length) (q4 : ds'.length = ds.length → k ≠ 8 ∧ colB bdF th = [] ∧ colB bdF el = []) (q5 : InS L sz i j ((if k = 1 then [(tk L sz i).a] else []) ++ (colB ltF th ++ colB ltF el))) (q6 : j = i → ds'.length ≤ ds.length + 2) (q7 : i < j → ds'.length + 8 * (L.length - j) ≤ ds.length + 8 * (L.length - i)) (u0 u1 u2 u3 u4 u5 u6 u7 u8 u9 u10 u11 u12 u13 u14 : Value) :
    XS gp L sz dp D ds w (((((((((((((((wA.setCell ⟨w.heap.size, 0, none⟩ u0).setCell ⟨w.heap.size, 1, none⟩ u1).setCell ⟨w.heap.size, 2, none⟩ u2).setCell ⟨w.heap.size, 3, none⟩ u3).setCell ⟨w.heap.size, 4, none⟩ u4).setCell ⟨w.heap.size, 5, none⟩ u5).setCell ⟨w.heap.size, 6, none⟩ u6).setCell ⟨w.heap.size, 7, none⟩ u7).setCell ⟨w.heap.size, 8, none⟩ u8).setCell ⟨w.heap.size, 9, none⟩ u9).setCell ⟨w.heap.size, 10, none⟩ u10).setCell ⟨w.heap.size, 11, none⟩ u11).setCell ⟨w.heap.size, 12, none⟩ u12).setCell ⟨w.heap.size, 13, none⟩ u13).setCell ⟨w.heap.size, 14, none⟩ u14) i j (stMk k x a lb o e th el (tk L sz i).a tt) (.agg #[.int .i64 (k : Int), .string x, .int .i64 (a : Int), .int .i64 (lb : Int), .bool o, .int .i64 (k4 : Int), .string x4, .int .i64 (m4 : Int), .slice p4 l4 c4, .int .i64 (f4 : Int), .int .i64 (t4 : Int), .slice p1 th.length c1, .slice p2 el.length c2, .int .i64 ((tk L sz i).a : Int), .int .i64 (tt : Int)]) := by
  have hb0 := (Below.refl w.heap.size w).alloc (Nat.le_refl _) O
  have hgp := hp.gp_lt
  have hnD : some w.heap.size ≠ D' := (hS.s.fresh (by simp) hp.ne)
  have hz := hS.z
  simp at hz
  have hs := (Stp.below (gp := gp) (D := D) hb0).trans hS.s
  have hpA := hS.p
  obtain ⟨n1, hE⟩ := hE
  obtain ⟨n2, h1⟩ := h1
  obtain ⟨n3, h2⟩ := h2
  obtain ⟨m1, g5⟩ := g5
  obtain ⟨m2, g6⟩ := g6
  obtain ⟨wB, hwB⟩ : ∃ wB, wB = (((((((((((((((wA.setCell ⟨w.heap.size, 0, none⟩ u0).setCell ⟨w.heap.size, 1, none⟩ u1).setCell ⟨w.heap.size, 2, none⟩ u2).setCell ⟨w.heap.size, 3, none⟩ u3).setCell ⟨w.heap.size, 4, none⟩ u4).setCell ⟨w.heap.size, 5, none⟩ u5).setCell ⟨w.heap.size, 6, none⟩ u6).setCell ⟨w.heap.size, 7, none⟩ u7).setCell ⟨w.heap.size, 8, none⟩ u8).setCell ⟨w.heap.size, 9, none⟩ u9).setCell ⟨w.heap.size, 10, none⟩ u10).setCell ⟨w.heap.size, 11, none⟩ u11).setCell ⟨w.heap.size, 12, none⟩ u12).setCell ⟨w.heap.size, 13, none⟩ u13).setCell ⟨w.heap.size, 14, none⟩ u14) := ⟨_, rfl⟩
  have hpB : QSt gp wB L sz ds' dp D' := by rw [hwB]; exact ((((((((((((((hpA.set hgp hnD 0 u0).set hgp hnD 1 u1).set hgp hnD 2 u2).set hgp hnD 3 u3).set hgp hnD 4 u4).set hgp hnD 5 u5).set hgp hnD 6 u6).set hgp hnD 7 u7).set hgp hnD 8 u8).set hgp hnD 9 u9).set hgp hnD 10 u10).set hgp hnD 11 u11).set hgp hnD 12 u12).set hgp hnD 13 u13).set hgp hnD 14 u14
  have hsB : Stp gp D D' w wB := by rw [hwB]; exact ((((((((((((((hs.set (Nat.le_refl _) 0 u0).set (Nat.le_refl _) 1 u1).set (Nat.le_refl _) 2 u2).set (Nat.le_refl _) 3 u3).set (Nat.le_refl _) 4 u4).set (Nat.le_refl _) 5 u5).set (Nat.le_refl _) 6 u6).set (Nat.le_refl _) 7 u7).set (Nat.le_refl _) 8 u8).set (Nat.le_refl _) 9 u9).set (Nat.le_refl _) 10 u10).set (Nat.le_refl _) 11 u11).set (Nat.le_refl _) 12 u12).set (Nat.le_refl _) 13 u13).set (Nat.le_refl _) 14 u14
  have hk1 : ∀ k, okS (b + 1) gp D' wA k → wB.heap[k]? = wA.heap[k]? := fun k hk => by rw [hwB]; exact sets_far (by have := hk.1; omega) u0 u1 u2 u3 u4 u5 u6 u7 u8 u9 u10 u11 u12 u13 u14
  have hsz : wB.heap.size = wA.heap.size := by rw [hwB]; simp
  have hk2 : ∀ k, okS (b + 1) gp D' wA k → okS w.heap.size gp D' wB k := fun k hk => ⟨by have := hk.1; omega, by rw [hsz]; exact hk.2.1, hk.2.2⟩
  rw [← hwB]
  refine ⟨D', max n2 n3 + 1, ds', hpB, hsB, ⟨k, x, a, lb, o, e, th, el, (tk L sz i).a, tt, _, _, _, _, _, _, p1, c1, p2, c2, rfl, rfl, ⟨n1, RdE.kept n1 hk1 hk2 _ _ hE⟩, ?_, ?_⟩, ⟨max m1 m2 + 1, k, x, a, lb, o, e, th, el, _, _, ce, ct, cl, rfl, g1, g2, g3, g4, wfL_up (fun c c' a hc => zS_up L _ _ c c' a (Nat.le_max_left m1 m2) hc) _ _ _ (Nat.le_refl _) g5, wfL_up (fun c c' a hc => zS_up L _ _ c c' a (Nat.le_max_right m1 m2) hc) _ _ _ (Nat.le_refl _) g6, g7, g8, g9, g10, g11, g12, g13, g14⟩, q1, q2, q3, q6, q7, fun h => ?_, ?_⟩
  · exact h1.kept hk1 hk2 (fun a v h => (RdS.kept n2 hk1 hk2 a v h).le (Nat.le_max_left _ _))
  · exact h2.kept hk1 hk2 (fun a v h => (RdS.kept n3 hk1 hk2 a v h).le (Nat.le_max_right _ _))
  · obtain ⟨z1, z2, z3⟩ := q4 h
    rw [bdY_mkQ, z2, z3, if_neg z1]
    rfl
  · rw [ltY_mkQ]; exact q5
theorem end_ge {w : World} (hp : QSt gp w L sz ds dp D) {i j : Nat} (h : i < j) (hj : j ≤ L.length) : (tk L sz i).a ≤ endT L sz j := by
  have h1 := hp.mono (i := i) (j := j - 1) (by omega) (by omega)
  unfold endT
  rw [if_neg (by omega)]
  omega
theorem RelPQ.below {b i j k a lb k4 m4 l4 c4 f4 t4 c1 c2 ce ct cl s1 s2 : Nat} {W wr w' : World} {D' : Option Nat} {ds' : List Dg} {x x4 : ByteArray} {o : Bool} {e : Tr} {th el : List Tr} {p4 p1 p2 : Option Addr} (h : RelPQ gp L sz dp D ds W b i j ds' D' k x a lb o e th el k4 x4 m4 p4 l4 c4 f4 t4 p1 c1 p2 c2 ce ct cl wr s1 s2) (hb : Below wr.heap.size wr w') : RelPQ gp L sz dp D ds W b i j ds' D' k x a lb o e th el k4 x4 m4 p4 l4 c4 f4 t4 p1 c1 p2 c2 ce ct cl w' s1 s2 := by
  obtain ⟨hij, hjL, hS, ⟨n1, hE⟩, ⟨n2, h1⟩, ⟨n3, h2⟩, g1, g2, g3, g4, g5, g6, g7, g8, g9, g10, g11, g12, g13, g14, q3, q4, q5, q6, q7⟩ := h
  exact ⟨hij, hjL, hS.below hb, ⟨n1, hE.step (Stp.below hb)⟩, ⟨n2, h1.stepQ (Stp.below hb)⟩, ⟨n3, h2.stepQ (Stp.below hb)⟩, g1, g2, g3, g4, g5, g6, g7, g8, g9, g10, g11, g12, g13, g14, q3, q4, q5, q6, q7⟩
theorem RelPQ.need {b i j k a lb k4 m4 l4 c4 f4 t4 c1 c2 ce ct cl : Nat} {w W wr w' : World} {D' D2 : Option Nat} {ds' : List Dg} {x x4 : ByteArray} {o : Bool} {e : Tr} {th el : List Tr} {p4 p1 p2 : Option Addr} {q : R Bool} (h : RelPQ gp L sz dp D ds W b i j ds' D' k x a lb o e th el k4 x4 m4 p4 l4 c4 f4 t4 p1 c1 p2 c2 ce ct cl wr 1 1) (hS2 : SB gp b L sz dp (ds' ++ q.d) D D2 W w' #[.int .i64 (k : Int), .string x, .int .i64 (a : Int), .int .i64 (lb : Int), .bool o, .int .i64 (k4 : Int), .string x4, .int .i64 (m4 : Int), .slice p4 l4 c4, .int .i64 (f4 : Int), .int .i64 (t4 : Int), .slice p1 th.length c1, .slice p2 el.length c2, .int .i64 ((tk L sz i).a : Int), .int .i64 0]) (hst : Stp gp D' D2 wr w') (hp : QSt gp w L sz ds dp D) (hq1 : j ≤ q.i) (hq2 : q.i ≤ L.length) (hq3 : q.d.length ≤ 1) : RelPQ gp L sz dp D ds W b i q.i (ds' ++ q.d) D2 k x a lb o e th el k4 x4 m4 p4 l4 c4 f4 t4 p1 c1 p2 c2 ce ct cl w' 2 0 := by
  obtain ⟨hij, hjL, hS, ⟨n1, hE⟩, ⟨n2, h1⟩, ⟨n3, h2⟩, g1, g2, g3, g4, g5, g6, g7, g8, g9, g10, g11, g12, g13, g14, q3, q4, q5, q6, q7⟩ := h
  refine ⟨by omega, hq2, hS2, ⟨n1, hE.step hst⟩, ⟨n2, h1.stepQ hst⟩, ⟨n3, h2.stepQ hst⟩, g1, g2, g3, g4, g5, g6, g7.elim (fun h => .inl ⟨h.1, by have := h.2; omega⟩) (fun h => .inr ⟨h.1, by have := h.2; omega⟩), g8, g9, g10, g11, g12, g13, g14, by simp only [List.length_append]; omega, fun h => q4 (by simp only [List.length_append] at h; omega), q5.wide hp (Nat.le_refl _) (by omega) hq1 hq2, fun h => ?_, fun h => ?_⟩
  · have := q6 (by omega)
    simp only [List.length_append]
    omega
  · simp only [List.length_append]
    rcases Nat.lt_or_ge i j with h3 | h3
    · have := q7 h3; omega
    · have := q6 (by omega); omega
theorem RelPQ.set14 {b i j k a lb k4 m4 l4 c4 f4 t4 c1 c2 ce ct cl s1 s2 : Nat} {W wr : World} {D' : Option Nat} {ds' : List Dg} {x x4 : ByteArray} {o : Bool} {e : Tr} {th el : List Tr} {p4 p1 p2 : Option Addr} (h : RelPQ gp L sz dp D ds W b i j ds' D' k x a lb o e th el k4 x4 m4 p4 l4 c4 f4 t4 p1 c1 p2 c2 ce ct cl wr s1 s2) (v : Value) : SB gp b L sz dp ds' D D' W (wr.setCell ⟨b, 14, none⟩ v) #[.int .i64 (k : Int), .string x, .int .i64 (a : Int), .int .i64 (lb : Int), .bool o, .int .i64 (k4 : Int), .string x4, .int .i64 (m4 : Int), .slice p4 l4 c4, .int .i64 (f4 : Int), .int .i64 (t4 : Int), .slice p1 th.length c1, .slice p2 el.length c2, .int .i64 ((tk L sz i).a : Int), v] ∧ (∃ n, RdE n (okS (b + 1) gp D' (wr.setCell ⟨b, 14, none⟩ v)) (wr.setCell ⟨b, 14, none⟩ v) e (.agg #[.int .i64 (k4 : Int), .string x4, .int .i64 (m4 : Int), .slice p4 l4 c4, .int .i64 (f4 : Int), .int .i64 (t4 : Int)])) ∧
    (∃ n, SlT (okS (b + 1) gp D' (wr.setCell ⟨b, 14, none⟩ v)) (RdS n (okS (b + 1) gp D' (wr.setCell ⟨b, 14, none⟩ v)) (wr.setCell ⟨b, 14, none⟩ v)) (wr.setCell ⟨b, 14, none⟩ v) 15 th p1) ∧ (∃ n, SlT (okS (b + 1) gp D' (wr.setCell ⟨b, 14, none⟩ v)) (RdS n (okS (b + 1) gp D' (wr.setCell ⟨b, 14, none⟩ v)) (wr.setCell ⟨b, 14, none⟩ v)) (wr.setCell ⟨b, 14, none⟩ v) 15 el p2) := by
  obtain ⟨hij, hjL, hS, ⟨n1, hE⟩, ⟨n2, h1⟩, ⟨n3, h2⟩, g1, g2, g3, g4, g5, g6, g7, g8, g9, g10, g11, g12, g13, g14, q3, q4, q5, q6, q7⟩ := h
  exact ⟨(hS.set 14 v).lit rfl, ⟨n1, hE.set (Nat.lt_succ_self _) 14 v⟩, ⟨n2, h1.setQ (Nat.lt_succ_self _) 14 v⟩, ⟨n3, h2.setQ (Nat.lt_succ_self _) 14 v⟩⟩
/-- Handed back: its end is that of its last token. -/
theorem RelPQ.fin0 {b i j k a lb k4 m4 l4 c4 f4 t4 c1 c2 ce ct cl : Nat} {w wr : World} {D' : Option Nat} {ds' : List Dg} {x x4 : ByteArray} {o : Bool} {e : Tr} {th el : List Tr} {p4 p1 p2 : Option Addr} {O : Obj} {tt : Nat} (hp : QSt gp w L sz ds dp D) (h : RelPQ gp L sz dp D ds (w.alloc O) b i j ds' D' k x a lb o e th el k4 x4 m4 p4 l4 c4 f4 t4 p1 c1 p2 c2 ce ct cl wr 2 0) (u0 u1 u2 u3 u4 u5 u6 u7 u8 u9 u10 u11 u12 u13 u14 : Value) :
    XS gp L sz dp D ds w ((((((((((((((((wr.setCell ⟨b, 14, none⟩ (.int .i64 (tt : Int))).setCell ⟨w.heap.size, 0, none⟩ u0).setCell ⟨w.heap.size, 1, none⟩ u1).setCell ⟨w.heap.size, 2, none⟩ u2).setCell ⟨w.heap.size, 3, none⟩ u3).setCell ⟨w.heap.size, 4, none⟩ u4).setCell ⟨w.heap.size, 5, none⟩ u5).setCell ⟨w.heap.size, 6, none⟩ u6).setCell ⟨w.heap.size, 7, none⟩ u7).setCell ⟨w.heap.size, 8, none⟩ u8).setCell ⟨w.heap.size, 9, none⟩ u9).setCell ⟨w.heap.size, 10, none⟩ u10).setCell ⟨w.heap.size, 11, none⟩ u11).setCell ⟨w.heap.size, 12, none⟩ u12).setCell ⟨w.heap.size, 13, none⟩ u13).setCell ⟨w.heap.size, 14, none⟩ u14) i j (stMk k x a lb o e th el (tk L sz i).a tt) (.agg #[.int .i64 (k : Int), .string x, .int .i64 (a : Int), .int .i64 (lb : Int), .bool o, .int .i64 (k4 : Int), .string x4, .int .i64 (m4 : Int), .slice p4 l4 c4, .int .i64 (f4 : Int), .int .i64 (t4 : Int), .slice p1 th.length c1, .slice p2 el.length c2, .int .i64 ((tk L sz i).a : Int), .int .i64 (tt : Int)]) := by
  obtain ⟨z1, z2, z3, z4⟩ := h.set14 (.int .i64 (tt : Int))
  obtain ⟨hij, hjL, hS, _, _, _, g1, g2, g3, g4, g5, g6, g7, g8, g9, g10, g11, g12, g13, g14, q3, q4, q5, q6, q7⟩ := h
  exact stm_fin hp z1 z2 z3 z4 g1 g2 g3 g4 g5 g6 g7 g8 g9 g10 g11 g12 g13 g14 hij hjL q3 q4 q5 q6 q7 u0 u1 u2 u3 u4 u5 u6 u7 u8 u9 u10 u11 u12 u13 u14
theorem RelPQ.fin1 {b i j k a lb k4 m4 l4 c4 f4 t4 c1 c2 ce ct cl : Nat} {w wr : World} {D' : Option Nat} {ds' : List Dg} {x x4 : ByteArray} {o : Bool} {e : Tr} {th el : List Tr} {p4 p1 p2 : Option Addr} {O : Obj} {t0 tt : Nat} (hp : QSt gp w L sz ds dp D) (h : RelPQ gp L sz dp D ds (w.alloc O) b i j ds' D' k x a lb o e th el k4 x4 m4 p4 l4 c4 f4 t4 p1 c1 p2 c2 ce ct cl wr 2 0) (u0 u1 u2 u3 u4 u5 u6 u7 u8 u9 u10 u11 u12 u13 u14 : Value) :
    XS gp L sz dp D ds w (((((((((((((((((wr.setCell ⟨b, 14, none⟩ (.int .i64 (t0 : Int))).setCell ⟨b, 14, none⟩ (.int .i64 (tt : Int))).setCell ⟨w.heap.size, 0, none⟩ u0).setCell ⟨w.heap.size, 1, none⟩ u1).setCell ⟨w.heap.size, 2, none⟩ u2).setCell ⟨w.heap.size, 3, none⟩ u3).setCell ⟨w.heap.size, 4, none⟩ u4).setCell ⟨w.heap.size, 5, none⟩ u5).setCell ⟨w.heap.size, 6, none⟩ u6).setCell ⟨w.heap.size, 7, none⟩ u7).setCell ⟨w.heap.size, 8, none⟩ u8).setCell ⟨w.heap.size, 9, none⟩ u9).setCell ⟨w.heap.size, 10, none⟩ u10).setCell ⟨w.heap.size, 11, none⟩ u11).setCell ⟨w.heap.size, 12, none⟩ u12).setCell ⟨w.heap.size, 13, none⟩ u13).setCell ⟨w.heap.size, 14, none⟩ u14) i j (stMk k x a lb o e th el (tk L sz i).a tt) (.agg #[.int .i64 (k : Int), .string x, .int .i64 (a : Int), .int .i64 (lb : Int), .bool o, .int .i64 (k4 : Int), .string x4, .int .i64 (m4 : Int), .slice p4 l4 c4, .int .i64 (f4 : Int), .int .i64 (t4 : Int), .slice p1 th.length c1, .slice p2 el.length c2, .int .i64 ((tk L sz i).a : Int), .int .i64 (tt : Int)]) := by
  obtain ⟨z1, ⟨n1, z2⟩, ⟨n2, z3⟩, ⟨n3, z4⟩⟩ := h.set14 (.int .i64 (t0 : Int))
  obtain ⟨hij, hjL, hS, _, _, _, g1, g2, g3, g4, g5, g6, g7, g8, g9, g10, g11, g12, g13, g14, q3, q4, q5, q6, q7⟩ := h
  exact stm_fin hp ((z1.set 14 (.int .i64 (tt : Int))).lit rfl) ⟨n1, z2.set (Nat.lt_succ_self _) 14 _⟩ ⟨n2, z3.setQ (Nat.lt_succ_self _) 14 _⟩ ⟨n3, z4.setQ (Nat.lt_succ_self _) 14 _⟩ g1 g2 g3 g4 g5 g6 g7 g8 g9 g10 g11 g12 g13 g14 hij hjL q3 q4 q5 q6 q7 u0 u1 u2 u3 u4 u5 u6 u7 u8 u9 u10 u11 u12 u13 u14
end
end Go.Proofs.Ytjpmnholpeidmaa


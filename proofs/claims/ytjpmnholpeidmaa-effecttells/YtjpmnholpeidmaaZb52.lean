/- Texts of this seat, one behind the other: RxItem, RxFile. -/
import Derived.Test.YtjpmnholpeidmaaZb51
import Derived.Test.YtjpmnholpeidmaaZb14
import Derived.Test.YtjpmnholpeidmaaZb03
import Derived.Test.YtjpmnholpeidmaaZb01
import Derived.Test.YtjpmnholpeidmaaZb11
import Derived.Deep.CutBlock
import Derived.Test.YtjpmnholpeidmaaZb12
import Derived.Test.YtjpmnholpeidmaaZb01b
import Derived.Test.YtjpmnholpeidmaaZb43
namespace Go.Proofs.Ytjpmnholpeidmaa
open Go.RowKit
set_option linter.unusedVariables false
attribute [local go_sem ↓] Go.wp_at_zero Go.wp_at_succ
/-- A row of flat structs, as its readers meet it. -/
theorem own_flatQ {α : Type} {w : World} {B st : Nat} {T : TypeId} {v : Value} {c : α → List Value} {l : List α} (h : w.ownsRow B T st v l.length (l.flatMap c)) (hc : ∀ a, (c a).length = st) (hl : l.length ≤ 1099511627776) : ∃ p n, v = .slice p l.length n ∧ SlAt (fun k => B ≤ k ∧ k < w.heap.size) w st c l p := by
  have hlt := fun g e => h.lt g e
  have hcells : ∀ g, v.ownBlock = some g → ∀ j u, (l.flatMap c)[j]? = some u → w.cell? ((⟨g, 0, none⟩ : Addr).add j) = some u := fun g hg => h.cells hg
  obtain ⟨_, ⟨rfl, h0⟩ | ⟨g, cap, cur, rfl, hb, hg, hcap, _⟩⟩ := h
  · exact ⟨none, 0, by rw [h0], hl, fun h1 => by omega⟩
  · have e : ∀ i, (⟨g, 0, none⟩ : Addr).add i = ⟨g, i, none⟩ := by intro i; simp only [Addr.add, Nat.zero_add]; split <;> simp_all
    refine ⟨_, cap, rfl, hl, fun _ => ⟨g, rfl, ⟨hb, (hlt g rfl).2⟩, fun j t hj i u hi => ?_⟩⟩
    have hv : ∀ d ∈ l.map c, d.length = st := fun d hd => by obtain ⟨d, _, rfl⟩ := List.mem_map.1 hd; exact hc _
    have := flat_at hv j (c t) (by simp [hj]) i u hi
    have := hcells g rfl _ _ (by rw [List.flatMap_def]; exact this)
    rwa [e] at this
theorem own_tokQ {w : World} {B cap : Nat} {p : Option Addr} {l : List Tok} (h : w.ownsRow B 83 3 (.slice p l.length cap) l.length (tsC l)) (h0 : 0 < l.length) : ∃ g, p = some ⟨g, 0, none⟩ ∧ g < w.heap.size ∧ TokAt w g 0 l := by
  obtain ⟨g, cap', e1, _, e3, _, e5⟩ := own_toks h h0
  injection e1 with e1
  exact ⟨g, e1, e3, e5⟩
/-- The reader at its start. -/
theorem st0Q {w1 : World} {s : ByteArray} {p : Option Addr} {cap : Nat} (htok : 0 < (tks s).length → ∃ g, p = some ⟨g, 0, none⟩ ∧ g < w1.heap.size ∧ TokAt w1 g 0 (tks s)) (hs : s.size ≤ 4000) :
    QSt w1.heap.size (w1.alloc (.cells #[.slice p (tks s).length cap, .int .i64 (s.size : Int), .slice none 0 0, .int .i64 0] 86)) (tks s) s.size [] 0 none := by
  have hl := tks_len s
  refine ⟨⟨p, cap, .slice none 0 0, ?_, fun h0 => ?_, World.ownsRow_nil _ _ _ _, rfl⟩, by omega, hs, fun t ht => ⟨(tks_facts s t ht).1, (tks_facts s t ht).2.1, (tks_facts s t ht).2.2.1⟩, tks_pair s, Nat.zero_le _⟩
  · rw [heap_alloc_new]; rfl
  · obtain ⟨g, e1, e2, e3⟩ := htok h0
    exact ⟨g, e1, e2, e3.kept (Below.heap_alloc w1 _ g e2)⟩
/-- What holds of an item that was read. -/
structure ItQ (L : List Tok) (sz : Nat) (k : Nat) (x : ByteArray) (lb : Nat) (ps : List Pm) (ss : List Rf) (l : List Tr) (mk : Nat) : Prop where
  hk : k = 1 ∨ k = 2 ∨ k = 3
  hx : x = noB ∨ tkn L x mk
  hlb : lb < 256
  hps : flPq L ps
  hss : flR L ss
  l40 : l.length ≤ 40
  wf : ∃ m, wfL (zS L m) L.length l
  no : k ≠ 2 → ps = [] ∧ ss = [] ∧ l = []
  ins : InS L sz 0 L.length (colB ltF l)
/-- The item in the making, whatever it is. -/
structure ItB (gp bi : Nat) (L : List Tok) (sz : Nat) (w0 : World) (v6 v7 : Value) (ds : List Dg) (D : Option Nat) (k : Nat) (x : ByteArray) (lb : Nat) (ps : List Pm) (v3 : Value) (ss : List Rf) (v4 : Value) (l : List Tr) (p5 : Option Addr) (c5 n mk : Nat) (wr : World) : Prop where
  p : QSt gp wr L sz ds 0 D
  s : Stp gp none D w0 wr
  g : bi < gp
  z : w0.heap.size ≤ bi
  c : wr.heap[bi]? = some (.cells #[.int .i64 (k : Int), .string x, .int .i64 (lb : Int), v3, v4, .slice p5 l.length c5, v6, v7, .int .i64 (mk : Int), .slice none 0 0] 35 (0, 0))
  r3 : wr.ownsRow (gp + 1) 76 3 v3 ps.length (pmR ps)
  r4 : wr.ownsRow (gp + 1) 62 2 v4 ss.length (rfR ss)
  n3 : ∀ b, v3.ownBlock = some b → some b ≠ D
  n4 : ∀ b, v4.ownBlock = some b → some b ≠ D
  b : SlT (okS (bi + 1) gp D wr) (RdS n (okS (bi + 1) gp D wr) wr) wr 15 l p5
  q : ItQ L sz k x lb ps ss l mk
  e : ds = [] → colB bdF l = []
def ItRel (gp bi : Nat) (L : List Tok) (sz : Nat) (w0 : World) (v6 v7 : Value) (c : Nat) (i : Value) (wr : World) : Prop :=
  ∃ (j : Nat) (ds : List Dg) (D : Option Nat) (k : Nat) (x : ByteArray) (lb : Nat) (ps : List Pm) (v3 : Value) (ss : List Rf) (v4 : Value) (l : List Tr) (p5 : Option Addr) (c5 n mk : Nat), i = .int .i64 (j : Int) ∧ j ≤ L.length ∧ ItB gp bi L sz w0 v6 v7 ds D k x lb ps v3 ss v4 l p5 c5 n mk wr ∧ ds.length ≤ 100000 + c
section
variable {gp bi : Nat} {w0 w w' wr : World} {L : List Tok} {sz : Nat} {ds ds' : List Dg} {D D' : Option Nat} {k : Nat} {x : ByteArray} {lb mk c : Nat} {ps : List Pm} {v3 : Value} {ss : List Rf} {v4 v6 v7 : Value} {l : List Tr} {p5 : Option Addr} {c5 n : Nat}
theorem ItB.step (h : ItB gp bi L sz w0 v6 v7 ds D k x lb ps v3 ss v4 l p5 c5 n mk w) (hp : QSt gp w' L sz ds' 0 D') (hs : Stp gp D D' w w') (he : ds' = [] → ds = []) : ItB gp bi L sz w0 v6 v7 ds' D' k x lb ps v3 ss v4 l p5 c5 n mk w' := by
  have hlt : bi < w.heap.size := (Array.getElem?_eq_some_iff.1 h.c).1
  have hbD : some bi ≠ D := fun e => by have := (h.p.D_lt e).1; have := h.g; omega
  have hk : ∀ b, gp + 1 ≤ b → b < w.heap.size → some b ≠ D → w'.heap[b]? = w.heap[b]? := fun b h1 h2 h3 => hs.block b h2 (by omega) h3
  exact ⟨hp, h.s.trans hs, h.g, h.z, (hs.block bi hlt (by have := h.g; omega) hbD).trans h.c, own_kept h.r3 (fun b e => hk b (h.r3.lt b e).1 (h.r3.lt b e).2 (h.n3 b e)), own_kept h.r4 (fun b e => hk b (h.r4.lt b e).1 (h.r4.lt b e).2 (h.n4 b e)), fun b e => hs.fresh (h.r3.lt b e).2 (h.n3 b e), fun b e => hs.fresh (h.r4.lt b e).2 (h.n4 b e), h.b.stepQ hs, h.q, fun e => h.e (he e)⟩
theorem FnTold.it {j : Nat} (h : FnTold gp bi L sz w0 v6 v7 j w') : ItRel gp bi L sz w0 v6 v7 0 (.int .i64 (j : Int)) w' := by
  obtain ⟨ds, D, x, lb, ps, v3, ss, v4, l, p5, c5, n, hj, hI, hsl, hx, hlb, hps, hss, h40, hwf, hds, hbd, hins⟩ := h
  exact ⟨j, ds, D, 2, x, lb, ps, v3, ss, v4, l, p5, c5, n, _, rfl, hj, ⟨hI.p, hI.s, hI.g, hI.z, hI.k, hI.r3, hI.r4, hI.n3, fun b e => (hI.n4 b e).1, hsl, ⟨.inr (.inl rfl), hx, hlb, hps, hss, h40, hwf, fun h => absurd rfl h, hins⟩, hbd⟩, hds⟩
theorem IB.it (h : IB gp bi L sz ds D w0 w k x lb [] v3 [] v4 (.slice none 0 0) v6 v7 (.int .i64 (mk : Int)) (.slice none 0 0)) (hk : k = 1 ∨ k = 3) (hx : x = noB ∨ tkn L x mk) (hlb : lb < 256) {j : Nat} (hj : j ≤ L.length) (hd : ds.length ≤ 100000) : ItRel gp bi L sz w0 v6 v7 0 (.int .i64 (j : Int)) w :=
  ⟨j, ds, D, k, x, lb, [], v3, [], v4, [], none, 0, 0, mk, rfl, hj, ⟨h.p, h.s, h.g, h.z, h.k, h.r3, h.r4, h.n3, fun b e => (h.n4 b e).1, SlT.noneQ, ⟨hk.elim .inl (fun h => .inr (.inr h)), hx, hlb, ⟨by simp, by simp⟩, ⟨by simp, by simp⟩, by simp, ⟨0, trivial⟩, fun _ => ⟨rfl, rfl, rfl⟩, InS.nil⟩, fun _ => rfl⟩, hd⟩
/-- An item that is none. -/
theorem it_bad (hp : QSt gp w L sz [] 0 none) (hs : Stp gp none none w0 w) (hg : bi < gp) (hz : w0.heap.size ≤ bi) (hk : w.heap[bi]? = some (.cells #[.int .i64 3, .string ⟨#[]⟩, .int .i64 0, .slice none 0 0, .slice none 0 0, .slice none 0 0, v6, v7, .int .i64 0, .slice none 0 0] 35 (0, 0))) : ItB gp bi L sz w0 v6 v7 [] none 3 noB 0 [] (.slice none 0 0) [] (.slice none 0 0) [] none 0 0 0 w :=
  ⟨hp, hs, hg, hz, hk, World.ownsRow_nil _ _ _ _, World.ownsRow_nil _ _ _ _, fun b e => (by cases e), fun b e => (by cases e), SlT.noneQ, ⟨.inr (.inr rfl), .inl rfl, (by decide), ⟨by simp, by simp⟩, ⟨by simp, by simp⟩, by simp, ⟨0, trivial⟩, fun _ => ⟨rfl, rfl, rfl⟩, InS.nil⟩, fun _ => rfl⟩
/-- .. and where there are tokens. -/
theorem it_some (hp : QSt gp w L sz [] 0 none) (hs : Stp gp none none w0 w) (hg : bi < gp) (hz : w0.heap.size ≤ bi) (hL : 0 < L.length) (hx : noB ≠ (tk L sz 0).x) (hk : w.heap[bi]? = some (.cells #[.int .i64 3, .string ⟨#[]⟩, .int .i64 0, .slice none 0 0, .slice none 0 0, .slice none 0 0, v6, v7, .int .i64 0, .slice none 0 0] 35 (0, 0))) : IB gp bi L sz [] none w0 w 3 noB 0 [] (.slice none 0 0) [] (.slice none 0 0) (.slice none 0 0) v6 v7 (.int .i64 0) (.slice none 0 0) :=
  ⟨hp, hs, hg, hz, hL, hx, hk, World.ownsRow_nil _ _ _ _, World.ownsRow_nil _ _ _ _, fun b e => (by cases e), fun b e => (by cases e)⟩
end
theorem Stp.lowQ {gp B : Nat} {D' : Option Nat} {w w' : World} (h : Stp gp none D' w w') (hB : B ≤ gp) (hw : B ≤ w.heap.size) : Below B w w' := ⟨h.os, h.tape, h.output, h.size, fun k hk => h.block k (by omega) (by omega) (by simp)⟩
/-- An item that was read, as it is handed back. -/
def ItTell (w w' : World) (s : ByteArray) (at_ : Int) (v : Value) : Prop := ∃ it : It, RdI (fun k => w.heap.size ≤ k ∧ k < w'.heap.size) w' at_ it v ∧ ItQ (tks s) s.size it.k it.x it.l it.ps it.ss it.bd it.mrk ∧ it.ds.length ≤ 100001 ∧ (it.ds = [] → colB bdF it.bd = []) ∧ it.sz = s.size
theorem kw_of {L : List Tok} {sz : Nat} {x : ByteArray} (h : isT L 0 x = true) : (tk L sz 0).x = x ∧ 0 < L.length := by
  have hl := isT_in h
  obtain ⟨_, t, h2, h3⟩ := isT_lt h
  rw [tok_of (sz := sz) hl] at h2
  injection h2 with h2
  rw [h2]
  exact ⟨h3, hl⟩
set_option maxHeartbeats 1000000 in
set_option maxRecDepth 100000 in
theorem refItem_any (s : ByteArray) (at_ : Int) (w : World) (hs : s.size ≤ 4000) :
    Calls Try.prog 18 #[.string s, .int .i64 at_] w fun e w' => ∃ v, e = .returned v ∧ ItTell w w' s at_ v ∧ Below w.heap.size w w' := by
  have hb0 := (Below.refl w.heap.size w).alloc (Nat.le_refl _) (.cells #[.int .i64 0, .string ⟨#[]⟩, .int .i64 0, .slice none 0 0, .slice none 0 0, .slice none 0 0, .int .i64 0, .int .i64 0, .int .i64 0, .slice none 0 0] 35)
  have hb1 := (Below.refl (w.alloc (.cells #[.int .i64 0, .string ⟨#[]⟩, .int .i64 0, .slice none 0 0, .slice none 0 0, .slice none 0 0, .int .i64 0, .int .i64 0, .int .i64 0, .slice none 0 0] 35)).heap.size (w.alloc (.cells #[.int .i64 0, .string ⟨#[]⟩, .int .i64 0, .slice none 0 0, .slice none 0 0, .slice none 0 0, .int .i64 0, .int .i64 0, .int .i64 0, .slice none 0 0] 35))).alloc (Nat.le_refl _) (.cells #[.int .i64 3, .string ⟨#[]⟩, .int .i64 0, .slice none 0 0, .slice none 0 0, .slice none 0 0, .int .i64 at_, .int .i64 (s.size : Int), .int .i64 0, .slice none 0 0] 35)
  have hbi := heap_alloc_new (w.alloc (.cells #[.int .i64 0, .string ⟨#[]⟩, .int .i64 0, .slice none 0 0, .slice none 0 0, .slice none 0 0, .int .i64 0, .int .i64 0, .int .i64 0, .slice none 0 0] 35)) (.cells #[.int .i64 3, .string ⟨#[]⟩, .int .i64 0, .slice none 0 0, .slice none 0 0, .slice none 0 0, .int .i64 at_, .int .i64 (s.size : Int), .int .i64 0, .slice none 0 0] 35)
  have hrb := heap_alloc_new w (.cells #[.int .i64 0, .string ⟨#[]⟩, .int .i64 0, .slice none 0 0, .slice none 0 0, .slice none 0 0, .int .i64 0, .int .i64 0, .int .i64 0, .slice none 0 0] 35)
  have hsw : (w.alloc (.cells #[.int .i64 0, .string ⟨#[]⟩, .int .i64 0, .slice none 0 0, .slice none 0 0, .slice none 0 0, .int .i64 0, .int .i64 0, .int .i64 0, .slice none 0 0] 35)).heap.size = w.heap.size + 1 := by simp
  have htl := tks_len s
  go_enter Try.func18, Try.ntmps18
  go_upto_block 0 with (first
    | (go_at_call 35; refine (refTokens_any s _ (by omega)).mono ?_; rintro e w1 ⟨v, rfl, hown, hb2⟩; obtain ⟨p, cap, hv⟩ := own_len hown; subst hv; have htok := own_tokQ hown; have hP := st0Q (cap := cap) htok hs; have hsz1 : w.heap.size + 2 ≤ w1.heap.size := (by simpa using hb2.size)))
  have hlow : Below (w.heap.size + 1) (w.alloc (.cells #[.int .i64 0, .string ⟨#[]⟩, .int .i64 0, .slice none 0 0, .slice none 0 0, .slice none 0 0, .int .i64 0, .int .i64 0, .int .i64 0, .slice none 0 0] 35)) (w1.alloc (.cells #[.slice p (tks s).length cap, .int .i64 (s.size : Int), .slice none 0 0, .int .i64 0] 86)) := by
    have h1 := hb1.trans (hb2.mono hb1.size)
    rw [hsw] at h1
    exact h1.alloc (by omega) _
  have hst : Stp w1.heap.size none none (w.alloc (.cells #[.int .i64 0, .string ⟨#[]⟩, .int .i64 0, .slice none 0 0, .slice none 0 0, .slice none 0 0, .int .i64 0, .int .i64 0, .int .i64 0, .slice none 0 0] 35)) (w1.alloc (.cells #[.slice p (tks s).length cap, .int .i64 (s.size : Int), .slice none 0 0, .int .i64 0] 86)) := Stp.below (by rw [hsw]; exact hlow)
  have hbi2 : (w1.alloc (.cells #[.slice p (tks s).length cap, .int .i64 (s.size : Int), .slice none 0 0, .int .i64 0] 86)).heap[w.heap.size + 1]? = some (.cells #[.int .i64 3, .string ⟨#[]⟩, .int .i64 0, .slice none 0 0, .slice none 0 0, .slice none 0 0, .int .i64 at_, .int .i64 (s.size : Int), .int .i64 0, .slice none 0 0] 35 (0, 0)) := by
    rw [hsw] at hbi
    exact (Below.heap_alloc w1 _ _ (by omega)).trans ((hb2.block _ (by simp)).trans hbi)
  have hg : w.heap.size + 1 < w1.heap.size := by omega
  have hz : (w.alloc (.cells #[.int .i64 0, .string ⟨#[]⟩, .int .i64 0, .slice none 0 0, .slice none 0 0, .slice none 0 0, .int .i64 0, .int .i64 0, .int .i64 0, .slice none 0 0] 35)).heap.size ≤ w.heap.size + 1 := by omega
  generalize hw3 : w1.alloc (.cells #[.slice p (tks s).length cap, .int .i64 (s.size : Int), .slice none 0 0, .int .i64 0] 86) = w3 at *
  go_cut [7] from 25 to 62 (fun i' wr => ItRel w1.heap.size (w.heap.size + 1) (tks s) s.size (w.alloc (.cells #[.int .i64 0, .string ⟨#[]⟩, .int .i64 0, .slice none 0 0, .slice none 0 0, .slice none 0 0, .int .i64 0, .int .i64 0, .int .i64 0, .slice none 0 0] 35)) (.int .i64 at_) (.int .i64 (s.size : Int)) 0 i' wr)
  case first =>
    cases hF : isT (tks s) 0 kFn
    · cases hC : isT (tks s) 0 kChan
      · have hB := it_bad hP hst hg hz hbi2
        have F1 : Hid (1 = 1) := rfl
        go_upto_region 5 with (first
          | (go_at_call 36; have f := F1; clear f F1; refine (refIs_any hP 0 (by omega) kFn).mono ?_; rintro e w_ ⟨rfl, hw_⟩; subst w_; rw [hF])
          | (go_at_call 36; refine (refIs_any hP 0 (by omega) kChan).mono ?_; rintro e w_ ⟨rfl, hw_⟩; subst w_; rw [hC])
          | (go_at_call 42; refine (refBad_any hP 0 (by omega) 2 (by simp)).mono ?_; rintro e w4 ⟨rfl, D4, hp4, hs4⟩; have h4 := hB.step hp4 hs4 (fun h => absurd h (by simp)); obtain ⟨pq, cq, vq, n0, n1, n2, n3, nf, ntok, n6, n7⟩ := hp4.cells; clear ntok n6 n7))
        go_wp2
        go_meet
        exact ⟨(tks s).length, _, D4, _, _, _, _, _, _, _, _, _, _, _, _, rfl, Nat.le_refl _, h4, by simp⟩
      · obtain ⟨hkw, hl0⟩ := kw_of (sz := s.size) hC
        have hxn : noB ≠ (tk (tks s) s.size 0).x := by rw [hkw]; decide
        have hI := it_some hP hst hg hz hl0 hxn hbi2
        have hL : ∀ t ∈ tks s, okT t := tks_okT s
        have q1 := named_bd (sz := s.size) hL (i := 1) hl0
        have q2 := named_or (tks s) s.size 1
        have q3 : (pNamed (tks s) s.size 1).v ≠ (tk (tks s) s.size 0).x := by rw [hkw]; exact named_ne 1 (by decide) (by decide)
        clear hL
        have hfd := fun w2 => (tkFieldQ ((tk (tks s) s.size 1).k : Int) ((tk (tks s) s.size 1).a : Int) (tk (tks s) s.size 1).x w2).1
        have F1 : Hid (1 = 1) := rfl
        have F2 : Hid (2 = 2) := rfl
        go_wp2_with (first
          | (go_at_call 36; have f := F1; clear f F1; refine (refIs_any hP 0 (by omega) kFn).mono ?_; rintro e w_ ⟨rfl, hw_⟩; subst w_; rw [hF])
          | (go_at_call 36; refine (refIs_any hP 0 (by omega) kChan).mono ?_; rintro e w_ ⟨rfl, hw_⟩; subst w_; rw [hC])
          | (go_at_call 38; refine (refT_any hI.p 1 (by omega)).mono ?_; rintro e w4 ⟨rfl, hb4⟩; unfold tkV; have h4 := hI.below hb4; obtain ⟨b0, b1, b2, b3, b4, b5, b6, b7, b8, b9, bf⟩ := h4.cells; have h5 := (h4.set (k' := 1) 0 (.int .i64 1) hxn rfl).set 8 (.int .i64 ((tk (tks s) s.size 1).a : Int)) hxn rfl)
          | (go_at_call 39; refine (refNamed_any h5.p 1 (by omega) (by simp)).mono ?_; rintro e w6 ⟨rfl, ht6⟩; obtain ⟨D6, h6, _⟩ := h5.tol ht6; generalize pNamed (tks s) s.size 1 = r1 at *; obtain ⟨e0, e1, e2, e3, e4, e5, e6, e7, e8, e9, ef⟩ := h6.cells; have h7 := h6.set 1 (.string r1.v) q3 rfl)
          | (go_at_call 40; have f := F2; clear f F2; refine (refNeed_any h7.p r1.i (by omega) (bs1 58) (by simp; omega)).mono ?_; rintro e w8 ⟨rfl, ht8⟩; obtain ⟨D8, h8, _⟩ := h7.tol ht8; have q4 := need_bd (sz := s.size) (s := bs1 58) q1.2.1; generalize pNeed (tks s) s.size r1.i (bs1 58) = r2 at *)
          | (go_at_call 41; refine (refLab_any h8.p r2.i (by omega) (by simp; omega)).mono ?_; rintro e w9 ⟨rfl, ht9⟩; obtain ⟨D9, h9, _⟩ := h8.tol ht9; have q5 := lab_bd (sz := s.size) q4.2.1; generalize pLab (tks s) s.size r2.i = r3 at *; obtain ⟨g0, g1, g2, g3, g4, g5, g6, g7, g8, g9, gf⟩ := h9.cells; have h10 := h9.set (lb' := r3.v) 2 (.int .i64 (r3.v : Int)) q3 rfl)
          | (go_at_call 40; refine (refNeed_any h10.p r3.i (by omega) (bs1 59) (by simp; omega)).mono ?_; rintro e w11 ⟨rfl, ht11⟩; obtain ⟨D11, h11, _⟩ := h10.tol ht11; have q6 := need_bd (sz := s.size) (s := bs1 59) q5.2.2.2; generalize pNeed (tks s) s.size r3.i (bs1 59) = r4 at *))
        go_meet
        exact h11.it (.inl rfl) q2 q5.1 q6.2.1 (by simp; omega)
    · obtain ⟨hkw, hl0⟩ := kw_of (sz := s.size) hF
      have hxn : noB ≠ (tk (tks s) s.size 0).x := by rw [hkw]; decide
      have hI := it_some hP hst hg hz hl0 hxn hbi2
      go_wp2_with (first
        | (go_at_call 36; refine (refIs_any hP 0 (by omega) kFn).mono ?_; rintro e w_ ⟨rfl, hw_⟩; subst w_; rw [hF])
        | (go_at_call 37; refine (refFn_any hI hkw).mono ?_; rintro e w4 ⟨j4, rfl, hF4⟩))
      go_meet
      exact hF4.it
  case rest =>
    clear hP hst hbi2 hlow hbi hb1 hb2 hown htok hw3
    obtain ⟨j, ds, D, k, x, lb, ps, v3, ss, v4, l, p5, c5, n, mk, rfl, hj, hB, hds⟩ := hcut
    obtain ⟨pq, cq, vq, n0, n1, n2, n3, nf, ntok, n6, n7⟩ := hB.p.cells
    clear ntok n6 n7
    go_upto_if 69 with (fail)
    go_cut [7] from 69 to 72 (fun i' wr => ItRel w1.heap.size (w.heap.size + 1) (tks s) s.size (w.alloc (.cells #[.int .i64 0, .string ⟨#[]⟩, .int .i64 0, .slice none 0 0, .slice none 0 0, .slice none 0 0, .int .i64 0, .int .i64 0, .int .i64 0, .slice none 0 0] 35)) (.int .i64 at_) (.int .i64 (s.size : Int)) 1 i' wr)
    case first =>
      by_cases hjl : j < (tks s).length
      · go_wp2_with (first
          | (go_at_call 42; refine (refBad_any hB.p j (by omega) 2 (by omega)).mono ?_; rintro e w4 ⟨rfl, D4, hp4, hs4⟩; have h4 := hB.step hp4 hs4 (fun h => absurd h (by simp))))
        go_meet
        exact ⟨j, _, D4, k, x, lb, ps, v3, ss, v4, l, p5, c5, n, mk, rfl, hj, h4, by simp; omega⟩
      · go_wp2
        go_meet
        exact ⟨j, _, D, k, x, lb, ps, v3, ss, v4, l, p5, c5, n, mk, rfl, hj, hB, by omega⟩
    case rest =>
      clear hB n0 n1 n2 n3 nf hds
      obtain ⟨j, ds, D, k, x, lb, ps, v3, ss, v4, l, p5, c5, n, mk, rfl, hj, hB, hds⟩ := hcut
      obtain ⟨pq, cq, vq, n0, n1, n2, n3, nf, ntok, hown, hD⟩ := hB.p.cells
      clear ntok
      obtain ⟨b0, b1, b2, b3, b4, b5, b6, b7, b8, b9, bf⟩ := ten_at hB.c
      have hbl : w.heap.size < wc.heap.size := by have := hB.s.size; omega
      have hR : wc.heap[w.heap.size]? = some (.cells #[.int .i64 0, .string ⟨#[]⟩, .int .i64 0, .slice none 0 0, .slice none 0 0, .slice none 0 0, .int .i64 0, .int .i64 0, .int .i64 0, .slice none 0 0] 35 (0, 0)) := (hB.s.block w.heap.size (by omega) (by omega) (by simp)).trans hrb
      obtain ⟨r0, r1, r2, r3, r4, r5, r6, r7, r8, r9, rf⟩ := ten_at hR
      have hn1 : ¬ w.heap.size = w.heap.size + 1 := by omega
      have hn2 : ¬ w.heap.size + 1 = w.heap.size := by omega
      clear hD
      obtain ⟨p1, c1, hv3, d1⟩ := own_flatQ hB.r3 (fun _ => rfl) (Nat.le_trans hB.q.hps.1 (by decide))
      obtain ⟨p2, c2, hv4, d2⟩ := own_flatQ hB.r4 (fun _ => rfl) (Nat.le_trans hB.q.hss.1 (by decide))
      obtain ⟨p9, c9, hvq, d9⟩ := own_flatQ (c := dgC) hown (fun _ => rfl) (by omega)
      subst hv3 hv4 hvq
      clear hown
      go_wp2
      have hlow : Below w.heap.size w wc := hb0.trans ((hB.s.lowQ (B := w.heap.size) (by omega) (by simp)))
      have hz9 : w.heap.size ≤ wc.heap.size := hlow.size
      have hgp := hB.p.gp_lt
      refine bodyPost_ret (v := .agg #[.int .i64 (k : Int), .string x, .int .i64 (lb : Int), .slice p1 ps.length c1, .slice p2 ss.length c2, .slice p5 l.length c5, .int .i64 at_, .int .i64 (s.size : Int), .int .i64 (mk : Int), .slice p9 ds.length c9]) (by simp [results, Try.results18, go_sem, r0, r1, r2, r3, r4, r5, r6, r7, r8, r9]) rfl ⟨_, rfl, ⟨⟨k, x, lb, ps, ss, l, s.size, mk, ds⟩, ?_, hB.q, by omega, hB.e, rfl⟩, ?_⟩
      · have e1 : ∀ k, okS (w.heap.size + 1 + 1) w1.heap.size D wc k → w.heap.size + 2 ≤ k ∧ k < wc.heap.size := fun k hk => ⟨hk.1, hk.2.1⟩
        refine RdI.kept (w := wc) (ok := fun k => w.heap.size + 2 ≤ k ∧ k < wc.heap.size) ⟨p1, c1, p2, c2, p5, c5, p9, c9, rfl, d1.wide (fun k hk => ⟨by omega, hk.2⟩), d2.wide (fun k hk => ⟨by omega, hk.2⟩), ⟨n, SlT.kept hB.b (fun _ _ => rfl) e1 (RdS.kept n (fun _ _ => rfl) e1)⟩, d9.wide (fun k hk => ⟨by omega, hk.2⟩)⟩ (fun q hk => ?_) (fun q hk => ⟨by have := hk.1; omega, by simp; exact hk.2⟩)
        have h1 : q ≠ w.heap.size := by have := hk.1; omega
        have h2 : (wc.setCell ⟨w.heap.size + 1, 9, none⟩ (.slice p9 ds.length c9)).heap[q]? = wc.heap[q]? := Below.heap_setCell wc ⟨w.heap.size + 1, 9, none⟩ _ q (by have := hk.1; simp; omega)
        have h3 := ten_far (w' := wc.setCell ⟨w.heap.size + 1, 9, none⟩ (.slice p9 ds.length c9)) h1 (.int .i64 (k : Int)) (.string x) (.int .i64 (lb : Int)) (.slice p1 ps.length c1) (.slice p2 ss.length c2) (.slice p5 l.length c5) (.int .i64 at_) (.int .i64 (s.size : Int)) (.int .i64 (mk : Int)) (.slice p9 ds.length c9)
        exact h3.trans h2
      · exact (((((((((((hlow.setCell (by simp) _).setCell (Nat.le_refl _) _).setCell (Nat.le_refl _) _).setCell (Nat.le_refl _) _).setCell (Nat.le_refl _) _).setCell (Nat.le_refl _) _).setCell (Nat.le_refl _) _).setCell (Nat.le_refl _) _).setCell (Nat.le_refl _) _).setCell (Nat.le_refl _) _).setCell (Nat.le_refl _) _)
end Go.Proofs.Ytjpmnholpeidmaa

namespace Go.Proofs.Ytjpmnholpeidmaa
open Go.RowKit Go.WideMaps Go.Maps
set_option linter.unusedVariables false
attribute [local go_sem ↓] Go.wp_at_zero Go.wp_at_succ
attribute [local go_sem ↓] app_hide app_hide3
theorem own_intsQ {w : World} {base : Nat} {v : Value} {l : List Nat} (h : w.ownsRow base 3 1 v l.length (intC l)) :
    ∃ p cap, v = .slice p l.length cap ∧ (0 < l.length → ∃ g, p = some ⟨g, 0, none⟩ ∧ g < w.heap.size ∧ ∀ j (c : Nat), l[j]? = some c → w.cell? ⟨g, j, none⟩ = some (.int .i64 (c : Int))) := by
  have hc : ∀ g, v.ownBlock = some g → ∀ j u, (intC l)[j]? = some u → w.cell? ((⟨g, 0, none⟩ : Addr).add j) = some u := fun g hg => h.cells hg
  obtain ⟨_, ⟨rfl, h0⟩ | ⟨g, cap, cur, rfl, hb, hg, hcap, _⟩⟩ := h
  · exact ⟨none, 0, by rw [h0], fun h => by omega⟩
  · refine ⟨_, cap, rfl, fun _ => ⟨g, rfl, (Array.getElem?_eq_some_iff.1 hg).1, fun j c hj => ?_⟩⟩
    have e : ∀ i, (⟨g, 0, none⟩ : Addr).add i = ⟨g, i, none⟩ := by intro i; simp only [Addr.add, Nat.zero_add]; split <;> simp_all
    have := hc g rfl j (.int .i64 (c : Int)) (by unfold intC; rw [List.getElem?_map, hj]; rfl)
    rw [e] at this
    exact this
/-- What holds of item i of a text's file. -/
def ItF (t : ByteArray) (i : Nat) (it : It) : Prop := ItQ (tks (txI t i)) (txI t i).size it.k it.x it.l it.ps it.ss it.bd it.mrk ∧ it.ds.length ≤ 100001 ∧ (it.ds = [] → colB bdF it.bd = []) ∧ it.sz = (txI t i).size
/-- .. and of all of them. -/
def FlF (t : ByteArray) (l : List (Int × It)) : Prop := ∀ i e, l[i]? = some e → e.1 = (cn t i : Int) ∧ ItF t i e.2
def RelFlQ (t : ByteArray) (oB : Nat) (W0 : World) (i : Value) (wr : World) : Prop :=
  ∃ (k : Nat) (l : List (Int × It)) (v : Value), k ≤ (cts t).length ∧ i = .int .i64 (k : Int) ∧ l.length = k ∧ FlF t l ∧ Ag oB W0 wr l v
theorem FlF.snoc {t : ByteArray} {l : List (Int × It)} {k : Nat} (h : FlF t l) (hl : l.length = k) {it : It} (hi : ItF t k it) : FlF t (l ++ [((cn t k : Int), it)]) := by
  intro i e he
  rw [List.getElem?_append] at he
  split at he
  · exact h i e he
  · rename_i hlt
    have h2 : i - l.length = 0 := by
      have := (List.getElem?_eq_some_iff.1 he).1
      simpa using this
    rw [h2] at he
    have h3 : i = k := by omega
    subst h3
    injection he with he
    subst he
    exact ⟨rfl, hi⟩
set_option maxHeartbeats 4000000 in
set_option maxRecDepth 100000 in
theorem refFile_any (t : ByteArray) (w : World) :
    Calls Try.prog 5 #[.string t] w fun e w' => ∃ p m c, e = .returned (.tuple #[.agg #[.slice p m c], .int .i64 (flE t : Int)]) ∧ (flE t = 0 → ∃ l : List (Int × It), m = l.length ∧ l.length = (cts t).length ∧ FlF t l ∧ RdF (fun k => w.heap.size ≤ k ∧ k < w'.heap.size) w' l (.agg #[.slice p m c])) ∧ Below w.heap.size w w' := by
  have hb0 := (Below.refl w.heap.size w).alloc (Nat.le_refl _) (.cells #[.slice none 0 0] 24)
  have hR0 := heap_alloc_new w (.cells #[.slice none 0 0] 24)
  have hz00 : (w.alloc (.cells #[.slice none 0 0] 24)).heap.size = w.heap.size + 1 := by simp
  obtain ⟨i0, hi0, hz0, hz1, hz2⟩ := info_parts Try.infoIt
  have hr0 := cell_of_row _ _ 0 _ _ _ hR0
  simp only [List.getElem?_toArray, List.getElem?_cons_zero] at hr0
  go_enter Try.func5, Try.ntmps5
  by_cases h4 : 4000 < t.size
  · have hE : flE t = 4 := by unfold flE; rw [if_pos h4]
    go_wp2
    exact bodyPost_ret (v := .tuple #[.agg #[.slice none 0 0], .int .i64 4]) (by simp [results, Try.results5, go_sem, hr0]) rfl ⟨none, 0, 0, by rw [hE]; rfl, fun h => by omega, hb0⟩
  · have h40 : t.size ≤ 4000 := by omega
    have hcl := cts_le t
    by_cases h30 : 30 < (cts t).length
    · have hE : flE t = 5 := by unfold flE; rw [if_neg h4, if_pos h30]
      go_wp2_with (first
        | (go_at_call 17; refine (refCuts_any t _ (by omega)).mono ?_; rintro e w1 ⟨v, rfl, hown, hb1⟩; obtain ⟨p, cap, hv, _⟩ := own_intsQ hown; subst hv; have hR1 := (hb1.block w.heap.size (by simp)).trans hR0; have c1 := cell_of_row _ _ 0 _ _ _ hR1; simp only [List.getElem?_toArray, List.getElem?_cons_zero] at c1; have f1 : ∀ o, w1.frozen? ⟨w.heap.size, o, none⟩ = false := (fun o => by simp [World.frozen?, hR1])))
      exact bodyPost_ret (v := .tuple #[.agg #[.slice none 0 0], .int .i64 5]) (by simp [results, Try.results5, go_sem, c1]) rfl ⟨none, 0, 0, by rw [hE]; rfl, fun h => by omega, (hb0.trans (hb1.mono hb0.size)).setCell (Nat.le_refl _) _⟩
    · have h30' : (cts t).length ≤ 30 := by omega
      have hE : flE t = 0 := by unfold flE; rw [if_neg h4, if_neg h30]
      clear h30 h4
      rw [hE]
      go_wp2_with (first
        | (go_at_call 17; refine (refCuts_any t _ (by omega)).mono ?_; rintro e wt ⟨v, rfl, hown, hb1⟩; obtain ⟨pc, cap, hv, hcut⟩ := own_intsQ hown; subst hv; have hRt := (hb1.block w.heap.size (by simp)).trans hR0))
      have hzt : w.heap.size + 1 ≤ wt.heap.size := by have := hb1.size; omega
      have hbw : Below w.heap.size w wt := hb0.trans (hb1.mono hb0.size)
      clear hown hb1
      go_loopw [21] (fun i wr => RelFlQ t wt.heap.size (wt.alloc (.cells #[.slice none 0 0] 24)) i wr) (fun i _ => upN (cts t).length i)
      case atStart => exact ⟨0, [], _, Nat.zero_le _, rfl, rfl, fun i e h => by simp at h, Ag.start⟩
      case round =>
        obtain ⟨k, l, v, hk, rfl, hlk, hF, hA⟩ := hrel
        have hW0 : Below wt.heap.size wt (wt.alloc (.cells #[.slice none 0 0] 24)) := (Below.refl _ _).alloc (Nat.le_refl _) _
        have hold : ∀ b, b < wt.heap.size → wr.heap[b]? = wt.heap[b]? := fun b hb => (hA.stp.block b (by simp; omega) (by omega) (by simp)).trans (hW0.block b hb)
        obtain ⟨q, cq, hvq, hq⟩ := hA.row.done kept_It
        rw [hlk] at hvq
        subst hvq
        have cO := cell_of_row _ _ 0 _ _ _ hA.blk
        simp only [List.getElem?_toArray, List.getElem?_cons_zero] at cO
        have fO : ∀ o, wr.frozen? ⟨wt.heap.size, o, none⟩ = false := fun o => by simp [World.frozen?, hA.blk]
        have hzA := hA.lt
        by_cases hlt : k < (cts t).length
        · obtain ⟨gc, hpc, hgc, hcells⟩ := hcut (by omega)
          subst hpc
          have hce : ∀ j, j < (cts t).length → wr.cell? ⟨gc, j, none⟩ = some (.int .i64 (cn t j : Int)) := fun j hj => (World.cell?_of_block (a := ⟨gc, j, none⟩) (hold gc hgc)).trans (hcells j _ (cn_get t j hj))
          have ck := hce k hlt
          have gk : (0 : Int) ≤ (k : Int) := by omega
          have gk1 : (k : Int) < ((cts t).length : Int) := by omega
          have gw1 : IntKind.i64.wrap ((k : Int) + 1) = (k : Int) + 1 := wrap_id _ (by omega) (by omega)
          have hab := cn_lt t k hlt
          have hbs := cn_le t (k + 1)
          have hmax : k + 1 ≤ maxLen := by unfold maxLen; omega
          have hby : (k + 1) * 152 ≤ 140737488355328 := by omega
          have h4000 : (txI t k).size ≤ 4000 := by unfold txI; rw [ext_size' _ _ _ hbs]; omega
          have HS : Hid (∀ it : It, ItF t k it → FlF t (l ++ [((cn t k : Int), it)])) := fun it hi => hF.snoc hlk hi
          unfold ItF at HS
          have HLN : Hid (l.length = k) := hlk
          obtain ⟨x, hx⟩ : ∃ x, x = txI t k := ⟨_, rfl⟩
          have hxe : t.extract (cn t k) (cn t (k + 1)) = x := hx.symm
          rw [← hx] at h4000 HS
          clear hx hF hlk hcut hq
          by_cases hlast : k + 1 < (cts t).length
          · have ck1 := hce (k + 1) hlast
            have gk2 : (k : Int) + 1 < ((cts t).length : Int) := by omega
            have gk3 : (0 : Int) ≤ (k : Int) + 1 := by omega
            clear hce hcells hlt
            generalize hca : cn t k = a at *
            generalize hcb : cn t (k + 1) = b at *
            have ga : (0 : Int) ≤ (a : Int) := by omega
            have gab : (a : Int) ≤ (b : Int) := by omega
            have gbs : (b : Int) ≤ (t.size : Int) := by omega
            go_wp2
            go_region_with (first
                | (go_at_call 18; refine (refItem_any x (a : Int) _ h4000).mono ?_; rintro e w5 ⟨v5, rfl, ⟨it, hR5, hq5, hd5, hn5, hz5⟩, hb5q⟩; obtain ⟨p1, c1, p2, c2, p3, c3, p4, c4, hv5, _⟩ := id hR5; subst hv5; replace hz5 := hidQ hz5; obtain ⟨hb5, cO5, cO6, hbn, ⟨xs, ho5⟩, hnew, hone, hbase⟩ := ag_call hA HLN.out cO ⟨hb5q.os, hb5q.tape, hb5q.output, hb5q.size, hb5q.block⟩ (.int .i64 (it.k : Int)) (.string it.x) (.int .i64 (it.l : Int)) (.slice p1 it.ps.length c1) (.slice p2 it.ss.length c2) (.slice p3 it.bd.length c3) (.int .i64 (a : Int)) (.int .i64 (it.sz : Int)) (.int .i64 (it.mrk : Int)) (.slice p4 it.ds.length c4) rfl rfl rfl rfl rfl rfl rfl rfl rfl rfl; obtain ⟨g6, cap6, w6, hrun, hown6, hgrow6, hat6, hlt6⟩ := run_append_lies (P := Try.prog) (w5.alloc (.cells #[.int .i64 (it.k : Int), .string it.x, .int .i64 (it.l : Int), .slice p1 it.ps.length c1, .slice p2 it.ss.length c2, .slice p3 it.bd.length c3, .int .i64 (a : Int), .int .i64 (it.sz : Int), .int .i64 (it.mrk : Int), .slice p4 it.ds.length c4] 35)) 22 22 (wt.heap.size + 1) 35 i0 _ 10 152 Try.underlying22 hi0 hz0 hz1 hz2 rfl (by decide) (.slice q k cq) k xs ho5 ⟨w5.heap.size, 0, none⟩ 1 1 [.int .i64 (it.k : Int), .string it.x, .int .i64 (it.l : Int), .slice p1 it.ps.length c1, .slice p2 it.ss.length c2, .slice p3 it.bd.length c3, .int .i64 (a : Int), .int .i64 (it.sz : Int), .int .i64 (it.mrk : Int), .slice p4 it.ds.length c4] rfl hnew hone (by decide) hmax hby hbase _ rfl; have hA6 : appR Try.prog #[22, 22] 22 #[.slice q k cq, .slice (some ⟨w5.heap.size, 0, none⟩) 1 1] (w5.alloc (.cells #[.int .i64 (it.k : Int), .string it.x, .int .i64 (it.l : Int), .slice p1 it.ps.length c1, .slice p2 it.ss.length c2, .slice p3 it.bd.length c3, .int .i64 (a : Int), .int .i64 (it.sz : Int), .int .i64 (it.mrk : Int), .slice p4 it.ds.length c4] 35)) = _ := hrun; obtain ⟨cO7, fO7⟩ := ag_grown hA hb5 hbn hgrow6; clear hrun hone hnew hbase))
            all_goals (go_wp2; go_roundw)
            all_goals (first
              | (simp [upN, intOf]; omega)
              | (refine ⟨k + 1, l ++ [((a : Int), it)], .slice (some ⟨g6, 0, none⟩) (k + 1) cap6, by omega, by go_num, by rw [List.length_append, HLN.out]; rfl, ?_, ?_⟩; · exact HS.out _ ⟨hq5, hd5, hn5, hz5.out⟩
                 · have hnx := hA.next (e := ((a : Int), it)) (c := [.int .i64 (it.k : Int), .string it.x, .int .i64 (it.l : Int), .slice p1 it.ps.length c1, .slice p2 it.ss.length c2, .slice p3 it.bd.length c3, .int .i64 (a : Int), .int .i64 (it.sz : Int), .int .i64 (it.mrk : Int), .slice p4 it.ds.length c4]) hb5 hbn hR5 rfl (by rw [HLN.out]; exact ho5) (by rw [HLN.out]; exact hown6) hgrow6 hat6
                   rw [HLN.out] at hnx
                   exact hnx))
          · have hce2 : cn t (k + 1) = t.size := cn_end t (k + 1) (by omega)
            rw [hce2] at hxe hab hbs
            clear hce hcells hlt hce2
            generalize hca : cn t k = a at *
            have ga : (0 : Int) ≤ (a : Int) := by omega
            have gab : (a : Int) ≤ (t.size : Int) := by omega
            go_wp2
            go_region_with (first
                | (go_at_call 18; refine (refItem_any x (a : Int) _ h4000).mono ?_; rintro e w5 ⟨v5, rfl, ⟨it, hR5, hq5, hd5, hn5, hz5⟩, hb5q⟩; obtain ⟨p1, c1, p2, c2, p3, c3, p4, c4, hv5, _⟩ := id hR5; subst hv5; replace hz5 := hidQ hz5; obtain ⟨hb5, cO5, cO6, hbn, ⟨xs, ho5⟩, hnew, hone, hbase⟩ := ag_call hA HLN.out cO ⟨hb5q.os, hb5q.tape, hb5q.output, hb5q.size, hb5q.block⟩ (.int .i64 (it.k : Int)) (.string it.x) (.int .i64 (it.l : Int)) (.slice p1 it.ps.length c1) (.slice p2 it.ss.length c2) (.slice p3 it.bd.length c3) (.int .i64 (a : Int)) (.int .i64 (it.sz : Int)) (.int .i64 (it.mrk : Int)) (.slice p4 it.ds.length c4) rfl rfl rfl rfl rfl rfl rfl rfl rfl rfl; obtain ⟨g6, cap6, w6, hrun, hown6, hgrow6, hat6, hlt6⟩ := run_append_lies (P := Try.prog) (w5.alloc (.cells #[.int .i64 (it.k : Int), .string it.x, .int .i64 (it.l : Int), .slice p1 it.ps.length c1, .slice p2 it.ss.length c2, .slice p3 it.bd.length c3, .int .i64 (a : Int), .int .i64 (it.sz : Int), .int .i64 (it.mrk : Int), .slice p4 it.ds.length c4] 35)) 22 22 (wt.heap.size + 1) 35 i0 _ 10 152 Try.underlying22 hi0 hz0 hz1 hz2 rfl (by decide) (.slice q k cq) k xs ho5 ⟨w5.heap.size, 0, none⟩ 1 1 [.int .i64 (it.k : Int), .string it.x, .int .i64 (it.l : Int), .slice p1 it.ps.length c1, .slice p2 it.ss.length c2, .slice p3 it.bd.length c3, .int .i64 (a : Int), .int .i64 (it.sz : Int), .int .i64 (it.mrk : Int), .slice p4 it.ds.length c4] rfl hnew hone (by decide) hmax hby hbase _ rfl; have hA6 : appR Try.prog #[22, 22] 22 #[.slice q k cq, .slice (some ⟨w5.heap.size, 0, none⟩) 1 1] (w5.alloc (.cells #[.int .i64 (it.k : Int), .string it.x, .int .i64 (it.l : Int), .slice p1 it.ps.length c1, .slice p2 it.ss.length c2, .slice p3 it.bd.length c3, .int .i64 (a : Int), .int .i64 (it.sz : Int), .int .i64 (it.mrk : Int), .slice p4 it.ds.length c4] 35)) = _ := hrun; obtain ⟨cO7, fO7⟩ := ag_grown hA hb5 hbn hgrow6; clear hrun hone hnew hbase))
            all_goals (go_wp2; go_roundw)
            all_goals (first
              | (simp [upN, intOf]; omega)
              | (refine ⟨k + 1, l ++ [((a : Int), it)], .slice (some ⟨g6, 0, none⟩) (k + 1) cap6, by omega, by go_num, by rw [List.length_append, HLN.out]; rfl, ?_, ?_⟩; · exact HS.out _ ⟨hq5, hd5, hn5, hz5.out⟩
                 · have hnx := hA.next (e := ((a : Int), it)) (c := [.int .i64 (it.k : Int), .string it.x, .int .i64 (it.l : Int), .slice p1 it.ps.length c1, .slice p2 it.ss.length c2, .slice p3 it.bd.length c3, .int .i64 (a : Int), .int .i64 (it.sz : Int), .int .i64 (it.mrk : Int), .slice p4 it.ds.length c4]) hb5 hbn hR5 rfl (by rw [HLN.out]; exact ho5) (by rw [HLN.out]; exact hown6) hgrow6 hat6
                   rw [HLN.out] at hnx
                   exact hnx))
        · obtain rfl : k = (cts t).length := by omega
          have hRr := (hold w.heap.size (by omega)).trans hRt
          have cR := cell_of_row _ _ 0 _ _ _ hRr
          simp only [List.getElem?_toArray, List.getElem?_cons_zero] at cR
          have fR : ∀ o, wr.frozen? ⟨w.heap.size, o, none⟩ = false := fun o => by simp [World.frozen?, hRr]
          have hd := hA.done (by omega)
          have hBB : Below w.heap.size w wr := (hbw.trans ((hW0.mono hbw.size).trans ⟨hA.stp.os, hA.stp.tape, hA.stp.output, hA.stp.size, fun b hb => hA.stp.block b (by have := hbw.size; simp; omega) (by have := hbw.size; omega) (by simp)⟩))
          clear hq hcut hold
          go_wp2
          refine bodyPost_ret (v := .tuple #[.agg #[.slice q (cts t).length cq], .int .i64 0]) (by simp [results, Try.results5, go_sem, cR]) rfl ⟨q, _, cq, rfl, ⟨l, hlk.symm, hlk, hF, ?_⟩, hBB.setCell (by simp) _⟩
          exact RdF.kept hd (fun j hj => Below.heap_setCell _ _ _ j (by have := hj.1; simp; omega)) (fun j hj => ⟨by omega, by have := hj.2; simp; omega⟩)
end Go.Proofs.Ytjpmnholpeidmaa


/- Texts of this seat, one behind the other: Rx9, Rx10. -/
import Derived.Test.YtjpmnholpeidmaaZb44
import Derived.Test.YtjpmnholpeidmaaZb07
import Derived.Deep.CutRange
import Derived.Deep.RegionHeld3
import Derived.BigRegion
namespace Go.Proofs.Ytjpmnholpeidmaa
open Go.RowKit
set_option linter.unusedVariables false
attribute [local go_sem ↓] Go.wp_at_zero Go.wp_at_succ
/-- A store below a list in the making leaves it as it was. -/
theorem Row.setQ {α : Type} {rd : (Nat → Prop) → World → α → Value → Prop} {T : TypeId} {st B gp : Nat} {D : Option Nat} {w : World} {v : Value} {l : List α} (hk : Kept rd) (h : Row rd T st B gp D w v l) {b : Nat} (hb : b < B) (o : Nat) (u : Value) : Row rd T st B gp D (w.setCell ⟨b, o, none⟩ u) v l := by
  obtain ⟨vs, h1, h2, h3, h4⟩ := h.own
  have hf : ∀ k, B ≤ k → (w.setCell ⟨b, o, none⟩ u).heap[k]? = w.heap[k]? := fun k hk => Below.heap_setCell w _ _ k (by simp; omega)
  refine ⟨⟨vs, own_kept h1 (fun g e => hf g (h.lt e).1), h2, h3, fun j a c hj hc => hk _ _ w _ (fun k hk2 => hf k hk2.1.1) (fun k hk2 => ⟨⟨hk2.1.1, by simpa using hk2.1.2.1, hk2.1.2.2⟩, hk2.2⟩) _ _ (h4 j a c hj hc)⟩, h.ne, h.gpB⟩
theorem QSt.grown {gp : Nat} {w w' : World} {L : List Tok} {sz dp : Nat} {ds : List Dg} {D row : Option Nat} (h : QSt gp w L sz ds dp D) (hg : w.grownBy w' row) (hr : ∀ k, row = some k → gp < k ∧ some k ≠ D) : QSt gp w' L sz ds dp D := by
  have hgp := h.gp_lt
  have hlow : ∀ k, k ≤ gp → w'.heap[k]? = w.heap[k]? := fun k hk => hg.block k (by omega) (fun e => by have := (hr k e.symm).1; omega)
  obtain ⟨p, c, v, h1, h2, h3, h4⟩ := h.blk
  refine ⟨⟨p, c, v, (hlow gp (Nat.le_refl _)).trans h1, fun hl => ?_, own_kept h3 (fun g e => hg.block g (h3.lt g e).2 (fun e2 => (hr g e2.symm).2 (by rw [← e, h4]))), h4⟩, h.len, h.siz, h.end_, h.inc, h.dp1⟩
  obtain ⟨g, e1, e2, e3⟩ := h2 hl
  exact ⟨g, e1, e2, e3.kept (hlow g (by omega))⟩
theorem QSt.D_lt {gp : Nat} {w : World} {L : List Tok} {sz dp : Nat} {ds : List Dg} {D : Option Nat} (h : QSt gp w L sz ds dp D) {k : Nat} (e : some k = D) : gp < k ∧ k < w.heap.size := by
  obtain ⟨p, c, v, h1, h2, h3, h4⟩ := h.blk
  have := h3.lt k (h4.trans e.symm)
  exact ⟨this.1, this.2⟩
/-- A part was read, and is put behind the others. -/
theorem app_stepQ {α : Type} {rd : (Nat → Prop) → World → α → Value → Prop} {T : TypeId} {st gp : Nat} {D : Option Nat} {w : World} {v : Value} {l : List α} (hk : Kept rd) {w0 w6 : World} {D0 : Option Nat} {L : List Tok} {sz dp B : Nat} {ds : List Dg} {g cap W : Nat} {a : α} {c : List Value} {o : Obj} {xs : List Value} (hp : QSt gp w L sz ds dp D) (hs : Stp gp D0 D w0 w) (hrow : Row rd T st B gp D w v l) (hc : c.length = st) (hB : w0.heap.size ≤ B)
    (ha : rd (okS W gp D w) w a (.agg c.toArray)) (hW : B ≤ W) (hv : ∀ k, v.ownBlock = some k → k < W)
    (hown0 : (w.alloc o).ownsRow B T st v l.length xs) (hown : w6.ownsRow B T st (.slice (some ⟨g, 0, none⟩) (l.length + 1) cap) (l.length + 1) (xs ++ c))
    (hgrow : (w.alloc o).grownBy w6 v.ownBlock) (hat : v.ownBlock = some g ∨ g = (w.alloc o).heap.size) :
    QSt gp w6 L sz ds dp D ∧ Stp gp D0 D w0 w6 ∧ Row rd T st B gp D w6 (.slice (some ⟨g, 0, none⟩) (l.length + 1) cap) (l ++ [a]) ∧ ∀ b, b < B → b < w.heap.size → w6.heap[b]? = w.heap[b]? := by
  have hb := (Below.refl w.heap.size w).alloc (Nat.le_refl _) o
  have hrow5 := hrow.below hk hb
  have hgp := hp.gp_lt
  refine ⟨(hp.below hb).grown hgrow (fun k e => ⟨by have := (hrow.lt e).1; have := hrow.gpB; omega, hrow.ne k e⟩), (hs.trans (Stp.below hb)).grown hgrow (fun k e => by have := (hrow.lt e).1; omega), ?_, fun b hbB h => ?_⟩
  · refine hrow5.snoc hk hc (hk _ _ w (w.alloc o) (fun k h => hb.block k h.2.1) (fun k h => ⟨⟨h.1, Nat.lt_of_lt_of_le h.2.1 hb.size, h.2.2⟩, fun e => by have := hv k e.symm; have := h.1; omega⟩) _ _ ha) hW hown0 hown hgrow hat (fun k e => ((hp.below hb).D_lt e).2)
  · exact (hgrow.block b (Nat.lt_of_lt_of_le h hb.size) (fun e => by have := (hrow.lt e.symm).1; omega)).trans (hb.block b h)
theorem six_3 {w1 : World} {b : Nat} {u0 u1 u2 u3 u4 u5 : Value} {t : TypeId} (h : w1.heap[b]? = some (.cells #[u0, u1, u2, u3, u4, u5] t (0, 0))) (v : Value) : (w1.setCell ⟨b, 3, none⟩ v).heap[b]? = some (.cells #[u0, u1, u2, v, u4, u5] t (0, 0)) := by
  simp [World.setCell, Array.getElem?_modify, h]
/-- Where the reading of a call's arguments stands: the call in its block b, its arguments behind it. -/
def RelCQ (gp : Nat) (L : List Tok) (sz dp : Nat) (D : Option Nat) (ds : List Dg) (W : World) (b i0 : Nat) (x : ByteArray) (fr tt : Nat) (i m : Value) (wr : World) : Prop :=
  ∃ (k : Nat) (mo : Bool) (ds' : List Dg) (D' : Option Nat) (n : Nat) (l : List Tr) (p : Option Addr) (c : Nat), i = .int .i64 (k : Int) ∧ m = .bool mo ∧ i0 + 2 ≤ k ∧ k ≤ L.length ∧ (mo = true → k < L.length) ∧ QSt gp wr L sz ds' (dp + 1) D' ∧ Stp gp D D' W wr ∧ some b ≠ D' ∧
    wr.heap[b]? = some (.cells #[.int .i64 4, .string x, .int .i64 0, .slice p l.length c, .int .i64 (fr : Int), .int .i64 (tt : Int)] 102 (0, 0)) ∧
    Row (RdE n) 102 6 (b + 1) gp D' wr (.slice p l.length c) l ∧ l.length ≤ 5 ∧ (∃ z, wfL (zE L z) (k - (i0 + 2)) l) ∧ ds.length ≤ ds'.length ∧ ds'.length + 4 * (L.length - k) + 3 ≤ ds.length + 4 * (L.length - i0) ∧ (mo = true → ds'.length + 4 * (L.length - k) + 4 ≤ ds.length + 4 * (L.length - i0))
/-- A list's place in a call's arguments. -/
def boN : Value → Nat
  | .bool true => 1
  | _ => 0
/-- A call is read. -/
theorem call_fin {gp : Nat} {w w9 : World} {L : List Tok} {sz dp b i j n z cz c fr tt : Nat} {ds ds9 : List Dg} {D D9 : Option Nat} {o : Obj} {p : Option Addr} {l : List Tr} {x : ByteArray} (hp : QSt gp w L sz ds dp D) (hb : w.heap.size + 1 ≤ b) (hgb : gp < b) (hs : Stp gp D D9 (w.alloc o) w9) (hp9 : QSt gp w9 L sz ds9 dp D9) (hbD : some b ≠ D9)
    (hrow : Row (RdE n) 102 6 (b + 1) gp D9 w9 (.slice p l.length c) l) (m8 : Nat) (u0 u1 u2 u3 u4 u5 : Value) (v : Value) (hv : v = .agg #[.int .i64 4, .string x, .int .i64 0, .slice p l.length c, .int .i64 (fr : Int), .int .i64 (tt : Int)])
    (hx : tkn L x fr) (hl5 : l.length ≤ 5) (hz : wfL (zE L z) cz l) (hcz : cz + 1 ≤ j - i) (h1 : i ≤ j) (h2 : j ≤ L.length) (h3 : ds.length ≤ ds9.length) (h4 : ds9.length + 4 * (L.length - j) ≤ ds.length + 4 * (L.length - i) + 1) :
    XE gp L sz dp D ds w (((((((((w9.drewN m8).setCell ⟨b, 5, none⟩ (.int .i64 (tt : Int)))).setCell ⟨w.heap.size, 0, none⟩ u0).setCell ⟨w.heap.size, 1, none⟩ u1).setCell ⟨w.heap.size, 2, none⟩ u2).setCell ⟨w.heap.size, 3, none⟩ u3).setCell ⟨w.heap.size, 4, none⟩ u4).setCell ⟨w.heap.size, 5, none⟩ u5) i j (exMk 4 x 0 l fr tt) v := by
  subst hv
  have hbd : Below w9.heap.size w9 (w9.drewN m8) := below_drewN (Below.refl _ _) m8
  have hrow2 := (hrow.below (kept_E n) hbd).setQ (kept_E n) (Nat.lt_succ_self b) 5 (.int .i64 (tt : Int))
  have hp2 := (hp9.below hbd).set hgb hbD 5 (.int .i64 (tt : Int))
  have hs2 := (hs.trans (Stp.below hbd)).set (b := b) (by simp; omega) 5 (.int .i64 (tt : Int))
  generalize (w9.drewN m8).setCell ⟨b, 5, none⟩ (.int .i64 (tt : Int)) = wA at *
  obtain ⟨p', cap, hv, hd⟩ := hrow2.done (kept_E n)
  injection hv with hv1 _ hv2
  subst hv1
  refine xe_end hp hs2 hp2 (n := n + 1) (B := b + 1) ⟨4, x, 0, l, fr, tt, p, c, rfl, rfl, by omega, fun h0 => ?_⟩ (by omega) u0 u1 u2 u3 u4 u5 ⟨z + 1, 4, x, 0, l, fr, tt, rfl, by omega, hl5, .inr (.inr (.inr ⟨rfl, hx, cz, hcz, hz⟩))⟩ h1 h2 h3 h4
  obtain ⟨g, e1, e2, e3⟩ := hd h0
  refine ⟨g, e1, e2, fun j a hj => ?_⟩
  obtain ⟨c, _, h2, h3⟩ := e3 j a hj
  exact ⟨_, h2, h3⟩
section
variable {gp : Nat} {w : World} {L : List Tok} {sz dp : Nat} {ds : List Dg} {D : Option Nat}
set_option maxHeartbeats 1000000 in
set_option maxRecDepth 100000 in
theorem xAtom_call (f : Nat) (hE : XX L sz f) (hp : QSt gp w L sz ds dp D) (i : Nat) (hil : i < L.length) (hf : 2 * (L.length - i) ≤ f) (hdp : dp < 12) (h3 : ¬ (tk L sz i).k = 2) (h4 : ¬ (tk L sz i).x = bs1 40) (hN : nmB (tk L sz i).x = true) (hI : isT L (i + 1) (bs1 40) = true) (hds : ds.length + 4 * (L.length - i) + 20 ≤ 1099511627776) :
    Calls Try.prog 112 #[.pointer (some ⟨gp, 0, none⟩), .int .i64 (i : Int)] w fun e w' => ∃ v x j, e = .returned (.tuple #[v, .int .i64 ((j : Nat) : Int)]) ∧ XE gp L sz dp D ds w w' i j x v := by
  have hlen := hp.len
  have hsiz := hp.siz
  have hgp := hp.gp_lt
  have htk := tk_smallQ hp i
  have hx : (tk L sz i).x.size ≤ maxLen := by unfold maxLen; omega
  have hb0 := (Below.refl w.heap.size w).alloc (Nat.le_refl _) (.cells #[.int .i64 0, .string ⟨#[]⟩, .int .i64 0, .slice none 0 0, .int .i64 0, .int .i64 0] 102)
  have hp0 := hp.below hb0
  have hk2 : (((tk L sz i).k : Int) == 2) = false := by simp; omega
  have hx40 : ((tk L sz i).x.toList == [40]) = false := bne_of _ ⟨#[40]⟩ h4
  have hx41 : ¬ (tk L sz i).x.toList = [40] := fun h => by rw [h] at hx40; simp at hx40
  have gw : IntKind.i64.wrap (((tk L sz i).a : Int) + ((tk L sz i).x.size : Int)) = ((tk L sz i).a : Int) + ((tk L sz i).x.size : Int) := wrap_id _ (by omega) (by omega)
  have hil2 := isT_in hI
  obtain ⟨i0, hi0, hz0, hz1, hz2⟩ := info_parts Try.infoEx
  have F1 : Hid (1 = 1) := rfl
  have F2 : Hid (2 = 2) := rfl
  go_enter Try.func112, Try.ntmps112
  go_upto_region 33 with (first
    | (go_at_call 38; refine (refT_any hp0 i (by omega)).mono ?_; rintro e w2 ⟨rfl, hb2⟩; unfold tkV; obtain ⟨z0, z1, z2, hb3⟩ := tk_at (t := tk L sz i) hb2 (Below.refl _ _); have hp1 := hp0.below hb3; obtain ⟨p, c, v, c0, c1, c2, c3, hfz, htok, hown, hD⟩ := hp1.cells; clear htok)
    | (go_at_call 65; refine (refName_any _ _ hx).mono ?_; rintro e w3 ⟨rfl, hb4⟩; rw [hN]; obtain ⟨y0, y1, y2, hb5⟩ := tk_at (t := tk L sz i) hb2 hb4; have hp2 := hp0.below hb5)
    | (go_at_call 36; refine (refIs_any (hp2.below ((Below.refl _ _).alloc (Nat.le_refl _) _)) (i + 1) (by omega) (bs1 40)).mono ?_; rintro e w4 ⟨rfl, hw4⟩; rw [hI]; obtain ⟨hb6, hq, q0, q1, q2, q3, q4, q5⟩ := six_atQ hw4; clear hw4; have hp4 := hp2.below hb6; have hs5 : Stp gp D D _ w4 := (Stp.below hb5).trans (Stp.below hb6); obtain ⟨p6, c6, v6, g0, g1, g2, g3, hfz6, htok6, hown6, hD6⟩ := hp4.cells; clear htok6 hown6 hD6; have hfz6b := hfz6 3; have hfq : ∀ o, w4.frozen? ⟨w3.heap.size, o, none⟩ = false := (fun o => by simp [World.frozen?, hq]); have hgp3 := hp2.gp_lt; have hne3 : ¬ w3.heap.size = gp := (by omega); have hne4 : ¬ gp = w3.heap.size := (by omega); have hbD : some w3.heap.size ≠ D := (fun e => by have := (hp2.D_lt e).2; omega); obtain ⟨hp5, hs6⟩ := hp4.setDeep (dp + 1) (by omega); replace hp5 := hp5.set (b := w3.heap.size) hgp3 hbD 0 (.int .i64 4); replace hs6 := (hs5.trans hs6).set (b := w3.heap.size) (by have := hb5.size; simp at this ⊢; omega) 0 (.int .i64 4)))
  have hW0 : w.heap.size + 1 ≤ w3.heap.size := by have := hb5.size; simp at this; omega
  have hsl : ((((w4.setCell ⟨gp, 3, none⟩ (.int .i64 ((dp + 1 : Nat) : Int))).setCell ⟨w3.heap.size, 0, none⟩ (.int .i64 4)))).heap[w3.heap.size]? = some (.cells #[.int .i64 4, .string (tk L sz i).x, .int .i64 0, .slice none 0 0, .int .i64 ((tk L sz i).a : Int), .int .i64 ((tk L sz i).a + (tk L sz i).x.size : Nat)] 102 (0, 0)) := by
    have h1 := (Below.heap_setCell w4 ⟨gp, 3, none⟩ (.int .i64 ((dp + 1 : Nat) : Int)) w3.heap.size hne3).trans hq
    rw [show (((tk L sz i).a + (tk L sz i).x.size : Nat) : Int) = ((tk L sz i).a : Int) + ((tk L sz i).x.size : Int) by simp]
    generalize w4.setCell ⟨gp, 3, none⟩ (.int .i64 ((dp + 1 : Nat) : Int)) = w9 at *
    simp [World.setCell, Array.getElem?_modify, h1]
  have HC : ∀ mo : Bool, (mo = true → i + 2 < L.length) → RelCQ gp L sz dp D ds (w.alloc (.cells #[.int .i64 0, .string ⟨#[]⟩, .int .i64 0, .slice none 0 0, .int .i64 0, .int .i64 0] 102)) w3.heap.size i (tk L sz i).x (tk L sz i).a ((tk L sz i).a + (tk L sz i).x.size) (.int .i64 ((i + 2 : Nat) : Int)) (.bool mo) _ := fun mo hmo => ⟨i + 2, mo, ds, D, 0, [], none, 0, rfl, rfl, Nat.le_refl _, by omega, hmo, hp5, hs6, hbD, hsl, Row.nil (by omega), by simp, ⟨0, trivial⟩, Nat.le_refl _, by omega, fun _ => by omega⟩
  go_cut [13] from 148 to 160 (fun s13 wx => RelCQ gp L sz dp D ds (w.alloc (.cells #[.int .i64 0, .string ⟨#[]⟩, .int .i64 0, .slice none 0 0, .int .i64 0, .int .i64 0] 102)) w3.heap.size i (tk L sz i).x (tk L sz i).a ((tk L sz i).a + (tk L sz i).x.size) (.int .i64 ((i + 2 : Nat) : Int)) s13 wx)
  case first =>
    by_cases hlt2 : i + 2 < L.length
    · cases hI3 : isT L (i + 2) (bs1 41)
      · have H := HC true (fun _ => hlt2)
        clear HC
        go_wp2_with (first
          | (go_at_call 36; refine (refIs_any hp5 (i + 2) (by omega) (bs1 41)).mono ?_; rintro e w7 ⟨rfl, hw7⟩; subst w7; rw [hI3]))
        go_meet
        exact H
      · have H := HC false (fun h => by cases h)
        clear HC
        go_wp2_with (first
          | (go_at_call 36; refine (refIs_any hp5 (i + 2) (by omega) (bs1 41)).mono ?_; rintro e w7 ⟨rfl, hw7⟩; subst w7; rw [hI3]))
        go_meet
        exact H
    · have H := HC false (fun h => by cases h)
      clear HC
      go_wp2
      go_meet
      exact H
  case rest =>
    have hne5 : gp < w3.heap.size := by omega
    clear HC hsl hq q0 q1 q2 q3 q4 q5 hp4 hp5 hs5 hs6 g0 g1 g2 g3 hfz6 hfz6b hfq hb6 y0 y1 y2 hb5 hb4 hp2 z0 z1 z2 hb3 hp1 c0 c1 c2 c3 hfz hown hD hb2 hp0 hb0
    go_wp2
    go_loopw [1, 13] (fun i' m wr => RelCQ gp L sz dp D ds (w.alloc (.cells #[.int .i64 0, .string ⟨#[]⟩, .int .i64 0, .slice none 0 0, .int .i64 0, .int .i64 0] 102)) w3.heap.size i (tk L sz i).x (tk L sz i).a ((tk L sz i).a + (tk L sz i).x.size) i' m wr) (fun i' m _ => 2 * upN (L.length + 1) i' + boN m)
    case atStart => exact hcut
    case round =>
      clear hcut
      obtain ⟨k, mo, ds', D', n, l, p9, c9, rfl, rfl, hk3, hkL, hmo, hpC, hsC, hbD', hblk, hrow, hl5, ⟨z, hz⟩, hd1, hd2, hd3⟩ := hrel
      have hblt : w3.heap.size < wr.heap.size := (Array.getElem?_eq_some_iff.1 hblk).1
      obtain ⟨b0, b1, b2, b3, b4, b5, b6⟩ := six_at hblk
      cases mo
      · have hq1 := need_bd (s := bs1 41) (sz := sz) hkL
        go_wp2_with (first
          | (go_at_call 40; refine (refNeed_any hpC k (by omega) (bs1 41) (by omega)).mono ?_; rintro e w7 ⟨rfl, D7, hp7, hs7⟩; generalize pNeed L sz k (bs1 41) = q at *; obtain ⟨hq2, hq3, hq4⟩ := hq1; have hsB := hsC.trans hs7; obtain ⟨hl1, hl2, hl3⟩ := laid hp hsB; have hl10 := hl3 0 _ rfl; have hl11 := hl3 1 _ rfl; have hl12 := hl3 2 _ rfl; have hl13 := hl3 3 _ rfl; have hl14 := hl3 4 _ rfl; have hl15 := hl3 5 _ rfl; clear hl3; have hb7 := (hs7.block w3.heap.size hblt hne3 hbD').trans hblk; obtain ⟨t0, t1, t2, t3, t4, t5, t6⟩ := six_at hb7; obtain ⟨pp, cc, vv, d0, d1, d2, d3, hfz7, htok7, hown7, hD7⟩ := hp7.cells; clear htok7 hown7; have hfy3 := hfz7 3; have hrow7 := hrow.step (kept_E n) hs7; obtain ⟨hp8, hs8⟩ := hp7.setDeep dp (by omega))
          | (go_at_call 102; refine (refEnd_any hp8 q.i hq3).mono ?_; rintro e w8 ⟨rfl, m8, rfl⟩))
        exact bodyPost_ret (v := .tuple #[.agg #[.int .i64 4, .string (tk L sz i).x, .int .i64 0, .slice p9 l.length c9, .int .i64 ((tk L sz i).a : Int), .int .i64 (endT L sz q.i : Int)], .int .i64 (q.i : Int)]) (by simp [results, Try.results112, go_sem, hl10, hl11, hl12, hl13, hl14, hl15]) rfl ⟨_, exMk 4 (tk L sz i).x 0 l (tk L sz i).a (endT L sz q.i), q.i, rfl, call_fin hp (by omega) hne5 (hsB.trans hs8) hp8 (hs7.fresh hblt hbD') (hrow7.step (kept_E n) hs8) m8 _ _ _ _ _ _ _ rfl (tkn_tk hN) hl5 hz (by omega) (by omega) hq3 (by simp; omega) (by simp; omega)⟩
      · by_cases h5 : l.length = 5
        · have hq1 := need_bd (s := bs1 41) (sz := sz) hkL
          go_wp2_with (first
            | (go_at_call 42; refine (refBad_any hpC k (by omega) 5 (by omega)).mono ?_; rintro e w6 ⟨rfl, D6, hp6, hs6b⟩; have hsC6 := hsC.trans hs6b; have hblt6 := Nat.lt_of_lt_of_le hblt hs6b.size; have hbD6 := hs6b.fresh hblt hbD'; have hblk6 := (hs6b.block w3.heap.size hblt hne3 hbD').trans hblk; have hrow6 := hrow.step (kept_E n) hs6b)
            | (go_at_call 40; refine (refNeed_any hp6 k (by omega) (bs1 41) (by simp; omega)).mono ?_; rintro e w7 ⟨rfl, D7, hp7, hs7⟩; generalize pNeed L sz k (bs1 41) = q at *; obtain ⟨hq2, hq3, hq4⟩ := hq1; have hsB := hsC6.trans hs7; obtain ⟨hl1, hl2, hl3⟩ := laid hp hsB; have hl10 := hl3 0 _ rfl; have hl11 := hl3 1 _ rfl; have hl12 := hl3 2 _ rfl; have hl13 := hl3 3 _ rfl; have hl14 := hl3 4 _ rfl; have hl15 := hl3 5 _ rfl; clear hl3; have hb7 := (hs7.block w3.heap.size hblt6 hne3 hbD6).trans hblk6; obtain ⟨t0, t1, t2, t3, t4, t5, t6⟩ := six_at hb7; obtain ⟨pp, cc, vv, d0, d1, d2, d3, hfz7, htok7, hown7, hD7⟩ := hp7.cells; clear htok7 hown7; have hfy3 := hfz7 3; have hrow7 := hrow6.step (kept_E n) hs7; obtain ⟨hp8, hs8⟩ := hp7.setDeep dp (by omega))
            | (go_at_call 102; refine (refEnd_any hp8 q.i hq3).mono ?_; rintro e w8 ⟨rfl, m8, rfl⟩))
          exact bodyPost_ret (v := .tuple #[.agg #[.int .i64 4, .string (tk L sz i).x, .int .i64 0, .slice p9 l.length c9, .int .i64 ((tk L sz i).a : Int), .int .i64 (endT L sz q.i : Int)], .int .i64 (q.i : Int)]) (by simp [results, Try.results112, go_sem, h5, hl10, hl11, hl12, hl13, hl14, hl15]) rfl ⟨_, exMk 4 (tk L sz i).x 0 l (tk L sz i).a (endT L sz q.i), q.i, rfl, call_fin hp (by omega) hne5 (hsB.trans hs8) hp8 (hs7.fresh hblt6 hbD6) (hrow7.step (kept_E n) hs8) m8 _ _ _ _ _ _ _ rfl (tkn_tk hN) hl5 hz (by omega) (by omega) hq3 (by simp; omega) (by simp; omega)⟩
        · have G1 : Hid (1 = 1) := rfl
          have G2 : Hid (2 = 2) := rfl
          have hbytes : (l.length + 1) * 72 ≤ 140737488355328 := by omega
          have hmax : l.length + 1 ≤ maxLen := by unfold maxLen; omega
          have hk1 := hmo rfl
          have hd4 := hd3 rfl
          go_wp2_with (first
            | (go_at_call 101; refine (hE gp _ ds' (dp + 1) D' k 1 hpC (by omega) (by omega) (by omega) (by omega)).mono ?_; rintro e w5 ⟨v5, x5, j5, rfl, D5, n5, ds5, hp5, hs5, hr5, hz5, hi5, hj5, hd5, he5⟩; obtain ⟨k4, x4, m4, p4, l4, c4, rfl⟩ := hr5.shape; have hrow5 := hrow.step (kept_E n) hs5; have hsC5 := hsC.trans hs5; have hblk5 := (hs5.block w3.heap.size hblt hne3 hbD').trans hblk; have hbD5 := hs5.fresh hblt hbD'; have hbA := (Below.refl w5.heap.size w5).alloc (Nat.le_refl _) (.cells #[.int .i64 (k4 : Int), .string x4, .int .i64 (m4 : Int), .slice p4 l4 c4, .int .i64 (exF x5 : Int), .int .i64 (exT x5 : Int)] 102); have hpA := hp5.below hbA; have hrowA := hrow5.below (kept_E n) hbA; have hsA := hsC5.trans (Stp.below hbA); have hblkA := (hbA.block w3.heap.size (Nat.lt_of_lt_of_le hblt hs5.size)).trans hblk5; have hnA := heap_alloc_new w5 (.cells #[.int .i64 (k4 : Int), .string x4, .int .i64 (m4 : Int), .slice p4 l4 c4, .int .i64 (exF x5 : Int), .int .i64 (exT x5 : Int)] 102); have hszA : (w5.alloc (.cells #[.int .i64 (k4 : Int), .string x4, .int .i64 (m4 : Int), .slice p4 l4 c4, .int .i64 (exF x5 : Int), .int .i64 (exT x5 : Int)] 102)).heap.size = w5.heap.size + 1 := (by simp); obtain ⟨s0, s1, s2, s3, s4, s5, s6⟩ := six_at hblkA; obtain ⟨a0, a1, a2, a3, a4, a5, a6⟩ := six_at hnA; have hbB := (Below.refl (w5.alloc (.cells #[.int .i64 (k4 : Int), .string x4, .int .i64 (m4 : Int), .slice p4 l4 c4, .int .i64 (exF x5 : Int), .int .i64 (exT x5 : Int)] 102)).heap.size (w5.alloc (.cells #[.int .i64 (k4 : Int), .string x4, .int .i64 (m4 : Int), .slice p4 l4 c4, .int .i64 (exF x5 : Int), .int .i64 (exT x5 : Int)] 102))).alloc (Nat.le_refl _) (.cells #[.int .i64 (k4 : Int), .string x4, .int .i64 (m4 : Int), .slice p4 l4 c4, .int .i64 (exF x5 : Int), .int .i64 (exT x5 : Int)] 102); have hrowB := hrowA.below (kept_E n) hbB; obtain ⟨vs, ho5, _⟩ := hrowB.own; have hz5s := hs5.size; have hrE := hr5.step (Stp.below (gp := gp) (D := D5) hbA))
            | (at_builtin; refine wpList_append_lies _ rfl (.tmp 176) (.tmp 178) 100 rfl (w3.heap.size + 1) 102 i0 _ 6 72 Try.underlying100 hi0 hz0 hz1 hz2 rfl (by decide) _ _ _ rfl ho5 ⟨w5.heap.size + 1, 0, none⟩ 1 1 [.int .i64 (k4 : Int), .string x4, .int .i64 (m4 : Int), .slice p4 l4 c4, .int .i64 (exF x5 : Int), .int .i64 (exT x5 : Int)] rfl rfl (news2 _ _ _ _) (by simp [Value.oneCell']) (by decide) hmax hbytes (by simp; omega) _ rfl ?_; intro g6 cap6 w6 hown6 hgrow6 hat6 hlt6; obtain ⟨hp6, hs6, hrow6, hlow6⟩ := app_stepQ (kept_E (max n n5)) hpA hsA (hrowA.mono (fun _ _ _ _ h => h.le (Nat.le_max_left n n5))) rfl (by simp; omega) (hrE.le (Nat.le_max_right n n5)) (by omega) (fun q e => Nat.lt_of_lt_of_le (hrow.lt e).2 (Nat.le_refl _)) ho5 hown6 hgrow6 hat6; have hblk6 := (hlow6 w3.heap.size (Nat.lt_succ_self _) (by simp; omega)).trans hblkA; obtain ⟨e0, e1, e2, e3, e4, e5, e6⟩ := six_at hblk6; have hblkS := six_3 hblk6 (.slice (some ⟨g6, 0, none⟩) (l.length + 1) cap6); have hpS := hp6.set hne5 hbD5 3 (.slice (some ⟨g6, 0, none⟩) (l.length + 1) cap6); have hsS := hs6.set (b := w3.heap.size) (by simp; omega) 3 (.slice (some ⟨g6, 0, none⟩) (l.length + 1) cap6); have hrowS := hrow6.setQ (kept_E _) (Nat.lt_succ_self _) 3 (.slice (some ⟨g6, 0, none⟩) (l.length + 1) cap6); obtain ⟨pq, cq, vq, n0, n1, n2, n3, n4, ntok, n6, n7⟩ := hp6.cells; clear ntok n6 n7; have g := G1)
            | (go_at_call 36; have h := g; clear h g G1; refine (refIs_any hpS j5 (by omega) (bs1 44)).mono ?_; rintro e w7 ⟨rfl, hw7⟩; subst w7; have g2 := G2)
            | (go_at_call 36; have h := g2; clear h g2 G2; refine (refIs_any hpS (j5 + 1) (by omega) (bs1 41)).mono ?_; rintro e w7 ⟨rfl, hw7⟩; subst w7))
          · have hjl := isT_in ‹isT L j5 (bs1 44) = true›
            go_roundw
            case rel =>
              refine ⟨j5 + 1, _, ds5, D5, _, l ++ [x5], some ⟨g6, 0, none⟩, cap6, by go_num, rfl, by omega, by omega, fun _ => by omega, hpS, hsS, hbD5, by rw [List.length_append]; exact hblkS, by rw [List.length_append]; exact hrowS, by rw [List.length_append, List.length_singleton]; omega, ?_, by omega, by omega, fun _ => by omega⟩
              obtain ⟨z5, hz6⟩ := hz5
              exact ⟨max z z5, wfL_up (fun c c' a hc => zE_up L _ _ c c' a (Nat.le_refl _) hc) _ _ _ (by omega) (wfL_snoc _ _ _ _ (wfL_up (fun c c' a hc => zE_up L _ _ c c' a (Nat.le_max_left z z5) hc) l _ _ (Nat.le_refl _) hz) (zE_up L _ _ _ _ x5 (Nat.le_max_right z z5) (Nat.le_refl _) hz6))⟩
            case measure =>
              have hbo : ∀ b : Bool, boN (.bool b) ≤ 1 := fun b => by cases b <;> simp [boN]
              have := hbo (!isT L (j5 + 1) (bs1 41))
              simp [upN, intOf] at this ⊢
              omega
          · have hjl := isT_in ‹isT L j5 (bs1 44) = true›
            go_roundw
            case rel =>
              refine ⟨j5 + 1, false, ds5, D5, _, l ++ [x5], some ⟨g6, 0, none⟩, cap6, by go_num, rfl, by omega, by omega, (fun h => by cases h), hpS, hsS, hbD5, by rw [List.length_append]; exact hblkS, by rw [List.length_append]; exact hrowS, by rw [List.length_append, List.length_singleton]; omega, ?_, by omega, by omega, (fun h => by cases h)⟩
              obtain ⟨z5, hz6⟩ := hz5
              exact ⟨max z z5, wfL_up (fun c c' a hc => zE_up L _ _ c c' a (Nat.le_refl _) hc) _ _ _ (by omega) (wfL_snoc _ _ _ _ (wfL_up (fun c c' a hc => zE_up L _ _ c c' a (Nat.le_max_left z z5) hc) l _ _ (Nat.le_refl _) hz) (zE_up L _ _ _ _ x5 (Nat.le_max_right z z5) (Nat.le_refl _) hz6))⟩
            case measure =>
              simp [upN, intOf, boN]
              omega
          · have hjf := ‹isT L j5 (bs1 44) = false›
            rw [hjf]
            go_roundw
            case rel =>
              refine ⟨j5, false, ds5, D5, _, l ++ [x5], some ⟨g6, 0, none⟩, cap6, by go_num, rfl, by omega, by omega, (fun h => by cases h), hpS, hsS, hbD5, by rw [List.length_append]; exact hblkS, by rw [List.length_append]; exact hrowS, by rw [List.length_append, List.length_singleton]; omega, ?_, by omega, by omega, (fun h => by cases h)⟩
              obtain ⟨z5, hz6⟩ := hz5
              exact ⟨max z z5, wfL_up (fun c c' a hc => zE_up L _ _ c c' a (Nat.le_refl _) hc) _ _ _ (by omega) (wfL_snoc _ _ _ _ (wfL_up (fun c c' a hc => zE_up L _ _ c c' a (Nat.le_max_left z z5) hc) l _ _ (Nat.le_refl _) hz) (zE_up L _ _ _ _ x5 (Nat.le_max_right z z5) (Nat.le_refl _) hz6))⟩
            case measure =>
              simp [upN, intOf, boN]
              omega
end
end Go.Proofs.Ytjpmnholpeidmaa

namespace Go.Proofs.Ytjpmnholpeidmaa
open Go.RowKit
set_option linter.unusedVariables false
attribute [local go_sem ↓] Go.wp_at_zero Go.wp_at_succ
/-- The loop of signs: e lies in its own block eb, and what it is made of lies elsewhere. -/
def okX (B gp : Nat) (D : Option Nat) (eb : Nat) (w : World) (k : Nat) : Prop := okS B gp D w k ∧ k ≠ eb
def RelXQ (gp : Nat) (L : List Tok) (sz dp : Nat) (D : Option Nat) (ds : List Dg) (W : World) (i0 eb : Nat) (i : Value) (wr : World) : Prop :=
  ∃ (k : Nat) (ds' : List Dg) (e : Tr) (D' : Option Nat) (n k4 : Nat) (x4 : ByteArray) (m4 : Nat) (p4 : Option Addr) (l4 c4 : Nat), i = .int .i64 (k : Int) ∧ i0 ≤ k ∧ k ≤ L.length ∧ QSt gp wr L sz ds' dp D' ∧ Stp gp D D' W wr ∧ W.heap.size ≤ eb ∧ some eb ≠ D' ∧
    wr.heap[eb]? = some (.cells #[.int .i64 (k4 : Int), .string x4, .int .i64 (m4 : Int), .slice p4 l4 c4, .int .i64 (exF e : Int), .int .i64 (exT e : Int)] 102 (0, 0)) ∧
    RdE n (okX W.heap.size gp D' eb wr) wr e (.agg #[.int .i64 (k4 : Int), .string x4, .int .i64 (m4 : Int), .slice p4 l4 c4, .int .i64 (exF e : Int), .int .i64 (exT e : Int)]) ∧
    (∃ z, zE L z (k - i0) e) ∧ ds.length ≤ ds'.length ∧ ds'.length + 4 * (L.length - k) ≤ ds.length + 4 * (L.length - i0) + 1
theorem QSt.ne {gp : Nat} {w : World} {L : List Tok} {sz dp : Nat} {ds : List Dg} {D : Option Nat} (hp : QSt gp w L sz ds dp D) : some w.heap.size ≠ D := fun e => by
  obtain ⟨p, c, v, h1, h2, h3, h4⟩ := hp.blk
  have := (h3.lt _ (h4.trans e.symm)).2
  omega
theorem RelXQ.start {gp : Nat} {L : List Tok} {sz dp : Nat} {D D2 : Option Nat} {ds ds2 : List Dg} {W w2 : World} {i0 j : Nat} {e : Tr} {n k4 : Nat} {x4 : ByteArray} {m4 : Nat} {p4 : Option Addr} {l4 c4 : Nat} (h1 : i0 ≤ j) (h2 : j ≤ L.length) (hp : QSt gp w2 L sz ds2 dp D2) (hs : Stp gp D D2 W w2)
    (hr : RdE n (okS W.heap.size gp D2 w2) w2 e (.agg #[.int .i64 (k4 : Int), .string x4, .int .i64 (m4 : Int), .slice p4 l4 c4, .int .i64 (exF e : Int), .int .i64 (exT e : Int)]))
    (hz : ∃ z, zE L z (j - i0) e) (h3 : ds.length ≤ ds2.length) (h4 : ds2.length + 4 * (L.length - j) ≤ ds.length + 4 * (L.length - i0) + 1) :
    RelXQ gp L sz dp D ds W i0 w2.heap.size (.int .i64 (j : Int)) (w2.alloc (.cells #[.int .i64 (k4 : Int), .string x4, .int .i64 (m4 : Int), .slice p4 l4 c4, .int .i64 (exF e : Int), .int .i64 (exT e : Int)] 102)) := by
  have hb := (Below.refl w2.heap.size w2).alloc (Nat.le_refl _) (.cells #[.int .i64 (k4 : Int), .string x4, .int .i64 (m4 : Int), .slice p4 l4 c4, .int .i64 (exF e : Int), .int .i64 (exT e : Int)] 102)
  exact ⟨j, ds2, e, D2, n, k4, x4, m4, p4, l4, c4, rfl, h1, h2, hp.below hb, hs.trans (Stp.below hb), hs.size, hp.ne, heap_alloc_new w2 _,
    RdE.kept n (fun k hk => hb.block k hk.2.1) (fun k hk => ⟨⟨hk.1, Nat.lt_of_lt_of_le hk.2.1 hb.size, hk.2.2⟩, by have := hk.2.1; omega⟩) _ _ hr, hz, h3, h4⟩
theorem cells6 {w w' : World} {b : Nat} {u0 u1 u2 u3 u4 u5 : Value} {t : TypeId} (h : w.heap[b]? = some (.cells #[u0, u1, u2, u3, u4, u5] t (0, 0))) (hb : Below w.heap.size w w') :
    w'.cell? ⟨b, 0, none⟩ = some u0 ∧ w'.cell? ⟨b, 1, none⟩ = some u1 ∧ w'.cell? ⟨b, 2, none⟩ = some u2 ∧ w'.cell? ⟨b, 3, none⟩ = some u3 ∧ w'.cell? ⟨b, 4, none⟩ = some u4 ∧ w'.cell? ⟨b, 5, none⟩ = some u5 := by
  have hn := (hb.block b (Array.getElem?_eq_some_iff.1 h).1).trans h
  exact ⟨cell_of_row _ _ 0 _ _ _ hn, cell_of_row _ _ 1 _ _ _ hn, cell_of_row _ _ 2 _ _ _ hn, cell_of_row _ _ 3 _ _ _ hn, cell_of_row _ _ 4 _ _ _ hn, cell_of_row _ _ 5 _ _ _ hn⟩
theorem tight_le (x : ByteArray) : tight x ≤ 3 := by unfold tight; split; omega; split; omega; split <;> omega
theorem cells62 {w : World} {b : Nat} {u0 u1 u2 u3 u4 u5 : Value} {t : TypeId} (h : w.heap[b]? = some (.cells #[u0, u1, u2, u3, u4, u5] t (0, 0))) (o o2 : Obj) :
    ((w.alloc o).alloc o2).heap[b]? = some (.cells #[u0, u1, u2, u3, u4, u5] t (0, 0)) ∧ ∀ j, ((w.alloc o).alloc o2).frozen? ⟨b, j, none⟩ = false := by
  have hlt := (Array.getElem?_eq_some_iff.1 h).1
  have hn : ((w.alloc o).alloc o2).heap[b]? = some (.cells #[u0, u1, u2, u3, u4, u5] t (0, 0)) := (Below.heap_alloc (w.alloc o) o2 b (by simp; omega)).trans ((Below.heap_alloc w o b hlt).trans h)
  exact ⟨hn, fun j => by simp [World.frozen?, hn]⟩
theorem set6 {w : World} {b : Nat} {u0 u1 u2 u3 u4 u5 : Value} {t : TypeId} (h : w.heap[b]? = some (.cells #[u0, u1, u2, u3, u4, u5] t (0, 0))) (v0 v1 v2 v3 v4 v5 : Value) :
    ((((((w.setCell ⟨b, 0, none⟩ v0).setCell ⟨b, 1, none⟩ v1).setCell ⟨b, 2, none⟩ v2).setCell ⟨b, 3, none⟩ v3).setCell ⟨b, 4, none⟩ v4).setCell ⟨b, 5, none⟩ v5).heap.size = w.heap.size ∧ ((((((w.setCell ⟨b, 0, none⟩ v0).setCell ⟨b, 1, none⟩ v1).setCell ⟨b, 2, none⟩ v2).setCell ⟨b, 3, none⟩ v3).setCell ⟨b, 4, none⟩ v4).setCell ⟨b, 5, none⟩ v5).heap[b]? = some (.cells #[v0, v1, v2, v3, v4, v5] t (0, 0)) ∧ ∀ k, k ≠ b → ((((((w.setCell ⟨b, 0, none⟩ v0).setCell ⟨b, 1, none⟩ v1).setCell ⟨b, 2, none⟩ v2).setCell ⟨b, 3, none⟩ v3).setCell ⟨b, 4, none⟩ v4).setCell ⟨b, 5, none⟩ v5).heap[k]? = w.heap[k]? := by
  refine ⟨by simp, by simp [World.setCell, Array.getElem?_modify, h], fun k hk => ?_⟩
  rw [Below.heap_setCell _ _ _ k hk, Below.heap_setCell _ _ _ k hk, Below.heap_setCell _ _ _ k hk, Below.heap_setCell _ _ _ k hk, Below.heap_setCell _ _ _ k hk, Below.heap_setCell _ _ _ k hk]
theorem row_two {u0 u1 u2 u3 u4 u5 v0 v1 v2 v3 v4 v5 : Value} (i : Nat) (u : Value) : (#[u0, u1, u2, u3, u4, u5][i]? = some u → #[u0, u1, u2, u3, u4, u5, v0, v1, v2, v3, v4, v5][0 * 6 + i]? = some u) ∧ (#[v0, v1, v2, v3, v4, v5][i]? = some u → #[u0, u1, u2, u3, u4, u5, v0, v1, v2, v3, v4, v5][1 * 6 + i]? = some u) := by
  match i with
  | 0 => exact ⟨id, id⟩
  | 1 => exact ⟨id, id⟩
  | 2 => exact ⟨id, id⟩
  | 3 => exact ⟨id, id⟩
  | 4 => exact ⟨id, id⟩
  | 5 => exact ⟨id, id⟩
  | i + 6 => exact ⟨fun h => by simp at h, fun h => by simp at h⟩
theorem RelXQ.fin {gp : Nat} {L : List Tok} {sz dp : Nat} {D D' D5 : Option Nat} {ds : List Dg} {W wr wn w5 : World} {i0 j b t5 n n5 : Nat} {e e2 : Tr} {dsn : List Dg} {k5 : Nat} {x5 : ByteArray} {m5 : Nat} {p5 : Option Addr} {l5 c5 : Nat} {k6 : Nat} {x6 : ByteArray} {m6 : Nat} {p6 : Option Addr} {l6 c6 : Nat} {x : ByteArray} {Z W8 : World}
    (hsC : Stp gp D D' W wr) (hBC : Below wr.heap.size wr wn) (hs5 : Stp gp D' D5 wn w5) (hgw : gp < w5.heap.size) (heb : W.heap.size ≤ b) (heb2 : b < wr.heap.size)
    (hre : RdE n (okX W.heap.size gp D' b wr) wr e (.agg #[.int .i64 (k5 : Int), .string x5, .int .i64 (m5 : Int), .slice p5 l5 c5, .int .i64 (exF e : Int), .int .i64 (exT e : Int)]))
    (hr5 : RdE n5 (okS wn.heap.size gp D5 w5) w5 e2 (.agg #[.int .i64 (k6 : Int), .string x6, .int .i64 (m6 : Int), .slice p6 l6 c6, .int .i64 (exF e2 : Int), .int .i64 (exT e2 : Int)]))
    (hi0 : i0 ≤ j) (hk : j ≤ L.length) (hz : ∃ z, zE L z (j - i0) (exMk 3 x 0 [e, e2] (exF e) t5)) (hd1 : ds.length ≤ dsn.length) (hd2 : dsn.length + 4 * (L.length - j) ≤ ds.length + 4 * (L.length - i0) + 1)
    (hrow : Z.heap[w5.heap.size + 1]? = some (.cells #[.int .i64 (k5 : Int), .string x5, .int .i64 (m5 : Int), .slice p5 l5 c5, .int .i64 (exF e : Int), .int .i64 (exT e : Int), .int .i64 (k6 : Int), .string x6, .int .i64 (m6 : Int), .slice p6 l6 c6, .int .i64 (exF e2 : Int), .int .i64 (exT e2 : Int)] 102 (0, 0))) (hsz : Z.heap.size = w5.heap.size + 2) (hb2 : Below w5.heap.size w5 Z) (hDb : some b ≠ D5) (hDr : some (w5.heap.size + 1) ≠ D5) (hsT : Stp gp D' D5 wr Z)
    (g1 : W8.heap.size = Z.heap.size) (g2 : W8.heap[b]? = some (.cells #[.int .i64 3, .string x, .int .i64 0, .slice (some ⟨w5.heap.size + 1, 0, none⟩) 2 2, .int .i64 (exF e : Int), .int .i64 (t5 : Int)] 102 (0, 0))) (g3 : ∀ k, k ≠ b → W8.heap[k]? = Z.heap[k]?) (hp8 : QSt gp W8 L sz dsn dp D5) (hs8 : Stp gp D D5 W W8) :
    RelXQ gp L sz dp D ds W i0 b (.int .i64 (j : Int)) W8 := by
  have h51 := hs5.size
  have h52 := hBC.size
  have h53 := hsC.size
  refine ⟨j, dsn, exMk 3 x 0 [e, e2] (exF e) t5, D5, max n n5 + 1, 3, x, 0, some ⟨w5.heap.size + 1, 0, none⟩, 2, 2, rfl, hi0, hk, hp8, hs8, heb, hDb, by rw [exF_mk, exT_mk]; exact g2, ?_, hz, hd1, hd2⟩
  rw [exF_mk, exT_mk]
  refine ⟨3, x, 0, [e, e2], exF e, t5, some ⟨w5.heap.size + 1, 0, none⟩, 2, rfl, rfl, by simp, fun _ => ⟨w5.heap.size + 1, rfl, ⟨⟨by omega, by rw [g1, hsz]; omega, by omega, hDr⟩, by omega⟩, ?_⟩⟩
  have hrow8 := (g3 (w5.heap.size + 1) (by omega)).trans hrow
  intro j a hj
  match j, hj with
  | 0, hj =>
    simp only [List.getElem?_cons_zero, Option.some.injEq] at hj
    subst hj
    refine ⟨_, ⟨_, rfl, fun i u hi => ?_⟩, (RdE.kept n (fun k hk => ?_) (fun k hk => ?_) _ _ hre).le (Nat.le_max_left _ _)⟩
    · exact (cell_of_row _ _ _ _ _ _ hrow8).trans ((row_two i u).1 hi)
    · exact (g3 k hk.2).trans (hsT.block k hk.1.2.1 hk.1.2.2.1 hk.1.2.2.2)
    · have h1 := okS.step (B := W.heap.size) hsT
      have h2 := h1.2 k hk.1
      exact ⟨⟨h2.1, by rw [g1]; exact h2.2.1, h2.2.2⟩, hk.2⟩
  | 1, hj =>
    simp only [List.getElem?_cons_succ, List.getElem?_cons_zero, Option.some.injEq] at hj
    subst hj
    refine ⟨_, ⟨_, rfl, fun i u hi => ?_⟩, (RdE.kept n5 (fun k hk => ?_) (fun k hk => ?_) _ _ hr5).le (Nat.le_max_right _ _)⟩
    · exact (cell_of_row _ _ _ _ _ _ hrow8).trans ((row_two i u).2 hi)
    · exact (g3 k (by have := hk.1; omega)).trans (hb2.block k hk.2.1)
    · exact ⟨⟨by have := hk.1; omega, by have := hk.2.1; rw [g1, hsz]; omega, hk.2.2⟩, by have := hk.1; omega⟩
  | j + 2, hj => simp at hj
theorem RelXQ.next {gp : Nat} {L : List Tok} {sz dp : Nat} {D D' D5 : Option Nat} {ds : List Dg} {W wr wn w5 : World} {i0 j b t5 n n5 : Nat} {e e2 : Tr} {dsn : List Dg} {k5 : Nat} {x5 : ByteArray} {m5 : Nat} {p5 : Option Addr} {l5 c5 : Nat} {k6 : Nat} {x6 : ByteArray} {m6 : Nat} {p6 : Option Addr} {l6 c6 : Nat} {x : ByteArray}
    (hsC : Stp gp D D' W wr) (hBC : Below wr.heap.size wr wn) (hs5 : Stp gp D' D5 wn w5) (hp5 : QSt gp w5 L sz dsn dp D5) (hge : gp < b) (heb : W.heap.size ≤ b) (hebD : some b ≠ D') (heb2 : b < wr.heap.size)
    (hec5 : w5.heap[b]? = some (.cells #[.int .i64 (k5 : Int), .string x5, .int .i64 (m5 : Int), .slice p5 l5 c5, .int .i64 (exF e : Int), .int .i64 (exT e : Int)] 102 (0, 0)))
    (hre : RdE n (okX W.heap.size gp D' b wr) wr e (.agg #[.int .i64 (k5 : Int), .string x5, .int .i64 (m5 : Int), .slice p5 l5 c5, .int .i64 (exF e : Int), .int .i64 (exT e : Int)]))
    (hr5 : RdE n5 (okS wn.heap.size gp D5 w5) w5 e2 (.agg #[.int .i64 (k6 : Int), .string x6, .int .i64 (m6 : Int), .slice p6 l6 c6, .int .i64 (exF e2 : Int), .int .i64 (exT e2 : Int)]))
    (hi0 : i0 ≤ j) (hk : j ≤ L.length) (hz : ∃ z, zE L z (j - i0) (exMk 3 x 0 [e, e2] (exF e) t5)) (hd1 : ds.length ≤ dsn.length) (hd2 : dsn.length + 4 * (L.length - j) ≤ ds.length + 4 * (L.length - i0) + 1) (o : Obj) :
    RelXQ gp L sz dp D ds W i0 b (.int .i64 (j : Int)) (((((((w5.alloc o).alloc (.cells #[.int .i64 (k5 : Int), .string x5, .int .i64 (m5 : Int), .slice p5 l5 c5, .int .i64 (exF e : Int), .int .i64 (exT e : Int), .int .i64 (k6 : Int), .string x6, .int .i64 (m6 : Int), .slice p6 l6 c6, .int .i64 (exF e2 : Int), .int .i64 (exT e2 : Int)] 102)).setCell ⟨b, 0, none⟩ (.int .i64 3)).setCell ⟨b, 1, none⟩ (.string x)).setCell ⟨b, 2, none⟩ (.int .i64 0)).setCell ⟨b, 3, none⟩ (.slice (some ⟨w5.heap.size + 1, 0, none⟩) 2 2)).setCell ⟨b, 4, none⟩ (.int .i64 (exF e : Int)) |>.setCell ⟨b, 5, none⟩ (.int .i64 (t5 : Int))) := by
  obtain ⟨o2, ho2⟩ : ∃ o2, o2 = Obj.cells #[.int .i64 (k5 : Int), .string x5, .int .i64 (m5 : Int), .slice p5 l5 c5, .int .i64 (exF e : Int), .int .i64 (exT e : Int), .int .i64 (k6 : Int), .string x6, .int .i64 (m6 : Int), .slice p6 l6 c6, .int .i64 (exF e2 : Int), .int .i64 (exT e2 : Int)] 102 := ⟨_, rfl⟩
  rw [← ho2]
  have hb2 : Below w5.heap.size w5 ((w5.alloc o).alloc o2) := ((Below.refl w5.heap.size w5).alloc (Nat.le_refl _) o).alloc (by simp) o2
  have hrow : ((w5.alloc o).alloc o2).heap[w5.heap.size + 1]? = some o2 := by
    have := heap_alloc_new (w5.alloc o) o2
    simpa using this
  have hsz : ((w5.alloc o).alloc o2).heap.size = w5.heap.size + 2 := by simp
  have hDb : some b ≠ D5 := fun h => by
    rcases hs5.own with e1 | ⟨j, e1, hj⟩
    · exact hebD (by rw [← e1]; exact h)
    · rw [e1] at h; injection h with h; have := hBC.size; omega
  have hDr : some (w5.heap.size + 1) ≠ D5 := fun h => by
    obtain ⟨p, c, v, h1, h2, h3, h4⟩ := hp5.blk
    have := (h3.lt _ (h4.trans h.symm)).2
    omega
  have hgw := hp5.gp_lt
  have hsT : Stp gp D' D5 wr ((w5.alloc o).alloc o2) := ((Stp.below hBC).trans hs5).trans (Stp.below hb2)
  have hp6 := hp5.below hb2
  have hec6 := (cells62 hec5 o o2).1
  obtain ⟨g1, g2, g3⟩ := set6 hec6 (.int .i64 3) (.string x) (.int .i64 0) (.slice (some ⟨w5.heap.size + 1, 0, none⟩) 2 2) (.int .i64 (exF e : Int)) (.int .i64 (t5 : Int))
  have hp8 := (((((hp6.set hge hDb 0 (.int .i64 3)).set hge hDb 1 (.string x)).set hge hDb 2 (.int .i64 0)).set hge hDb 3 (.slice (some ⟨w5.heap.size + 1, 0, none⟩) 2 2)).set hge hDb 4 (.int .i64 (exF e : Int))).set hge hDb 5 (.int .i64 (t5 : Int))
  have hs8 := ((((((hsC.trans hsT).set heb 0 (.int .i64 3)).set heb 1 (.string x)).set heb 2 (.int .i64 0)).set heb 3 (.slice (some ⟨w5.heap.size + 1, 0, none⟩) 2 2)).set heb 4 (.int .i64 (exF e : Int))).set heb 5 (.int .i64 (t5 : Int))
  exact RelXQ.fin hsC hBC hs5 hgw heb heb2 hre hr5 hi0 hk hz hd1 hd2 (by rw [hrow, ho2]) hsz hb2 hDb hDr hsT g1 g2 g3 hp8 hs8
theorem zE_op {L : List Tok} {i k j f t : Nat} {x : ByteArray} {e y : Tr} (h0 : 0 < tight x) (h1 : ∃ z, zE L z (k - i) e) (h2 : ∃ z, zE L z (j - (k + 1)) y) (hik : i ≤ k) (hkj : k + 1 ≤ j) : ∃ z, zE L z (j - i) (exMk 3 x 0 [e, y] f t) := by
  obtain ⟨a, h1⟩ := h1
  obtain ⟨b, h2⟩ := h2
  exact ⟨max a b + 1, 3, x, 0, [e, y], f, t, rfl, by omega, by simp, .inr (.inr (.inl ⟨rfl, h0, rfl, k - i, j - (k + 1), by omega, zE_up L a _ _ _ e (Nat.le_max_left a b) (Nat.le_refl _) h1, j - (k + 1), 0, by omega, zE_up L b _ _ _ y (Nat.le_max_right a b) (Nat.le_refl _) h2, trivial⟩))⟩
section
variable {gp : Nat} {w : World} {L : List Tok} {sz dp : Nat} {ds : List Dg} {D : Option Nat}
set_option maxHeartbeats 1000000 in
set_option maxRecDepth 100000 in
theorem xExpr_any (f : Nat) (hA : XA L sz f) (hE : XX L sz f) (hp : QSt gp w L sz ds dp D) (i w0 : Nat) (hi : i ≤ L.length) (hf : 2 * (L.length - i) + 2 ≤ f + 1) (hw0 : w0 ≤ 4) (hds : ds.length + 4 * (L.length - i) + 20 ≤ 1099511627776) :
    Calls Try.prog 101 #[.pointer (some ⟨gp, 0, none⟩), .int .i64 (i : Int), .int .i64 (w0 : Int)] w fun e w' => ∃ v x j, e = .returned (.tuple #[v, .int .i64 ((j : Nat) : Int)]) ∧ XE gp L sz dp D ds w w' i j x v := by
  have hlen := hp.len
  have hsiz := hp.siz
  have hgp := hp.gp_lt
  have hb0 := (Below.refl w.heap.size w).alloc (Nat.le_refl _) (.cells #[.int .i64 0, .string ⟨#[]⟩, .int .i64 0, .slice none 0 0, .int .i64 0, .int .i64 0] 102)
  have hp0 := hp.below hb0
  go_enter Try.func101, Try.ntmps101
  go_wp2_with (first
    | (go_at_call 112; refine (hA gp _ ds dp D i hp0 hi (by omega) hds).mono ?_; rintro e w2 ⟨v2, x2, j2, rfl, D2, n2, ds2, hp2, hs2, hr2, hz2, hi2, hj2, hd2, he2⟩; obtain ⟨k4, x4, m4, p4, l4, c4, rfl⟩ := hr2.shape))
  go_loopw [1] (fun i' wr => RelXQ gp L sz dp D ds (w.alloc (.cells #[.int .i64 0, .string ⟨#[]⟩, .int .i64 0, .slice none 0 0, .int .i64 0, .int .i64 0] 102)) i w2.heap.size i' wr) (fun i' _ => upN (L.length + 1) i')
  case atStart => exact RelXQ.start hi2 hj2 hp2 hs2 hr2 hz2 hd2 he2
  case round =>
    obtain ⟨k, ds', e, D', n, k5, x5, m5, p5, l5, c5, rfl, hik, hk, hpC, hsC, heb, hebD, hec, hre, hzk, hdk, hek⟩ := hrel
    have htk := tk_smallQ hpC k
    have hx : (tk L sz k).x.size ≤ maxLen := by unfold maxLen; omega
    obtain ⟨t, HT⟩ : ∃ t, Hid (t = tight (tk L sz k).x) := ⟨_, rfl⟩
    have hfd := fun w2 => (tkFieldQ ((tk L sz k).k : Int) ((tk L sz k).a : Int) (tk L sz k).x w2).2
    have hBC := Below.refl wr.heap.size wr
    by_cases hgo : w0 ≤ t ∧ 0 < t
    · obtain ⟨hg1, hg2⟩ := hgo
      have hkl : k < L.length := tight_lt (L := L) (sz := sz) (i := k) (by rw [← HT.out]; exact hg2)
      have ht3 : t ≤ 3 := by rw [HT.out]; exact tight_le _
      have heb2 : w2.heap.size < wr.heap.size := (Array.getElem?_eq_some_iff.1 hec).1
      have hg2' := hp2.gp_lt
      have heb3 : w2.heap.size ≠ gp := by omega
      go_wp2_with (first
        | (go_at_call 38; refine (refT_any hpC k (by omega)).mono ?_; rintro e wn ⟨rfl, hbn⟩; unfold tkV; replace hBC := hBC.trans (hbn.mono hBC.size); replace hpC := hpC.below hbn; clear hbn)
        | (go_at_call 113; refine (refTight_any _ _ hx).mono ?_; rintro e wn ⟨rfl, hbn⟩; rw [← HT.out]; replace hBC := hBC.trans (hbn.mono hBC.size); replace hpC := hpC.below hbn; clear hbn)
        | (go_at_call 101; refine (hE gp _ ds' dp D' (k + 1) (t + 1) hpC (by omega) (by omega) (by omega) (by omega)).mono ?_; rintro e2 w5 ⟨v5, y5, j5, rfl, D5, n5, ds5, hp5, hs5, hr5, hz5, hi5, hj5, hd5, he5⟩; obtain ⟨k6, x6, m6, p6, l6, c6, rfl⟩ := hr5.shape; have hec5 := (hs5.block _ (Nat.lt_of_lt_of_le heb2 hBC.size) heb3 hebD).trans ((hBC.block _ heb2).trans hec); obtain ⟨q0, q1, q2, q3, q4, q5⟩ := cells6 hec5 (Below.refl _ _); have o0 := cell_alloc q0; have o1 := cell_alloc q1; have o2 := cell_alloc q2; have o3 := cell_alloc q3; have o4 := cell_alloc q4; have o5 := cell_alloc q5; have r0 := fun o => cell_alloc (o0 o); have r1 := fun o => cell_alloc (o1 o); have r2 := fun o => cell_alloc (o2 o); have r3 := fun o => cell_alloc (o3 o); have r4 := fun o => cell_alloc (o4 o); have r5 := fun o => cell_alloc (o5 o); have r6 := fun o o2 => (cells62 hec5 o o2).2))
      · have hzz := zE_op (f := exF e) (t := exT e) (by rw [← HT.out]; exact hg2) hzk hz5 hik hi5
        refine ⟨RelXQ.next (t5 := exT e) hsC hBC hs5 hp5 (by omega) heb hebD heb2 hec5 hre hr5 (by omega) hj5 hzz (by omega) (by omega) _, ?_⟩
        simp [upN, intOf]
        omega
      · have hzz := zE_op (f := exF e) (t := exT y5) (by rw [← HT.out]; exact hg2) hzk hz5 hik hi5
        refine ⟨RelXQ.next (t5 := exT y5) hsC hBC hs5 hp5 (by omega) heb hebD heb2 hec5 hre hr5 (by omega) hj5 hzz (by omega) (by omega) _, ?_⟩
        simp [upN, intOf]
        omega
    · skip
      by_cases h1 : w0 ≤ t
      · have ht0 : t = 0 := by omega
        subst ht0
        clear hgo
        go_wp2_with (first
          | (go_at_call 38; refine (refT_any hpC k (by omega)).mono ?_; rintro e wn ⟨rfl, hbn⟩; unfold tkV; replace hBC := hBC.trans (hbn.mono hBC.size); replace hpC := hpC.below hbn; clear hbn)
          | (go_at_call 113; refine (refTight_any _ _ hx).mono ?_; rintro e wn ⟨rfl, hbn⟩; rw [← HT.out]; replace hBC := hBC.trans (hbn.mono hBC.size); replace hpC := hpC.below hbn; clear hbn; obtain ⟨q0, q1, q2, q3, q4, q5⟩ := cells6 hec hBC; have hs5 := hsC.trans (Stp.below hBC); obtain ⟨hl1, hl2, hl3⟩ := laid hp hs5; have hl4 := hl3 0 _ rfl; have hl5 := hl3 1 _ rfl; have hl6 := hl3 2 _ rfl; have hl7 := hl3 3 _ rfl; have hl8 := hl3 4 _ rfl; have hl9 := hl3 5 _ rfl; clear hl3))
        exact bodyPost_ret (v := .tuple #[.agg #[.int .i64 (k5 : Int), .string x5, .int .i64 (m5 : Int), .slice p5 l5 c5, .int .i64 (exF e : Int), .int .i64 (exT e : Int)], .int .i64 (k : Int)]) (by simp [results, Try.results101, go_sem, hl4, hl5, hl6, hl7, hl8, hl9]) rfl ⟨_, e, k, rfl, xe_end hp hs5 hpC (RdE.kept n (fun k hk => hBC.block k hk.1.2.1) (fun k hk => ⟨hk.1.1, Nat.lt_of_lt_of_le hk.1.2.1 hBC.size, hk.1.2.2⟩) _ _ hre) (by simp) _ _ _ _ _ _ hzk hik hk hdk hek⟩
      · clear hgo
        go_wp2_with (first
          | (go_at_call 38; refine (refT_any hpC k (by omega)).mono ?_; rintro e wn ⟨rfl, hbn⟩; unfold tkV; replace hBC := hBC.trans (hbn.mono hBC.size); replace hpC := hpC.below hbn; clear hbn)
          | (go_at_call 113; refine (refTight_any _ _ hx).mono ?_; rintro e wn ⟨rfl, hbn⟩; rw [← HT.out]; replace hBC := hBC.trans (hbn.mono hBC.size); replace hpC := hpC.below hbn; clear hbn; obtain ⟨q0, q1, q2, q3, q4, q5⟩ := cells6 hec hBC; have hs5 := hsC.trans (Stp.below hBC); obtain ⟨hl1, hl2, hl3⟩ := laid hp hs5; have hl4 := hl3 0 _ rfl; have hl5 := hl3 1 _ rfl; have hl6 := hl3 2 _ rfl; have hl7 := hl3 3 _ rfl; have hl8 := hl3 4 _ rfl; have hl9 := hl3 5 _ rfl; clear hl3))
        exact bodyPost_ret (v := .tuple #[.agg #[.int .i64 (k5 : Int), .string x5, .int .i64 (m5 : Int), .slice p5 l5 c5, .int .i64 (exF e : Int), .int .i64 (exT e : Int)], .int .i64 (k : Int)]) (by simp [results, Try.results101, go_sem, hl4, hl5, hl6, hl7, hl8, hl9]) rfl ⟨_, e, k, rfl, xe_end hp hs5 hpC (RdE.kept n (fun k hk => hBC.block k hk.1.2.1) (fun k hk => ⟨hk.1.1, Nat.lt_of_lt_of_le hk.1.2.1 hBC.size, hk.1.2.2⟩) _ _ hre) (by simp) _ _ _ _ _ _ hzk hik hk hdk hek⟩
end
/-- All expressions, with so much fuel. -/
theorem xAll (L : List Tok) (sz f : Nat) : XA L sz f ∧ XX L sz f := by
  induction f with
  | zero =>
    refine ⟨?_, ?_⟩
    · intro gp w ds dp D i hp hi hf; omega
    · intro gp w ds dp D i w0 hp hi hf; omega
  | succ f ih =>
    refine ⟨?_, ?_⟩
    · intro gp w ds dp D i hp hi hf hds
      exact xAtom_rest hp i hi hds (fun h1 h2 h3 => xAtom_int hp i h1 h2 h3 hds) (fun h1 h2 h3 h4 => xAtom_par f ih.2 hp i h1 (by omega) h2 h3 h4 hds) (fun h1 h2 h3 h4 h5 h6 => xAtom_call f ih.2 hp i h1 (by omega) h2 h3 h4 h5 h6 hds)
    · intro gp w ds dp D i w0 hp hi hf hw hds
      exact xExpr_any f ih.1 ih.2 hp i w0 hi hf hw hds
/-- Expr, whatever it is called at. -/
theorem refExpr_any {gp : Nat} {w : World} {L : List Tok} {sz dp : Nat} {ds : List Dg} {D : Option Nat} (hp : QSt gp w L sz ds dp D) (i : Nat) (hi : i ≤ L.length) (hds : ds.length + 4 * (L.length - i) + 20 ≤ 1099511627776) :
    Calls Try.prog 101 #[.pointer (some ⟨gp, 0, none⟩), .int .i64 (i : Int), .int .i64 1] w fun e w' => ∃ v x j, e = .returned (.tuple #[v, .int .i64 ((j : Nat) : Int)]) ∧ XE gp L sz dp D ds w w' i j x v :=
  (xAll L sz (2 * (L.length - i) + 2)).2 gp w ds dp D i 1 hp hi (Nat.le_refl _) (by omega) hds
end Go.Proofs.Ytjpmnholpeidmaa


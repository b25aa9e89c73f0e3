/- Texts of this seat, one behind the other: LndR, LndS. -/
import Derived.Test.YtfioihehhlpgcaaGreatDoorZb08
import Derived.Deep.RegionHeld3
import Derived.BigRegion
namespace Go.Proofs.YtfioihehhlpgcaaGreatDoor
open Go.RowKit
attribute [local go_sem ↓] Go.wp_at_zero Go.wp_at_succ
section
variable {gp : Nat} {w : World} {L : List Tok} {sz i dp : Nat} {ds : List Dg} {D : Option Nat}
/-- A list of statements in memory. -/
def SlB (n B gp : Nat) (D : Option Nat) (w : World) (l : List Tr) (p : Option Addr) : Prop := SlT (okS B gp D w) (RdS n (okS B gp D w) w) w 15 l p
theorem SlB.step {n B : Nat} {D' : Option Nat} {w' : World} {l : List Tr} {p : Option Addr} (h : SlB n B gp D w l p) (hs : Stp gp D D' w w') : SlB n B gp D' w' l p := SlT.kept h (okS.step hs).1 (okS.step hs).2 (fun _ _ hv => hv.step hs)
theorem SlB.set {n B b : Nat} {l : List Tr} {p : Option Addr} (h : SlB n B gp D w l p) (hb : b < B) (o : Nat) (u : Value) : SlB n B gp D (w.setCell ⟨b, o, none⟩ u) l p := by
  have h1 : ∀ k, okS B gp D w k → (w.setCell ⟨b, o, none⟩ u).heap[k]? = w.heap[k]? := fun k hk => Below.heap_setCell w _ _ k (by have := hk.1; simp; omega)
  have h2 : ∀ k, okS B gp D w k → okS B gp D (w.setCell ⟨b, o, none⟩ u) k := fun k hk => ⟨hk.1, by simpa using hk.2.1, hk.2.2⟩
  exact SlT.kept h h1 h2 (RdS.kept n h1 h2)
theorem SlB.base {n B B' : Nat} {l : List Tr} {p : Option Addr} (h : SlB n B gp D w l p) (hB : B' ≤ B) : SlT (fun k => okS B' gp D w k ∧ True) (RdS n (fun k => okS B' gp D w k ∧ True) w) w 15 l p :=
  SlT.kept h (fun _ _ => rfl) (fun _ hk => ⟨⟨Nat.le_trans hB hk.1, hk.2⟩, trivial⟩) (RdS.kept n (fun _ _ => rfl) (fun _ hk => ⟨⟨Nat.le_trans hB hk.1, hk.2⟩, trivial⟩))
theorem SlB.le {n m B : Nat} {l : List Tr} {p : Option Addr} (h : SlB n B gp D w l p) (hm : n ≤ m) : SlB m B gp D w l p := SlT.kept h (fun _ _ => rfl) (fun _ hk => hk) (fun _ _ hv => hv.le hm)
/-- A block was read. -/
def ToldB (gp : Nat) (L : List Tok) (sz dp : Nat) (D : Option Nat) (ds : List Dg) (w w' : World) (r : R (List Tr)) (v : Value) : Prop := ∃ D' n p cap, PSt gp w' L sz r.i dp (ds ++ r.d) D' ∧ Stp gp D D' w w' ∧ v = .slice p r.v.length cap ∧ SlB n w.heap.size gp D' w' r.v p
/-- What block is to answer, with so much fuel. -/
def CBl (f : Nat) : Prop := ∀ {gp : Nat} {w : World} {L : List Tok} {sz i dp : Nat} {ds : List Dg} {D : Option Nat}, PSt gp w L sz i dp ds D → 50 * (L.length - i) + 48 ≤ f → ds.length + (pBlock L sz f dp i).d.length + 1 ≤ 1099511627776 →
  Calls Tryz.prog 152 #[.pointer (some ⟨gp, 0, none⟩)] w fun e w' => ∃ v, e = .returned v ∧ ToldB gp L sz dp D ds w w' (pBlock L sz f dp i) v
/-- A while, behind its word. -/
def pWh (L : List Tok) (sz f dp i : Nat) : R Tr :=
  let e := pE L sz dp i
  let b := pBlock L sz f dp e.i
  ⟨stMk 4 noB 0 0 false e.v b.v [] 0 0, b.i, e.d ++ b.d⟩
/-- An if, behind its word. -/
def pIf (L : List Tok) (sz f dp i : Nat) : R Tr :=
  let e := pE L sz dp i
  let b := pBlock L sz f dp e.i
  if isT L b.i kElse then
    let c := pBlock L sz f dp (b.i + 1)
    ⟨stMk 3 noB 0 0 false e.v b.v c.v 0 0, c.i, e.d ++ b.d ++ c.d⟩
  else ⟨stMk 3 noB 0 0 false e.v b.v [] 0 0, b.i, e.d ++ b.d⟩
set_option maxHeartbeats 2000000 in
set_option maxRecDepth 100000 in
theorem loopR_any (hp : PSt gp w L sz i dp ds D) {f : Nat} (hB : CBl f) (hf : 50 * (L.length - i) + 48 ≤ f) (hds : ds.length + (pWh L sz f dp i).d.length + 1 ≤ 1099511627776) :
    Calls Tryz.prog 193 #[.pointer (some ⟨gp, 0, none⟩)] w fun e w' => ∃ v, e = .returned v ∧ ToldS gp L sz dp D ds w w' (pWh L sz f dp i) v := by
  have hgp := hp.gp_lt
  have hb0 := (Below.refl w.heap.size w).alloc (Nat.le_refl _) (.cells #[.int .i64 0, .string ⟨#[]⟩, .int .i64 0, .int .i64 0, .bool false, .int .i64 0, .string ⟨#[]⟩, .int .i64 0, .slice none 0 0, .int .i64 0, .int .i64 0, .slice none 0 0, .slice none 0 0, .int .i64 0, .int .i64 0] 93)
  have hp0 := hp.below hb0
  have hfr := hp.fresh (Nat.le_refl w.heap.size)
  have hl0 := Loc.new hp #[.int .i64 0, .string ⟨#[]⟩, .int .i64 0, .int .i64 0, .bool false, .int .i64 0, .string ⟨#[]⟩, .int .i64 0, .slice none 0 0, .int .i64 0, .int .i64 0, .slice none 0 0, .slice none 0 0, .int .i64 0, .int .i64 0]
  have hfd := fun w2 => (tkField (tk L sz i) w2).2.2
  unfold pWh at hds ⊢
  simp only at hds ⊢
  have hge := (pE_ok (sz := sz) hp.okL dp hp.at_).1.ge
  generalize hX : pE L sz dp i = x at *
  generalize hY : pBlock L sz f dp x.i = y at *
  have hd1 : ds.length + x.d.length + 1 ≤ 1099511627776 := by simp only [List.length_append] at hds; omega
  have hd2 : (ds ++ x.d).length + y.d.length + 1 ≤ 1099511627776 := by simp only [List.length_append] at hds ⊢; omega
  go_enter Tryz.func193, Tryz.ntmps193
  go_wp2_with (first
    | (go_at_call 201; refine (expr_any hp0 (by rw [hX]; exact hd1)).mono ?_; rintro e w1 ⟨v, rfl, D1, n1, hp1, hs1', hr1⟩; rw [hX] at hp1 hr1; obtain ⟨k0, x0, m0, p0, l0, c0, hv⟩ := hr1.shape; subst hv; have hb1' := (Below.refl w1.heap.size w1).alloc (Nat.le_refl _) (.cells #[.int .i64 4, .string ⟨#[]⟩, .int .i64 0, .int .i64 0, .bool false, .int .i64 (k0 : Int), .string x0, .int .i64 (m0 : Int), .slice p0 l0 c0, .int .i64 (exF x.v : Int), .int .i64 (exT x.v : Int), .slice none 0 0, .slice none 0 0, .int .i64 0, .int .i64 0] 93); have hlA := Loc.new hp1 #[.int .i64 4, .string ⟨#[]⟩, .int .i64 0, .int .i64 0, .bool false, .int .i64 (k0 : Int), .string x0, .int .i64 (m0 : Int), .slice p0 l0 c0, .int .i64 (exF x.v : Int), .int .i64 (exT x.v : Int), .slice none 0 0, .slice none 0 0, .int .i64 0, .int .i64 0]; have hl1 := (hl0.step hs1').step (Stp.below hb1'); have hs1 := hs1'.trans (Stp.below hb1'); have hE1 := hr1.step (Stp.below hb1'); have hz : w.heap.size + 1 ≤ w1.heap.size := (by simpa using hs1'.size); have hnb : w.heap.size ≠ w1.heap.size := (by omega); have hn2 : ¬ w1.heap.size = w.heap.size := (by omega); have hn3 : ¬ w.heap.size = w1.heap.size := (by omega); have hsbz : (w.alloc (.cells #[.int .i64 0, .string ⟨#[]⟩, .int .i64 0, .int .i64 0, .bool false, .int .i64 0, .string ⟨#[]⟩, .int .i64 0, .slice none 0 0, .int .i64 0, .int .i64 0, .slice none 0 0, .slice none 0 0, .int .i64 0, .int .i64 0] 93)).heap.size ≤ w1.heap.size := hs1'.size; have hK1 := Stp.below (gp := gp) (D := D1) hb1')
    | (go_at_call 152; refine (hB (hp1.below hb1') (by omega) (by rw [hY]; exact hd2)).mono ?_; rintro e w2 ⟨v, rfl, D2, n2, p2, c2, hp2, hs2, rfl, hr2⟩; rw [hY] at hp2 hr2 ⊢; have hl2_ : Loc gp D2 w2 w1.heap.size #[.int .i64 4, .string ⟨#[]⟩, .int .i64 0, .int .i64 0, .bool false, .int .i64 (k0 : Int), .string x0, .int .i64 (m0 : Int), .slice p0 l0 c0, .int .i64 (exF x.v : Int), .int .i64 (exT x.v : Int), .slice none 0 0, .slice none 0 0, .int .i64 0, .int .i64 0] := Loc.step hlA hs2; have hm2_ := Loc.step hl1 hs2; have H2_ := Stp.trans hs1 hs2; obtain ⟨a0, a1, a2, a3, a4, a5, a6, a7, a8, a9, a10, a11, a12, a13, a14, af⟩ := fif_at hl2_.blk; obtain ⟨r0, r1, r2, r3, r4, r5, r6, r7, r8, r9, r10, r11, r12, r13, r14, rf⟩ := fif_at hm2_.blk))
  have hB2 : w1.heap.size < (w1.alloc (.cells #[.int .i64 4, .string ⟨#[]⟩, .int .i64 0, .int .i64 0, .bool false, .int .i64 (k0 : Int), .string x0, .int .i64 (m0 : Int), .slice p0 l0 c0, .int .i64 (exF x.v : Int), .int .i64 (exT x.v : Int), .slice none 0 0, .slice none 0 0, .int .i64 0, .int .i64 0] 93)).heap.size := by simp
  have hE7 := hr1.step ((hK1.trans hs2).set (Nat.le_refl _) 11 (.slice p2 y.v.length c2))
  have hE8 := RdE.kept n1 (fun _ _ => rfl) (fun k hk => (⟨⟨by have := hk.1; simpa using this, hk.2⟩, trivial⟩ : okS (w.heap.size + 1) gp D2 _ k ∧ True)) _ _ hE7
  have hT8 := (hr2.set hB2 11 (.slice p2 y.v.length c2)).base (B' := w.heap.size + 1) (by simp; omega)
  have H7 := (Stp.set H2_ hsbz 11 (.slice p2 y.v.length c2))
  have hp7 := (PSt.set hp2 hl2_.gp hl2_.ne 11 (.slice p2 y.v.length c2))
  have hrS : RdS (n2 + 1) (fun k => okS (w.heap.size + 1) gp D2 _ k ∧ True) _ (stMk 4 noB 0 0 false x.v y.v [] 0 0) (.agg #[.int .i64 4, .string ⟨#[]⟩, .int .i64 0, .int .i64 0, .bool false, .int .i64 (k0 : Int), .string x0, .int .i64 (m0 : Int), .slice p0 l0 c0, .int .i64 (exF x.v : Int), .int .i64 (exT x.v : Int), .slice p2 y.v.length c2, .slice none 0 0, .int .i64 0, .int .i64 0]) := ⟨4, noB, 0, 0, false, x.v, y.v, [], 0, 0, _, _, _, _, _, _, _, _, _, _, rfl, rfl, ⟨n1, hE8⟩, hT8, ⟨by simp, fun h => absurd h (by simp)⟩⟩
  obtain ⟨f1, f2, f3⟩ := st_fin hfr hp7 H7 hrS rfl
  exact bodyPost_ret (v := .agg #[.int .i64 4, .string ⟨#[]⟩, .int .i64 0, .int .i64 0, .bool false, .int .i64 (k0 : Int), .string x0, .int .i64 (m0 : Int), .slice p0 l0 c0, .int .i64 (exF x.v : Int), .int .i64 (exT x.v : Int), .slice p2 y.v.length c2, .slice none 0 0, .int .i64 0, .int .i64 0]) (by simp [results, Tryz.results193, go_sem, r0, r1, r2, r3, r4, r5, r6, r7, r8, r9, r10, r11, r12, r13, r14]) rfl ⟨_, rfl, D2, _, by simpa using f1, f2, f3⟩
set_option maxHeartbeats 2000000 in
set_option maxRecDepth 100000 in
theorem if_one (hp : PSt gp w L sz i dp ds D) {f : Nat} (hB : CBl f) (hf : 50 * (L.length - i) + 48 ≤ f) (hC : isT L (pBlock L sz f dp (pE L sz dp i).i).i kElse = false) (hds : ds.length + (pIf L sz f dp i).d.length + 1 ≤ 1099511627776) :
    Calls Tryz.prog 192 #[.pointer (some ⟨gp, 0, none⟩)] w fun e w' => ∃ v, e = .returned v ∧ ToldS gp L sz dp D ds w w' (pIf L sz f dp i) v := by
  have hgp := hp.gp_lt
  have hb0 := (Below.refl w.heap.size w).alloc (Nat.le_refl _) (.cells #[.int .i64 0, .string ⟨#[]⟩, .int .i64 0, .int .i64 0, .bool false, .int .i64 0, .string ⟨#[]⟩, .int .i64 0, .slice none 0 0, .int .i64 0, .int .i64 0, .slice none 0 0, .slice none 0 0, .int .i64 0, .int .i64 0] 93)
  have hp0 := hp.below hb0
  have hfr := hp.fresh (Nat.le_refl w.heap.size)
  have hl0 := Loc.new hp #[.int .i64 0, .string ⟨#[]⟩, .int .i64 0, .int .i64 0, .bool false, .int .i64 0, .string ⟨#[]⟩, .int .i64 0, .slice none 0 0, .int .i64 0, .int .i64 0, .slice none 0 0, .slice none 0 0, .int .i64 0, .int .i64 0]
  have hfd := fun w2 => (tkField (tk L sz i) w2).2.2
  unfold pIf at hds ⊢
  simp only [hC, Bool.false_eq_true, if_false] at hds ⊢
  have hge := (pE_ok (sz := sz) hp.okL dp hp.at_).1.ge
  have hle := (pE_ok (sz := sz) hp.okL dp hp.at_).1.le
  have hge2 := ((stmt_ok (sz := sz) hp.okL f).1 dp _ hle).ge
  generalize hX : pE L sz dp i = x at *
  generalize hY : pBlock L sz f dp x.i = y at *
  have hd1 : ds.length + x.d.length + 1 ≤ 1099511627776 := by simp only [List.length_append] at hds; omega
  have hd2 : (ds ++ x.d).length + y.d.length + 1 ≤ 1099511627776 := by simp only [List.length_append] at hds ⊢; omega
  go_enter Tryz.func192, Tryz.ntmps192
  go_wp2_with (first
    | (go_at_call 201; refine (expr_any hp0 (by rw [hX]; exact hd1)).mono ?_; rintro e w1 ⟨v, rfl, D1, n1, hp1, hs1', hr1⟩; rw [hX] at hp1 hr1; obtain ⟨k0, x0, m0, p0, l0, c0, hv⟩ := hr1.shape; subst hv; have hb1' := (Below.refl w1.heap.size w1).alloc (Nat.le_refl _) (.cells #[.int .i64 3, .string ⟨#[]⟩, .int .i64 0, .int .i64 0, .bool false, .int .i64 (k0 : Int), .string x0, .int .i64 (m0 : Int), .slice p0 l0 c0, .int .i64 (exF x.v : Int), .int .i64 (exT x.v : Int), .slice none 0 0, .slice none 0 0, .int .i64 0, .int .i64 0] 93); have hlA := Loc.new hp1 #[.int .i64 3, .string ⟨#[]⟩, .int .i64 0, .int .i64 0, .bool false, .int .i64 (k0 : Int), .string x0, .int .i64 (m0 : Int), .slice p0 l0 c0, .int .i64 (exF x.v : Int), .int .i64 (exT x.v : Int), .slice none 0 0, .slice none 0 0, .int .i64 0, .int .i64 0]; have hl1 := (hl0.step hs1').step (Stp.below hb1'); have hs1 := hs1'.trans (Stp.below hb1'); have hE1 := hr1.step (Stp.below hb1'); have hz : w.heap.size + 1 ≤ w1.heap.size := (by simpa using hs1'.size); have hnb : w.heap.size ≠ w1.heap.size := (by omega); have hn2 : ¬ w1.heap.size = w.heap.size := (by omega); have hn3 : ¬ w.heap.size = w1.heap.size := (by omega); have hsbz : (w.alloc (.cells #[.int .i64 0, .string ⟨#[]⟩, .int .i64 0, .int .i64 0, .bool false, .int .i64 0, .string ⟨#[]⟩, .int .i64 0, .slice none 0 0, .int .i64 0, .int .i64 0, .slice none 0 0, .slice none 0 0, .int .i64 0, .int .i64 0] 93)).heap.size ≤ w1.heap.size := hs1'.size; have hK1 := Stp.below (gp := gp) (D := D1) hb1')
    | (go_at_call 152; refine (hB (hp1.below hb1') (by omega) (by rw [hY]; exact hd2)).mono ?_; rintro e w2 ⟨v, rfl, D2, n2, p2, c2, hp2, hs2, rfl, hr2⟩; rw [hY] at hp2 hr2 ⊢; have hl2_ : Loc gp D2 w2 w1.heap.size #[.int .i64 3, .string ⟨#[]⟩, .int .i64 0, .int .i64 0, .bool false, .int .i64 (k0 : Int), .string x0, .int .i64 (m0 : Int), .slice p0 l0 c0, .int .i64 (exF x.v : Int), .int .i64 (exT x.v : Int), .slice none 0 0, .slice none 0 0, .int .i64 0, .int .i64 0] := Loc.step hlA hs2; have hm2_ := Loc.step hl1 hs2; have H2_ := Stp.trans hs1 hs2; obtain ⟨a0, a1, a2, a3, a4, a5, a6, a7, a8, a9, a10, a11, a12, a13, a14, af⟩ := fif_at hl2_.blk)
    | (go_at_call 105; have qp3_0 := PSt.loc hp2 hl2_ 11 (.slice p2 y.v.length c2); have qq3_0 := Loc.set hl2_ 11 (.slice p2 y.v.length c2); have qs3_0 := Loc.far hm2_ hnb 11 (.slice p2 y.v.length c2); have qH3_0 := Stp.set H2_ hsbz 11 (.slice p2 y.v.length c2); refine (take_any qp3_0 kElse (by decide)).mono ?_; rintro e w3 ⟨rfl, hp3, hs3⟩; rw [hC] at hp3 ⊢; simp only [Bool.false_eq_true, if_false] at hp3; have hl3_ : Loc gp D2 w3 w1.heap.size #[.int .i64 3, .string ⟨#[]⟩, .int .i64 0, .int .i64 0, .bool false, .int .i64 (k0 : Int), .string x0, .int .i64 (m0 : Int), .slice p0 l0 c0, .int .i64 (exF x.v : Int), .int .i64 (exT x.v : Int), .slice p2 y.v.length c2, .slice none 0 0, .int .i64 0, .int .i64 0] := Loc.step qq3_0 hs3; have hm3_ := Loc.step qs3_0 hs3; have H3_ := Stp.trans qH3_0 hs3; clear a0 a1 a2 a3 a4 a5 a6 a7 a8 a9 a10 a11 a12 a13 a14 af; obtain ⟨a0, a1, a2, a3, a4, a5, a6, a7, a8, a9, a10, a11, a12, a13, a14, af⟩ := fif_at hl3_.blk; obtain ⟨r0, r1, r2, r3, r4, r5, r6, r7, r8, r9, r10, r11, r12, r13, r14, rf⟩ := fif_at hm3_.blk))
  have hB2 : w1.heap.size < (w1.alloc (.cells #[.int .i64 3, .string ⟨#[]⟩, .int .i64 0, .int .i64 0, .bool false, .int .i64 (k0 : Int), .string x0, .int .i64 (m0 : Int), .slice p0 l0 c0, .int .i64 (exF x.v : Int), .int .i64 (exT x.v : Int), .slice none 0 0, .slice none 0 0, .int .i64 0, .int .i64 0] 93)).heap.size := by simp
  have hE7 := hr1.step (((hK1.trans hs2).set (Nat.le_refl _) 11 (.slice p2 y.v.length c2)).trans hs3)
  have hE8 := RdE.kept n1 (fun _ _ => rfl) (fun k hk => (⟨⟨by have := hk.1; simpa using this, hk.2⟩, trivial⟩ : okS (w.heap.size + 1) gp D2 _ k ∧ True)) _ _ hE7
  have hT8 := ((hr2.set hB2 11 (.slice p2 y.v.length c2)).step hs3).base (B' := w.heap.size + 1) (by simp; omega)
  have H7 := H3_
  have hp7 := hp3
  have hrS : RdS (n2 + 1) (fun k => okS (w.heap.size + 1) gp D2 _ k ∧ True) _ (stMk 3 noB 0 0 false x.v y.v [] 0 0) (.agg #[.int .i64 3, .string ⟨#[]⟩, .int .i64 0, .int .i64 0, .bool false, .int .i64 (k0 : Int), .string x0, .int .i64 (m0 : Int), .slice p0 l0 c0, .int .i64 (exF x.v : Int), .int .i64 (exT x.v : Int), .slice p2 y.v.length c2, .slice none 0 0, .int .i64 0, .int .i64 0]) := ⟨3, noB, 0, 0, false, x.v, y.v, [], 0, 0, _, _, _, _, _, _, _, _, _, _, rfl, rfl, ⟨n1, hE8⟩, hT8, ⟨by simp, fun h => absurd h (by simp)⟩⟩
  obtain ⟨f1, f2, f3⟩ := st_fin hfr hp7 H7 hrS rfl
  exact bodyPost_ret (v := .agg #[.int .i64 3, .string ⟨#[]⟩, .int .i64 0, .int .i64 0, .bool false, .int .i64 (k0 : Int), .string x0, .int .i64 (m0 : Int), .slice p0 l0 c0, .int .i64 (exF x.v : Int), .int .i64 (exT x.v : Int), .slice p2 y.v.length c2, .slice none 0 0, .int .i64 0, .int .i64 0]) (by simp [results, Tryz.results192, go_sem, r0, r1, r2, r3, r4, r5, r6, r7, r8, r9, r10, r11, r12, r13, r14]) rfl ⟨_, rfl, D2, _, by simpa using f1, f2, f3⟩
set_option maxHeartbeats 2000000 in
set_option maxRecDepth 100000 in
theorem if_two (hp : PSt gp w L sz i dp ds D) {f : Nat} (hB : CBl f) (hf : 50 * (L.length - i) + 48 ≤ f) (hC : isT L (pBlock L sz f dp (pE L sz dp i).i).i kElse = true) (hds : ds.length + (pIf L sz f dp i).d.length + 1 ≤ 1099511627776) :
    Calls Tryz.prog 192 #[.pointer (some ⟨gp, 0, none⟩)] w fun e w' => ∃ v, e = .returned v ∧ ToldS gp L sz dp D ds w w' (pIf L sz f dp i) v := by
  have hgp := hp.gp_lt
  have hb0 := (Below.refl w.heap.size w).alloc (Nat.le_refl _) (.cells #[.int .i64 0, .string ⟨#[]⟩, .int .i64 0, .int .i64 0, .bool false, .int .i64 0, .string ⟨#[]⟩, .int .i64 0, .slice none 0 0, .int .i64 0, .int .i64 0, .slice none 0 0, .slice none 0 0, .int .i64 0, .int .i64 0] 93)
  have hp0 := hp.below hb0
  have hfr := hp.fresh (Nat.le_refl w.heap.size)
  have hl0 := Loc.new hp #[.int .i64 0, .string ⟨#[]⟩, .int .i64 0, .int .i64 0, .bool false, .int .i64 0, .string ⟨#[]⟩, .int .i64 0, .slice none 0 0, .int .i64 0, .int .i64 0, .slice none 0 0, .slice none 0 0, .int .i64 0, .int .i64 0]
  have hfd := fun w2 => (tkField (tk L sz i) w2).2.2
  unfold pIf at hds ⊢
  simp only [hC, if_true] at hds ⊢
  have hge := (pE_ok (sz := sz) hp.okL dp hp.at_).1.ge
  have hle := (pE_ok (sz := sz) hp.okL dp hp.at_).1.le
  have hge2 := ((stmt_ok (sz := sz) hp.okL f).1 dp _ hle).ge
  generalize hX : pE L sz dp i = x at *
  generalize hY : pBlock L sz f dp x.i = y at *
  generalize hU : pBlock L sz f dp (y.i + 1) = u at *
  have hd1 : ds.length + x.d.length + 1 ≤ 1099511627776 := by simp only [List.length_append] at hds; omega
  have hd2 : (ds ++ x.d).length + y.d.length + 1 ≤ 1099511627776 := by simp only [List.length_append] at hds ⊢; omega
  have hd3 : (ds ++ x.d ++ y.d).length + u.d.length + 1 ≤ 1099511627776 := by simp only [List.length_append] at hds ⊢; omega
  have F1 : Hid (1 = 1) := rfl
  go_enter Tryz.func192, Tryz.ntmps192
  go_wp2_with (first
    | (go_at_call 201; refine (expr_any hp0 (by rw [hX]; exact hd1)).mono ?_; rintro e w1 ⟨v, rfl, D1, n1, hp1, hs1', hr1⟩; rw [hX] at hp1 hr1; obtain ⟨k0, x0, m0, p0, l0, c0, hv⟩ := hr1.shape; subst hv; have hb1' := (Below.refl w1.heap.size w1).alloc (Nat.le_refl _) (.cells #[.int .i64 3, .string ⟨#[]⟩, .int .i64 0, .int .i64 0, .bool false, .int .i64 (k0 : Int), .string x0, .int .i64 (m0 : Int), .slice p0 l0 c0, .int .i64 (exF x.v : Int), .int .i64 (exT x.v : Int), .slice none 0 0, .slice none 0 0, .int .i64 0, .int .i64 0] 93); have hlA := Loc.new hp1 #[.int .i64 3, .string ⟨#[]⟩, .int .i64 0, .int .i64 0, .bool false, .int .i64 (k0 : Int), .string x0, .int .i64 (m0 : Int), .slice p0 l0 c0, .int .i64 (exF x.v : Int), .int .i64 (exT x.v : Int), .slice none 0 0, .slice none 0 0, .int .i64 0, .int .i64 0]; have hl1 := (hl0.step hs1').step (Stp.below hb1'); have hs1 := hs1'.trans (Stp.below hb1'); have hE1 := hr1.step (Stp.below hb1'); have hz : w.heap.size + 1 ≤ w1.heap.size := (by simpa using hs1'.size); have hnb : w.heap.size ≠ w1.heap.size := (by omega); have hn2 : ¬ w1.heap.size = w.heap.size := (by omega); have hn3 : ¬ w.heap.size = w1.heap.size := (by omega); have hsbz : (w.alloc (.cells #[.int .i64 0, .string ⟨#[]⟩, .int .i64 0, .int .i64 0, .bool false, .int .i64 0, .string ⟨#[]⟩, .int .i64 0, .slice none 0 0, .int .i64 0, .int .i64 0, .slice none 0 0, .slice none 0 0, .int .i64 0, .int .i64 0] 93)).heap.size ≤ w1.heap.size := hs1'.size; have hK1 := Stp.below (gp := gp) (D := D1) hb1')
    | (go_at_call 152; have f := F1; clear f; refine (hB (hp1.below hb1') (by omega) (by rw [hY]; exact hd2)).mono ?_; rintro e w2 ⟨v, rfl, D2, n2, p2, c2, hp2, hs2, rfl, hr2⟩; have f := F1; clear f F1; rw [hY] at hp2 hr2 ⊢; have hl2_ : Loc gp D2 w2 w1.heap.size #[.int .i64 3, .string ⟨#[]⟩, .int .i64 0, .int .i64 0, .bool false, .int .i64 (k0 : Int), .string x0, .int .i64 (m0 : Int), .slice p0 l0 c0, .int .i64 (exF x.v : Int), .int .i64 (exT x.v : Int), .slice none 0 0, .slice none 0 0, .int .i64 0, .int .i64 0] := Loc.step hlA hs2; have hm2_ := Loc.step hl1 hs2; have H2_ := Stp.trans hs1 hs2; obtain ⟨a0, a1, a2, a3, a4, a5, a6, a7, a8, a9, a10, a11, a12, a13, a14, af⟩ := fif_at hl2_.blk)
    | (go_at_call 105; have qp3_0 := PSt.loc hp2 hl2_ 11 (.slice p2 y.v.length c2); have qq3_0 := Loc.set hl2_ 11 (.slice p2 y.v.length c2); have qs3_0 := Loc.far hm2_ hnb 11 (.slice p2 y.v.length c2); have qH3_0 := Stp.set H2_ hsbz 11 (.slice p2 y.v.length c2); refine (take_any qp3_0 kElse (by decide)).mono ?_; rintro e w3 ⟨rfl, hp3, hs3⟩; rw [hC] at hp3 ⊢; simp only [if_true] at hp3; have hl3_ : Loc gp D2 w3 w1.heap.size #[.int .i64 3, .string ⟨#[]⟩, .int .i64 0, .int .i64 0, .bool false, .int .i64 (k0 : Int), .string x0, .int .i64 (m0 : Int), .slice p0 l0 c0, .int .i64 (exF x.v : Int), .int .i64 (exT x.v : Int), .slice p2 y.v.length c2, .slice none 0 0, .int .i64 0, .int .i64 0] := Loc.step qq3_0 hs3; have hm3_ := Loc.step qs3_0 hs3; have H3_ := Stp.trans qH3_0 hs3; clear a0 a1 a2 a3 a4 a5 a6 a7 a8 a9 a10 a11 a12 a13 a14 af; obtain ⟨a0, a1, a2, a3, a4, a5, a6, a7, a8, a9, a10, a11, a12, a13, a14, af⟩ := fif_at hl3_.blk)
    | (go_at_call 152; refine (hB hp3 (by omega) (by rw [hU]; exact hd3)).mono ?_; rintro e w4 ⟨v, rfl, D4, n4, p4, c4, hp4, hs4, rfl, hr4⟩; rw [hU] at hp4 hr4 ⊢; have hl4_ : Loc gp D4 w4 w1.heap.size #[.int .i64 3, .string ⟨#[]⟩, .int .i64 0, .int .i64 0, .bool false, .int .i64 (k0 : Int), .string x0, .int .i64 (m0 : Int), .slice p0 l0 c0, .int .i64 (exF x.v : Int), .int .i64 (exT x.v : Int), .slice p2 y.v.length c2, .slice none 0 0, .int .i64 0, .int .i64 0] := Loc.step hl3_ hs4; have hm4_ := Loc.step hm3_ hs4; have H4_ := Stp.trans H3_ hs4; clear a0 a1 a2 a3 a4 a5 a6 a7 a8 a9 a10 a11 a12 a13 a14 af; obtain ⟨a0, a1, a2, a3, a4, a5, a6, a7, a8, a9, a10, a11, a12, a13, a14, af⟩ := fif_at hl4_.blk; obtain ⟨r0, r1, r2, r3, r4, r5, r6, r7, r8, r9, r10, r11, r12, r13, r14, rf⟩ := fif_at hm4_.blk))
  have hB2 : w1.heap.size < (w1.alloc (.cells #[.int .i64 3, .string ⟨#[]⟩, .int .i64 0, .int .i64 0, .bool false, .int .i64 (k0 : Int), .string x0, .int .i64 (m0 : Int), .slice p0 l0 c0, .int .i64 (exF x.v : Int), .int .i64 (exT x.v : Int), .slice none 0 0, .slice none 0 0, .int .i64 0, .int .i64 0] 93)).heap.size := by simp
  have hB4 : w1.heap.size < w3.heap.size := hl3_.lt
  have hE7 := hr1.step ((((((hK1.trans hs2).set (Nat.le_refl _) 11 (.slice p2 y.v.length c2)).trans hs3).trans hs4)).set (Nat.le_refl _) 12 (.slice p4 u.v.length c4))
  have hE8 := RdE.kept n1 (fun _ _ => rfl) (fun k hk => (⟨⟨by have := hk.1; simpa using this, hk.2⟩, trivial⟩ : okS (w.heap.size + 1) gp D4 _ k ∧ True)) _ _ hE7
  have hT8 := ((((((hr2.set hB2 11 (.slice p2 y.v.length c2)).step hs3).step hs4).set hB2 12 (.slice p4 u.v.length c4)).le (Nat.le_max_left n2 n4))).base (B' := w.heap.size + 1) (by simp; omega)
  have hU8 := ((hr4.set hB4 12 (.slice p4 u.v.length c4)).le (Nat.le_max_right n2 n4)).base (B' := w.heap.size + 1) (by omega)
  have H7 := (Stp.set H4_ hsbz 12 (.slice p4 u.v.length c4))
  have hp7 := (PSt.set hp4 hl4_.gp hl4_.ne 12 (.slice p4 u.v.length c4))
  have hrS : RdS (max n2 n4 + 1) (fun k => okS (w.heap.size + 1) gp D4 _ k ∧ True) _ (stMk 3 noB 0 0 false x.v y.v u.v 0 0) (.agg #[.int .i64 3, .string ⟨#[]⟩, .int .i64 0, .int .i64 0, .bool false, .int .i64 (k0 : Int), .string x0, .int .i64 (m0 : Int), .slice p0 l0 c0, .int .i64 (exF x.v : Int), .int .i64 (exT x.v : Int), .slice p2 y.v.length c2, .slice p4 u.v.length c4, .int .i64 0, .int .i64 0]) := ⟨3, noB, 0, 0, false, x.v, y.v, u.v, 0, 0, _, _, _, _, _, _, _, _, _, _, rfl, rfl, ⟨n1, hE8⟩, hT8, hU8⟩
  obtain ⟨f1, f2, f3⟩ := st_fin hfr hp7 H7 hrS rfl
  exact bodyPost_ret (v := .agg #[.int .i64 3, .string ⟨#[]⟩, .int .i64 0, .int .i64 0, .bool false, .int .i64 (k0 : Int), .string x0, .int .i64 (m0 : Int), .slice p0 l0 c0, .int .i64 (exF x.v : Int), .int .i64 (exT x.v : Int), .slice p2 y.v.length c2, .slice p4 u.v.length c4, .int .i64 0, .int .i64 0]) (by simp [results, Tryz.results192, go_sem, r0, r1, r2, r3, r4, r5, r6, r7, r8, r9, r10, r11, r12, r13, r14]) rfl ⟨_, rfl, D4, _, by simpa using f1, f2, f3⟩
theorem choiceR_any (hp : PSt gp w L sz i dp ds D) {f : Nat} (hB : CBl f) (hf : 50 * (L.length - i) + 48 ≤ f) (hds : ds.length + (pIf L sz f dp i).d.length + 1 ≤ 1099511627776) :
    Calls Tryz.prog 192 #[.pointer (some ⟨gp, 0, none⟩)] w fun e w' => ∃ v, e = .returned v ∧ ToldS gp L sz dp D ds w w' (pIf L sz f dp i) v := by
  cases hC : isT L (pBlock L sz f dp (pE L sz dp i).i).i kElse
  · exact if_one hp hB hf hC hds
  · exact if_two hp hB hf hC hds
end
end Go.Proofs.YtfioihehhlpgcaaGreatDoor
namespace Go.Proofs.YtfioihehhlpgcaaGreatDoor
open Go.RowKit
attribute [local go_sem ↓] Go.wp_at_zero Go.wp_at_succ
section
variable {gp : Nat} {w : World} {L : List Tok} {sz i dp : Nat} {ds : List Dg} {D : Option Nat}
/-- A statement with its places. -/
def reT : Tr → Nat → Nat → Tr
  | .agg [a, b, c, d, e, f, g, h, _, _], x, y => .agg [a, b, c, d, e, f, g, h, .lit (.int .i64 (x : Int)), .lit (.int .i64 (y : Int))]
  | s, _, _ => s
theorem reT_mk (k : Nat) (x : ByteArray) (a lb : Nat) (o : Bool) (e : Tr) (th el : List Tr) (f t f' t' : Nat) : reT (stMk k x a lb o e th el f t) f' t' = stMk k x a lb o e th el f' t' := rfl
/-- What is read of a statement, with its places. -/
def tmS (L : List Tok) (sz i : Nat) (r : R Tr) : R Tr := ⟨reT r.v (tk L sz i).a (upTo (tk L sz i).a (endT L sz r.i)), r.i, r.d⟩
theorem RdS.reT {n : Nat} {ok : Nat → Prop} {w : World} {s : Tr} {u0 u1 u2 u3 u4 u5 u6 u7 u8 u9 u10 u11 u12 : Value} {f t : Value} (h : RdS n ok w s (.agg #[u0, u1, u2, u3, u4, u5, u6, u7, u8, u9, u10, u11, u12, f, t])) (f' t' : Nat) : RdS n ok w (reT s f' t') (.agg #[u0, u1, u2, u3, u4, u5, u6, u7, u8, u9, u10, u11, u12, .int .i64 (f' : Int), .int .i64 (t' : Int)]) := by
  cases n with
  | zero => exact h.elim
  | succ n =>
    obtain ⟨k, x, a, lb, op, e, th, el, f0, t0, d0, d1, d2, d3, d4, d5, p1, c1, p2, c2, rfl, hv, hE, h1, h2⟩ := h
    injection hv with hv
    simp at hv
    obtain ⟨rfl, rfl, rfl, rfl, rfl, rfl, rfl, rfl, rfl, rfl, rfl, rfl, rfl, rfl, rfl⟩ := hv
    exact ⟨k, x, a, lb, op, e, th, el, f', t', _, _, _, _, _, _, p1, c1, p2, c2, reT_mk _ _ _ _ _ _ _ _ _ _ _ _, rfl, hE, h1, h2⟩
theorem RdS.drewn {w' : World} {n B : Nat} {e : Tr} {v : Value} (h : RdS n (okS B gp D w') w' e v) : RdS n (okS B gp D w'.drew) w'.drew e v := RdS.kept n (ok := okS B gp D w') (ok' := okS B gp D w'.drew) (w := w') (w' := w'.drew) (fun _ _ => rfl) (fun _ hk => hk) e v h
/-- A token's block, and a statement's behind it, later on. -/
theorem stLoc {w1 w' : World} {D' : Option Nat} (h1 : PSt gp w1 L sz i dp ds D) (o : Obj) (hk : Stp gp D D' ((w1.alloc o).alloc (.cells #[.int .i64 0, .string ⟨#[]⟩, .int .i64 0, .int .i64 0, .bool false, .int .i64 0, .string ⟨#[]⟩, .int .i64 0, .slice none 0 0, .int .i64 0, .int .i64 0, .slice none 0 0, .slice none 0 0, .int .i64 0, .int .i64 0] 93)) w') : Loc gp D' w' (w1.heap.size + 1) #[.int .i64 0, .string ⟨#[]⟩, .int .i64 0, .int .i64 0, .bool false, .int .i64 0, .string ⟨#[]⟩, .int .i64 0, .slice none 0 0, .int .i64 0, .int .i64 0, .slice none 0 0, .slice none 0 0, .int .i64 0, .int .i64 0] := by
  have h2 := h1.below ((Below.refl w1.heap.size w1).alloc (Nat.le_refl _) o)
  have h3 := (Loc.new h2 #[.int .i64 0, .string ⟨#[]⟩, .int .i64 0, .int .i64 0, .bool false, .int .i64 0, .string ⟨#[]⟩, .int .i64 0, .slice none 0 0, .int .i64 0, .int .i64 0, .slice none 0 0, .slice none 0 0, .int .i64 0, .int .i64 0]).step hk
  rwa [World.size_alloc] at h3
theorem tkLoc {w1 w' : World} {D' : Option Nat} (h1 : PSt gp w1 L sz i dp ds D) (t : Tok) (hk : Stp gp D D' ((w1.alloc (.cells #[.int .i64 (t.k : Int), .string t.x, .int .i64 (t.a : Int)] 175)).alloc (.cells #[.int .i64 0, .string ⟨#[]⟩, .int .i64 0, .int .i64 0, .bool false, .int .i64 0, .string ⟨#[]⟩, .int .i64 0, .slice none 0 0, .int .i64 0, .int .i64 0, .slice none 0 0, .slice none 0 0, .int .i64 0, .int .i64 0] 93)) w') : w'.heap[w1.heap.size]? = some (.cells #[.int .i64 (t.k : Int), .string t.x, .int .i64 (t.a : Int)] 175 (0, 0)) := by
  have hf := h1.fresh (Nat.le_refl w1.heap.size)
  refine (hk.block w1.heap.size (by simp; omega) (by omega) hf.2).trans ?_
  exact (Below.heap_alloc (w1.alloc (.cells #[.int .i64 (t.k : Int), .string t.x, .int .i64 (t.a : Int)] 175)) _ w1.heap.size (by simp)).trans (heap_alloc_new w1 _)
set_option maxHeartbeats 2000000 in
set_option maxRecDepth 100000 in
theorem stmt_let (hp : PSt gp w L sz i dp ds D) (hW0 : isT L i kLet = true) (hds : ds.length + (pLet L sz dp (i + 1)).d.length + 1 ≤ 1099511627776) :
    Calls Tryz.prog 175 #[.pointer (some ⟨gp, 0, none⟩)] w fun e w' => ∃ v, e = .returned v ∧ ToldS gp L sz dp D ds w w' (tmS L sz i (pLet L sz dp (i + 1))) v := by
  have hgp := hp.gp_lt
  have hb0 := (Below.refl w.heap.size w).alloc (Nat.le_refl _) (.cells #[.int .i64 0, .string ⟨#[]⟩, .int .i64 0, .int .i64 0, .bool false, .int .i64 0, .string ⟨#[]⟩, .int .i64 0, .slice none 0 0, .int .i64 0, .int .i64 0, .slice none 0 0, .slice none 0 0, .int .i64 0, .int .i64 0] 93)
  have hp0 := hp.below hb0
  have hfr := hp.fresh (Nat.le_refl w.heap.size)
  have hl0 := Loc.new hp #[.int .i64 0, .string ⟨#[]⟩, .int .i64 0, .int .i64 0, .bool false, .int .i64 0, .string ⟨#[]⟩, .int .i64 0, .slice none 0 0, .int .i64 0, .int .i64 0, .slice none 0 0, .slice none 0 0, .int .i64 0, .int .i64 0]
  have hlS := fun w1 (h1 : PSt gp w1 L sz i dp ds D) {D' : Option Nat} {w' : World} (hk : Stp gp D D' ((w1.alloc (.cells #[.int .i64 ((tk L sz i).k : Int), .string (tk L sz i).x, .int .i64 ((tk L sz i).a : Int)] 175)).alloc (.cells #[.int .i64 0, .string ⟨#[]⟩, .int .i64 0, .int .i64 0, .bool false, .int .i64 0, .string ⟨#[]⟩, .int .i64 0, .slice none 0 0, .int .i64 0, .int .i64 0, .slice none 0 0, .slice none 0 0, .int .i64 0, .int .i64 0] 93)) w') => stLoc h1 (.cells #[.int .i64 ((tk L sz i).k : Int), .string (tk L sz i).x, .int .i64 ((tk L sz i).a : Int)] 175) hk
  have hTk := fun w1 (h1 : PSt gp w1 L sz i dp ds D) {D' : Option Nat} {w' : World} (hk : Stp gp D D' ((w1.alloc (.cells #[.int .i64 ((tk L sz i).k : Int), .string (tk L sz i).x, .int .i64 ((tk L sz i).a : Int)] 175)).alloc (.cells #[.int .i64 0, .string ⟨#[]⟩, .int .i64 0, .int .i64 0, .bool false, .int .i64 0, .string ⟨#[]⟩, .int .i64 0, .slice none 0 0, .int .i64 0, .int .i64 0, .slice none 0 0, .slice none 0 0, .int .i64 0, .int .i64 0] 93)) w') => tkLoc h1 (tk L sz i) hk
  have F0 : Hid (1 = 1) := rfl
  unfold tmS
  go_enter Tryz.func175, Tryz.ntmps175
  go_wp2_with (first
    | (go_at_call 146; refine (peek_any hp0).mono ?_; rintro e w1 ⟨rfl, hb1⟩; unfold tkV; have hq := (((Below.refl w1.heap.size w1).alloc (Nat.le_refl _) (.cells #[.int .i64 ((tk L sz i).k : Int), .string (tk L sz i).x, .int .i64 ((tk L sz i).a : Int)] 175)).alloc (by simp) (.cells #[.int .i64 0, .string ⟨#[]⟩, .int .i64 0, .int .i64 0, .bool false, .int .i64 0, .string ⟨#[]⟩, .int .i64 0, .slice none 0 0, .int .i64 0, .int .i64 0, .slice none 0 0, .slice none 0 0, .int .i64 0, .int .i64 0] 93)); have hp1 := (hp0.below hb1).below hq; have HW := (Stp.below (gp := gp) (D := D) hb1).trans (Stp.below hq); have hlR := hl0.step HW; have hz : w.heap.size + 1 ≤ w1.heap.size := (by simpa using hb1.size))
    | (go_at_call 105; have f := F0; clear f F0; refine (take_any hp1 kLet (by decide)).mono ?_; rintro e w0_ ⟨rfl, hp0_, hs0_⟩; rw [hW0] at hp0_ ⊢; simp only [if_true] at hp0_)
    | (go_at_call 191; refine (letR_any hp0_ hds).mono ?_; rintro e w6 ⟨v, rfl, D6, n6, hp6, hs6, hr6⟩; obtain ⟨k0, x0, a0_, b0_, o0, ek, ex, en, ep, el, ec, ef, et, p1, l1, c1, p2, l2, c2, f0, t0, hv⟩ := hr6.shape; subst hv; have K6 := Stp.trans hs0_ hs6; have hlS6 := hlS w1 (hp0.below hb1) K6; have hlR6 := hlR.step K6; have htk6 := hTk w1 (hp0.below hb1) K6; obtain ⟨a0, a1, a2, a3, a4, a5, a6, a7, a8, a9, a10, a11, a12, a13, a14, af⟩ := fif_at hlS6.blk; obtain ⟨r0, r1, r2, r3, r4, r5, r6, r7, r8, r9, r10, r11, r12, r13, r14, rf⟩ := fif_at hlR6.blk; obtain ⟨p9, c9, v9, z0, z1, z2, z3, z4, z5, hf9, htok, hown, hD9⟩ := hp6.cells; clear htok hown hD9; have y2 := cell_of_row _ _ 2 _ _ _ htk6; simp only [List.getElem?_toArray, List.getElem?_cons_succ, List.getElem?_cons_zero] at y2; have hn1 : ¬ w1.heap.size + 1 = w.heap.size := (by omega); have hn2 : ¬ w.heap.size = w1.heap.size + 1 := (by omega); have hn3 : ¬ w1.heap.size = w.heap.size := (by omega); have hn4 : ¬ w.heap.size = w1.heap.size := (by omega); have hgp1 := (hp0.below hb1).gp_lt; have hn5 : ¬ gp = w1.heap.size := (by omega); have hn6 : ¬ gp = w1.heap.size + 1 := (by omega); have hn7 : ¬ gp = w.heap.size := (by omega); have hn8 : ¬ w1.heap.size = gp := (by omega); have hn9 : ¬ w1.heap.size + 1 = gp := (by omega)))
  have hsx := fif hp6 (HW.trans K6) (b := w1.heap.size + 1) (by simp; omega) hlS6.gp hlS6.ne (.int .i64 (k0 : Int)) (.string x0) (.int .i64 (a0_ : Int)) (.int .i64 (b0_ : Int)) (.bool o0) (.int .i64 (ek : Int)) (.string ex) (.int .i64 (en : Int)) (.slice ep el ec) (.int .i64 (ef : Int)) (.int .i64 (et : Int)) (.slice p1 l1 c1) (.slice p2 l2 c2) (.int .i64 (f0 : Int)) (.int .i64 (t0 : Int))
  have hblk := fif_blk hlS6.blk (.int .i64 (k0 : Int)) (.string x0) (.int .i64 (a0_ : Int)) (.int .i64 (b0_ : Int)) (.bool o0) (.int .i64 (ek : Int)) (.string ex) (.int .i64 (en : Int)) (.slice ep el ec) (.int .i64 (ef : Int)) (.int .i64 (et : Int)) (.slice p1 l1 c1) (.slice p2 l2 c2) (.int .i64 (f0 : Int)) (.int .i64 (t0 : Int))
  have hfar : ∀ k, k ≠ w1.heap.size + 1 → (((((((((((((((w6.setCell ⟨w1.heap.size + 1, 0, none⟩ (.int .i64 (k0 : Int))).setCell ⟨w1.heap.size + 1, 1, none⟩ (.string x0)).setCell ⟨w1.heap.size + 1, 2, none⟩ (.int .i64 (a0_ : Int))).setCell ⟨w1.heap.size + 1, 3, none⟩ (.int .i64 (b0_ : Int))).setCell ⟨w1.heap.size + 1, 4, none⟩ (.bool o0)).setCell ⟨w1.heap.size + 1, 5, none⟩ (.int .i64 (ek : Int))).setCell ⟨w1.heap.size + 1, 6, none⟩ (.string ex)).setCell ⟨w1.heap.size + 1, 7, none⟩ (.int .i64 (en : Int))).setCell ⟨w1.heap.size + 1, 8, none⟩ (.slice ep el ec)).setCell ⟨w1.heap.size + 1, 9, none⟩ (.int .i64 (ef : Int))).setCell ⟨w1.heap.size + 1, 10, none⟩ (.int .i64 (et : Int))).setCell ⟨w1.heap.size + 1, 11, none⟩ (.slice p1 l1 c1)).setCell ⟨w1.heap.size + 1, 12, none⟩ (.slice p2 l2 c2)).setCell ⟨w1.heap.size + 1, 13, none⟩ (.int .i64 (f0 : Int))).setCell ⟨w1.heap.size + 1, 14, none⟩ (.int .i64 (t0 : Int))).heap[k]? = w6.heap[k]? := fun k hk => sets_far hk (.int .i64 (k0 : Int)) (.string x0) (.int .i64 (a0_ : Int)) (.int .i64 (b0_ : Int)) (.bool o0) (.int .i64 (ek : Int)) (.string ex) (.int .i64 (en : Int)) (.slice ep el ec) (.int .i64 (ef : Int)) (.int .i64 (et : Int)) (.slice p1 l1 c1) (.slice p2 l2 c2) (.int .i64 (f0 : Int)) (.int .i64 (t0 : Int))
  have hsiz : (((((((((((((((w6.setCell ⟨w1.heap.size + 1, 0, none⟩ (.int .i64 (k0 : Int))).setCell ⟨w1.heap.size + 1, 1, none⟩ (.string x0)).setCell ⟨w1.heap.size + 1, 2, none⟩ (.int .i64 (a0_ : Int))).setCell ⟨w1.heap.size + 1, 3, none⟩ (.int .i64 (b0_ : Int))).setCell ⟨w1.heap.size + 1, 4, none⟩ (.bool o0)).setCell ⟨w1.heap.size + 1, 5, none⟩ (.int .i64 (ek : Int))).setCell ⟨w1.heap.size + 1, 6, none⟩ (.string ex)).setCell ⟨w1.heap.size + 1, 7, none⟩ (.int .i64 (en : Int))).setCell ⟨w1.heap.size + 1, 8, none⟩ (.slice ep el ec)).setCell ⟨w1.heap.size + 1, 9, none⟩ (.int .i64 (ef : Int))).setCell ⟨w1.heap.size + 1, 10, none⟩ (.int .i64 (et : Int))).setCell ⟨w1.heap.size + 1, 11, none⟩ (.slice p1 l1 c1)).setCell ⟨w1.heap.size + 1, 12, none⟩ (.slice p2 l2 c2)).setCell ⟨w1.heap.size + 1, 13, none⟩ (.int .i64 (f0 : Int))).setCell ⟨w1.heap.size + 1, 14, none⟩ (.int .i64 (t0 : Int))).heap.size = w6.heap.size := by simp
  have hlt6 : w1.heap.size + 1 < w0_.heap.size := (hlS w1 (hp0.below hb1) hs0_).lt
  clear a0 a1 a2 a3 a4 a5 a6 a7 a8 a9 a10 a11 a12 a13 a14 af r0 r1 r2 r3 r4 r5 r6 r7 r8 r9 r10 r11 r12 r13 r14 rf z0 z1 z2 z3 z4 z5 hf9 y2
  generalize (((((((((((((((w6.setCell ⟨w1.heap.size + 1, 0, none⟩ (.int .i64 (k0 : Int))).setCell ⟨w1.heap.size + 1, 1, none⟩ (.string x0)).setCell ⟨w1.heap.size + 1, 2, none⟩ (.int .i64 (a0_ : Int))).setCell ⟨w1.heap.size + 1, 3, none⟩ (.int .i64 (b0_ : Int))).setCell ⟨w1.heap.size + 1, 4, none⟩ (.bool o0)).setCell ⟨w1.heap.size + 1, 5, none⟩ (.int .i64 (ek : Int))).setCell ⟨w1.heap.size + 1, 6, none⟩ (.string ex)).setCell ⟨w1.heap.size + 1, 7, none⟩ (.int .i64 (en : Int))).setCell ⟨w1.heap.size + 1, 8, none⟩ (.slice ep el ec)).setCell ⟨w1.heap.size + 1, 9, none⟩ (.int .i64 (ef : Int))).setCell ⟨w1.heap.size + 1, 10, none⟩ (.int .i64 (et : Int))).setCell ⟨w1.heap.size + 1, 11, none⟩ (.slice p1 l1 c1)).setCell ⟨w1.heap.size + 1, 12, none⟩ (.slice p2 l2 c2)).setCell ⟨w1.heap.size + 1, 13, none⟩ (.int .i64 (f0 : Int))).setCell ⟨w1.heap.size + 1, 14, none⟩ (.int .i64 (t0 : Int))) = W7 at *
  have hlS7 : Loc gp D6 W7 (w1.heap.size + 1) #[.int .i64 (k0 : Int), .string x0, .int .i64 (a0_ : Int), .int .i64 (b0_ : Int), .bool o0, .int .i64 (ek : Int), .string ex, .int .i64 (en : Int), .slice ep el ec, .int .i64 (ef : Int), .int .i64 (et : Int), .slice p1 l1 c1, .slice p2 l2 c2, .int .i64 (f0 : Int), .int .i64 (t0 : Int)] := ⟨hblk, hlS6.gp, hlS6.ne⟩
  have hlR7 : Loc gp D6 W7 w.heap.size #[.int .i64 0, .string ⟨#[]⟩, .int .i64 0, .int .i64 0, .bool false, .int .i64 0, .string ⟨#[]⟩, .int .i64 0, .slice none 0 0, .int .i64 0, .int .i64 0, .slice none 0 0, .slice none 0 0, .int .i64 0, .int .i64 0] := ⟨(hfar w.heap.size (by omega)).trans hlR6.blk, hlR6.gp, hlR6.ne⟩
  have htk7 := (hfar w1.heap.size (by omega)).trans htk6
  have hr7 : RdS n6 (okS w0_.heap.size gp D6 W7) W7 _ _ := RdS.kept n6 (fun k hk => hfar k (by have := hk.1; omega)) (fun k hk => ⟨hk.1, by rw [hsiz]; exact hk.2.1, hk.2.2⟩) _ _ hr6
  obtain ⟨hp7, H7⟩ := hsx
  clear hblk hfar hsiz hlS6 hlR6 htk6 hr6 hp6 hs6 K6 hlS hTk hlR HW
  obtain ⟨a0, a1, a2, a3, a4, a5, a6, a7, a8, a9, a10, a11, a12, a13, a14, af⟩ := fif_at hlS7.blk
  obtain ⟨r0, r1, r2, r3, r4, r5, r6, r7, r8, r9, r10, r11, r12, r13, r14, rf⟩ := fif_at hlR7.blk
  obtain ⟨p9, c9, v9, z0, z1, z2, z3, z4, z5, hf9, htok, hown, hD9⟩ := hp7.cells
  clear htok hown hD9
  have y2 := cell_of_row _ _ 2 _ _ _ htk7
  simp only [List.getElem?_toArray, List.getElem?_cons_succ, List.getElem?_cons_zero] at y2
  go_region
  go_wp2
  have em : max ((tk L sz i).a : Int) (endT L sz (pLet L sz dp (i + 1)).i : Int) = ((upTo (tk L sz i).a (endT L sz (pLet L sz dp (i + 1)).i) : Nat) : Int) := by unfold upTo; omega
  rw [em]
  have hp8 := (hp7.set hlS7.gp hlS7.ne 13 (.int .i64 ((tk L sz i).a : Int))).set hlS7.gp hlS7.ne 14 (.int .i64 ((upTo (tk L sz i).a (endT L sz (pLet L sz dp (i + 1)).i) : Nat) : Int))
  have H8 := (H7.set (b := w1.heap.size + 1) (by simp; omega) 13 (.int .i64 ((tk L sz i).a : Int))).set (b := w1.heap.size + 1) (by simp; omega) 14 (.int .i64 ((upTo (tk L sz i).a (endT L sz (pLet L sz dp (i + 1)).i) : Nat) : Int))
  have hr8 : RdS n6 (fun k => okS (w.heap.size + 1) gp D6 ((W7.setCell ⟨w1.heap.size + 1, 13, none⟩ (.int .i64 ((tk L sz i).a : Int))).setCell ⟨w1.heap.size + 1, 14, none⟩ (.int .i64 ((upTo (tk L sz i).a (endT L sz (pLet L sz dp (i + 1)).i) : Nat) : Int))) k ∧ True) ((W7.setCell ⟨w1.heap.size + 1, 13, none⟩ (.int .i64 ((tk L sz i).a : Int))).setCell ⟨w1.heap.size + 1, 14, none⟩ (.int .i64 ((upTo (tk L sz i).a (endT L sz (pLet L sz dp (i + 1)).i) : Nat) : Int))) _ _ := RdS.kept n6 (fun k hk => (Below.heap_setCell _ _ _ k (by have := hk.1; simp; omega)).trans (Below.heap_setCell W7 _ _ k (by have := hk.1; simp; omega))) (fun k hk => ⟨⟨by have := hk.1; omega, by simpa using hk.2.1, hk.2.2⟩, trivial⟩) _ _ (hr7.reT (tk L sz i).a (upTo (tk L sz i).a (endT L sz (pLet L sz dp (i + 1)).i)))
  obtain ⟨f1, f2, f3⟩ := st_fin hfr hp8 H8 hr8 rfl
  exact bodyPost_ret (v := .agg #[.int .i64 (k0 : Int), .string x0, .int .i64 (a0_ : Int), .int .i64 (b0_ : Int), .bool o0, .int .i64 (ek : Int), .string ex, .int .i64 (en : Int), .slice ep el ec, .int .i64 (ef : Int), .int .i64 (et : Int), .slice p1 l1 c1, .slice p2 l2 c2, .int .i64 ((tk L sz i).a : Int), .int .i64 ((upTo (tk L sz i).a (endT L sz (pLet L sz dp (i + 1)).i) : Nat) : Int)]) (by simp [results, Tryz.results175, go_sem, r0, r1, r2, r3, r4, r5, r6, r7, r8, r9, r10, r11, r12, r13, r14]) rfl ⟨_, rfl, D6, n6, f1.drew, f2.drew, f3.drewn⟩
set_option maxHeartbeats 2000000 in
set_option maxRecDepth 100000 in
theorem stmt_send (hp : PSt gp w L sz i dp ds D) (hW0 : isT L i kLet = false) (hW1 : isT L i kIf = false) (hW2 : isT L i kWhile = false) (hW3 : isT L i kSend = true) (hds : ds.length + (pSnd L sz dp (i + 1)).d.length + 1 ≤ 1099511627776) :
    Calls Tryz.prog 175 #[.pointer (some ⟨gp, 0, none⟩)] w fun e w' => ∃ v, e = .returned v ∧ ToldS gp L sz dp D ds w w' (tmS L sz i (pSnd L sz dp (i + 1))) v := by
  have hgp := hp.gp_lt
  have hb0 := (Below.refl w.heap.size w).alloc (Nat.le_refl _) (.cells #[.int .i64 0, .string ⟨#[]⟩, .int .i64 0, .int .i64 0, .bool false, .int .i64 0, .string ⟨#[]⟩, .int .i64 0, .slice none 0 0, .int .i64 0, .int .i64 0, .slice none 0 0, .slice none 0 0, .int .i64 0, .int .i64 0] 93)
  have hp0 := hp.below hb0
  have hfr := hp.fresh (Nat.le_refl w.heap.size)
  have hl0 := Loc.new hp #[.int .i64 0, .string ⟨#[]⟩, .int .i64 0, .int .i64 0, .bool false, .int .i64 0, .string ⟨#[]⟩, .int .i64 0, .slice none 0 0, .int .i64 0, .int .i64 0, .slice none 0 0, .slice none 0 0, .int .i64 0, .int .i64 0]
  have hlS := fun w1 (h1 : PSt gp w1 L sz i dp ds D) {D' : Option Nat} {w' : World} (hk : Stp gp D D' ((w1.alloc (.cells #[.int .i64 ((tk L sz i).k : Int), .string (tk L sz i).x, .int .i64 ((tk L sz i).a : Int)] 175)).alloc (.cells #[.int .i64 0, .string ⟨#[]⟩, .int .i64 0, .int .i64 0, .bool false, .int .i64 0, .string ⟨#[]⟩, .int .i64 0, .slice none 0 0, .int .i64 0, .int .i64 0, .slice none 0 0, .slice none 0 0, .int .i64 0, .int .i64 0] 93)) w') => stLoc h1 (.cells #[.int .i64 ((tk L sz i).k : Int), .string (tk L sz i).x, .int .i64 ((tk L sz i).a : Int)] 175) hk
  have hTk := fun w1 (h1 : PSt gp w1 L sz i dp ds D) {D' : Option Nat} {w' : World} (hk : Stp gp D D' ((w1.alloc (.cells #[.int .i64 ((tk L sz i).k : Int), .string (tk L sz i).x, .int .i64 ((tk L sz i).a : Int)] 175)).alloc (.cells #[.int .i64 0, .string ⟨#[]⟩, .int .i64 0, .int .i64 0, .bool false, .int .i64 0, .string ⟨#[]⟩, .int .i64 0, .slice none 0 0, .int .i64 0, .int .i64 0, .slice none 0 0, .slice none 0 0, .int .i64 0, .int .i64 0] 93)) w') => tkLoc h1 (tk L sz i) hk
  have F0 : Hid (1 = 1) := rfl
  have F1 : Hid (1 = 1) := rfl
  have F2 : Hid (1 = 1) := rfl
  have F3 : Hid (1 = 1) := rfl
  unfold tmS
  go_enter Tryz.func175, Tryz.ntmps175
  go_wp2_with (first
    | (go_at_call 146; refine (peek_any hp0).mono ?_; rintro e w1 ⟨rfl, hb1⟩; unfold tkV; have hq := (((Below.refl w1.heap.size w1).alloc (Nat.le_refl _) (.cells #[.int .i64 ((tk L sz i).k : Int), .string (tk L sz i).x, .int .i64 ((tk L sz i).a : Int)] 175)).alloc (by simp) (.cells #[.int .i64 0, .string ⟨#[]⟩, .int .i64 0, .int .i64 0, .bool false, .int .i64 0, .string ⟨#[]⟩, .int .i64 0, .slice none 0 0, .int .i64 0, .int .i64 0, .slice none 0 0, .slice none 0 0, .int .i64 0, .int .i64 0] 93)); have hp1 := (hp0.below hb1).below hq; have HW := (Stp.below (gp := gp) (D := D) hb1).trans (Stp.below hq); have hlR := hl0.step HW; have hz : w.heap.size + 1 ≤ w1.heap.size := (by simpa using hb1.size))
    | (go_at_call 105; have f := F0; clear f F0; refine (take_any hp1 kLet (by decide)).mono ?_; rintro e w0_ ⟨rfl, hp0_, hs0_⟩; rw [hW0] at hp0_ ⊢; simp only [Bool.false_eq_true, if_false] at hp0_)
    | (go_at_call 105; have f := F1; clear f F1; refine (take_any hp0_ kIf (by decide)).mono ?_; rintro e w1_ ⟨rfl, hp1_, hs1_⟩; rw [hW1] at hp1_ ⊢; simp only [Bool.false_eq_true, if_false] at hp1_)
    | (go_at_call 105; have f := F2; clear f F2; refine (take_any hp1_ kWhile (by decide)).mono ?_; rintro e w2_ ⟨rfl, hp2_, hs2_⟩; rw [hW2] at hp2_ ⊢; simp only [Bool.false_eq_true, if_false] at hp2_)
    | (go_at_call 105; have f := F3; clear f F3; refine (take_any hp2_ kSend (by decide)).mono ?_; rintro e w3_ ⟨rfl, hp3_, hs3_⟩; rw [hW3] at hp3_ ⊢; simp only [if_true] at hp3_)
    | (go_at_call 194; refine (sendR_any hp3_ hds).mono ?_; rintro e w6 ⟨v, rfl, D6, n6, hp6, hs6, hr6⟩; obtain ⟨k0, x0, a0_, b0_, o0, ek, ex, en, ep, el, ec, ef, et, p1, l1, c1, p2, l2, c2, f0, t0, hv⟩ := hr6.shape; subst hv; have K6 := Stp.trans (Stp.trans (Stp.trans (Stp.trans hs0_ hs1_) hs2_) hs3_) hs6; have hlS6 := hlS w1 (hp0.below hb1) K6; have hlR6 := hlR.step K6; have htk6 := hTk w1 (hp0.below hb1) K6; obtain ⟨a0, a1, a2, a3, a4, a5, a6, a7, a8, a9, a10, a11, a12, a13, a14, af⟩ := fif_at hlS6.blk; obtain ⟨r0, r1, r2, r3, r4, r5, r6, r7, r8, r9, r10, r11, r12, r13, r14, rf⟩ := fif_at hlR6.blk; obtain ⟨p9, c9, v9, z0, z1, z2, z3, z4, z5, hf9, htok, hown, hD9⟩ := hp6.cells; clear htok hown hD9; have y2 := cell_of_row _ _ 2 _ _ _ htk6; simp only [List.getElem?_toArray, List.getElem?_cons_succ, List.getElem?_cons_zero] at y2; have hn1 : ¬ w1.heap.size + 1 = w.heap.size := (by omega); have hn2 : ¬ w.heap.size = w1.heap.size + 1 := (by omega); have hn3 : ¬ w1.heap.size = w.heap.size := (by omega); have hn4 : ¬ w.heap.size = w1.heap.size := (by omega); have hgp1 := (hp0.below hb1).gp_lt; have hn5 : ¬ gp = w1.heap.size := (by omega); have hn6 : ¬ gp = w1.heap.size + 1 := (by omega); have hn7 : ¬ gp = w.heap.size := (by omega); have hn8 : ¬ w1.heap.size = gp := (by omega); have hn9 : ¬ w1.heap.size + 1 = gp := (by omega)))
  have hsx := fif hp6 (HW.trans K6) (b := w1.heap.size + 1) (by simp; omega) hlS6.gp hlS6.ne (.int .i64 (k0 : Int)) (.string x0) (.int .i64 (a0_ : Int)) (.int .i64 (b0_ : Int)) (.bool o0) (.int .i64 (ek : Int)) (.string ex) (.int .i64 (en : Int)) (.slice ep el ec) (.int .i64 (ef : Int)) (.int .i64 (et : Int)) (.slice p1 l1 c1) (.slice p2 l2 c2) (.int .i64 (f0 : Int)) (.int .i64 (t0 : Int))
  have hblk := fif_blk hlS6.blk (.int .i64 (k0 : Int)) (.string x0) (.int .i64 (a0_ : Int)) (.int .i64 (b0_ : Int)) (.bool o0) (.int .i64 (ek : Int)) (.string ex) (.int .i64 (en : Int)) (.slice ep el ec) (.int .i64 (ef : Int)) (.int .i64 (et : Int)) (.slice p1 l1 c1) (.slice p2 l2 c2) (.int .i64 (f0 : Int)) (.int .i64 (t0 : Int))
  have hfar : ∀ k, k ≠ w1.heap.size + 1 → (((((((((((((((w6.setCell ⟨w1.heap.size + 1, 0, none⟩ (.int .i64 (k0 : Int))).setCell ⟨w1.heap.size + 1, 1, none⟩ (.string x0)).setCell ⟨w1.heap.size + 1, 2, none⟩ (.int .i64 (a0_ : Int))).setCell ⟨w1.heap.size + 1, 3, none⟩ (.int .i64 (b0_ : Int))).setCell ⟨w1.heap.size + 1, 4, none⟩ (.bool o0)).setCell ⟨w1.heap.size + 1, 5, none⟩ (.int .i64 (ek : Int))).setCell ⟨w1.heap.size + 1, 6, none⟩ (.string ex)).setCell ⟨w1.heap.size + 1, 7, none⟩ (.int .i64 (en : Int))).setCell ⟨w1.heap.size + 1, 8, none⟩ (.slice ep el ec)).setCell ⟨w1.heap.size + 1, 9, none⟩ (.int .i64 (ef : Int))).setCell ⟨w1.heap.size + 1, 10, none⟩ (.int .i64 (et : Int))).setCell ⟨w1.heap.size + 1, 11, none⟩ (.slice p1 l1 c1)).setCell ⟨w1.heap.size + 1, 12, none⟩ (.slice p2 l2 c2)).setCell ⟨w1.heap.size + 1, 13, none⟩ (.int .i64 (f0 : Int))).setCell ⟨w1.heap.size + 1, 14, none⟩ (.int .i64 (t0 : Int))).heap[k]? = w6.heap[k]? := fun k hk => sets_far hk (.int .i64 (k0 : Int)) (.string x0) (.int .i64 (a0_ : Int)) (.int .i64 (b0_ : Int)) (.bool o0) (.int .i64 (ek : Int)) (.string ex) (.int .i64 (en : Int)) (.slice ep el ec) (.int .i64 (ef : Int)) (.int .i64 (et : Int)) (.slice p1 l1 c1) (.slice p2 l2 c2) (.int .i64 (f0 : Int)) (.int .i64 (t0 : Int))
  have hsiz : (((((((((((((((w6.setCell ⟨w1.heap.size + 1, 0, none⟩ (.int .i64 (k0 : Int))).setCell ⟨w1.heap.size + 1, 1, none⟩ (.string x0)).setCell ⟨w1.heap.size + 1, 2, none⟩ (.int .i64 (a0_ : Int))).setCell ⟨w1.heap.size + 1, 3, none⟩ (.int .i64 (b0_ : Int))).setCell ⟨w1.heap.size + 1, 4, none⟩ (.bool o0)).setCell ⟨w1.heap.size + 1, 5, none⟩ (.int .i64 (ek : Int))).setCell ⟨w1.heap.size + 1, 6, none⟩ (.string ex)).setCell ⟨w1.heap.size + 1, 7, none⟩ (.int .i64 (en : Int))).setCell ⟨w1.heap.size + 1, 8, none⟩ (.slice ep el ec)).setCell ⟨w1.heap.size + 1, 9, none⟩ (.int .i64 (ef : Int))).setCell ⟨w1.heap.size + 1, 10, none⟩ (.int .i64 (et : Int))).setCell ⟨w1.heap.size + 1, 11, none⟩ (.slice p1 l1 c1)).setCell ⟨w1.heap.size + 1, 12, none⟩ (.slice p2 l2 c2)).setCell ⟨w1.heap.size + 1, 13, none⟩ (.int .i64 (f0 : Int))).setCell ⟨w1.heap.size + 1, 14, none⟩ (.int .i64 (t0 : Int))).heap.size = w6.heap.size := by simp
  have hlt6 : w1.heap.size + 1 < w3_.heap.size := (hlS w1 (hp0.below hb1) (Stp.trans (Stp.trans (Stp.trans hs0_ hs1_) hs2_) hs3_)).lt
  clear a0 a1 a2 a3 a4 a5 a6 a7 a8 a9 a10 a11 a12 a13 a14 af r0 r1 r2 r3 r4 r5 r6 r7 r8 r9 r10 r11 r12 r13 r14 rf z0 z1 z2 z3 z4 z5 hf9 y2
  generalize (((((((((((((((w6.setCell ⟨w1.heap.size + 1, 0, none⟩ (.int .i64 (k0 : Int))).setCell ⟨w1.heap.size + 1, 1, none⟩ (.string x0)).setCell ⟨w1.heap.size + 1, 2, none⟩ (.int .i64 (a0_ : Int))).setCell ⟨w1.heap.size + 1, 3, none⟩ (.int .i64 (b0_ : Int))).setCell ⟨w1.heap.size + 1, 4, none⟩ (.bool o0)).setCell ⟨w1.heap.size + 1, 5, none⟩ (.int .i64 (ek : Int))).setCell ⟨w1.heap.size + 1, 6, none⟩ (.string ex)).setCell ⟨w1.heap.size + 1, 7, none⟩ (.int .i64 (en : Int))).setCell ⟨w1.heap.size + 1, 8, none⟩ (.slice ep el ec)).setCell ⟨w1.heap.size + 1, 9, none⟩ (.int .i64 (ef : Int))).setCell ⟨w1.heap.size + 1, 10, none⟩ (.int .i64 (et : Int))).setCell ⟨w1.heap.size + 1, 11, none⟩ (.slice p1 l1 c1)).setCell ⟨w1.heap.size + 1, 12, none⟩ (.slice p2 l2 c2)).setCell ⟨w1.heap.size + 1, 13, none⟩ (.int .i64 (f0 : Int))).setCell ⟨w1.heap.size + 1, 14, none⟩ (.int .i64 (t0 : Int))) = W7 at *
  have hlS7 : Loc gp D6 W7 (w1.heap.size + 1) #[.int .i64 (k0 : Int), .string x0, .int .i64 (a0_ : Int), .int .i64 (b0_ : Int), .bool o0, .int .i64 (ek : Int), .string ex, .int .i64 (en : Int), .slice ep el ec, .int .i64 (ef : Int), .int .i64 (et : Int), .slice p1 l1 c1, .slice p2 l2 c2, .int .i64 (f0 : Int), .int .i64 (t0 : Int)] := ⟨hblk, hlS6.gp, hlS6.ne⟩
  have hlR7 : Loc gp D6 W7 w.heap.size #[.int .i64 0, .string ⟨#[]⟩, .int .i64 0, .int .i64 0, .bool false, .int .i64 0, .string ⟨#[]⟩, .int .i64 0, .slice none 0 0, .int .i64 0, .int .i64 0, .slice none 0 0, .slice none 0 0, .int .i64 0, .int .i64 0] := ⟨(hfar w.heap.size (by omega)).trans hlR6.blk, hlR6.gp, hlR6.ne⟩
  have htk7 := (hfar w1.heap.size (by omega)).trans htk6
  have hr7 : RdS n6 (okS w3_.heap.size gp D6 W7) W7 _ _ := RdS.kept n6 (fun k hk => hfar k (by have := hk.1; omega)) (fun k hk => ⟨hk.1, by rw [hsiz]; exact hk.2.1, hk.2.2⟩) _ _ hr6
  obtain ⟨hp7, H7⟩ := hsx
  clear hblk hfar hsiz hlS6 hlR6 htk6 hr6 hp6 hs6 K6 hlS hTk hlR HW
  obtain ⟨a0, a1, a2, a3, a4, a5, a6, a7, a8, a9, a10, a11, a12, a13, a14, af⟩ := fif_at hlS7.blk
  obtain ⟨r0, r1, r2, r3, r4, r5, r6, r7, r8, r9, r10, r11, r12, r13, r14, rf⟩ := fif_at hlR7.blk
  obtain ⟨p9, c9, v9, z0, z1, z2, z3, z4, z5, hf9, htok, hown, hD9⟩ := hp7.cells
  clear htok hown hD9
  have y2 := cell_of_row _ _ 2 _ _ _ htk7
  simp only [List.getElem?_toArray, List.getElem?_cons_succ, List.getElem?_cons_zero] at y2
  go_region
  go_wp2
  have em : max ((tk L sz i).a : Int) (endT L sz (pSnd L sz dp (i + 1)).i : Int) = ((upTo (tk L sz i).a (endT L sz (pSnd L sz dp (i + 1)).i) : Nat) : Int) := by unfold upTo; omega
  rw [em]
  have hp8 := (hp7.set hlS7.gp hlS7.ne 13 (.int .i64 ((tk L sz i).a : Int))).set hlS7.gp hlS7.ne 14 (.int .i64 ((upTo (tk L sz i).a (endT L sz (pSnd L sz dp (i + 1)).i) : Nat) : Int))
  have H8 := (H7.set (b := w1.heap.size + 1) (by simp; omega) 13 (.int .i64 ((tk L sz i).a : Int))).set (b := w1.heap.size + 1) (by simp; omega) 14 (.int .i64 ((upTo (tk L sz i).a (endT L sz (pSnd L sz dp (i + 1)).i) : Nat) : Int))
  have hr8 : RdS n6 (fun k => okS (w.heap.size + 1) gp D6 ((W7.setCell ⟨w1.heap.size + 1, 13, none⟩ (.int .i64 ((tk L sz i).a : Int))).setCell ⟨w1.heap.size + 1, 14, none⟩ (.int .i64 ((upTo (tk L sz i).a (endT L sz (pSnd L sz dp (i + 1)).i) : Nat) : Int))) k ∧ True) ((W7.setCell ⟨w1.heap.size + 1, 13, none⟩ (.int .i64 ((tk L sz i).a : Int))).setCell ⟨w1.heap.size + 1, 14, none⟩ (.int .i64 ((upTo (tk L sz i).a (endT L sz (pSnd L sz dp (i + 1)).i) : Nat) : Int))) _ _ := RdS.kept n6 (fun k hk => (Below.heap_setCell _ _ _ k (by have := hk.1; simp; omega)).trans (Below.heap_setCell W7 _ _ k (by have := hk.1; simp; omega))) (fun k hk => ⟨⟨by have := hk.1; omega, by simpa using hk.2.1, hk.2.2⟩, trivial⟩) _ _ (hr7.reT (tk L sz i).a (upTo (tk L sz i).a (endT L sz (pSnd L sz dp (i + 1)).i)))
  obtain ⟨f1, f2, f3⟩ := st_fin hfr hp8 H8 hr8 rfl
  exact bodyPost_ret (v := .agg #[.int .i64 (k0 : Int), .string x0, .int .i64 (a0_ : Int), .int .i64 (b0_ : Int), .bool o0, .int .i64 (ek : Int), .string ex, .int .i64 (en : Int), .slice ep el ec, .int .i64 (ef : Int), .int .i64 (et : Int), .slice p1 l1 c1, .slice p2 l2 c2, .int .i64 ((tk L sz i).a : Int), .int .i64 ((upTo (tk L sz i).a (endT L sz (pSnd L sz dp (i + 1)).i) : Nat) : Int)]) (by simp [results, Tryz.results175, go_sem, r0, r1, r2, r3, r4, r5, r6, r7, r8, r9, r10, r11, r12, r13, r14]) rfl ⟨_, rfl, D6, n6, f1.drew, f2.drew, f3.drewn⟩
end
end Go.Proofs.YtfioihehhlpgcaaGreatDoor

/- Texts of this seat, one behind the other: LndO, LndP, LndQ. -/
import Derived.Test.YtfioihehhlpgcaaGreatDoorZb07
import Derived.Deep.RegionHeld3
import Derived.BigRegion
namespace Go.Proofs.YtfioihehhlpgcaaGreatDoor
open Go.RowKit
attribute [local go_sem ↓] Go.wp_at_zero Go.wp_at_succ
/-- A block of one's own, that the reader leaves alone. -/
structure Loc (gp : Nat) (D : Option Nat) (w : World) (b : Nat) (cs : Array Value) : Prop where
  blk : w.heap[b]? = some (.cells cs 93 (0, 0))
  gp : gp < b
  ne : some b ≠ D
section
variable {gp : Nat} {w w' : World} {L : List Tok} {sz i dp b : Nat} {ds : List Dg} {D D' : Option Nat} {cs : Array Value}
theorem Loc.lt (h : Loc gp D w b cs) : b < w.heap.size := (Array.getElem?_eq_some_iff.1 h.blk).1
theorem Loc.new (hp : PSt gp w L sz i dp ds D) (cs : Array Value) : Loc gp D (w.alloc (.cells cs 93)) w.heap.size cs := ⟨heap_alloc_new w _, (hp.fresh (Nat.le_refl _)).1, (hp.fresh (Nat.le_refl _)).2⟩
theorem Loc.step (h : Loc gp D w b cs) (hs : Stp gp D D' w w') : Loc gp D' w' b cs := ⟨(hs.block b h.lt (by have := h.gp; omega) h.ne).trans h.blk, h.gp, hs.fresh h.lt h.ne⟩
theorem Loc.set (h : Loc gp D w b cs) (o : Nat) (u : Value) : Loc gp D (w.setCell ⟨b, o, none⟩ u) b (cs.setIfInBounds o u) := ⟨by simp [World.setCell, Array.getElem?_modify, h.blk], h.gp, h.ne⟩
theorem Loc.far (h : Loc gp D w b cs) {c : Nat} (hc : b ≠ c) (o : Nat) (u : Value) : Loc gp D (w.setCell ⟨c, o, none⟩ u) b cs := ⟨(Below.heap_setCell w _ _ b hc).trans h.blk, h.gp, h.ne⟩
theorem PSt.loc (hp : PSt gp w L sz i dp ds D) (h : Loc gp D w b cs) (o : Nat) (u : Value) : PSt gp (w.setCell ⟨b, o, none⟩ u) L sz i dp ds D := hp.set h.gp h.ne o u
end
/-- A let, behind its word. -/
def pLet (L : List Tok) (sz dp i : Nat) : R Tr :=
  let a := pNamed L sz i
  let op := !isT L a.i (bs1 58)
  let b : R Nat := if op then ⟨0, a.i, []⟩ else pLab L sz (a.i + 1)
  let c := pNeed L sz b.i (bs1 61)
  let e := pCl L sz dp c.i
  ⟨stMk 1 a.v (tk L sz i).a b.v op e.v [] [] 0 0, e.i, a.d ++ b.d ++ c.d ++ e.d⟩
/-- A send, behind its word. -/
def pSnd (L : List Tok) (sz dp i : Nat) : R Tr :=
  let a := pNamed L sz i
  let e := pCl L sz dp a.i
  ⟨stMk 5 a.v (tk L sz i).a 0 false e.v [] [] 0 0, e.i, a.d ++ e.d⟩
section
variable {gp : Nat} {w : World} {L : List Tok} {sz i dp : Nat} {ds : List Dg} {D : Option Nat}
set_option maxHeartbeats 2000000 in
set_option maxRecDepth 100000 in
theorem let_open (hp : PSt gp w L sz i dp ds D) (hC : isT L (pNamed L sz i).i (bs1 58) = false) (hds : ds.length + (pLet L sz dp i).d.length + 1 ≤ 1099511627776) :
    Calls Tryz.prog 191 #[.pointer (some ⟨gp, 0, none⟩)] w fun e w' => ∃ v, e = .returned v ∧ ToldS gp L sz dp D ds w w' (pLet L sz dp i) v := by
  have hgp := hp.gp_lt
  have hb0 := (Below.refl w.heap.size w).alloc (Nat.le_refl _) (.cells #[.int .i64 0, .string ⟨#[]⟩, .int .i64 0, .int .i64 0, .bool false, .int .i64 0, .string ⟨#[]⟩, .int .i64 0, .slice none 0 0, .int .i64 0, .int .i64 0, .slice none 0 0, .slice none 0 0, .int .i64 0, .int .i64 0] 93)
  have hp0 := hp.below hb0
  have hfr := hp.fresh (Nat.le_refl w.heap.size)
  have hl0 := Loc.new hp #[.int .i64 0, .string ⟨#[]⟩, .int .i64 0, .int .i64 0, .bool false, .int .i64 0, .string ⟨#[]⟩, .int .i64 0, .slice none 0 0, .int .i64 0, .int .i64 0, .slice none 0 0, .slice none 0 0, .int .i64 0, .int .i64 0]
  have hfd := fun w2 => (tkField (tk L sz i) w2).2.2
  unfold pLet at hds ⊢
  simp only [hC, Bool.not_false, if_true, List.append_nil] at hds ⊢
  generalize hA : pNamed L sz i = a at *
  generalize hQ : pNeed L sz a.i (bs1 61) = c at *
  generalize hX : pCl L sz dp c.i = x at *
  have hd1 : ds.length + 1 ≤ 1099511627776 := by simp only [List.length_append] at hds; omega
  have hd2 : (ds ++ a.d).length + 1 ≤ 1099511627776 := by simp only [List.length_append] at hds ⊢; omega
  have hd3 : (ds ++ a.d ++ c.d).length + x.d.length + 1 ≤ 1099511627776 := by simp only [List.length_append] at hds ⊢; omega
  go_enter Tryz.func191, Tryz.ntmps191
  go_wp2_with (first
    | (go_at_call 146; refine (peek_any hp0).mono ?_; rintro e w1 ⟨rfl, hb1⟩; unfold tkV; have hp1 := hp0.below hb1; have hb1' := (Below.refl w1.heap.size w1).alloc (Nat.le_refl _) (.cells #[.int .i64 1, .string ⟨#[]⟩, .int .i64 ((tk L sz i).a : Int), .int .i64 0, .bool false, .int .i64 0, .string ⟨#[]⟩, .int .i64 0, .slice none 0 0, .int .i64 0, .int .i64 0, .slice none 0 0, .slice none 0 0, .int .i64 0, .int .i64 0] 93); have hlA := Loc.new hp1 #[.int .i64 1, .string ⟨#[]⟩, .int .i64 ((tk L sz i).a : Int), .int .i64 0, .bool false, .int .i64 0, .string ⟨#[]⟩, .int .i64 0, .slice none 0 0, .int .i64 0, .int .i64 0, .slice none 0 0, .slice none 0 0, .int .i64 0, .int .i64 0]; have hl1 := (hl0.step (Stp.below hb1)).step (Stp.below hb1'); have hs1 := (Stp.below (gp := gp) (D := D) hb1).trans (Stp.below hb1'))
    | (go_at_call 147; refine (nameR_any (hp1.below hb1') hd1).mono ?_; rintro e w2 ⟨rfl, D2, hp2, hs2⟩; rw [hA] at hp2 ⊢; have hlB := hlA.step hs2; have hl2 := hl1.step hs2; have hz : w.heap.size + 1 ≤ w1.heap.size := (by simpa using hb1.size); have hnb : w.heap.size ≠ w1.heap.size := (by omega); have hn2 : ¬ w1.heap.size = w.heap.size := (by omega); have hn3 : ¬ w.heap.size = w1.heap.size := (by omega); have hsbz : (w.alloc (.cells #[.int .i64 0, .string ⟨#[]⟩, .int .i64 0, .int .i64 0, .bool false, .int .i64 0, .string ⟨#[]⟩, .int .i64 0, .slice none 0 0, .int .i64 0, .int .i64 0, .slice none 0 0, .slice none 0 0, .int .i64 0, .int .i64 0] 93)).heap.size ≤ w1.heap.size := hb1.size; obtain ⟨a0, a1, a2, a3, a4, a5, a6, a7, a8, a9, a10, a11, a12, a13, a14, af⟩ := fif_at hlB.blk)
    | (go_at_call 105; have hlB2 := hlB.set 1 (.string a.v); have hl2' := hl2.far hnb 1 (.string a.v); refine (take_any (hp2.loc hlB 1 (.string a.v)) (bs1 58) (by decide)).mono ?_; rintro e w3 ⟨rfl, hp3, hs3⟩; rw [hC] at hp3 ⊢; simp only [Bool.false_eq_true, if_false] at hp3; have hlC : Loc gp D2 w3 w1.heap.size #[.int .i64 1, .string a.v, .int .i64 ((tk L sz i).a : Int), .int .i64 0, .bool false, .int .i64 0, .string ⟨#[]⟩, .int .i64 0, .slice none 0 0, .int .i64 0, .int .i64 0, .slice none 0 0, .slice none 0 0, .int .i64 0, .int .i64 0] := hlB2.step hs3; have hl3 := hl2'.step hs3; have H3 := ((hs1.trans hs2).set hsbz 1 (.string a.v)).trans hs3; clear a0 a1 a2 a3 a4 a5 a6 a7 a8 a9 a10 a11 a12 a13 a14 af; obtain ⟨a0, a1, a2, a3, a4, a5, a6, a7, a8, a9, a10, a11, a12, a13, a14, af⟩ := fif_at hlC.blk)
    | (go_at_call 148; have hlC2 := hlC.set 4 (.bool true); have hl3' := hl3.far hnb 4 (.bool true); refine (need_any (hp3.loc hlC 4 (.bool true)) (bs1 61) (by decide) hd2).mono ?_; rintro e w5 ⟨rfl, D5, hp5, hs5⟩; rw [hQ] at hp5 ⊢; have hlD : Loc gp D5 w5 w1.heap.size #[.int .i64 1, .string a.v, .int .i64 ((tk L sz i).a : Int), .int .i64 0, .bool true, .int .i64 0, .string ⟨#[]⟩, .int .i64 0, .slice none 0 0, .int .i64 0, .int .i64 0, .slice none 0 0, .slice none 0 0, .int .i64 0, .int .i64 0] := hlC2.step hs5; have hl5 := hl3'.step hs5; have H5 := (H3.set hsbz 4 (.bool true)).trans hs5; clear a0 a1 a2 a3 a4 a5 a6 a7 a8 a9 a10 a11 a12 a13 a14 af)
    | (go_at_call 195; refine (closed_any hp5 (by rw [hX]; exact hd3)).mono ?_; rintro e w6 ⟨v, rfl, D6, n6, hp6, hs6, hr6⟩; rw [hX] at hp6 hr6; obtain ⟨k0, x0, m0, p0, l0, c0, hv⟩ := hr6.shape; subst hv; have hlE := hlD.step hs6; have hl6 := hl5.step hs6; have H6 := H5.trans hs6; obtain ⟨a0, a1, a2, a3, a4, a5, a6, a7, a8, a9, a10, a11, a12, a13, a14, af⟩ := fif_at hlE.blk; obtain ⟨r0, r1, r2, r3, r4, r5, r6, r7, r8, r9, r10, r11, r12, r13, r14, rf⟩ := fif_at hl6.blk))
  have H7 := (((((H6.set hsbz 5 (.int .i64 (k0 : Int))).set hsbz 6 (.string x0)).set hsbz 7 (.int .i64 (m0 : Int))).set hsbz 8 (.slice p0 l0 c0)).set hsbz 9 (.int .i64 (exF x.v : Int))).set hsbz 10 (.int .i64 (exT x.v : Int))
  have hp7 := (((((hp6.set hlE.gp hlE.ne 5 (.int .i64 (k0 : Int))).set hlE.gp hlE.ne 6 (.string x0)).set hlE.gp hlE.ne 7 (.int .i64 (m0 : Int))).set hlE.gp hlE.ne 8 (.slice p0 l0 c0)).set hlE.gp hlE.ne 9 (.int .i64 (exF x.v : Int))).set hlE.gp hlE.ne 10 (.int .i64 (exT x.v : Int))
  have hz5 : w1.heap.size < w5.heap.size := hlD.lt
  have hE7 := (((((hr6.set hz5 5 (.int .i64 (k0 : Int))).set hz5 6 (.string x0)).set hz5 7 (.int .i64 (m0 : Int))).set hz5 8 (.slice p0 l0 c0)).set hz5 9 (.int .i64 (exF x.v : Int))).set hz5 10 (.int .i64 (exT x.v : Int))
  have hE8 := RdE.kept n6 (fun _ _ => rfl) (fun k hk => (⟨⟨by have := hk.1; omega, hk.2⟩, trivial⟩ : okS (w.heap.size + 1) gp D6 _ k ∧ True)) _ _ hE7
  have hrS : RdS 1 (fun k => okS (w.heap.size + 1) gp D6 _ k ∧ True) _ (stMk 1 a.v (tk L sz i).a 0 true x.v [] [] 0 0) (.agg #[.int .i64 1, .string a.v, .int .i64 ((tk L sz i).a : Int), .int .i64 0, .bool true, .int .i64 (k0 : Int), .string x0, .int .i64 (m0 : Int), .slice p0 l0 c0, .int .i64 (exF x.v : Int), .int .i64 (exT x.v : Int), .slice none 0 0, .slice none 0 0, .int .i64 0, .int .i64 0]) := ⟨1, a.v, (tk L sz i).a, 0, true, x.v, [], [], 0, 0, _, _, _, _, _, _, none, 0, none, 0, rfl, rfl, ⟨n6, hE8⟩, ⟨by simp, fun h => absurd h (by simp)⟩, ⟨by simp, fun h => absurd h (by simp)⟩⟩
  obtain ⟨f1, f2, f3⟩ := st_fin hfr hp7 H7 hrS rfl
  exact bodyPost_ret (v := .agg #[.int .i64 1, .string a.v, .int .i64 ((tk L sz i).a : Int), .int .i64 0, .bool true, .int .i64 (k0 : Int), .string x0, .int .i64 (m0 : Int), .slice p0 l0 c0, .int .i64 (exF x.v : Int), .int .i64 (exT x.v : Int), .slice none 0 0, .slice none 0 0, .int .i64 0, .int .i64 0]) (by simp [results, Tryz.results191, go_sem, r0, r1, r2, r3, r4, r5, r6, r7, r8, r9, r10, r11, r12, r13, r14]) rfl ⟨_, rfl, D6, 1, by simpa using f1, f2, f3⟩
end
end Go.Proofs.YtfioihehhlpgcaaGreatDoor
namespace Go.Proofs.YtfioihehhlpgcaaGreatDoor
open Go.RowKit
attribute [local go_sem ↓] Go.wp_at_zero Go.wp_at_succ
section
variable {gp : Nat} {w : World} {L : List Tok} {sz i dp : Nat} {ds : List Dg} {D : Option Nat}
set_option maxHeartbeats 2000000 in
set_option maxRecDepth 100000 in
theorem let_label (hp : PSt gp w L sz i dp ds D) (hC : isT L (pNamed L sz i).i (bs1 58) = true) (hds : ds.length + (pLet L sz dp i).d.length + 1 ≤ 1099511627776) :
    Calls Tryz.prog 191 #[.pointer (some ⟨gp, 0, none⟩)] w fun e w' => ∃ v, e = .returned v ∧ ToldS gp L sz dp D ds w w' (pLet L sz dp i) v := by
  have hgp := hp.gp_lt
  have hb0 := (Below.refl w.heap.size w).alloc (Nat.le_refl _) (.cells #[.int .i64 0, .string ⟨#[]⟩, .int .i64 0, .int .i64 0, .bool false, .int .i64 0, .string ⟨#[]⟩, .int .i64 0, .slice none 0 0, .int .i64 0, .int .i64 0, .slice none 0 0, .slice none 0 0, .int .i64 0, .int .i64 0] 93)
  have hp0 := hp.below hb0
  have hfr := hp.fresh (Nat.le_refl w.heap.size)
  have hl0 := Loc.new hp #[.int .i64 0, .string ⟨#[]⟩, .int .i64 0, .int .i64 0, .bool false, .int .i64 0, .string ⟨#[]⟩, .int .i64 0, .slice none 0 0, .int .i64 0, .int .i64 0, .slice none 0 0, .slice none 0 0, .int .i64 0, .int .i64 0]
  have hfd := fun w2 => (tkField (tk L sz i) w2).2.2
  unfold pLet at hds ⊢
  simp only [hC, Bool.not_true, Bool.false_eq_true, if_false] at hds ⊢
  generalize hA : pNamed L sz i = a at *
  generalize hB : pLab L sz (a.i + 1) = b at *
  generalize hQ : pNeed L sz b.i (bs1 61) = c at *
  generalize hX : pCl L sz dp c.i = x at *
  have hd1 : ds.length + 1 ≤ 1099511627776 := by simp only [List.length_append] at hds; omega
  have hdb : (ds ++ a.d).length + b.d.length + 1 ≤ 1099511627776 := by simp only [List.length_append] at hds ⊢; omega
  have hd2 : (ds ++ a.d ++ b.d).length + 1 ≤ 1099511627776 := by simp only [List.length_append] at hds ⊢; omega
  have hd3 : (ds ++ a.d ++ b.d ++ c.d).length + x.d.length + 1 ≤ 1099511627776 := by simp only [List.length_append] at hds ⊢; omega
  go_enter Tryz.func191, Tryz.ntmps191
  go_wp2_with (first
    | (go_at_call 146; refine (peek_any hp0).mono ?_; rintro e w1 ⟨rfl, hb1⟩; unfold tkV; have hp1 := hp0.below hb1; have hb1' := (Below.refl w1.heap.size w1).alloc (Nat.le_refl _) (.cells #[.int .i64 1, .string ⟨#[]⟩, .int .i64 ((tk L sz i).a : Int), .int .i64 0, .bool false, .int .i64 0, .string ⟨#[]⟩, .int .i64 0, .slice none 0 0, .int .i64 0, .int .i64 0, .slice none 0 0, .slice none 0 0, .int .i64 0, .int .i64 0] 93); have hlA := Loc.new hp1 #[.int .i64 1, .string ⟨#[]⟩, .int .i64 ((tk L sz i).a : Int), .int .i64 0, .bool false, .int .i64 0, .string ⟨#[]⟩, .int .i64 0, .slice none 0 0, .int .i64 0, .int .i64 0, .slice none 0 0, .slice none 0 0, .int .i64 0, .int .i64 0]; have hl1 := (hl0.step (Stp.below hb1)).step (Stp.below hb1'); have hs1 := (Stp.below (gp := gp) (D := D) hb1).trans (Stp.below hb1'); have hz : w.heap.size + 1 ≤ w1.heap.size := (by simpa using hb1.size); have hnb : w.heap.size ≠ w1.heap.size := (by omega); have hn2 : ¬ w1.heap.size = w.heap.size := (by omega); have hn3 : ¬ w.heap.size = w1.heap.size := (by omega); have hsbz : (w.alloc (.cells #[.int .i64 0, .string ⟨#[]⟩, .int .i64 0, .int .i64 0, .bool false, .int .i64 0, .string ⟨#[]⟩, .int .i64 0, .slice none 0 0, .int .i64 0, .int .i64 0, .slice none 0 0, .slice none 0 0, .int .i64 0, .int .i64 0] 93)).heap.size ≤ w1.heap.size := hb1.size)
    | (go_at_call 147; refine (nameR_any (hp1.below hb1') hd1).mono ?_; rintro e w2 ⟨rfl, D2, hp2, hs2⟩; rw [hA] at hp2 ⊢; have hl2_ : Loc gp D2 w2 w1.heap.size #[.int .i64 1, .string ⟨#[]⟩, .int .i64 ((tk L sz i).a : Int), .int .i64 0, .bool false, .int .i64 0, .string ⟨#[]⟩, .int .i64 0, .slice none 0 0, .int .i64 0, .int .i64 0, .slice none 0 0, .slice none 0 0, .int .i64 0, .int .i64 0] := Loc.step hlA hs2; have hm2_ := Loc.step hl1 hs2; have H2_ := Stp.trans hs1 hs2; obtain ⟨a0, a1, a2, a3, a4, a5, a6, a7, a8, a9, a10, a11, a12, a13, a14, af⟩ := fif_at hl2_.blk)
    | (go_at_call 105; have qp3_0 := PSt.loc hp2 hl2_ 1 (.string a.v); have qq3_0 := Loc.set hl2_ 1 (.string a.v); have qs3_0 := Loc.far hm2_ hnb 1 (.string a.v); have qH3_0 := Stp.set H2_ hsbz 1 (.string a.v); refine (take_any qp3_0 (bs1 58) (by decide)).mono ?_; rintro e w3 ⟨rfl, hp3, hs3⟩; rw [hC] at hp3 ⊢; simp only [if_true] at hp3; have hl3_ : Loc gp D2 w3 w1.heap.size #[.int .i64 1, .string a.v, .int .i64 ((tk L sz i).a : Int), .int .i64 0, .bool false, .int .i64 0, .string ⟨#[]⟩, .int .i64 0, .slice none 0 0, .int .i64 0, .int .i64 0, .slice none 0 0, .slice none 0 0, .int .i64 0, .int .i64 0] := Loc.step qq3_0 hs3; have hm3_ := Loc.step qs3_0 hs3; have H3_ := Stp.trans qH3_0 hs3; clear a0 a1 a2 a3 a4 a5 a6 a7 a8 a9 a10 a11 a12 a13 a14 af; obtain ⟨a0, a1, a2, a3, a4, a5, a6, a7, a8, a9, a10, a11, a12, a13, a14, af⟩ := fif_at hl3_.blk)
    | (go_at_call 150; have qp4_0 := PSt.loc hp3 hl3_ 4 (.bool false); have qq4_0 := Loc.set hl3_ 4 (.bool false); have qs4_0 := Loc.far hm3_ hnb 4 (.bool false); have qH4_0 := Stp.set H3_ hsbz 4 (.bool false); refine (labelR_any qp4_0 (by rw [hB]; exact hdb)).mono ?_; rintro e w4 ⟨rfl, D4, hp4, hs4⟩; rw [hB] at hp4 ⊢; have hl4_ : Loc gp D4 w4 w1.heap.size #[.int .i64 1, .string a.v, .int .i64 ((tk L sz i).a : Int), .int .i64 0, .bool false, .int .i64 0, .string ⟨#[]⟩, .int .i64 0, .slice none 0 0, .int .i64 0, .int .i64 0, .slice none 0 0, .slice none 0 0, .int .i64 0, .int .i64 0] := Loc.step qq4_0 hs4; have hm4_ := Loc.step qs4_0 hs4; have H4_ := Stp.trans qH4_0 hs4; clear a0 a1 a2 a3 a4 a5 a6 a7 a8 a9 a10 a11 a12 a13 a14 af; obtain ⟨a0, a1, a2, a3, a4, a5, a6, a7, a8, a9, a10, a11, a12, a13, a14, af⟩ := fif_at hl4_.blk)
    | (go_at_call 148; have qp5_0 := PSt.loc hp4 hl4_ 3 (.int .i64 (b.v : Int)); have qq5_0 := Loc.set hl4_ 3 (.int .i64 (b.v : Int)); have qs5_0 := Loc.far hm4_ hnb 3 (.int .i64 (b.v : Int)); have qH5_0 := Stp.set H4_ hsbz 3 (.int .i64 (b.v : Int)); refine (need_any qp5_0 (bs1 61) (by decide) hd2).mono ?_; rintro e w5 ⟨rfl, D5, hp5, hs5⟩; rw [hQ] at hp5 ⊢; have hl5_ : Loc gp D5 w5 w1.heap.size #[.int .i64 1, .string a.v, .int .i64 ((tk L sz i).a : Int), .int .i64 (b.v : Int), .bool false, .int .i64 0, .string ⟨#[]⟩, .int .i64 0, .slice none 0 0, .int .i64 0, .int .i64 0, .slice none 0 0, .slice none 0 0, .int .i64 0, .int .i64 0] := Loc.step qq5_0 hs5; have hm5_ := Loc.step qs5_0 hs5; have H5_ := Stp.trans qH5_0 hs5; clear a0 a1 a2 a3 a4 a5 a6 a7 a8 a9 a10 a11 a12 a13 a14 af; obtain ⟨a0, a1, a2, a3, a4, a5, a6, a7, a8, a9, a10, a11, a12, a13, a14, af⟩ := fif_at hl5_.blk)
    | (go_at_call 195; refine (closed_any hp5 (by rw [hX]; exact hd3)).mono ?_; rintro e w6 ⟨v, rfl, D6, n6, hp6, hs6, hr6⟩; rw [hX] at hp6 hr6; obtain ⟨k0, x0, m0, p0, l0, c0, hv⟩ := hr6.shape; subst hv; have hl6_ : Loc gp D6 w6 w1.heap.size #[.int .i64 1, .string a.v, .int .i64 ((tk L sz i).a : Int), .int .i64 (b.v : Int), .bool false, .int .i64 0, .string ⟨#[]⟩, .int .i64 0, .slice none 0 0, .int .i64 0, .int .i64 0, .slice none 0 0, .slice none 0 0, .int .i64 0, .int .i64 0] := Loc.step hl5_ hs6; have hm6_ := Loc.step hm5_ hs6; have H6_ := Stp.trans H5_ hs6; clear a0 a1 a2 a3 a4 a5 a6 a7 a8 a9 a10 a11 a12 a13 a14 af; obtain ⟨a0, a1, a2, a3, a4, a5, a6, a7, a8, a9, a10, a11, a12, a13, a14, af⟩ := fif_at hl6_.blk; obtain ⟨r0, r1, r2, r3, r4, r5, r6, r7, r8, r9, r10, r11, r12, r13, r14, rf⟩ := fif_at hm6_.blk))
  have H7 := (Stp.set (Stp.set (Stp.set (Stp.set (Stp.set (Stp.set H6_ hsbz 5 (.int .i64 (k0 : Int))) hsbz 6 (.string x0)) hsbz 7 (.int .i64 (m0 : Int))) hsbz 8 (.slice p0 l0 c0)) hsbz 9 (.int .i64 (exF x.v : Int))) hsbz 10 (.int .i64 (exT x.v : Int)))
  have hp7 := (PSt.set (PSt.set (PSt.set (PSt.set (PSt.set (PSt.set hp6 hl6_.gp hl6_.ne 5 (.int .i64 (k0 : Int))) hl6_.gp hl6_.ne 6 (.string x0)) hl6_.gp hl6_.ne 7 (.int .i64 (m0 : Int))) hl6_.gp hl6_.ne 8 (.slice p0 l0 c0)) hl6_.gp hl6_.ne 9 (.int .i64 (exF x.v : Int))) hl6_.gp hl6_.ne 10 (.int .i64 (exT x.v : Int)))
  have hz5 : w1.heap.size < w5.heap.size := hl5_.lt
  have hE7 := (RdE.set (RdE.set (RdE.set (RdE.set (RdE.set (RdE.set hr6 hz5 5 (.int .i64 (k0 : Int))) hz5 6 (.string x0)) hz5 7 (.int .i64 (m0 : Int))) hz5 8 (.slice p0 l0 c0)) hz5 9 (.int .i64 (exF x.v : Int))) hz5 10 (.int .i64 (exT x.v : Int)))
  have hE8 := RdE.kept n6 (fun _ _ => rfl) (fun k hk => (⟨⟨by have := hk.1; have := hz5; omega, hk.2⟩, trivial⟩ : okS (w.heap.size + 1) gp D6 _ k ∧ True)) _ _ hE7
  have hrS : RdS 1 (fun k => okS (w.heap.size + 1) gp D6 _ k ∧ True) _ (stMk 1 a.v (tk L sz i).a b.v false x.v [] [] 0 0) (.agg #[.int .i64 1, .string a.v, .int .i64 ((tk L sz i).a : Int), .int .i64 (b.v : Int), .bool false, .int .i64 (k0 : Int), .string x0, .int .i64 (m0 : Int), .slice p0 l0 c0, .int .i64 (exF x.v : Int), .int .i64 (exT x.v : Int), .slice none 0 0, .slice none 0 0, .int .i64 0, .int .i64 0]) := ⟨1, a.v, (tk L sz i).a, b.v, false, x.v, [], [], 0, 0, _, _, _, _, _, _, none, 0, none, 0, rfl, rfl, ⟨n6, hE8⟩, ⟨by simp, fun h => absurd h (by simp)⟩, ⟨by simp, fun h => absurd h (by simp)⟩⟩
  obtain ⟨f1, f2, f3⟩ := st_fin hfr hp7 H7 hrS rfl
  exact bodyPost_ret (v := .agg #[.int .i64 1, .string a.v, .int .i64 ((tk L sz i).a : Int), .int .i64 (b.v : Int), .bool false, .int .i64 (k0 : Int), .string x0, .int .i64 (m0 : Int), .slice p0 l0 c0, .int .i64 (exF x.v : Int), .int .i64 (exT x.v : Int), .slice none 0 0, .slice none 0 0, .int .i64 0, .int .i64 0]) (by simp [results, Tryz.results191, go_sem, r0, r1, r2, r3, r4, r5, r6, r7, r8, r9, r10, r11, r12, r13, r14]) rfl ⟨_, rfl, D6, 1, by simpa using f1, f2, f3⟩
set_option maxHeartbeats 2000000 in
set_option maxRecDepth 100000 in
theorem sendR_any (hp : PSt gp w L sz i dp ds D) (hds : ds.length + (pSnd L sz dp i).d.length + 1 ≤ 1099511627776) :
    Calls Tryz.prog 194 #[.pointer (some ⟨gp, 0, none⟩)] w fun e w' => ∃ v, e = .returned v ∧ ToldS gp L sz dp D ds w w' (pSnd L sz dp i) v := by
  have hgp := hp.gp_lt
  have hb0 := (Below.refl w.heap.size w).alloc (Nat.le_refl _) (.cells #[.int .i64 0, .string ⟨#[]⟩, .int .i64 0, .int .i64 0, .bool false, .int .i64 0, .string ⟨#[]⟩, .int .i64 0, .slice none 0 0, .int .i64 0, .int .i64 0, .slice none 0 0, .slice none 0 0, .int .i64 0, .int .i64 0] 93)
  have hp0 := hp.below hb0
  have hfr := hp.fresh (Nat.le_refl w.heap.size)
  have hl0 := Loc.new hp #[.int .i64 0, .string ⟨#[]⟩, .int .i64 0, .int .i64 0, .bool false, .int .i64 0, .string ⟨#[]⟩, .int .i64 0, .slice none 0 0, .int .i64 0, .int .i64 0, .slice none 0 0, .slice none 0 0, .int .i64 0, .int .i64 0]
  have hfd := fun w2 => (tkField (tk L sz i) w2).2.2
  unfold pSnd at hds ⊢
  simp only at hds ⊢
  generalize hA : pNamed L sz i = a at *
  generalize hX : pCl L sz dp a.i = x at *
  have hd1 : ds.length + 1 ≤ 1099511627776 := by simp only [List.length_append] at hds; omega
  have hd3 : (ds ++ a.d).length + x.d.length + 1 ≤ 1099511627776 := by simp only [List.length_append] at hds ⊢; omega
  go_enter Tryz.func194, Tryz.ntmps194
  go_wp2_with (first
    | (go_at_call 146; refine (peek_any hp0).mono ?_; rintro e w1 ⟨rfl, hb1⟩; unfold tkV; have hp1 := hp0.below hb1; have hb1' := (Below.refl w1.heap.size w1).alloc (Nat.le_refl _) (.cells #[.int .i64 5, .string ⟨#[]⟩, .int .i64 ((tk L sz i).a : Int), .int .i64 0, .bool false, .int .i64 0, .string ⟨#[]⟩, .int .i64 0, .slice none 0 0, .int .i64 0, .int .i64 0, .slice none 0 0, .slice none 0 0, .int .i64 0, .int .i64 0] 93); have hlA := Loc.new hp1 #[.int .i64 5, .string ⟨#[]⟩, .int .i64 ((tk L sz i).a : Int), .int .i64 0, .bool false, .int .i64 0, .string ⟨#[]⟩, .int .i64 0, .slice none 0 0, .int .i64 0, .int .i64 0, .slice none 0 0, .slice none 0 0, .int .i64 0, .int .i64 0]; have hl1 := (hl0.step (Stp.below hb1)).step (Stp.below hb1'); have hs1 := (Stp.below (gp := gp) (D := D) hb1).trans (Stp.below hb1'); have hz : w.heap.size + 1 ≤ w1.heap.size := (by simpa using hb1.size); have hnb : w.heap.size ≠ w1.heap.size := (by omega); have hn2 : ¬ w1.heap.size = w.heap.size := (by omega); have hn3 : ¬ w.heap.size = w1.heap.size := (by omega); have hsbz : (w.alloc (.cells #[.int .i64 0, .string ⟨#[]⟩, .int .i64 0, .int .i64 0, .bool false, .int .i64 0, .string ⟨#[]⟩, .int .i64 0, .slice none 0 0, .int .i64 0, .int .i64 0, .slice none 0 0, .slice none 0 0, .int .i64 0, .int .i64 0] 93)).heap.size ≤ w1.heap.size := hb1.size)
    | (go_at_call 147; refine (nameR_any (hp1.below hb1') hd1).mono ?_; rintro e w2 ⟨rfl, D2, hp2, hs2⟩; rw [hA] at hp2 ⊢; have hl2_ : Loc gp D2 w2 w1.heap.size #[.int .i64 5, .string ⟨#[]⟩, .int .i64 ((tk L sz i).a : Int), .int .i64 0, .bool false, .int .i64 0, .string ⟨#[]⟩, .int .i64 0, .slice none 0 0, .int .i64 0, .int .i64 0, .slice none 0 0, .slice none 0 0, .int .i64 0, .int .i64 0] := Loc.step hlA hs2; have hm2_ := Loc.step hl1 hs2; have H2_ := Stp.trans hs1 hs2; obtain ⟨a0, a1, a2, a3, a4, a5, a6, a7, a8, a9, a10, a11, a12, a13, a14, af⟩ := fif_at hl2_.blk)
    | (go_at_call 195; have qp3_0 := PSt.loc hp2 hl2_ 1 (.string a.v); have qq3_0 := Loc.set hl2_ 1 (.string a.v); have qs3_0 := Loc.far hm2_ hnb 1 (.string a.v); have qH3_0 := Stp.set H2_ hsbz 1 (.string a.v); refine (closed_any qp3_0 (by rw [hX]; exact hd3)).mono ?_; rintro e w3 ⟨v, rfl, D3, n3, hp3, hs3, hr3⟩; rw [hX] at hp3 hr3; obtain ⟨k0, x0, m0, p0, l0, c0, hv⟩ := hr3.shape; subst hv; have hl3_ : Loc gp D3 w3 w1.heap.size #[.int .i64 5, .string a.v, .int .i64 ((tk L sz i).a : Int), .int .i64 0, .bool false, .int .i64 0, .string ⟨#[]⟩, .int .i64 0, .slice none 0 0, .int .i64 0, .int .i64 0, .slice none 0 0, .slice none 0 0, .int .i64 0, .int .i64 0] := Loc.step qq3_0 hs3; have hm3_ := Loc.step qs3_0 hs3; have H3_ := Stp.trans qH3_0 hs3; clear a0 a1 a2 a3 a4 a5 a6 a7 a8 a9 a10 a11 a12 a13 a14 af; obtain ⟨a0, a1, a2, a3, a4, a5, a6, a7, a8, a9, a10, a11, a12, a13, a14, af⟩ := fif_at hl3_.blk; obtain ⟨r0, r1, r2, r3, r4, r5, r6, r7, r8, r9, r10, r11, r12, r13, r14, rf⟩ := fif_at hm3_.blk))
  have H7 := (Stp.set (Stp.set (Stp.set (Stp.set (Stp.set (Stp.set H3_ hsbz 5 (.int .i64 (k0 : Int))) hsbz 6 (.string x0)) hsbz 7 (.int .i64 (m0 : Int))) hsbz 8 (.slice p0 l0 c0)) hsbz 9 (.int .i64 (exF x.v : Int))) hsbz 10 (.int .i64 (exT x.v : Int)))
  have hp7 := (PSt.set (PSt.set (PSt.set (PSt.set (PSt.set (PSt.set hp3 hl3_.gp hl3_.ne 5 (.int .i64 (k0 : Int))) hl3_.gp hl3_.ne 6 (.string x0)) hl3_.gp hl3_.ne 7 (.int .i64 (m0 : Int))) hl3_.gp hl3_.ne 8 (.slice p0 l0 c0)) hl3_.gp hl3_.ne 9 (.int .i64 (exF x.v : Int))) hl3_.gp hl3_.ne 10 (.int .i64 (exT x.v : Int)))
  have hz5 : w1.heap.size < (w2.setCell ⟨w1.heap.size, 1, none⟩ (.string a.v)).heap.size := by simpa using hl2_.lt
  have hE7 := (RdE.set (RdE.set (RdE.set (RdE.set (RdE.set (RdE.set hr3 hz5 5 (.int .i64 (k0 : Int))) hz5 6 (.string x0)) hz5 7 (.int .i64 (m0 : Int))) hz5 8 (.slice p0 l0 c0)) hz5 9 (.int .i64 (exF x.v : Int))) hz5 10 (.int .i64 (exT x.v : Int)))
  have hE8 := RdE.kept n3 (fun _ _ => rfl) (fun k hk => (⟨⟨by have := hk.1; have := hz5; omega, hk.2⟩, trivial⟩ : okS (w.heap.size + 1) gp D3 _ k ∧ True)) _ _ hE7
  have hrS : RdS 1 (fun k => okS (w.heap.size + 1) gp D3 _ k ∧ True) _ (stMk 5 a.v (tk L sz i).a 0 false x.v [] [] 0 0) (.agg #[.int .i64 5, .string a.v, .int .i64 ((tk L sz i).a : Int), .int .i64 0, .bool false, .int .i64 (k0 : Int), .string x0, .int .i64 (m0 : Int), .slice p0 l0 c0, .int .i64 (exF x.v : Int), .int .i64 (exT x.v : Int), .slice none 0 0, .slice none 0 0, .int .i64 0, .int .i64 0]) := ⟨5, a.v, (tk L sz i).a, 0, false, x.v, [], [], 0, 0, _, _, _, _, _, _, none, 0, none, 0, rfl, rfl, ⟨n3, hE8⟩, ⟨by simp, fun h => absurd h (by simp)⟩, ⟨by simp, fun h => absurd h (by simp)⟩⟩
  obtain ⟨f1, f2, f3⟩ := st_fin hfr hp7 H7 hrS rfl
  exact bodyPost_ret (v := .agg #[.int .i64 5, .string a.v, .int .i64 ((tk L sz i).a : Int), .int .i64 0, .bool false, .int .i64 (k0 : Int), .string x0, .int .i64 (m0 : Int), .slice p0 l0 c0, .int .i64 (exF x.v : Int), .int .i64 (exT x.v : Int), .slice none 0 0, .slice none 0 0, .int .i64 0, .int .i64 0]) (by simp [results, Tryz.results194, go_sem, r0, r1, r2, r3, r4, r5, r6, r7, r8, r9, r10, r11, r12, r13, r14]) rfl ⟨_, rfl, D3, 1, by simpa using f1, f2, f3⟩
theorem letR_any (hp : PSt gp w L sz i dp ds D) (hds : ds.length + (pLet L sz dp i).d.length + 1 ≤ 1099511627776) :
    Calls Tryz.prog 191 #[.pointer (some ⟨gp, 0, none⟩)] w fun e w' => ∃ v, e = .returned v ∧ ToldS gp L sz dp D ds w w' (pLet L sz dp i) v := by
  cases hC : isT L (pNamed L sz i).i (bs1 58)
  · exact let_open hp hC hds
  · exact let_label hp hC hds
end
end Go.Proofs.YtfioihehhlpgcaaGreatDoor
namespace Go.Proofs.YtfioihehhlpgcaaGreatDoor
open Go.RowKit
attribute [local go_sem ↓] Go.wp_at_zero Go.wp_at_succ
section
variable {gp : Nat} {w : World} {L : List Tok} {sz i dp : Nat} {ds : List Dg} {D : Option Nat}
/-- A name set. -/
def pSet (L : List Tok) (sz dp i : Nat) : R Tr := ⟨stMk 2 (tk L sz i).x (tk L sz i).a 0 false (pCl L sz dp (i + 2)).v [] [] 0 0, (pCl L sz dp (i + 2)).i, (pCl L sz dp (i + 2)).d⟩
/-- An expression done. -/
def pDo (L : List Tok) (sz dp i : Nat) : R Tr := ⟨stMk 7 noB 0 0 false (pCl L sz dp i).v [] [] 0 0, (pCl L sz dp i).i, (pCl L sz dp i).d⟩
set_option maxHeartbeats 2000000 in
set_option maxRecDepth 100000 in
theorem do_end (hp : PSt gp w L sz i dp ds D) (hi : i + 1 = L.length) (hds : ds.length + (pCl L sz dp i).d.length + 1 ≤ 1099511627776) :
    Calls Tryz.prog 196 #[.pointer (some ⟨gp, 0, none⟩)] w fun e w' => ∃ v, e = .returned v ∧ ToldS gp L sz dp D ds w w' (pDo L sz dp i) v := by
  have hgp := hp.gp_lt
  have hb0 := (Below.refl w.heap.size w).alloc (Nat.le_refl _) (.cells #[.int .i64 0, .string ⟨#[]⟩, .int .i64 0, .int .i64 0, .bool false, .int .i64 0, .string ⟨#[]⟩, .int .i64 0, .slice none 0 0, .int .i64 0, .int .i64 0, .slice none 0 0, .slice none 0 0, .int .i64 0, .int .i64 0] 93)
  have hp0 := hp.below hb0
  have hfr := hp.fresh (Nat.le_refl w.heap.size)
  have hl0 := Loc.new hp #[.int .i64 0, .string ⟨#[]⟩, .int .i64 0, .int .i64 0, .bool false, .int .i64 0, .string ⟨#[]⟩, .int .i64 0, .slice none 0 0, .int .i64 0, .int .i64 0, .slice none 0 0, .slice none 0 0, .int .i64 0, .int .i64 0]
  have hlen := hp.len
  obtain ⟨p9, c9, v9, z0, z1, z2, z3, z4, z5, hf9, htok, hown, hD9⟩ := hp0.cells
  clear hown hD9
  unfold pDo
  generalize hX : pCl L sz dp i = x at *
  have gw : IntKind.i64.wrap ((i : Int) + 1) = (i : Int) + 1 := wrap_id _ (by omega) (by omega)
  have ge : ((i : Int) + 1 == (L.length : Int)) = true := by simp; omega
  clear htok
  go_enter Tryz.func196, Tryz.ntmps196
  go_wp2
  go_quiet (fail)
  have hbq := below_drewN (Below.refl (w.alloc (.cells #[.int .i64 0, .string ⟨#[]⟩, .int .i64 0, .int .i64 0, .bool false, .int .i64 0, .string ⟨#[]⟩, .int .i64 0, .slice none 0 0, .int .i64 0, .int .i64 0, .slice none 0 0, .slice none 0 0, .int .i64 0, .int .i64 0] 93)).heap.size (w.alloc (.cells #[.int .i64 0, .string ⟨#[]⟩, .int .i64 0, .int .i64 0, .bool false, .int .i64 0, .string ⟨#[]⟩, .int .i64 0, .slice none 0 0, .int .i64 0, .int .i64 0, .slice none 0 0, .slice none 0 0, .int .i64 0, .int .i64 0] 93))) nq
  go_wp2_with (first
    | (go_at_call 195; refine (closed_any (hp0.below hbq) (by rw [hX]; exact hds)).mono ?_; rintro e w6 ⟨v, rfl, D6, n6, hp6, hs6, hr6⟩; rw [hX] at hp6 hr6; obtain ⟨k0, x0, m0, p0, l0, c0, hv⟩ := hr6.shape; subst hv; have hl6 := Loc.step (hl0.step (Stp.below hbq)) hs6; obtain ⟨r0, r1, r2, r3, r4, r5, r6, r7, r8, r9, r10, r11, r12, r13, r14, rf⟩ := fif_at hl6.blk))
  have hzq : w.heap.size + 1 ≤ ((w.alloc (.cells #[.int .i64 0, .string ⟨#[]⟩, .int .i64 0, .int .i64 0, .bool false, .int .i64 0, .string ⟨#[]⟩, .int .i64 0, .slice none 0 0, .int .i64 0, .int .i64 0, .slice none 0 0, .slice none 0 0, .int .i64 0, .int .i64 0] 93)).drewN nq).heap.size := by simp
  have hE8 : RdE n6 (fun k => okS (w.heap.size + 1) gp D6 w6 k ∧ True) w6 x.v (.agg #[.int .i64 (k0 : Int), .string x0, .int .i64 (m0 : Int), .slice p0 l0 c0, .int .i64 (exF x.v : Int), .int .i64 (exT x.v : Int)]) := RdE.kept n6 (fun _ _ => rfl) (fun k hk => ⟨⟨by have := hk.1; omega, hk.2⟩, trivial⟩) _ _ hr6
  have hrS : RdS 1 (fun k => okS (w.heap.size + 1) gp D6 w6 k ∧ True) w6 (stMk 7 noB 0 0 false x.v [] [] 0 0) (.agg #[.int .i64 7, .string ⟨#[]⟩, .int .i64 0, .int .i64 0, .bool false, .int .i64 (k0 : Int), .string x0, .int .i64 (m0 : Int), .slice p0 l0 c0, .int .i64 (exF x.v : Int), .int .i64 (exT x.v : Int), .slice none 0 0, .slice none 0 0, .int .i64 0, .int .i64 0]) := ⟨7, noB, 0, 0, false, x.v, [], [], 0, 0, _, _, _, _, _, _, none, 0, none, 0, rfl, rfl, ⟨n6, hE8⟩, ⟨by simp, fun h => absurd h (by simp)⟩, ⟨by simp, fun h => absurd h (by simp)⟩⟩
  obtain ⟨f1, f2, f3⟩ := st_fin hfr hp6 ((Stp.below hbq).trans hs6) hrS rfl
  exact bodyPost_ret (v := .agg #[.int .i64 7, .string ⟨#[]⟩, .int .i64 0, .int .i64 0, .bool false, .int .i64 (k0 : Int), .string x0, .int .i64 (m0 : Int), .slice p0 l0 c0, .int .i64 (exF x.v : Int), .int .i64 (exT x.v : Int), .slice none 0 0, .slice none 0 0, .int .i64 0, .int .i64 0]) (by simp [results, Tryz.results196, go_sem, r0, r1, r2, r3, r4, r5, r6, r7, r8, r9, r10, r11, r12, r13, r14]) rfl ⟨_, rfl, D6, 1, by simpa using f1, f2, f3⟩
set_option maxHeartbeats 2000000 in
set_option maxRecDepth 100000 in
theorem do_else (hp : PSt gp w L sz i dp ds D) (hi : i + 1 < L.length) (hx : ¬ (tk L sz (i + 1)).x = bs1 61) (hds : ds.length + (pCl L sz dp i).d.length + 1 ≤ 1099511627776) :
    Calls Tryz.prog 196 #[.pointer (some ⟨gp, 0, none⟩)] w fun e w' => ∃ v, e = .returned v ∧ ToldS gp L sz dp D ds w w' (pDo L sz dp i) v := by
  have hgp := hp.gp_lt
  have hb0 := (Below.refl w.heap.size w).alloc (Nat.le_refl _) (.cells #[.int .i64 0, .string ⟨#[]⟩, .int .i64 0, .int .i64 0, .bool false, .int .i64 0, .string ⟨#[]⟩, .int .i64 0, .slice none 0 0, .int .i64 0, .int .i64 0, .slice none 0 0, .slice none 0 0, .int .i64 0, .int .i64 0] 93)
  have hp0 := hp.below hb0
  have hfr := hp.fresh (Nat.le_refl w.heap.size)
  have hl0 := Loc.new hp #[.int .i64 0, .string ⟨#[]⟩, .int .i64 0, .int .i64 0, .bool false, .int .i64 0, .string ⟨#[]⟩, .int .i64 0, .slice none 0 0, .int .i64 0, .int .i64 0, .slice none 0 0, .slice none 0 0, .int .i64 0, .int .i64 0]
  have hlen := hp.len
  obtain ⟨p9, c9, v9, z0, z1, z2, z3, z4, z5, hf9, htok, hown, hD9⟩ := hp0.cells
  clear hown hD9
  unfold pDo
  generalize hX : pCl L sz dp i = x at *
  have hi1 : i + 1 < L.length := hi
  have gw : IntKind.i64.wrap ((i : Int) + 1) = (i : Int) + 1 := wrap_id _ (by omega) (by omega)
  have ge : ((i : Int) + 1 == (L.length : Int)) = false := by simp; omega
  have gi : (0 : Int) ≤ (i : Int) + 1 := by omega
  have gj : (i : Int) + 1 < (L.length : Int) := by omega
  obtain ⟨g, rfl, hg, ht⟩ := htok (by omega)
  have ⟨t0, t1, t2⟩ := ht (i + 1) _ (tok_of (sz := sz) hi1)
  rw [Nat.zero_add] at t0 t1 t2
  have gn : ((i : Int) + 1).toNat = i + 1 := by omega
  have HB : Hid (_ = _) := beq_bs (tk L sz (i + 1)).x (bs1 61)
  have e61 : ([61] : List UInt8) = (bs1 61).toList := by rw [Lib.toList_data]; rfl
  have hbb : ((tk L sz (i + 1)).x.toList == [61]) = false := by rw [e61, HB.out]; simp [hx]
  clear ht htok HB e61
  clear hx
  go_enter Tryz.func196, Tryz.ntmps196
  go_wp2
  go_quiet (fail)
  have hbq := below_drewN (Below.refl (w.alloc (.cells #[.int .i64 0, .string ⟨#[]⟩, .int .i64 0, .int .i64 0, .bool false, .int .i64 0, .string ⟨#[]⟩, .int .i64 0, .slice none 0 0, .int .i64 0, .int .i64 0, .slice none 0 0, .slice none 0 0, .int .i64 0, .int .i64 0] 93)).heap.size (w.alloc (.cells #[.int .i64 0, .string ⟨#[]⟩, .int .i64 0, .int .i64 0, .bool false, .int .i64 0, .string ⟨#[]⟩, .int .i64 0, .slice none 0 0, .int .i64 0, .int .i64 0, .slice none 0 0, .slice none 0 0, .int .i64 0, .int .i64 0] 93))) nq
  go_wp2_with (first
    | (go_at_call 195; refine (closed_any (hp0.below hbq) (by rw [hX]; exact hds)).mono ?_; rintro e w6 ⟨v, rfl, D6, n6, hp6, hs6, hr6⟩; rw [hX] at hp6 hr6; obtain ⟨k0, x0, m0, p0, l0, c0, hv⟩ := hr6.shape; subst hv; have hl6 := Loc.step (hl0.step (Stp.below hbq)) hs6; obtain ⟨r0, r1, r2, r3, r4, r5, r6, r7, r8, r9, r10, r11, r12, r13, r14, rf⟩ := fif_at hl6.blk))
  have hzq : w.heap.size + 1 ≤ ((w.alloc (.cells #[.int .i64 0, .string ⟨#[]⟩, .int .i64 0, .int .i64 0, .bool false, .int .i64 0, .string ⟨#[]⟩, .int .i64 0, .slice none 0 0, .int .i64 0, .int .i64 0, .slice none 0 0, .slice none 0 0, .int .i64 0, .int .i64 0] 93)).drewN nq).heap.size := by simp
  have hE8 : RdE n6 (fun k => okS (w.heap.size + 1) gp D6 w6 k ∧ True) w6 x.v (.agg #[.int .i64 (k0 : Int), .string x0, .int .i64 (m0 : Int), .slice p0 l0 c0, .int .i64 (exF x.v : Int), .int .i64 (exT x.v : Int)]) := RdE.kept n6 (fun _ _ => rfl) (fun k hk => ⟨⟨by have := hk.1; omega, hk.2⟩, trivial⟩) _ _ hr6
  have hrS : RdS 1 (fun k => okS (w.heap.size + 1) gp D6 w6 k ∧ True) w6 (stMk 7 noB 0 0 false x.v [] [] 0 0) (.agg #[.int .i64 7, .string ⟨#[]⟩, .int .i64 0, .int .i64 0, .bool false, .int .i64 (k0 : Int), .string x0, .int .i64 (m0 : Int), .slice p0 l0 c0, .int .i64 (exF x.v : Int), .int .i64 (exT x.v : Int), .slice none 0 0, .slice none 0 0, .int .i64 0, .int .i64 0]) := ⟨7, noB, 0, 0, false, x.v, [], [], 0, 0, _, _, _, _, _, _, none, 0, none, 0, rfl, rfl, ⟨n6, hE8⟩, ⟨by simp, fun h => absurd h (by simp)⟩, ⟨by simp, fun h => absurd h (by simp)⟩⟩
  obtain ⟨f1, f2, f3⟩ := st_fin hfr hp6 ((Stp.below hbq).trans hs6) hrS rfl
  exact bodyPost_ret (v := .agg #[.int .i64 7, .string ⟨#[]⟩, .int .i64 0, .int .i64 0, .bool false, .int .i64 (k0 : Int), .string x0, .int .i64 (m0 : Int), .slice p0 l0 c0, .int .i64 (exF x.v : Int), .int .i64 (exT x.v : Int), .slice none 0 0, .slice none 0 0, .int .i64 0, .int .i64 0]) (by simp [results, Tryz.results196, go_sem, r0, r1, r2, r3, r4, r5, r6, r7, r8, r9, r10, r11, r12, r13, r14]) rfl ⟨_, rfl, D6, 1, by simpa using f1, f2, f3⟩
set_option maxHeartbeats 2000000 in
set_option maxRecDepth 100000 in
theorem set_any (hp : PSt gp w L sz i dp ds D) (hi : i + 1 < L.length) (hx : (tk L sz (i + 1)).x = bs1 61) (hds : ds.length + (pCl L sz dp (i + 2)).d.length + 1 ≤ 1099511627776) :
    Calls Tryz.prog 196 #[.pointer (some ⟨gp, 0, none⟩)] w fun e w' => ∃ v, e = .returned v ∧ ToldS gp L sz dp D ds w w' (pSet L sz dp i) v := by
  have hgp := hp.gp_lt
  have hb0 := (Below.refl w.heap.size w).alloc (Nat.le_refl _) (.cells #[.int .i64 0, .string ⟨#[]⟩, .int .i64 0, .int .i64 0, .bool false, .int .i64 0, .string ⟨#[]⟩, .int .i64 0, .slice none 0 0, .int .i64 0, .int .i64 0, .slice none 0 0, .slice none 0 0, .int .i64 0, .int .i64 0] 93)
  have hp0 := hp.below hb0
  have hfr := hp.fresh (Nat.le_refl w.heap.size)
  have hl0 := Loc.new hp #[.int .i64 0, .string ⟨#[]⟩, .int .i64 0, .int .i64 0, .bool false, .int .i64 0, .string ⟨#[]⟩, .int .i64 0, .slice none 0 0, .int .i64 0, .int .i64 0, .slice none 0 0, .slice none 0 0, .int .i64 0, .int .i64 0]
  have hlen := hp.len
  obtain ⟨p9, c9, v9, z0, z1, z2, z3, z4, z5, hf9, htok, hown, hD9⟩ := hp0.cells
  clear hown hD9
  unfold pSet
  generalize hX : pCl L sz dp (i + 2) = x at *
  have hi1 : i + 1 < L.length := hi
  have gw : IntKind.i64.wrap ((i : Int) + 1) = (i : Int) + 1 := wrap_id _ (by omega) (by omega)
  have ge : ((i : Int) + 1 == (L.length : Int)) = false := by simp; omega
  have gi : (0 : Int) ≤ (i : Int) + 1 := by omega
  have gj : (i : Int) + 1 < (L.length : Int) := by omega
  obtain ⟨g, rfl, hg, ht⟩ := htok (by omega)
  have ⟨t0, t1, t2⟩ := ht (i + 1) _ (tok_of (sz := sz) hi1)
  rw [Nat.zero_add] at t0 t1 t2
  have gn : ((i : Int) + 1).toNat = i + 1 := by omega
  have HB : Hid (_ = _) := beq_bs (tk L sz (i + 1)).x (bs1 61)
  have e61 : ([61] : List UInt8) = (bs1 61).toList := by rw [Lib.toList_data]; rfl
  have hbb : ((tk L sz (i + 1)).x.toList == [61]) = true := by rw [e61, HB.out]; simp [hx]
  clear ht htok HB e61
  clear hx
  go_enter Tryz.func196, Tryz.ntmps196
  go_wp2
  go_quiet (fail)
  have hbq := below_drewN (Below.refl (w.alloc (.cells #[.int .i64 0, .string ⟨#[]⟩, .int .i64 0, .int .i64 0, .bool false, .int .i64 0, .string ⟨#[]⟩, .int .i64 0, .slice none 0 0, .int .i64 0, .int .i64 0, .slice none 0 0, .slice none 0 0, .int .i64 0, .int .i64 0] 93)).heap.size (w.alloc (.cells #[.int .i64 0, .string ⟨#[]⟩, .int .i64 0, .int .i64 0, .bool false, .int .i64 0, .string ⟨#[]⟩, .int .i64 0, .slice none 0 0, .int .i64 0, .int .i64 0, .slice none 0 0, .slice none 0 0, .int .i64 0, .int .i64 0] 93))) nq
  have F1 : Hid (1 = 1) := rfl
  go_wp2_with (first
    | (go_at_call 145; have f := F1; clear f F1; refine (pass_any (hp0.below hbq) (by omega)).mono ?_; rintro e w1 ⟨rfl, hp1, hs1⟩; unfold tkV; obtain ⟨q1, q2, q3, q4, q5⟩ := peekd hp1 (Below.refl _ _) (tk L sz i))
    | (go_at_call 145; refine (pass_any q1 hi1).mono ?_; rintro e w2 ⟨rfl, hp2, hs2⟩; unfold tkV; obtain ⟨l1, l2, l3⟩ := slot (hs2.block w1.heap.size (by simp) (by omega) q5); have y1 := l3 1 _ rfl; have y2 := l3 2 _ rfl; clear l3; have H2 := (((Stp.below hbq).trans hs1).trans (Stp.below q2)).trans hs2; have hl2 := hl0.step H2))
  have hz1 : w.heap.size + 1 ≤ w1.heap.size := by simpa using hs1.size
  have hz2 : w1.heap.size + 1 ≤ w2.heap.size := by simpa using hs2.size
  have hn1 : ¬ w1.heap.size = w.heap.size := by omega
  have hn2 : ¬ w.heap.size = w1.heap.size := by omega
  have HF1 : Hid (w1.heap.size < w2.heap.size ∧ w1.heap.size ≠ gp ∧ some w1.heap.size ≠ D) := ⟨by omega, by omega, q5⟩
  go_region_held3 (fun w' => w'.cell? ⟨w1.heap.size, 1, none⟩ = some (.string (tk L sz i).x) ∧ w'.cell? ⟨w1.heap.size, 2, none⟩ = some (.int .i64 ((tk L sz i).a : Int)))
    (first | go_keep | (with_reducible exact ⟨z1', z2'⟩) | (refine ⟨?_, ?_⟩ <;> simp [go_sem, z1', z2', hn1, hn2]))
    ((go_at_call 195; refine (closed_any hp2.drew (by rw [hX]; exact hds)).mono ?_; rintro e w6 ⟨v, rfl, D6, n6, hp6, hs6, hr6⟩; rw [hX] at hp6 hr6; obtain ⟨k0, x0, m0, p0, l0, c0, hv⟩ := hr6.shape; subst hv; have hs6' := (Stp.refl gp D w2).drew.trans hs6; have hl6 := Loc.step hl2 hs6'; obtain ⟨r0, r1, r2, r3, r4, r5, r6, r7, r8, r9, r10, r11, r12, r13, r14, rf⟩ := fif_at hl6.blk; have z1' := (World.cell?_of_block (a := ⟨w1.heap.size, 1, none⟩) (hs6.block w1.heap.size HF1.out.1 HF1.out.2.1 HF1.out.2.2)).trans y1; have z2' := (World.cell?_of_block (a := ⟨w1.heap.size, 2, none⟩) (hs6.block w1.heap.size HF1.out.1 HF1.out.2.1 HF1.out.2.2)).trans y2))
  go_wp2
  have hzq : w.heap.size + 1 ≤ w2.drew.heap.size := by show _ ≤ w2.heap.size; omega
  have hE8 : RdE n6 (fun k => okS (w.heap.size + 1) gp D6 w6 k ∧ True) w6 x.v (.agg #[.int .i64 (k0 : Int), .string x0, .int .i64 (m0 : Int), .slice p0 l0 c0, .int .i64 (exF x.v : Int), .int .i64 (exT x.v : Int)]) := RdE.kept n6 (fun _ _ => rfl) (fun k hk => ⟨⟨by have := hk.1; omega, hk.2⟩, trivial⟩) _ _ hr6
  have hrS : RdS 1 (fun k => okS (w.heap.size + 1) gp D6 w6 k ∧ True) w6 (stMk 2 (tk L sz i).x (tk L sz i).a 0 false x.v [] [] 0 0) (.agg #[.int .i64 2, .string (tk L sz i).x, .int .i64 ((tk L sz i).a : Int), .int .i64 0, .bool false, .int .i64 (k0 : Int), .string x0, .int .i64 (m0 : Int), .slice p0 l0 c0, .int .i64 (exF x.v : Int), .int .i64 (exT x.v : Int), .slice none 0 0, .slice none 0 0, .int .i64 0, .int .i64 0]) := ⟨2, (tk L sz i).x, (tk L sz i).a, 0, false, x.v, [], [], 0, 0, _, _, _, _, _, _, none, 0, none, 0, rfl, rfl, ⟨n6, hE8⟩, ⟨by simp, fun h => absurd h (by simp)⟩, ⟨by simp, fun h => absurd h (by simp)⟩⟩
  obtain ⟨f1, f2, f3⟩ := st_fin hfr hp6 (H2.trans hs6') hrS rfl
  exact bodyPost_ret (v := .agg #[.int .i64 2, .string (tk L sz i).x, .int .i64 ((tk L sz i).a : Int), .int .i64 0, .bool false, .int .i64 (k0 : Int), .string x0, .int .i64 (m0 : Int), .slice p0 l0 c0, .int .i64 (exF x.v : Int), .int .i64 (exT x.v : Int), .slice none 0 0, .slice none 0 0, .int .i64 0, .int .i64 0]) (by simp [results, Tryz.results196, go_sem, r0, r1, r2, r3, r4, r5, r6, r7, r8, r9, r10, r11, r12, r13, r14]) rfl ⟨_, rfl, D6, 1, by simpa using f1, f2, f3⟩
end
end Go.Proofs.YtfioihehhlpgcaaGreatDoor

/- Texts of this seat, one behind the other: LndT, LndU, LndV, LndW. -/
import Derived.Test.YtfioihehhlpgcaaGreatDoorZb09
import Derived.Deep.RegionHeld3
import Derived.BigRegion
namespace Go.Proofs.YtfioihehhlpgcaaGreatDoor
open Go.RowKit
attribute [local go_sem ↓] Go.wp_at_zero Go.wp_at_succ
section
variable {gp : Nat} {w : World} {L : List Tok} {sz i dp : Nat} {ds : List Dg} {D : Option Nat}
set_option maxHeartbeats 2000000 in
set_option maxRecDepth 100000 in
theorem stmt_if (hp : PSt gp w L sz i dp ds D) (hW0 : isT L i kLet = false) (hW1 : isT L i kIf = true) {f : Nat} (hB : CBl f) (hf : 50 * (L.length - (i + 1)) + 48 ≤ f) (hds : ds.length + (pIf L sz f dp (i + 1)).d.length + 1 ≤ 1099511627776) :
    Calls Tryz.prog 175 #[.pointer (some ⟨gp, 0, none⟩)] w fun e w' => ∃ v, e = .returned v ∧ ToldS gp L sz dp D ds w w' (tmS L sz i (pIf L sz f dp (i + 1))) v := by
  have hgp := hp.gp_lt
  have hb0 := (Below.refl w.heap.size w).alloc (Nat.le_refl _) (.cells #[.int .i64 0, .string ⟨#[]⟩, .int .i64 0, .int .i64 0, .bool false, .int .i64 0, .string ⟨#[]⟩, .int .i64 0, .slice none 0 0, .int .i64 0, .int .i64 0, .slice none 0 0, .slice none 0 0, .int .i64 0, .int .i64 0] 93)
  have hp0 := hp.below hb0
  have hfr := hp.fresh (Nat.le_refl w.heap.size)
  have hl0 := Loc.new hp #[.int .i64 0, .string ⟨#[]⟩, .int .i64 0, .int .i64 0, .bool false, .int .i64 0, .string ⟨#[]⟩, .int .i64 0, .slice none 0 0, .int .i64 0, .int .i64 0, .slice none 0 0, .slice none 0 0, .int .i64 0, .int .i64 0]
  have hlS := fun w1 (h1 : PSt gp w1 L sz i dp ds D) {D' : Option Nat} {w' : World} (hk : Stp gp D D' ((w1.alloc (.cells #[.int .i64 ((tk L sz i).k : Int), .string (tk L sz i).x, .int .i64 ((tk L sz i).a : Int)] 175)).alloc (.cells #[.int .i64 0, .string ⟨#[]⟩, .int .i64 0, .int .i64 0, .bool false, .int .i64 0, .string ⟨#[]⟩, .int .i64 0, .slice none 0 0, .int .i64 0, .int .i64 0, .slice none 0 0, .slice none 0 0, .int .i64 0, .int .i64 0] 93)) w') => stLoc h1 (.cells #[.int .i64 ((tk L sz i).k : Int), .string (tk L sz i).x, .int .i64 ((tk L sz i).a : Int)] 175) hk
  have hTk := fun w1 (h1 : PSt gp w1 L sz i dp ds D) {D' : Option Nat} {w' : World} (hk : Stp gp D D' ((w1.alloc (.cells #[.int .i64 ((tk L sz i).k : Int), .string (tk L sz i).x, .int .i64 ((tk L sz i).a : Int)] 175)).alloc (.cells #[.int .i64 0, .string ⟨#[]⟩, .int .i64 0, .int .i64 0, .bool false, .int .i64 0, .string ⟨#[]⟩, .int .i64 0, .slice none 0 0, .int .i64 0, .int .i64 0, .slice none 0 0, .slice none 0 0, .int .i64 0, .int .i64 0] 93)) w') => tkLoc h1 (tk L sz i) hk
  have F0 : Hid (1 = 1) := rfl
  have F1 : Hid (1 = 1) := rfl
  unfold tmS
  go_enter Tryz.func175, Tryz.ntmps175
  go_wp2_with (first
    | (go_at_call 146; refine (peek_any hp0).mono ?_; rintro e w1 ⟨rfl, hb1⟩; unfold tkV; have hq := (((Below.refl w1.heap.size w1).alloc (Nat.le_refl _) (.cells #[.int .i64 ((tk L sz i).k : Int), .string (tk L sz i).x, .int .i64 ((tk L sz i).a : Int)] 175)).alloc (by simp) (.cells #[.int .i64 0, .string ⟨#[]⟩, .int .i64 0, .int .i64 0, .bool false, .int .i64 0, .string ⟨#[]⟩, .int .i64 0, .slice none 0 0, .int .i64 0, .int .i64 0, .slice none 0 0, .slice none 0 0, .int .i64 0, .int .i64 0] 93)); have hp1 := (hp0.below hb1).below hq; have HW := (Stp.below (gp := gp) (D := D) hb1).trans (Stp.below hq); have hlR := hl0.step HW; have hz : w.heap.size + 1 ≤ w1.heap.size := (by simpa using hb1.size))
    | (go_at_call 105; have f := F0; clear f F0; refine (take_any hp1 kLet (by decide)).mono ?_; rintro e w0_ ⟨rfl, hp0_, hs0_⟩; rw [hW0] at hp0_ ⊢; simp only [Bool.false_eq_true, if_false] at hp0_)
    | (go_at_call 105; have f := F1; clear f F1; refine (take_any hp0_ kIf (by decide)).mono ?_; rintro e w1_ ⟨rfl, hp1_, hs1_⟩; rw [hW1] at hp1_ ⊢; simp only [if_true] at hp1_)
    | (go_at_call 192; refine (choiceR_any hp1_ hB hf hds).mono ?_; rintro e w6 ⟨v, rfl, D6, n6, hp6, hs6, hr6⟩; obtain ⟨k0, x0, a0_, b0_, o0, ek, ex, en, ep, el, ec, ef, et, p1, l1, c1, p2, l2, c2, f0, t0, hv⟩ := hr6.shape; subst hv; have K6 := Stp.trans (Stp.trans hs0_ hs1_) hs6; have hlS6 := hlS w1 (hp0.below hb1) K6; have hlR6 := hlR.step K6; have htk6 := hTk w1 (hp0.below hb1) K6; obtain ⟨a0, a1, a2, a3, a4, a5, a6, a7, a8, a9, a10, a11, a12, a13, a14, af⟩ := fif_at hlS6.blk; obtain ⟨r0, r1, r2, r3, r4, r5, r6, r7, r8, r9, r10, r11, r12, r13, r14, rf⟩ := fif_at hlR6.blk; obtain ⟨p9, c9, v9, z0, z1, z2, z3, z4, z5, hf9, htok, hown, hD9⟩ := hp6.cells; clear htok hown hD9; have y2 := cell_of_row _ _ 2 _ _ _ htk6; simp only [List.getElem?_toArray, List.getElem?_cons_succ, List.getElem?_cons_zero] at y2; have hn1 : ¬ w1.heap.size + 1 = w.heap.size := (by omega); have hn2 : ¬ w.heap.size = w1.heap.size + 1 := (by omega); have hn3 : ¬ w1.heap.size = w.heap.size := (by omega); have hn4 : ¬ w.heap.size = w1.heap.size := (by omega); have hgp1 := (hp0.below hb1).gp_lt; have hn5 : ¬ gp = w1.heap.size := (by omega); have hn6 : ¬ gp = w1.heap.size + 1 := (by omega); have hn7 : ¬ gp = w.heap.size := (by omega); have hn8 : ¬ w1.heap.size = gp := (by omega); have hn9 : ¬ w1.heap.size + 1 = gp := (by omega)))
  have hsx := fif hp6 (HW.trans K6) (b := w1.heap.size + 1) (by simp; omega) hlS6.gp hlS6.ne (.int .i64 (k0 : Int)) (.string x0) (.int .i64 (a0_ : Int)) (.int .i64 (b0_ : Int)) (.bool o0) (.int .i64 (ek : Int)) (.string ex) (.int .i64 (en : Int)) (.slice ep el ec) (.int .i64 (ef : Int)) (.int .i64 (et : Int)) (.slice p1 l1 c1) (.slice p2 l2 c2) (.int .i64 (f0 : Int)) (.int .i64 (t0 : Int))
  have hblk := fif_blk hlS6.blk (.int .i64 (k0 : Int)) (.string x0) (.int .i64 (a0_ : Int)) (.int .i64 (b0_ : Int)) (.bool o0) (.int .i64 (ek : Int)) (.string ex) (.int .i64 (en : Int)) (.slice ep el ec) (.int .i64 (ef : Int)) (.int .i64 (et : Int)) (.slice p1 l1 c1) (.slice p2 l2 c2) (.int .i64 (f0 : Int)) (.int .i64 (t0 : Int))
  have hfar : ∀ k, k ≠ w1.heap.size + 1 → (((((((((((((((w6.setCell ⟨w1.heap.size + 1, 0, none⟩ (.int .i64 (k0 : Int))).setCell ⟨w1.heap.size + 1, 1, none⟩ (.string x0)).setCell ⟨w1.heap.size + 1, 2, none⟩ (.int .i64 (a0_ : Int))).setCell ⟨w1.heap.size + 1, 3, none⟩ (.int .i64 (b0_ : Int))).setCell ⟨w1.heap.size + 1, 4, none⟩ (.bool o0)).setCell ⟨w1.heap.size + 1, 5, none⟩ (.int .i64 (ek : Int))).setCell ⟨w1.heap.size + 1, 6, none⟩ (.string ex)).setCell ⟨w1.heap.size + 1, 7, none⟩ (.int .i64 (en : Int))).setCell ⟨w1.heap.size + 1, 8, none⟩ (.slice ep el ec)).setCell ⟨w1.heap.size + 1, 9, none⟩ (.int .i64 (ef : Int))).setCell ⟨w1.heap.size + 1, 10, none⟩ (.int .i64 (et : Int))).setCell ⟨w1.heap.size + 1, 11, none⟩ (.slice p1 l1 c1)).setCell ⟨w1.heap.size + 1, 12, none⟩ (.slice p2 l2 c2)).setCell ⟨w1.heap.size + 1, 13, none⟩ (.int .i64 (f0 : Int))).setCell ⟨w1.heap.size + 1, 14, none⟩ (.int .i64 (t0 : Int))).heap[k]? = w6.heap[k]? := fun k hk => sets_far hk (.int .i64 (k0 : Int)) (.string x0) (.int .i64 (a0_ : Int)) (.int .i64 (b0_ : Int)) (.bool o0) (.int .i64 (ek : Int)) (.string ex) (.int .i64 (en : Int)) (.slice ep el ec) (.int .i64 (ef : Int)) (.int .i64 (et : Int)) (.slice p1 l1 c1) (.slice p2 l2 c2) (.int .i64 (f0 : Int)) (.int .i64 (t0 : Int))
  have hsiz : (((((((((((((((w6.setCell ⟨w1.heap.size + 1, 0, none⟩ (.int .i64 (k0 : Int))).setCell ⟨w1.heap.size + 1, 1, none⟩ (.string x0)).setCell ⟨w1.heap.size + 1, 2, none⟩ (.int .i64 (a0_ : Int))).setCell ⟨w1.heap.size + 1, 3, none⟩ (.int .i64 (b0_ : Int))).setCell ⟨w1.heap.size + 1, 4, none⟩ (.bool o0)).setCell ⟨w1.heap.size + 1, 5, none⟩ (.int .i64 (ek : Int))).setCell ⟨w1.heap.size + 1, 6, none⟩ (.string ex)).setCell ⟨w1.heap.size + 1, 7, none⟩ (.int .i64 (en : Int))).setCell ⟨w1.heap.size + 1, 8, none⟩ (.slice ep el ec)).setCell ⟨w1.heap.size + 1, 9, none⟩ (.int .i64 (ef : Int))).setCell ⟨w1.heap.size + 1, 10, none⟩ (.int .i64 (et : Int))).setCell ⟨w1.heap.size + 1, 11, none⟩ (.slice p1 l1 c1)).setCell ⟨w1.heap.size + 1, 12, none⟩ (.slice p2 l2 c2)).setCell ⟨w1.heap.size + 1, 13, none⟩ (.int .i64 (f0 : Int))).setCell ⟨w1.heap.size + 1, 14, none⟩ (.int .i64 (t0 : Int))).heap.size = w6.heap.size := by simp
  have hlt6 : w1.heap.size + 1 < w1_.heap.size := (hlS w1 (hp0.below hb1) (Stp.trans hs0_ hs1_)).lt
  clear a0 a1 a2 a3 a4 a5 a6 a7 a8 a9 a10 a11 a12 a13 a14 af r0 r1 r2 r3 r4 r5 r6 r7 r8 r9 r10 r11 r12 r13 r14 rf z0 z1 z2 z3 z4 z5 hf9 y2
  generalize (((((((((((((((w6.setCell ⟨w1.heap.size + 1, 0, none⟩ (.int .i64 (k0 : Int))).setCell ⟨w1.heap.size + 1, 1, none⟩ (.string x0)).setCell ⟨w1.heap.size + 1, 2, none⟩ (.int .i64 (a0_ : Int))).setCell ⟨w1.heap.size + 1, 3, none⟩ (.int .i64 (b0_ : Int))).setCell ⟨w1.heap.size + 1, 4, none⟩ (.bool o0)).setCell ⟨w1.heap.size + 1, 5, none⟩ (.int .i64 (ek : Int))).setCell ⟨w1.heap.size + 1, 6, none⟩ (.string ex)).setCell ⟨w1.heap.size + 1, 7, none⟩ (.int .i64 (en : Int))).setCell ⟨w1.heap.size + 1, 8, none⟩ (.slice ep el ec)).setCell ⟨w1.heap.size + 1, 9, none⟩ (.int .i64 (ef : Int))).setCell ⟨w1.heap.size + 1, 10, none⟩ (.int .i64 (et : Int))).setCell ⟨w1.heap.size + 1, 11, none⟩ (.slice p1 l1 c1)).setCell ⟨w1.heap.size + 1, 12, none⟩ (.slice p2 l2 c2)).setCell ⟨w1.heap.size + 1, 13, none⟩ (.int .i64 (f0 : Int))).setCell ⟨w1.heap.size + 1, 14, none⟩ (.int .i64 (t0 : Int))) = W7 at *
  have hlS7 : Loc gp D6 W7 (w1.heap.size + 1) #[.int .i64 (k0 : Int), .string x0, .int .i64 (a0_ : Int), .int .i64 (b0_ : Int), .bool o0, .int .i64 (ek : Int), .string ex, .int .i64 (en : Int), .slice ep el ec, .int .i64 (ef : Int), .int .i64 (et : Int), .slice p1 l1 c1, .slice p2 l2 c2, .int .i64 (f0 : Int), .int .i64 (t0 : Int)] := ⟨hblk, hlS6.gp, hlS6.ne⟩
  have hlR7 : Loc gp D6 W7 w.heap.size #[.int .i64 0, .string ⟨#[]⟩, .int .i64 0, .int .i64 0, .bool false, .int .i64 0, .string ⟨#[]⟩, .int .i64 0, .slice none 0 0, .int .i64 0, .int .i64 0, .slice none 0 0, .slice none 0 0, .int .i64 0, .int .i64 0] := ⟨(hfar w.heap.size (by omega)).trans hlR6.blk, hlR6.gp, hlR6.ne⟩
  have htk7 := (hfar w1.heap.size (by omega)).trans htk6
  have hr7 : RdS n6 (okS w1_.heap.size gp D6 W7) W7 _ _ := RdS.kept n6 (fun k hk => hfar k (by have := hk.1; omega)) (fun k hk => ⟨hk.1, by rw [hsiz]; exact hk.2.1, hk.2.2⟩) _ _ hr6
  obtain ⟨hp7, H7⟩ := hsx
  clear hblk hfar hsiz hlS6 hlR6 htk6 hr6 hp6 hs6 K6 hlS hTk hlR HW
  obtain ⟨a0, a1, a2, a3, a4, a5, a6, a7, a8, a9, a10, a11, a12, a13, a14, af⟩ := fif_at hlS7.blk
  obtain ⟨r0, r1, r2, r3, r4, r5, r6, r7, r8, r9, r10, r11, r12, r13, r14, rf⟩ := fif_at hlR7.blk
  obtain ⟨p9, c9, v9, z0, z1, z2, z3, z4, z5, hf9, htok, hown, hD9⟩ := hp7.cells
  clear htok hown hD9
  have y2 := cell_of_row _ _ 2 _ _ _ htk7
  simp only [List.getElem?_toArray, List.getElem?_cons_succ, List.getElem?_cons_zero] at y2
  go_region
  go_wp2
  have em : max ((tk L sz i).a : Int) (endT L sz (pIf L sz f dp (i + 1)).i : Int) = ((upTo (tk L sz i).a (endT L sz (pIf L sz f dp (i + 1)).i) : Nat) : Int) := by unfold upTo; omega
  rw [em]
  have hp8 := (hp7.set hlS7.gp hlS7.ne 13 (.int .i64 ((tk L sz i).a : Int))).set hlS7.gp hlS7.ne 14 (.int .i64 ((upTo (tk L sz i).a (endT L sz (pIf L sz f dp (i + 1)).i) : Nat) : Int))
  have H8 := (H7.set (b := w1.heap.size + 1) (by simp; omega) 13 (.int .i64 ((tk L sz i).a : Int))).set (b := w1.heap.size + 1) (by simp; omega) 14 (.int .i64 ((upTo (tk L sz i).a (endT L sz (pIf L sz f dp (i + 1)).i) : Nat) : Int))
  have hr8 : RdS n6 (fun k => okS (w.heap.size + 1) gp D6 ((W7.setCell ⟨w1.heap.size + 1, 13, none⟩ (.int .i64 ((tk L sz i).a : Int))).setCell ⟨w1.heap.size + 1, 14, none⟩ (.int .i64 ((upTo (tk L sz i).a (endT L sz (pIf L sz f dp (i + 1)).i) : Nat) : Int))) k ∧ True) ((W7.setCell ⟨w1.heap.size + 1, 13, none⟩ (.int .i64 ((tk L sz i).a : Int))).setCell ⟨w1.heap.size + 1, 14, none⟩ (.int .i64 ((upTo (tk L sz i).a (endT L sz (pIf L sz f dp (i + 1)).i) : Nat) : Int))) _ _ := RdS.kept n6 (fun k hk => (Below.heap_setCell _ _ _ k (by have := hk.1; simp; omega)).trans (Below.heap_setCell W7 _ _ k (by have := hk.1; simp; omega))) (fun k hk => ⟨⟨by have := hk.1; omega, by simpa using hk.2.1, hk.2.2⟩, trivial⟩) _ _ (hr7.reT (tk L sz i).a (upTo (tk L sz i).a (endT L sz (pIf L sz f dp (i + 1)).i)))
  obtain ⟨f1, f2, f3⟩ := st_fin hfr hp8 H8 hr8 rfl
  exact bodyPost_ret (v := .agg #[.int .i64 (k0 : Int), .string x0, .int .i64 (a0_ : Int), .int .i64 (b0_ : Int), .bool o0, .int .i64 (ek : Int), .string ex, .int .i64 (en : Int), .slice ep el ec, .int .i64 (ef : Int), .int .i64 (et : Int), .slice p1 l1 c1, .slice p2 l2 c2, .int .i64 ((tk L sz i).a : Int), .int .i64 ((upTo (tk L sz i).a (endT L sz (pIf L sz f dp (i + 1)).i) : Nat) : Int)]) (by simp [results, Tryz.results175, go_sem, r0, r1, r2, r3, r4, r5, r6, r7, r8, r9, r10, r11, r12, r13, r14]) rfl ⟨_, rfl, D6, n6, f1.drew, f2.drew, f3.drewn⟩
set_option maxHeartbeats 2000000 in
set_option maxRecDepth 100000 in
theorem stmt_while (hp : PSt gp w L sz i dp ds D) (hW0 : isT L i kLet = false) (hW1 : isT L i kIf = false) (hW2 : isT L i kWhile = true) {f : Nat} (hB : CBl f) (hf : 50 * (L.length - (i + 1)) + 48 ≤ f) (hds : ds.length + (pWh L sz f dp (i + 1)).d.length + 1 ≤ 1099511627776) :
    Calls Tryz.prog 175 #[.pointer (some ⟨gp, 0, none⟩)] w fun e w' => ∃ v, e = .returned v ∧ ToldS gp L sz dp D ds w w' (tmS L sz i (pWh L sz f dp (i + 1))) v := by
  have hgp := hp.gp_lt
  have hb0 := (Below.refl w.heap.size w).alloc (Nat.le_refl _) (.cells #[.int .i64 0, .string ⟨#[]⟩, .int .i64 0, .int .i64 0, .bool false, .int .i64 0, .string ⟨#[]⟩, .int .i64 0, .slice none 0 0, .int .i64 0, .int .i64 0, .slice none 0 0, .slice none 0 0, .int .i64 0, .int .i64 0] 93)
  have hp0 := hp.below hb0
  have hfr := hp.fresh (Nat.le_refl w.heap.size)
  have hl0 := Loc.new hp #[.int .i64 0, .string ⟨#[]⟩, .int .i64 0, .int .i64 0, .bool false, .int .i64 0, .string ⟨#[]⟩, .int .i64 0, .slice none 0 0, .int .i64 0, .int .i64 0, .slice none 0 0, .slice none 0 0, .int .i64 0, .int .i64 0]
  have hlS := fun w1 (h1 : PSt gp w1 L sz i dp ds D) {D' : Option Nat} {w' : World} (hk : Stp gp D D' ((w1.alloc (.cells #[.int .i64 ((tk L sz i).k : Int), .string (tk L sz i).x, .int .i64 ((tk L sz i).a : Int)] 175)).alloc (.cells #[.int .i64 0, .string ⟨#[]⟩, .int .i64 0, .int .i64 0, .bool false, .int .i64 0, .string ⟨#[]⟩, .int .i64 0, .slice none 0 0, .int .i64 0, .int .i64 0, .slice none 0 0, .slice none 0 0, .int .i64 0, .int .i64 0] 93)) w') => stLoc h1 (.cells #[.int .i64 ((tk L sz i).k : Int), .string (tk L sz i).x, .int .i64 ((tk L sz i).a : Int)] 175) hk
  have hTk := fun w1 (h1 : PSt gp w1 L sz i dp ds D) {D' : Option Nat} {w' : World} (hk : Stp gp D D' ((w1.alloc (.cells #[.int .i64 ((tk L sz i).k : Int), .string (tk L sz i).x, .int .i64 ((tk L sz i).a : Int)] 175)).alloc (.cells #[.int .i64 0, .string ⟨#[]⟩, .int .i64 0, .int .i64 0, .bool false, .int .i64 0, .string ⟨#[]⟩, .int .i64 0, .slice none 0 0, .int .i64 0, .int .i64 0, .slice none 0 0, .slice none 0 0, .int .i64 0, .int .i64 0] 93)) w') => tkLoc h1 (tk L sz i) hk
  have F0 : Hid (1 = 1) := rfl
  have F1 : Hid (1 = 1) := rfl
  have F2 : Hid (1 = 1) := rfl
  unfold tmS
  go_enter Tryz.func175, Tryz.ntmps175
  go_wp2_with (first
    | (go_at_call 146; refine (peek_any hp0).mono ?_; rintro e w1 ⟨rfl, hb1⟩; unfold tkV; have hq := (((Below.refl w1.heap.size w1).alloc (Nat.le_refl _) (.cells #[.int .i64 ((tk L sz i).k : Int), .string (tk L sz i).x, .int .i64 ((tk L sz i).a : Int)] 175)).alloc (by simp) (.cells #[.int .i64 0, .string ⟨#[]⟩, .int .i64 0, .int .i64 0, .bool false, .int .i64 0, .string ⟨#[]⟩, .int .i64 0, .slice none 0 0, .int .i64 0, .int .i64 0, .slice none 0 0, .slice none 0 0, .int .i64 0, .int .i64 0] 93)); have hp1 := (hp0.below hb1).below hq; have HW := (Stp.below (gp := gp) (D := D) hb1).trans (Stp.below hq); have hlR := hl0.step HW; have hz : w.heap.size + 1 ≤ w1.heap.size := (by simpa using hb1.size))
    | (go_at_call 105; have f := F0; clear f F0; refine (take_any hp1 kLet (by decide)).mono ?_; rintro e w0_ ⟨rfl, hp0_, hs0_⟩; rw [hW0] at hp0_ ⊢; simp only [Bool.false_eq_true, if_false] at hp0_)
    | (go_at_call 105; have f := F1; clear f F1; refine (take_any hp0_ kIf (by decide)).mono ?_; rintro e w1_ ⟨rfl, hp1_, hs1_⟩; rw [hW1] at hp1_ ⊢; simp only [Bool.false_eq_true, if_false] at hp1_)
    | (go_at_call 105; have f := F2; clear f F2; refine (take_any hp1_ kWhile (by decide)).mono ?_; rintro e w2_ ⟨rfl, hp2_, hs2_⟩; rw [hW2] at hp2_ ⊢; simp only [if_true] at hp2_)
    | (go_at_call 193; refine (loopR_any hp2_ hB hf hds).mono ?_; rintro e w6 ⟨v, rfl, D6, n6, hp6, hs6, hr6⟩; obtain ⟨k0, x0, a0_, b0_, o0, ek, ex, en, ep, el, ec, ef, et, p1, l1, c1, p2, l2, c2, f0, t0, hv⟩ := hr6.shape; subst hv; have K6 := Stp.trans (Stp.trans (Stp.trans hs0_ hs1_) hs2_) hs6; have hlS6 := hlS w1 (hp0.below hb1) K6; have hlR6 := hlR.step K6; have htk6 := hTk w1 (hp0.below hb1) K6; obtain ⟨a0, a1, a2, a3, a4, a5, a6, a7, a8, a9, a10, a11, a12, a13, a14, af⟩ := fif_at hlS6.blk; obtain ⟨r0, r1, r2, r3, r4, r5, r6, r7, r8, r9, r10, r11, r12, r13, r14, rf⟩ := fif_at hlR6.blk; obtain ⟨p9, c9, v9, z0, z1, z2, z3, z4, z5, hf9, htok, hown, hD9⟩ := hp6.cells; clear htok hown hD9; have y2 := cell_of_row _ _ 2 _ _ _ htk6; simp only [List.getElem?_toArray, List.getElem?_cons_succ, List.getElem?_cons_zero] at y2; have hn1 : ¬ w1.heap.size + 1 = w.heap.size := (by omega); have hn2 : ¬ w.heap.size = w1.heap.size + 1 := (by omega); have hn3 : ¬ w1.heap.size = w.heap.size := (by omega); have hn4 : ¬ w.heap.size = w1.heap.size := (by omega); have hgp1 := (hp0.below hb1).gp_lt; have hn5 : ¬ gp = w1.heap.size := (by omega); have hn6 : ¬ gp = w1.heap.size + 1 := (by omega); have hn7 : ¬ gp = w.heap.size := (by omega); have hn8 : ¬ w1.heap.size = gp := (by omega); have hn9 : ¬ w1.heap.size + 1 = gp := (by omega)))
  have hsx := fif hp6 (HW.trans K6) (b := w1.heap.size + 1) (by simp; omega) hlS6.gp hlS6.ne (.int .i64 (k0 : Int)) (.string x0) (.int .i64 (a0_ : Int)) (.int .i64 (b0_ : Int)) (.bool o0) (.int .i64 (ek : Int)) (.string ex) (.int .i64 (en : Int)) (.slice ep el ec) (.int .i64 (ef : Int)) (.int .i64 (et : Int)) (.slice p1 l1 c1) (.slice p2 l2 c2) (.int .i64 (f0 : Int)) (.int .i64 (t0 : Int))
  have hblk := fif_blk hlS6.blk (.int .i64 (k0 : Int)) (.string x0) (.int .i64 (a0_ : Int)) (.int .i64 (b0_ : Int)) (.bool o0) (.int .i64 (ek : Int)) (.string ex) (.int .i64 (en : Int)) (.slice ep el ec) (.int .i64 (ef : Int)) (.int .i64 (et : Int)) (.slice p1 l1 c1) (.slice p2 l2 c2) (.int .i64 (f0 : Int)) (.int .i64 (t0 : Int))
  have hfar : ∀ k, k ≠ w1.heap.size + 1 → (((((((((((((((w6.setCell ⟨w1.heap.size + 1, 0, none⟩ (.int .i64 (k0 : Int))).setCell ⟨w1.heap.size + 1, 1, none⟩ (.string x0)).setCell ⟨w1.heap.size + 1, 2, none⟩ (.int .i64 (a0_ : Int))).setCell ⟨w1.heap.size + 1, 3, none⟩ (.int .i64 (b0_ : Int))).setCell ⟨w1.heap.size + 1, 4, none⟩ (.bool o0)).setCell ⟨w1.heap.size + 1, 5, none⟩ (.int .i64 (ek : Int))).setCell ⟨w1.heap.size + 1, 6, none⟩ (.string ex)).setCell ⟨w1.heap.size + 1, 7, none⟩ (.int .i64 (en : Int))).setCell ⟨w1.heap.size + 1, 8, none⟩ (.slice ep el ec)).setCell ⟨w1.heap.size + 1, 9, none⟩ (.int .i64 (ef : Int))).setCell ⟨w1.heap.size + 1, 10, none⟩ (.int .i64 (et : Int))).setCell ⟨w1.heap.size + 1, 11, none⟩ (.slice p1 l1 c1)).setCell ⟨w1.heap.size + 1, 12, none⟩ (.slice p2 l2 c2)).setCell ⟨w1.heap.size + 1, 13, none⟩ (.int .i64 (f0 : Int))).setCell ⟨w1.heap.size + 1, 14, none⟩ (.int .i64 (t0 : Int))).heap[k]? = w6.heap[k]? := fun k hk => sets_far hk (.int .i64 (k0 : Int)) (.string x0) (.int .i64 (a0_ : Int)) (.int .i64 (b0_ : Int)) (.bool o0) (.int .i64 (ek : Int)) (.string ex) (.int .i64 (en : Int)) (.slice ep el ec) (.int .i64 (ef : Int)) (.int .i64 (et : Int)) (.slice p1 l1 c1) (.slice p2 l2 c2) (.int .i64 (f0 : Int)) (.int .i64 (t0 : Int))
  have hsiz : (((((((((((((((w6.setCell ⟨w1.heap.size + 1, 0, none⟩ (.int .i64 (k0 : Int))).setCell ⟨w1.heap.size + 1, 1, none⟩ (.string x0)).setCell ⟨w1.heap.size + 1, 2, none⟩ (.int .i64 (a0_ : Int))).setCell ⟨w1.heap.size + 1, 3, none⟩ (.int .i64 (b0_ : Int))).setCell ⟨w1.heap.size + 1, 4, none⟩ (.bool o0)).setCell ⟨w1.heap.size + 1, 5, none⟩ (.int .i64 (ek : Int))).setCell ⟨w1.heap.size + 1, 6, none⟩ (.string ex)).setCell ⟨w1.heap.size + 1, 7, none⟩ (.int .i64 (en : Int))).setCell ⟨w1.heap.size + 1, 8, none⟩ (.slice ep el ec)).setCell ⟨w1.heap.size + 1, 9, none⟩ (.int .i64 (ef : Int))).setCell ⟨w1.heap.size + 1, 10, none⟩ (.int .i64 (et : Int))).setCell ⟨w1.heap.size + 1, 11, none⟩ (.slice p1 l1 c1)).setCell ⟨w1.heap.size + 1, 12, none⟩ (.slice p2 l2 c2)).setCell ⟨w1.heap.size + 1, 13, none⟩ (.int .i64 (f0 : Int))).setCell ⟨w1.heap.size + 1, 14, none⟩ (.int .i64 (t0 : Int))).heap.size = w6.heap.size := by simp
  have hlt6 : w1.heap.size + 1 < w2_.heap.size := (hlS w1 (hp0.below hb1) (Stp.trans (Stp.trans hs0_ hs1_) hs2_)).lt
  clear a0 a1 a2 a3 a4 a5 a6 a7 a8 a9 a10 a11 a12 a13 a14 af r0 r1 r2 r3 r4 r5 r6 r7 r8 r9 r10 r11 r12 r13 r14 rf z0 z1 z2 z3 z4 z5 hf9 y2
  generalize (((((((((((((((w6.setCell ⟨w1.heap.size + 1, 0, none⟩ (.int .i64 (k0 : Int))).setCell ⟨w1.heap.size + 1, 1, none⟩ (.string x0)).setCell ⟨w1.heap.size + 1, 2, none⟩ (.int .i64 (a0_ : Int))).setCell ⟨w1.heap.size + 1, 3, none⟩ (.int .i64 (b0_ : Int))).setCell ⟨w1.heap.size + 1, 4, none⟩ (.bool o0)).setCell ⟨w1.heap.size + 1, 5, none⟩ (.int .i64 (ek : Int))).setCell ⟨w1.heap.size + 1, 6, none⟩ (.string ex)).setCell ⟨w1.heap.size + 1, 7, none⟩ (.int .i64 (en : Int))).setCell ⟨w1.heap.size + 1, 8, none⟩ (.slice ep el ec)).setCell ⟨w1.heap.size + 1, 9, none⟩ (.int .i64 (ef : Int))).setCell ⟨w1.heap.size + 1, 10, none⟩ (.int .i64 (et : Int))).setCell ⟨w1.heap.size + 1, 11, none⟩ (.slice p1 l1 c1)).setCell ⟨w1.heap.size + 1, 12, none⟩ (.slice p2 l2 c2)).setCell ⟨w1.heap.size + 1, 13, none⟩ (.int .i64 (f0 : Int))).setCell ⟨w1.heap.size + 1, 14, none⟩ (.int .i64 (t0 : Int))) = W7 at *
  have hlS7 : Loc gp D6 W7 (w1.heap.size + 1) #[.int .i64 (k0 : Int), .string x0, .int .i64 (a0_ : Int), .int .i64 (b0_ : Int), .bool o0, .int .i64 (ek : Int), .string ex, .int .i64 (en : Int), .slice ep el ec, .int .i64 (ef : Int), .int .i64 (et : Int), .slice p1 l1 c1, .slice p2 l2 c2, .int .i64 (f0 : Int), .int .i64 (t0 : Int)] := ⟨hblk, hlS6.gp, hlS6.ne⟩
  have hlR7 : Loc gp D6 W7 w.heap.size #[.int .i64 0, .string ⟨#[]⟩, .int .i64 0, .int .i64 0, .bool false, .int .i64 0, .string ⟨#[]⟩, .int .i64 0, .slice none 0 0, .int .i64 0, .int .i64 0, .slice none 0 0, .slice none 0 0, .int .i64 0, .int .i64 0] := ⟨(hfar w.heap.size (by omega)).trans hlR6.blk, hlR6.gp, hlR6.ne⟩
  have htk7 := (hfar w1.heap.size (by omega)).trans htk6
  have hr7 : RdS n6 (okS w2_.heap.size gp D6 W7) W7 _ _ := RdS.kept n6 (fun k hk => hfar k (by have := hk.1; omega)) (fun k hk => ⟨hk.1, by rw [hsiz]; exact hk.2.1, hk.2.2⟩) _ _ hr6
  obtain ⟨hp7, H7⟩ := hsx
  clear hblk hfar hsiz hlS6 hlR6 htk6 hr6 hp6 hs6 K6 hlS hTk hlR HW
  obtain ⟨a0, a1, a2, a3, a4, a5, a6, a7, a8, a9, a10, a11, a12, a13, a14, af⟩ := fif_at hlS7.blk
  obtain ⟨r0, r1, r2, r3, r4, r5, r6, r7, r8, r9, r10, r11, r12, r13, r14, rf⟩ := fif_at hlR7.blk
  obtain ⟨p9, c9, v9, z0, z1, z2, z3, z4, z5, hf9, htok, hown, hD9⟩ := hp7.cells
  clear htok hown hD9
  have y2 := cell_of_row _ _ 2 _ _ _ htk7
  simp only [List.getElem?_toArray, List.getElem?_cons_succ, List.getElem?_cons_zero] at y2
  go_region
  go_wp2
  have em : max ((tk L sz i).a : Int) (endT L sz (pWh L sz f dp (i + 1)).i : Int) = ((upTo (tk L sz i).a (endT L sz (pWh L sz f dp (i + 1)).i) : Nat) : Int) := by unfold upTo; omega
  rw [em]
  have hp8 := (hp7.set hlS7.gp hlS7.ne 13 (.int .i64 ((tk L sz i).a : Int))).set hlS7.gp hlS7.ne 14 (.int .i64 ((upTo (tk L sz i).a (endT L sz (pWh L sz f dp (i + 1)).i) : Nat) : Int))
  have H8 := (H7.set (b := w1.heap.size + 1) (by simp; omega) 13 (.int .i64 ((tk L sz i).a : Int))).set (b := w1.heap.size + 1) (by simp; omega) 14 (.int .i64 ((upTo (tk L sz i).a (endT L sz (pWh L sz f dp (i + 1)).i) : Nat) : Int))
  have hr8 : RdS n6 (fun k => okS (w.heap.size + 1) gp D6 ((W7.setCell ⟨w1.heap.size + 1, 13, none⟩ (.int .i64 ((tk L sz i).a : Int))).setCell ⟨w1.heap.size + 1, 14, none⟩ (.int .i64 ((upTo (tk L sz i).a (endT L sz (pWh L sz f dp (i + 1)).i) : Nat) : Int))) k ∧ True) ((W7.setCell ⟨w1.heap.size + 1, 13, none⟩ (.int .i64 ((tk L sz i).a : Int))).setCell ⟨w1.heap.size + 1, 14, none⟩ (.int .i64 ((upTo (tk L sz i).a (endT L sz (pWh L sz f dp (i + 1)).i) : Nat) : Int))) _ _ := RdS.kept n6 (fun k hk => (Below.heap_setCell _ _ _ k (by have := hk.1; simp; omega)).trans (Below.heap_setCell W7 _ _ k (by have := hk.1; simp; omega))) (fun k hk => ⟨⟨by have := hk.1; omega, by simpa using hk.2.1, hk.2.2⟩, trivial⟩) _ _ (hr7.reT (tk L sz i).a (upTo (tk L sz i).a (endT L sz (pWh L sz f dp (i + 1)).i)))
  obtain ⟨f1, f2, f3⟩ := st_fin hfr hp8 H8 hr8 rfl
  exact bodyPost_ret (v := .agg #[.int .i64 (k0 : Int), .string x0, .int .i64 (a0_ : Int), .int .i64 (b0_ : Int), .bool o0, .int .i64 (ek : Int), .string ex, .int .i64 (en : Int), .slice ep el ec, .int .i64 (ef : Int), .int .i64 (et : Int), .slice p1 l1 c1, .slice p2 l2 c2, .int .i64 ((tk L sz i).a : Int), .int .i64 ((upTo (tk L sz i).a (endT L sz (pWh L sz f dp (i + 1)).i) : Nat) : Int)]) (by simp [results, Tryz.results175, go_sem, r0, r1, r2, r3, r4, r5, r6, r7, r8, r9, r10, r11, r12, r13, r14]) rfl ⟨_, rfl, D6, n6, f1.drew, f2.drew, f3.drewn⟩
end
end Go.Proofs.YtfioihehhlpgcaaGreatDoor
namespace Go.Proofs.YtfioihehhlpgcaaGreatDoor
open Go.RowKit
attribute [local go_sem ↓] Go.wp_at_zero Go.wp_at_succ
section
variable {gp : Nat} {w : World} {L : List Tok} {sz i dp : Nat} {ds : List Dg} {D : Option Nat}
/-- A name set, or an expression done. -/
def pSD (L : List Tok) (sz dp i : Nat) : R Tr := if isT L (i + 1) (bs1 61) then pSet L sz dp i else pDo L sz dp i
theorem setOrDo_any (hp : PSt gp w L sz i dp ds D) (hil : i < L.length) (hds : ds.length + (pSD L sz dp i).d.length + 1 ≤ 1099511627776) :
    Calls Tryz.prog 196 #[.pointer (some ⟨gp, 0, none⟩)] w fun e w' => ∃ v, e = .returned v ∧ ToldS gp L sz dp D ds w w' (pSD L sz dp i) v := by
  have his := is_tk (L := L) (sz := sz) (i := i + 1) (s := bs1 61) (by decide)
  unfold pSD at hds ⊢
  rcases Nat.lt_or_ge (i + 1) L.length with h | h
  · by_cases hx : (tk L sz (i + 1)).x = bs1 61
    · rw [his, decide_eq_true hx] at hds ⊢
      exact set_any hp h hx hds
    · rw [his, decide_eq_false hx] at hds ⊢
      exact do_else hp h hx hds
  · have hx : ¬ (tk L sz (i + 1)).x = bs1 61 := by rw [tok_no h]; show ¬ noB = bs1 61; decide
    rw [his, decide_eq_false hx] at hds ⊢
    exact do_end hp (by omega) hds
/-- What is handed back. -/
def pRet (L : List Tok) (sz dp i : Nat) : R Tr := ⟨stMk 6 noB 0 0 false (pCl L sz dp i).v [] [] 0 0, (pCl L sz dp i).i, (pCl L sz dp i).d⟩
theorem rd_ret {n : Nat} {ok : Nat → Prop} {w' : World} {e : Tr} {d0 d1 d2 d3 d4 d5 : Value} (h : RdE n ok w' e (.agg #[d0, d1, d2, d3, d4, d5])) : RdS 1 ok w' (stMk 6 noB 0 0 false e [] [] 0 0) (.agg #[.int .i64 6, .string ⟨#[]⟩, .int .i64 0, .int .i64 0, .bool false, d0, d1, d2, d3, d4, d5, .slice none 0 0, .slice none 0 0, .int .i64 0, .int .i64 0]) :=
  ⟨6, noB, 0, 0, false, e, [], [], 0, 0, _, _, _, _, _, _, none, 0, none, 0, rfl, rfl, ⟨n, h⟩, ⟨by simp, fun h => absurd h (by simp)⟩, ⟨by simp, fun h => absurd h (by simp)⟩⟩
set_option maxHeartbeats 2000000 in
set_option maxRecDepth 100000 in
theorem stmt_name (hp : PSt gp w L sz i dp ds D) (hil : i < L.length) (hW0 : isT L i kLet = false) (hW1 : isT L i kIf = false) (hW2 : isT L i kWhile = false) (hW3 : isT L i kSend = false) (hW4 : isT L i kReturn = false) (hN : nmB (tk L sz i).x = true) (hds : ds.length + (pSD L sz dp i).d.length + 1 ≤ 1099511627776) :
    Calls Tryz.prog 175 #[.pointer (some ⟨gp, 0, none⟩)] w fun e w' => ∃ v, e = .returned v ∧ ToldS gp L sz dp D ds w w' (tmS L sz i (pSD L sz dp i)) v := by
  have hgp := hp.gp_lt
  have hb0 := (Below.refl w.heap.size w).alloc (Nat.le_refl _) (.cells #[.int .i64 0, .string ⟨#[]⟩, .int .i64 0, .int .i64 0, .bool false, .int .i64 0, .string ⟨#[]⟩, .int .i64 0, .slice none 0 0, .int .i64 0, .int .i64 0, .slice none 0 0, .slice none 0 0, .int .i64 0, .int .i64 0] 93)
  have hp0 := hp.below hb0
  have hfr := hp.fresh (Nat.le_refl w.heap.size)
  have hl0 := Loc.new hp #[.int .i64 0, .string ⟨#[]⟩, .int .i64 0, .int .i64 0, .bool false, .int .i64 0, .string ⟨#[]⟩, .int .i64 0, .slice none 0 0, .int .i64 0, .int .i64 0, .slice none 0 0, .slice none 0 0, .int .i64 0, .int .i64 0]
  have hlS := fun w1 (h1 : PSt gp w1 L sz i dp ds D) {D' : Option Nat} {w' : World} (hk : Stp gp D D' ((w1.alloc (.cells #[.int .i64 ((tk L sz i).k : Int), .string (tk L sz i).x, .int .i64 ((tk L sz i).a : Int)] 175)).alloc (.cells #[.int .i64 0, .string ⟨#[]⟩, .int .i64 0, .int .i64 0, .bool false, .int .i64 0, .string ⟨#[]⟩, .int .i64 0, .slice none 0 0, .int .i64 0, .int .i64 0, .slice none 0 0, .slice none 0 0, .int .i64 0, .int .i64 0] 93)) w') => stLoc h1 (.cells #[.int .i64 ((tk L sz i).k : Int), .string (tk L sz i).x, .int .i64 ((tk L sz i).a : Int)] 175) hk
  have hTk := fun w1 (h1 : PSt gp w1 L sz i dp ds D) {D' : Option Nat} {w' : World} (hk : Stp gp D D' ((w1.alloc (.cells #[.int .i64 ((tk L sz i).k : Int), .string (tk L sz i).x, .int .i64 ((tk L sz i).a : Int)] 175)).alloc (.cells #[.int .i64 0, .string ⟨#[]⟩, .int .i64 0, .int .i64 0, .bool false, .int .i64 0, .string ⟨#[]⟩, .int .i64 0, .slice none 0 0, .int .i64 0, .int .i64 0, .slice none 0 0, .slice none 0 0, .int .i64 0, .int .i64 0] 93)) w') => tkLoc h1 (tk L sz i) hk
  have F0 : Hid (1 = 1) := rfl
  have F1 : Hid (1 = 1) := rfl
  have F2 : Hid (1 = 1) := rfl
  have F3 : Hid (1 = 1) := rfl
  have F4 : Hid (1 = 1) := rfl
  have hsz := hp.siz
  have htk := tk_small hp i
  have hx : (tk L sz i).x.size ≤ maxLen := by unfold maxLen; omega
  unfold tmS
  go_enter Tryz.func175, Tryz.ntmps175
  go_wp2_with (first
    | (go_at_call 146; refine (peek_any hp0).mono ?_; rintro e w1 ⟨rfl, hb1⟩; unfold tkV; have hq := (((Below.refl w1.heap.size w1).alloc (Nat.le_refl _) (.cells #[.int .i64 ((tk L sz i).k : Int), .string (tk L sz i).x, .int .i64 ((tk L sz i).a : Int)] 175)).alloc (by simp) (.cells #[.int .i64 0, .string ⟨#[]⟩, .int .i64 0, .int .i64 0, .bool false, .int .i64 0, .string ⟨#[]⟩, .int .i64 0, .slice none 0 0, .int .i64 0, .int .i64 0, .slice none 0 0, .slice none 0 0, .int .i64 0, .int .i64 0] 93)); have hp1 := (hp0.below hb1).below hq; have HW := (Stp.below (gp := gp) (D := D) hb1).trans (Stp.below hq); have hlR := hl0.step HW; have hz : w.heap.size + 1 ≤ w1.heap.size := (by simpa using hb1.size))
    | (go_at_call 105; have f := F0; clear f F0; refine (take_any hp1 kLet (by decide)).mono ?_; rintro e w0_ ⟨rfl, hp0_, hs0_⟩; rw [hW0] at hp0_ ⊢; simp only [Bool.false_eq_true, if_false] at hp0_)
    | (go_at_call 105; have f := F1; clear f F1; refine (take_any hp0_ kIf (by decide)).mono ?_; rintro e w1_ ⟨rfl, hp1_, hs1_⟩; rw [hW1] at hp1_ ⊢; simp only [Bool.false_eq_true, if_false] at hp1_)
    | (go_at_call 105; have f := F2; clear f F2; refine (take_any hp1_ kWhile (by decide)).mono ?_; rintro e w2_ ⟨rfl, hp2_, hs2_⟩; rw [hW2] at hp2_ ⊢; simp only [Bool.false_eq_true, if_false] at hp2_)
    | (go_at_call 105; have f := F3; clear f F3; refine (take_any hp2_ kSend (by decide)).mono ?_; rintro e w3_ ⟨rfl, hp3_, hs3_⟩; rw [hW3] at hp3_ ⊢; simp only [Bool.false_eq_true, if_false] at hp3_)
    | (go_at_call 105; have f := F4; clear f F4; refine (take_any hp3_ kReturn (by decide)).mono ?_; rintro e w4_ ⟨rfl, hp4_, hs4_⟩; rw [hW4] at hp4_ ⊢; simp only [Bool.false_eq_true, if_false] at hp4_; have y1 := cell_of_row _ _ 1 _ _ _ (hTk w1 (hp0.below hb1) (Stp.trans (Stp.trans (Stp.trans (Stp.trans hs0_ hs1_) hs2_) hs3_) hs4_)); simp only [List.getElem?_toArray, List.getElem?_cons_succ, List.getElem?_cons_zero] at y1)
    | (go_at_call 169; refine (name_any _ _ hx).mono ?_; rintro e w5_ ⟨rfl, hb5_⟩; rw [hN]; have hp5_ := hp4_.below hb5_; have hs5_ := Stp.below (gp := gp) (D := D) hb5_; clear y1)
    | (go_at_call 196; refine (setOrDo_any hp5_ hil hds).mono ?_; rintro e w6 ⟨v, rfl, D6, n6, hp6, hs6, hr6⟩; obtain ⟨k0, x0, a0_, b0_, o0, ek, ex, en, ep, el, ec, ef, et, p1, l1, c1, p2, l2, c2, f0, t0, hv⟩ := hr6.shape; subst hv; have K6 := Stp.trans (Stp.trans (Stp.trans (Stp.trans (Stp.trans (Stp.trans hs0_ hs1_) hs2_) hs3_) hs4_) hs5_) hs6; have hlS6 := hlS w1 (hp0.below hb1) K6; have hlR6 := hlR.step K6; have htk6 := hTk w1 (hp0.below hb1) K6; obtain ⟨a0, a1, a2, a3, a4, a5, a6, a7, a8, a9, a10, a11, a12, a13, a14, af⟩ := fif_at hlS6.blk; obtain ⟨r0, r1, r2, r3, r4, r5, r6, r7, r8, r9, r10, r11, r12, r13, r14, rf⟩ := fif_at hlR6.blk; obtain ⟨p9, c9, v9, z0, z1, z2, z3, z4, z5, hf9, htok, hown, hD9⟩ := hp6.cells; clear htok hown hD9; have y2 := cell_of_row _ _ 2 _ _ _ htk6; simp only [List.getElem?_toArray, List.getElem?_cons_succ, List.getElem?_cons_zero] at y2; have hn1 : ¬ w1.heap.size + 1 = w.heap.size := (by omega); have hn2 : ¬ w.heap.size = w1.heap.size + 1 := (by omega); have hn3 : ¬ w1.heap.size = w.heap.size := (by omega); have hn4 : ¬ w.heap.size = w1.heap.size := (by omega); have hgp1 := (hp0.below hb1).gp_lt; have hn5 : ¬ gp = w1.heap.size := (by omega); have hn6 : ¬ gp = w1.heap.size + 1 := (by omega); have hn7 : ¬ gp = w.heap.size := (by omega); have hn8 : ¬ w1.heap.size = gp := (by omega); have hn9 : ¬ w1.heap.size + 1 = gp := (by omega)))
  have hsx := fif hp6 (HW.trans K6) (b := w1.heap.size + 1) (by simp; omega) hlS6.gp hlS6.ne (.int .i64 (k0 : Int)) (.string x0) (.int .i64 (a0_ : Int)) (.int .i64 (b0_ : Int)) (.bool o0) (.int .i64 (ek : Int)) (.string ex) (.int .i64 (en : Int)) (.slice ep el ec) (.int .i64 (ef : Int)) (.int .i64 (et : Int)) (.slice p1 l1 c1) (.slice p2 l2 c2) (.int .i64 (f0 : Int)) (.int .i64 (t0 : Int))
  have hblk := fif_blk hlS6.blk (.int .i64 (k0 : Int)) (.string x0) (.int .i64 (a0_ : Int)) (.int .i64 (b0_ : Int)) (.bool o0) (.int .i64 (ek : Int)) (.string ex) (.int .i64 (en : Int)) (.slice ep el ec) (.int .i64 (ef : Int)) (.int .i64 (et : Int)) (.slice p1 l1 c1) (.slice p2 l2 c2) (.int .i64 (f0 : Int)) (.int .i64 (t0 : Int))
  have hfar : ∀ k, k ≠ w1.heap.size + 1 → (((((((((((((((w6.setCell ⟨w1.heap.size + 1, 0, none⟩ (.int .i64 (k0 : Int))).setCell ⟨w1.heap.size + 1, 1, none⟩ (.string x0)).setCell ⟨w1.heap.size + 1, 2, none⟩ (.int .i64 (a0_ : Int))).setCell ⟨w1.heap.size + 1, 3, none⟩ (.int .i64 (b0_ : Int))).setCell ⟨w1.heap.size + 1, 4, none⟩ (.bool o0)).setCell ⟨w1.heap.size + 1, 5, none⟩ (.int .i64 (ek : Int))).setCell ⟨w1.heap.size + 1, 6, none⟩ (.string ex)).setCell ⟨w1.heap.size + 1, 7, none⟩ (.int .i64 (en : Int))).setCell ⟨w1.heap.size + 1, 8, none⟩ (.slice ep el ec)).setCell ⟨w1.heap.size + 1, 9, none⟩ (.int .i64 (ef : Int))).setCell ⟨w1.heap.size + 1, 10, none⟩ (.int .i64 (et : Int))).setCell ⟨w1.heap.size + 1, 11, none⟩ (.slice p1 l1 c1)).setCell ⟨w1.heap.size + 1, 12, none⟩ (.slice p2 l2 c2)).setCell ⟨w1.heap.size + 1, 13, none⟩ (.int .i64 (f0 : Int))).setCell ⟨w1.heap.size + 1, 14, none⟩ (.int .i64 (t0 : Int))).heap[k]? = w6.heap[k]? := fun k hk => sets_far hk (.int .i64 (k0 : Int)) (.string x0) (.int .i64 (a0_ : Int)) (.int .i64 (b0_ : Int)) (.bool o0) (.int .i64 (ek : Int)) (.string ex) (.int .i64 (en : Int)) (.slice ep el ec) (.int .i64 (ef : Int)) (.int .i64 (et : Int)) (.slice p1 l1 c1) (.slice p2 l2 c2) (.int .i64 (f0 : Int)) (.int .i64 (t0 : Int))
  have hsiz : (((((((((((((((w6.setCell ⟨w1.heap.size + 1, 0, none⟩ (.int .i64 (k0 : Int))).setCell ⟨w1.heap.size + 1, 1, none⟩ (.string x0)).setCell ⟨w1.heap.size + 1, 2, none⟩ (.int .i64 (a0_ : Int))).setCell ⟨w1.heap.size + 1, 3, none⟩ (.int .i64 (b0_ : Int))).setCell ⟨w1.heap.size + 1, 4, none⟩ (.bool o0)).setCell ⟨w1.heap.size + 1, 5, none⟩ (.int .i64 (ek : Int))).setCell ⟨w1.heap.size + 1, 6, none⟩ (.string ex)).setCell ⟨w1.heap.size + 1, 7, none⟩ (.int .i64 (en : Int))).setCell ⟨w1.heap.size + 1, 8, none⟩ (.slice ep el ec)).setCell ⟨w1.heap.size + 1, 9, none⟩ (.int .i64 (ef : Int))).setCell ⟨w1.heap.size + 1, 10, none⟩ (.int .i64 (et : Int))).setCell ⟨w1.heap.size + 1, 11, none⟩ (.slice p1 l1 c1)).setCell ⟨w1.heap.size + 1, 12, none⟩ (.slice p2 l2 c2)).setCell ⟨w1.heap.size + 1, 13, none⟩ (.int .i64 (f0 : Int))).setCell ⟨w1.heap.size + 1, 14, none⟩ (.int .i64 (t0 : Int))).heap.size = w6.heap.size := by simp
  have hlt6 : w1.heap.size + 1 < w5_.heap.size := (hlS w1 (hp0.below hb1) (Stp.trans (Stp.trans (Stp.trans (Stp.trans (Stp.trans hs0_ hs1_) hs2_) hs3_) hs4_) hs5_)).lt
  clear a0 a1 a2 a3 a4 a5 a6 a7 a8 a9 a10 a11 a12 a13 a14 af r0 r1 r2 r3 r4 r5 r6 r7 r8 r9 r10 r11 r12 r13 r14 rf z0 z1 z2 z3 z4 z5 hf9 y2
  generalize (((((((((((((((w6.setCell ⟨w1.heap.size + 1, 0, none⟩ (.int .i64 (k0 : Int))).setCell ⟨w1.heap.size + 1, 1, none⟩ (.string x0)).setCell ⟨w1.heap.size + 1, 2, none⟩ (.int .i64 (a0_ : Int))).setCell ⟨w1.heap.size + 1, 3, none⟩ (.int .i64 (b0_ : Int))).setCell ⟨w1.heap.size + 1, 4, none⟩ (.bool o0)).setCell ⟨w1.heap.size + 1, 5, none⟩ (.int .i64 (ek : Int))).setCell ⟨w1.heap.size + 1, 6, none⟩ (.string ex)).setCell ⟨w1.heap.size + 1, 7, none⟩ (.int .i64 (en : Int))).setCell ⟨w1.heap.size + 1, 8, none⟩ (.slice ep el ec)).setCell ⟨w1.heap.size + 1, 9, none⟩ (.int .i64 (ef : Int))).setCell ⟨w1.heap.size + 1, 10, none⟩ (.int .i64 (et : Int))).setCell ⟨w1.heap.size + 1, 11, none⟩ (.slice p1 l1 c1)).setCell ⟨w1.heap.size + 1, 12, none⟩ (.slice p2 l2 c2)).setCell ⟨w1.heap.size + 1, 13, none⟩ (.int .i64 (f0 : Int))).setCell ⟨w1.heap.size + 1, 14, none⟩ (.int .i64 (t0 : Int))) = W7 at *
  have hlS7 : Loc gp D6 W7 (w1.heap.size + 1) #[.int .i64 (k0 : Int), .string x0, .int .i64 (a0_ : Int), .int .i64 (b0_ : Int), .bool o0, .int .i64 (ek : Int), .string ex, .int .i64 (en : Int), .slice ep el ec, .int .i64 (ef : Int), .int .i64 (et : Int), .slice p1 l1 c1, .slice p2 l2 c2, .int .i64 (f0 : Int), .int .i64 (t0 : Int)] := ⟨hblk, hlS6.gp, hlS6.ne⟩
  have hlR7 : Loc gp D6 W7 w.heap.size #[.int .i64 0, .string ⟨#[]⟩, .int .i64 0, .int .i64 0, .bool false, .int .i64 0, .string ⟨#[]⟩, .int .i64 0, .slice none 0 0, .int .i64 0, .int .i64 0, .slice none 0 0, .slice none 0 0, .int .i64 0, .int .i64 0] := ⟨(hfar w.heap.size (by omega)).trans hlR6.blk, hlR6.gp, hlR6.ne⟩
  have htk7 := (hfar w1.heap.size (by omega)).trans htk6
  have hr7 : RdS n6 (okS w5_.heap.size gp D6 W7) W7 _ _ := RdS.kept n6 (fun k hk => hfar k (by have := hk.1; omega)) (fun k hk => ⟨hk.1, by rw [hsiz]; exact hk.2.1, hk.2.2⟩) _ _ hr6
  obtain ⟨hp7, H7⟩ := hsx
  clear hblk hfar hsiz hlS6 hlR6 htk6 hr6 hp6 hs6 K6 hlS hTk hlR HW
  obtain ⟨a0, a1, a2, a3, a4, a5, a6, a7, a8, a9, a10, a11, a12, a13, a14, af⟩ := fif_at hlS7.blk
  obtain ⟨r0, r1, r2, r3, r4, r5, r6, r7, r8, r9, r10, r11, r12, r13, r14, rf⟩ := fif_at hlR7.blk
  obtain ⟨p9, c9, v9, z0, z1, z2, z3, z4, z5, hf9, htok, hown, hD9⟩ := hp7.cells
  clear htok hown hD9
  have y2 := cell_of_row _ _ 2 _ _ _ htk7
  simp only [List.getElem?_toArray, List.getElem?_cons_succ, List.getElem?_cons_zero] at y2
  go_region
  go_wp2
  have em : max ((tk L sz i).a : Int) (endT L sz (pSD L sz dp i).i : Int) = ((upTo (tk L sz i).a (endT L sz (pSD L sz dp i).i) : Nat) : Int) := by unfold upTo; omega
  rw [em]
  have hp8 := (hp7.set hlS7.gp hlS7.ne 13 (.int .i64 ((tk L sz i).a : Int))).set hlS7.gp hlS7.ne 14 (.int .i64 ((upTo (tk L sz i).a (endT L sz (pSD L sz dp i).i) : Nat) : Int))
  have H8 := (H7.set (b := w1.heap.size + 1) (by simp; omega) 13 (.int .i64 ((tk L sz i).a : Int))).set (b := w1.heap.size + 1) (by simp; omega) 14 (.int .i64 ((upTo (tk L sz i).a (endT L sz (pSD L sz dp i).i) : Nat) : Int))
  have hr8 : RdS n6 (fun k => okS (w.heap.size + 1) gp D6 ((W7.setCell ⟨w1.heap.size + 1, 13, none⟩ (.int .i64 ((tk L sz i).a : Int))).setCell ⟨w1.heap.size + 1, 14, none⟩ (.int .i64 ((upTo (tk L sz i).a (endT L sz (pSD L sz dp i).i) : Nat) : Int))) k ∧ True) ((W7.setCell ⟨w1.heap.size + 1, 13, none⟩ (.int .i64 ((tk L sz i).a : Int))).setCell ⟨w1.heap.size + 1, 14, none⟩ (.int .i64 ((upTo (tk L sz i).a (endT L sz (pSD L sz dp i).i) : Nat) : Int))) _ _ := RdS.kept n6 (fun k hk => (Below.heap_setCell _ _ _ k (by have := hk.1; simp; omega)).trans (Below.heap_setCell W7 _ _ k (by have := hk.1; simp; omega))) (fun k hk => ⟨⟨by have := hk.1; omega, by simpa using hk.2.1, hk.2.2⟩, trivial⟩) _ _ (hr7.reT (tk L sz i).a (upTo (tk L sz i).a (endT L sz (pSD L sz dp i).i)))
  obtain ⟨f1, f2, f3⟩ := st_fin hfr hp8 H8 hr8 rfl
  exact bodyPost_ret (v := .agg #[.int .i64 (k0 : Int), .string x0, .int .i64 (a0_ : Int), .int .i64 (b0_ : Int), .bool o0, .int .i64 (ek : Int), .string ex, .int .i64 (en : Int), .slice ep el ec, .int .i64 (ef : Int), .int .i64 (et : Int), .slice p1 l1 c1, .slice p2 l2 c2, .int .i64 ((tk L sz i).a : Int), .int .i64 ((upTo (tk L sz i).a (endT L sz (pSD L sz dp i).i) : Nat) : Int)]) (by simp [results, Tryz.results175, go_sem, r0, r1, r2, r3, r4, r5, r6, r7, r8, r9, r10, r11, r12, r13, r14]) rfl ⟨_, rfl, D6, n6, f1.drew, f2.drew, f3.drewn⟩
set_option maxHeartbeats 2000000 in
set_option maxRecDepth 100000 in
theorem stmt_return (hp : PSt gp w L sz i dp ds D) (hW0 : isT L i kLet = false) (hW1 : isT L i kIf = false) (hW2 : isT L i kWhile = false) (hW3 : isT L i kSend = false) (hW4 : isT L i kReturn = true) (hds : ds.length + (pRet L sz dp (i + 1)).d.length + 1 ≤ 1099511627776) :
    Calls Tryz.prog 175 #[.pointer (some ⟨gp, 0, none⟩)] w fun e w' => ∃ v, e = .returned v ∧ ToldS gp L sz dp D ds w w' (tmS L sz i (pRet L sz dp (i + 1))) v := by
  have hgp := hp.gp_lt
  have hb0 := (Below.refl w.heap.size w).alloc (Nat.le_refl _) (.cells #[.int .i64 0, .string ⟨#[]⟩, .int .i64 0, .int .i64 0, .bool false, .int .i64 0, .string ⟨#[]⟩, .int .i64 0, .slice none 0 0, .int .i64 0, .int .i64 0, .slice none 0 0, .slice none 0 0, .int .i64 0, .int .i64 0] 93)
  have hp0 := hp.below hb0
  have hfr := hp.fresh (Nat.le_refl w.heap.size)
  have hl0 := Loc.new hp #[.int .i64 0, .string ⟨#[]⟩, .int .i64 0, .int .i64 0, .bool false, .int .i64 0, .string ⟨#[]⟩, .int .i64 0, .slice none 0 0, .int .i64 0, .int .i64 0, .slice none 0 0, .slice none 0 0, .int .i64 0, .int .i64 0]
  have hlS := fun w1 (h1 : PSt gp w1 L sz i dp ds D) {D' : Option Nat} {w' : World} (hk : Stp gp D D' ((w1.alloc (.cells #[.int .i64 ((tk L sz i).k : Int), .string (tk L sz i).x, .int .i64 ((tk L sz i).a : Int)] 175)).alloc (.cells #[.int .i64 0, .string ⟨#[]⟩, .int .i64 0, .int .i64 0, .bool false, .int .i64 0, .string ⟨#[]⟩, .int .i64 0, .slice none 0 0, .int .i64 0, .int .i64 0, .slice none 0 0, .slice none 0 0, .int .i64 0, .int .i64 0] 93)) w') => stLoc h1 (.cells #[.int .i64 ((tk L sz i).k : Int), .string (tk L sz i).x, .int .i64 ((tk L sz i).a : Int)] 175) hk
  have hTk := fun w1 (h1 : PSt gp w1 L sz i dp ds D) {D' : Option Nat} {w' : World} (hk : Stp gp D D' ((w1.alloc (.cells #[.int .i64 ((tk L sz i).k : Int), .string (tk L sz i).x, .int .i64 ((tk L sz i).a : Int)] 175)).alloc (.cells #[.int .i64 0, .string ⟨#[]⟩, .int .i64 0, .int .i64 0, .bool false, .int .i64 0, .string ⟨#[]⟩, .int .i64 0, .slice none 0 0, .int .i64 0, .int .i64 0, .slice none 0 0, .slice none 0 0, .int .i64 0, .int .i64 0] 93)) w') => tkLoc h1 (tk L sz i) hk
  have F0 : Hid (1 = 1) := rfl
  have F1 : Hid (1 = 1) := rfl
  have F2 : Hid (1 = 1) := rfl
  have F3 : Hid (1 = 1) := rfl
  have F4 : Hid (1 = 1) := rfl
  unfold tmS
  go_enter Tryz.func175, Tryz.ntmps175
  go_wp2_with (first
    | (go_at_call 146; refine (peek_any hp0).mono ?_; rintro e w1 ⟨rfl, hb1⟩; unfold tkV; have hq := (((Below.refl w1.heap.size w1).alloc (Nat.le_refl _) (.cells #[.int .i64 ((tk L sz i).k : Int), .string (tk L sz i).x, .int .i64 ((tk L sz i).a : Int)] 175)).alloc (by simp) (.cells #[.int .i64 0, .string ⟨#[]⟩, .int .i64 0, .int .i64 0, .bool false, .int .i64 0, .string ⟨#[]⟩, .int .i64 0, .slice none 0 0, .int .i64 0, .int .i64 0, .slice none 0 0, .slice none 0 0, .int .i64 0, .int .i64 0] 93)); have hp1 := (hp0.below hb1).below hq; have HW := (Stp.below (gp := gp) (D := D) hb1).trans (Stp.below hq); have hlR := hl0.step HW; have hz : w.heap.size + 1 ≤ w1.heap.size := (by simpa using hb1.size))
    | (go_at_call 105; have f := F0; clear f F0; refine (take_any hp1 kLet (by decide)).mono ?_; rintro e w0_ ⟨rfl, hp0_, hs0_⟩; rw [hW0] at hp0_ ⊢; simp only [Bool.false_eq_true, if_false] at hp0_)
    | (go_at_call 105; have f := F1; clear f F1; refine (take_any hp0_ kIf (by decide)).mono ?_; rintro e w1_ ⟨rfl, hp1_, hs1_⟩; rw [hW1] at hp1_ ⊢; simp only [Bool.false_eq_true, if_false] at hp1_)
    | (go_at_call 105; have f := F2; clear f F2; refine (take_any hp1_ kWhile (by decide)).mono ?_; rintro e w2_ ⟨rfl, hp2_, hs2_⟩; rw [hW2] at hp2_ ⊢; simp only [Bool.false_eq_true, if_false] at hp2_)
    | (go_at_call 105; have f := F3; clear f F3; refine (take_any hp2_ kSend (by decide)).mono ?_; rintro e w3_ ⟨rfl, hp3_, hs3_⟩; rw [hW3] at hp3_ ⊢; simp only [Bool.false_eq_true, if_false] at hp3_)
    | (go_at_call 105; have f := F4; clear f F4; refine (take_any hp3_ kReturn (by decide)).mono ?_; rintro e w4_ ⟨rfl, hp4_, hs4_⟩; rw [hW4] at hp4_ ⊢; simp only [if_true] at hp4_)
    | (go_at_call 195; refine (closed_any hp4_ hds).mono ?_; rintro e w6 ⟨v, rfl, D6, n6_, hp6, hs6, hr6⟩; obtain ⟨k0, x0, m0, p0, l0, c0, hv⟩ := hr6.shape; subst hv; replace hr6 := rd_ret hr6; have hp6' : PSt gp w6 L sz (pRet L sz dp (i + 1)).i dp (ds ++ (pRet L sz dp (i + 1)).d) D6 := hp6; clear hp6; have hp6 := hp6'; clear hp6'; have K6 := Stp.trans (Stp.trans (Stp.trans (Stp.trans (Stp.trans hs0_ hs1_) hs2_) hs3_) hs4_) hs6; have hlS6 := hlS w1 (hp0.below hb1) K6; have hlR6 := hlR.step K6; have htk6 := hTk w1 (hp0.below hb1) K6; obtain ⟨a0, a1, a2, a3, a4, a5, a6, a7, a8, a9, a10, a11, a12, a13, a14, af⟩ := fif_at hlS6.blk; obtain ⟨r0, r1, r2, r3, r4, r5, r6, r7, r8, r9, r10, r11, r12, r13, r14, rf⟩ := fif_at hlR6.blk; obtain ⟨p9, c9, v9, z0, z1, z2, z3, z4, z5, hf9, htok, hown, hD9⟩ := hp6.cells; clear htok hown hD9; have y2 := cell_of_row _ _ 2 _ _ _ htk6; simp only [List.getElem?_toArray, List.getElem?_cons_succ, List.getElem?_cons_zero] at y2; have hn1 : ¬ w1.heap.size + 1 = w.heap.size := (by omega); have hn2 : ¬ w.heap.size = w1.heap.size + 1 := (by omega); have hn3 : ¬ w1.heap.size = w.heap.size := (by omega); have hn4 : ¬ w.heap.size = w1.heap.size := (by omega); have hgp1 := (hp0.below hb1).gp_lt; have hn5 : ¬ gp = w1.heap.size := (by omega); have hn6 : ¬ gp = w1.heap.size + 1 := (by omega); have hn7 : ¬ gp = w.heap.size := (by omega); have hn8 : ¬ w1.heap.size = gp := (by omega); have hn9 : ¬ w1.heap.size + 1 = gp := (by omega)))
  have hsx := fif hp6 (HW.trans K6) (b := w1.heap.size + 1) (by simp; omega) hlS6.gp hlS6.ne (.int .i64 6) (.string ⟨#[]⟩) (.int .i64 0) (.int .i64 0) (.bool false) (.int .i64 (k0 : Int)) (.string x0) (.int .i64 (m0 : Int)) (.slice p0 l0 c0) (.int .i64 (exF (pCl L sz dp (i + 1)).v : Int)) (.int .i64 (exT (pCl L sz dp (i + 1)).v : Int)) (.slice none 0 0) (.slice none 0 0) (.int .i64 0) (.int .i64 0)
  have hblk := fif_blk hlS6.blk (.int .i64 6) (.string ⟨#[]⟩) (.int .i64 0) (.int .i64 0) (.bool false) (.int .i64 (k0 : Int)) (.string x0) (.int .i64 (m0 : Int)) (.slice p0 l0 c0) (.int .i64 (exF (pCl L sz dp (i + 1)).v : Int)) (.int .i64 (exT (pCl L sz dp (i + 1)).v : Int)) (.slice none 0 0) (.slice none 0 0) (.int .i64 0) (.int .i64 0)
  have hfar : ∀ k, k ≠ w1.heap.size + 1 → (((((((((((((((w6.setCell ⟨w1.heap.size + 1, 0, none⟩ (.int .i64 6)).setCell ⟨w1.heap.size + 1, 1, none⟩ (.string ⟨#[]⟩)).setCell ⟨w1.heap.size + 1, 2, none⟩ (.int .i64 0)).setCell ⟨w1.heap.size + 1, 3, none⟩ (.int .i64 0)).setCell ⟨w1.heap.size + 1, 4, none⟩ (.bool false)).setCell ⟨w1.heap.size + 1, 5, none⟩ (.int .i64 (k0 : Int))).setCell ⟨w1.heap.size + 1, 6, none⟩ (.string x0)).setCell ⟨w1.heap.size + 1, 7, none⟩ (.int .i64 (m0 : Int))).setCell ⟨w1.heap.size + 1, 8, none⟩ (.slice p0 l0 c0)).setCell ⟨w1.heap.size + 1, 9, none⟩ (.int .i64 (exF (pCl L sz dp (i + 1)).v : Int))).setCell ⟨w1.heap.size + 1, 10, none⟩ (.int .i64 (exT (pCl L sz dp (i + 1)).v : Int))).setCell ⟨w1.heap.size + 1, 11, none⟩ (.slice none 0 0)).setCell ⟨w1.heap.size + 1, 12, none⟩ (.slice none 0 0)).setCell ⟨w1.heap.size + 1, 13, none⟩ (.int .i64 0)).setCell ⟨w1.heap.size + 1, 14, none⟩ (.int .i64 0)).heap[k]? = w6.heap[k]? := fun k hk => sets_far hk (.int .i64 6) (.string ⟨#[]⟩) (.int .i64 0) (.int .i64 0) (.bool false) (.int .i64 (k0 : Int)) (.string x0) (.int .i64 (m0 : Int)) (.slice p0 l0 c0) (.int .i64 (exF (pCl L sz dp (i + 1)).v : Int)) (.int .i64 (exT (pCl L sz dp (i + 1)).v : Int)) (.slice none 0 0) (.slice none 0 0) (.int .i64 0) (.int .i64 0)
  have hsiz : (((((((((((((((w6.setCell ⟨w1.heap.size + 1, 0, none⟩ (.int .i64 6)).setCell ⟨w1.heap.size + 1, 1, none⟩ (.string ⟨#[]⟩)).setCell ⟨w1.heap.size + 1, 2, none⟩ (.int .i64 0)).setCell ⟨w1.heap.size + 1, 3, none⟩ (.int .i64 0)).setCell ⟨w1.heap.size + 1, 4, none⟩ (.bool false)).setCell ⟨w1.heap.size + 1, 5, none⟩ (.int .i64 (k0 : Int))).setCell ⟨w1.heap.size + 1, 6, none⟩ (.string x0)).setCell ⟨w1.heap.size + 1, 7, none⟩ (.int .i64 (m0 : Int))).setCell ⟨w1.heap.size + 1, 8, none⟩ (.slice p0 l0 c0)).setCell ⟨w1.heap.size + 1, 9, none⟩ (.int .i64 (exF (pCl L sz dp (i + 1)).v : Int))).setCell ⟨w1.heap.size + 1, 10, none⟩ (.int .i64 (exT (pCl L sz dp (i + 1)).v : Int))).setCell ⟨w1.heap.size + 1, 11, none⟩ (.slice none 0 0)).setCell ⟨w1.heap.size + 1, 12, none⟩ (.slice none 0 0)).setCell ⟨w1.heap.size + 1, 13, none⟩ (.int .i64 0)).setCell ⟨w1.heap.size + 1, 14, none⟩ (.int .i64 0)).heap.size = w6.heap.size := by simp
  have hlt6 : w1.heap.size + 1 < w4_.heap.size := (hlS w1 (hp0.below hb1) (Stp.trans (Stp.trans (Stp.trans (Stp.trans hs0_ hs1_) hs2_) hs3_) hs4_)).lt
  clear a0 a1 a2 a3 a4 a5 a6 a7 a8 a9 a10 a11 a12 a13 a14 af r0 r1 r2 r3 r4 r5 r6 r7 r8 r9 r10 r11 r12 r13 r14 rf z0 z1 z2 z3 z4 z5 hf9 y2
  generalize (((((((((((((((w6.setCell ⟨w1.heap.size + 1, 0, none⟩ (.int .i64 6)).setCell ⟨w1.heap.size + 1, 1, none⟩ (.string ⟨#[]⟩)).setCell ⟨w1.heap.size + 1, 2, none⟩ (.int .i64 0)).setCell ⟨w1.heap.size + 1, 3, none⟩ (.int .i64 0)).setCell ⟨w1.heap.size + 1, 4, none⟩ (.bool false)).setCell ⟨w1.heap.size + 1, 5, none⟩ (.int .i64 (k0 : Int))).setCell ⟨w1.heap.size + 1, 6, none⟩ (.string x0)).setCell ⟨w1.heap.size + 1, 7, none⟩ (.int .i64 (m0 : Int))).setCell ⟨w1.heap.size + 1, 8, none⟩ (.slice p0 l0 c0)).setCell ⟨w1.heap.size + 1, 9, none⟩ (.int .i64 (exF (pCl L sz dp (i + 1)).v : Int))).setCell ⟨w1.heap.size + 1, 10, none⟩ (.int .i64 (exT (pCl L sz dp (i + 1)).v : Int))).setCell ⟨w1.heap.size + 1, 11, none⟩ (.slice none 0 0)).setCell ⟨w1.heap.size + 1, 12, none⟩ (.slice none 0 0)).setCell ⟨w1.heap.size + 1, 13, none⟩ (.int .i64 0)).setCell ⟨w1.heap.size + 1, 14, none⟩ (.int .i64 0)) = W7 at *
  have hlS7 : Loc gp D6 W7 (w1.heap.size + 1) #[.int .i64 6, .string ⟨#[]⟩, .int .i64 0, .int .i64 0, .bool false, .int .i64 (k0 : Int), .string x0, .int .i64 (m0 : Int), .slice p0 l0 c0, .int .i64 (exF (pCl L sz dp (i + 1)).v : Int), .int .i64 (exT (pCl L sz dp (i + 1)).v : Int), .slice none 0 0, .slice none 0 0, .int .i64 0, .int .i64 0] := ⟨hblk, hlS6.gp, hlS6.ne⟩
  have hlR7 : Loc gp D6 W7 w.heap.size #[.int .i64 0, .string ⟨#[]⟩, .int .i64 0, .int .i64 0, .bool false, .int .i64 0, .string ⟨#[]⟩, .int .i64 0, .slice none 0 0, .int .i64 0, .int .i64 0, .slice none 0 0, .slice none 0 0, .int .i64 0, .int .i64 0] := ⟨(hfar w.heap.size (by omega)).trans hlR6.blk, hlR6.gp, hlR6.ne⟩
  have htk7 := (hfar w1.heap.size (by omega)).trans htk6
  have hr7 : RdS 1 (okS w4_.heap.size gp D6 W7) W7 _ _ := RdS.kept 1 (fun k hk => hfar k (by have := hk.1; omega)) (fun k hk => ⟨hk.1, by rw [hsiz]; exact hk.2.1, hk.2.2⟩) _ _ hr6
  obtain ⟨hp7, H7⟩ := hsx
  clear hblk hfar hsiz hlS6 hlR6 htk6 hr6 hp6 hs6 K6 hlS hTk hlR HW
  obtain ⟨a0, a1, a2, a3, a4, a5, a6, a7, a8, a9, a10, a11, a12, a13, a14, af⟩ := fif_at hlS7.blk
  obtain ⟨r0, r1, r2, r3, r4, r5, r6, r7, r8, r9, r10, r11, r12, r13, r14, rf⟩ := fif_at hlR7.blk
  obtain ⟨p9, c9, v9, z0, z1, z2, z3, z4, z5, hf9, htok, hown, hD9⟩ := hp7.cells
  clear htok hown hD9
  have y2 := cell_of_row _ _ 2 _ _ _ htk7
  simp only [List.getElem?_toArray, List.getElem?_cons_succ, List.getElem?_cons_zero] at y2
  go_region
  go_wp2
  have em : max ((tk L sz i).a : Int) (endT L sz (pRet L sz dp (i + 1)).i : Int) = ((upTo (tk L sz i).a (endT L sz (pRet L sz dp (i + 1)).i) : Nat) : Int) := by unfold upTo; omega
  rw [em]
  have hp8 := (hp7.set hlS7.gp hlS7.ne 13 (.int .i64 ((tk L sz i).a : Int))).set hlS7.gp hlS7.ne 14 (.int .i64 ((upTo (tk L sz i).a (endT L sz (pRet L sz dp (i + 1)).i) : Nat) : Int))
  have H8 := (H7.set (b := w1.heap.size + 1) (by simp; omega) 13 (.int .i64 ((tk L sz i).a : Int))).set (b := w1.heap.size + 1) (by simp; omega) 14 (.int .i64 ((upTo (tk L sz i).a (endT L sz (pRet L sz dp (i + 1)).i) : Nat) : Int))
  have hr8 : RdS 1 (fun k => okS (w.heap.size + 1) gp D6 ((W7.setCell ⟨w1.heap.size + 1, 13, none⟩ (.int .i64 ((tk L sz i).a : Int))).setCell ⟨w1.heap.size + 1, 14, none⟩ (.int .i64 ((upTo (tk L sz i).a (endT L sz (pRet L sz dp (i + 1)).i) : Nat) : Int))) k ∧ True) ((W7.setCell ⟨w1.heap.size + 1, 13, none⟩ (.int .i64 ((tk L sz i).a : Int))).setCell ⟨w1.heap.size + 1, 14, none⟩ (.int .i64 ((upTo (tk L sz i).a (endT L sz (pRet L sz dp (i + 1)).i) : Nat) : Int))) _ _ := RdS.kept 1 (fun k hk => (Below.heap_setCell _ _ _ k (by have := hk.1; simp; omega)).trans (Below.heap_setCell W7 _ _ k (by have := hk.1; simp; omega))) (fun k hk => ⟨⟨by have := hk.1; omega, by simpa using hk.2.1, hk.2.2⟩, trivial⟩) _ _ (hr7.reT (tk L sz i).a (upTo (tk L sz i).a (endT L sz (pRet L sz dp (i + 1)).i)))
  obtain ⟨f1, f2, f3⟩ := st_fin hfr hp8 H8 hr8 rfl
  exact bodyPost_ret (v := .agg #[.int .i64 6, .string ⟨#[]⟩, .int .i64 0, .int .i64 0, .bool false, .int .i64 (k0 : Int), .string x0, .int .i64 (m0 : Int), .slice p0 l0 c0, .int .i64 (exF (pCl L sz dp (i + 1)).v : Int), .int .i64 (exT (pCl L sz dp (i + 1)).v : Int), .slice none 0 0, .slice none 0 0, .int .i64 ((tk L sz i).a : Int), .int .i64 ((upTo (tk L sz i).a (endT L sz (pRet L sz dp (i + 1)).i) : Nat) : Int)]) (by simp [results, Tryz.results175, go_sem, r0, r1, r2, r3, r4, r5, r6, r7, r8, r9, r10, r11, r12, r13, r14]) rfl ⟨_, rfl, D6, 1, f1.drew, f2.drew, f3.drewn⟩
end
end Go.Proofs.YtfioihehhlpgcaaGreatDoor
namespace Go.Proofs.YtfioihehhlpgcaaGreatDoor
open Go.RowKit
attribute [local go_sem ↓] Go.wp_at_zero Go.wp_at_succ
section
variable {gp : Nat} {w : World} {L : List Tok} {sz i dp : Nat} {ds : List Dg} {D : Option Nat}
set_option maxHeartbeats 2000000 in
set_option maxRecDepth 100000 in
theorem stmt_bad (hp : PSt gp w L sz i dp ds D) (hil : i < L.length) (hW0 : isT L i kLet = false) (hW1 : isT L i kIf = false) (hW2 : isT L i kWhile = false) (hW3 : isT L i kSend = false) (hW4 : isT L i kReturn = false) (hN : nmB (tk L sz i).x = false) (hds : ds.length + 1 ≤ 1099511627776) :
    Calls Tryz.prog 175 #[.pointer (some ⟨gp, 0, none⟩)] w fun e w' => ∃ v, e = .returned v ∧ ToldS gp L sz dp D ds w w' ⟨stMk 8 noB 0 0 false exZ [] [] (tk L sz i).a (tk L sz i).a, i + 1, [bad L sz i 2]⟩ v := by
  have hgp := hp.gp_lt
  have hb0 := (Below.refl w.heap.size w).alloc (Nat.le_refl _) (.cells #[.int .i64 0, .string ⟨#[]⟩, .int .i64 0, .int .i64 0, .bool false, .int .i64 0, .string ⟨#[]⟩, .int .i64 0, .slice none 0 0, .int .i64 0, .int .i64 0, .slice none 0 0, .slice none 0 0, .int .i64 0, .int .i64 0] 93)
  have hp0 := hp.below hb0
  have hfr := hp.fresh (Nat.le_refl w.heap.size)
  have hl0 := Loc.new hp #[.int .i64 0, .string ⟨#[]⟩, .int .i64 0, .int .i64 0, .bool false, .int .i64 0, .string ⟨#[]⟩, .int .i64 0, .slice none 0 0, .int .i64 0, .int .i64 0, .slice none 0 0, .slice none 0 0, .int .i64 0, .int .i64 0]
  have hsz := hp.siz
  have htk := tk_small hp i
  have hx : (tk L sz i).x.size ≤ maxLen := by unfold maxLen; omega
  have hTk := fun w1 (h1 : PSt gp w1 L sz i dp ds D) {D' : Option Nat} {w' : World} (hk : Stp gp D D' ((w1.alloc (.cells #[.int .i64 ((tk L sz i).k : Int), .string (tk L sz i).x, .int .i64 ((tk L sz i).a : Int)] 175)).alloc (.cells #[.int .i64 0, .string ⟨#[]⟩, .int .i64 0, .int .i64 0, .bool false, .int .i64 0, .string ⟨#[]⟩, .int .i64 0, .slice none 0 0, .int .i64 0, .int .i64 0, .slice none 0 0, .slice none 0 0, .int .i64 0, .int .i64 0] 93)) w') => tkLoc h1 (tk L sz i) hk
  have F0 : Hid (1 = 1) := rfl
  have F1 : Hid (1 = 1) := rfl
  have F2 : Hid (1 = 1) := rfl
  have F3 : Hid (1 = 1) := rfl
  have F4 : Hid (1 = 1) := rfl
  go_enter Tryz.func175, Tryz.ntmps175
  go_wp2_with (first
    | (go_at_call 146; refine (peek_any hp0).mono ?_; rintro e w1 ⟨rfl, hb1⟩; unfold tkV; have hq := (((Below.refl w1.heap.size w1).alloc (Nat.le_refl _) (.cells #[.int .i64 ((tk L sz i).k : Int), .string (tk L sz i).x, .int .i64 ((tk L sz i).a : Int)] 175)).alloc (by simp) (.cells #[.int .i64 0, .string ⟨#[]⟩, .int .i64 0, .int .i64 0, .bool false, .int .i64 0, .string ⟨#[]⟩, .int .i64 0, .slice none 0 0, .int .i64 0, .int .i64 0, .slice none 0 0, .slice none 0 0, .int .i64 0, .int .i64 0] 93)); have hp1 := (hp0.below hb1).below hq; have HW := (Stp.below (gp := gp) (D := D) hb1).trans (Stp.below hq); have hlR := hl0.step HW; have hz : w.heap.size + 1 ≤ w1.heap.size := (by simpa using hb1.size))
    | (go_at_call 105; have f := F0; clear f F0; refine (take_any hp1 kLet (by decide)).mono ?_; rintro e w0_ ⟨rfl, hp0_, hs0_⟩; rw [hW0] at hp0_ ⊢; simp only [Bool.false_eq_true, if_false] at hp0_)
    | (go_at_call 105; have f := F1; clear f F1; refine (take_any hp0_ kIf (by decide)).mono ?_; rintro e w1_ ⟨rfl, hp1_, hs1_⟩; rw [hW1] at hp1_ ⊢; simp only [Bool.false_eq_true, if_false] at hp1_)
    | (go_at_call 105; have f := F2; clear f F2; refine (take_any hp1_ kWhile (by decide)).mono ?_; rintro e w2_ ⟨rfl, hp2_, hs2_⟩; rw [hW2] at hp2_ ⊢; simp only [Bool.false_eq_true, if_false] at hp2_)
    | (go_at_call 105; have f := F3; clear f F3; refine (take_any hp2_ kSend (by decide)).mono ?_; rintro e w3_ ⟨rfl, hp3_, hs3_⟩; rw [hW3] at hp3_ ⊢; simp only [Bool.false_eq_true, if_false] at hp3_)
    | (go_at_call 105; have f := F4; clear f F4; refine (take_any hp3_ kReturn (by decide)).mono ?_; rintro e w4_ ⟨rfl, hp4_, hs4_⟩; rw [hW4] at hp4_ ⊢; simp only [Bool.false_eq_true, if_false] at hp4_; have y1 := cell_of_row _ _ 1 _ _ _ (hTk w1 (hp0.below hb1) (Stp.trans (Stp.trans (Stp.trans (Stp.trans hs0_ hs1_) hs2_) hs3_) hs4_)); simp only [List.getElem?_toArray, List.getElem?_cons_succ, List.getElem?_cons_zero] at y1)
    | (go_at_call 169; refine (name_any _ _ hx).mono ?_; rintro e w5_ ⟨rfl, hb5_⟩; rw [hN]; have hp5_ := hp4_.below hb5_; have hs5_ := Stp.below (gp := gp) (D := D) hb5_; clear y1)
    | (go_at_call 108; refine (tell_any hp5_ 2 (by omega)).mono ?_; rintro e w6 ⟨rfl, D6, hp6, hs6⟩)
    | (go_at_call 145; refine (pass_any hp6 hil).mono ?_; rintro e w7 ⟨rfl, hp7, hs7⟩; unfold tkV; have K7 := Stp.trans (Stp.trans (Stp.trans (Stp.trans (Stp.trans (Stp.trans (Stp.trans hs0_ hs1_) hs2_) hs3_) hs4_) hs5_) hs6) hs7; have hlR7 := hlR.step K7; have htk7 := hTk w1 (hp0.below hb1) K7; obtain ⟨r0, r1, r2, r3, r4, r5, r6, r7, r8, r9, r10, r11, r12, r13, r14, rf⟩ := fif_at hlR7.blk; have y2 := cell_of_row _ _ 2 _ _ _ htk7; simp only [List.getElem?_toArray, List.getElem?_cons_succ, List.getElem?_cons_zero] at y2; have hn3 : ¬ w1.heap.size = w.heap.size := (by omega); have hn4 : ¬ w.heap.size = w1.heap.size := (by omega)))
  have hrS : RdS 1 (fun k => okS (w.heap.size + 1) gp D6 w7 k ∧ True) w7 (stMk 8 noB 0 0 false exZ [] [] (tk L sz i).a (tk L sz i).a) (.agg #[.int .i64 8, .string ⟨#[]⟩, .int .i64 0, .int .i64 0, .bool false, .int .i64 0, .string ⟨#[]⟩, .int .i64 0, .slice none 0 0, .int .i64 0, .int .i64 0, .slice none 0 0, .slice none 0 0, .int .i64 ((tk L sz i).a : Int), .int .i64 ((tk L sz i).a : Int)]) := ⟨8, noB, 0, 0, false, exZ, [], [], _, _, _, _, _, _, _, _, none, 0, none, 0, rfl, rfl, ⟨1, rd_none 0 noB 0 0 0 none 0⟩, ⟨by simp, fun h => absurd h (by simp)⟩, ⟨by simp, fun h => absurd h (by simp)⟩⟩
  obtain ⟨f1, f2, f3⟩ := st_fin hfr hp7 (HW.trans K7) hrS rfl
  exact bodyPost_ret (v := .agg #[.int .i64 8, .string ⟨#[]⟩, .int .i64 0, .int .i64 0, .bool false, .int .i64 0, .string ⟨#[]⟩, .int .i64 0, .slice none 0 0, .int .i64 0, .int .i64 0, .slice none 0 0, .slice none 0 0, .int .i64 ((tk L sz i).a : Int), .int .i64 ((tk L sz i).a : Int)]) (by simp [results, Tryz.results175, go_sem, r0, r1, r2, r3, r4, r5, r6, r7, r8, r9, r10, r11, r12, r13, r14]) rfl ⟨_, rfl, D6, 1, f1, f2, f3⟩
end
end Go.Proofs.YtfioihehhlpgcaaGreatDoor
namespace Go.Proofs.YtfioihehhlpgcaaGreatDoor
open Go.RowKit
attribute [local go_sem ↓] Go.wp_at_zero Go.wp_at_succ
theorem Tryz.infoSt : (Tryz.prog.info? 93).map (fun i => (i.zero, i.size, i.bytes)) = some (some (.agg #[.int .i64 0, .string ⟨#[]⟩, .int .i64 0, .int .i64 0, .bool false, .int .i64 0, .string ⟨#[]⟩, .int .i64 0, .slice none 0 0, .int .i64 0, .int .i64 0, .slice none 0 0, .slice none 0 0, .int .i64 0, .int .i64 0]), 15, 184) := by kernel_rfl
/-- What stmt is to answer, with so much fuel. -/
def CSt (f : Nat) : Prop := ∀ {gp : Nat} {w : World} {L : List Tok} {sz i dp : Nat} {ds : List Dg} {D : Option Nat}, PSt gp w L sz i dp ds D → i < L.length → 50 * (L.length - i) + 1 ≤ f → ds.length + (pStmt L sz f dp i).d.length + 1 ≤ 1099511627776 →
  Calls Tryz.prog 175 #[.pointer (some ⟨gp, 0, none⟩)] w fun e w' => ∃ v, e = .returned v ∧ ToldS gp L sz dp D ds w w' (pStmt L sz f dp i) v
section
variable {gp : Nat} {w : World} {L : List Tok} {sz i dp : Nat} {ds : List Dg} {D : Option Nat}
theorem stmt_any {f : Nat} (hB : CBl f) (hp : PSt gp w L sz i dp ds D) (hil : i < L.length) (hf : 50 * (L.length - i) ≤ f) (hds : ds.length + (pStmt L sz (f + 1) dp i).d.length + 1 ≤ 1099511627776) :
    Calls Tryz.prog 175 #[.pointer (some ⟨gp, 0, none⟩)] w fun e w' => ∃ v, e = .returned v ∧ ToldS gp L sz dp D ds w w' (pStmt L sz (f + 1) dp i) v := by
  have e0 := is_tk (L := L) (sz := sz) (i := i) (s := kLet) (by decide)
  have e1 := is_tk (L := L) (sz := sz) (i := i) (s := kIf) (by decide)
  have e2 := is_tk (L := L) (sz := sz) (i := i) (s := kWhile) (by decide)
  have e3 := is_tk (L := L) (sz := sz) (i := i) (s := kSend) (by decide)
  have e4 := is_tk (L := L) (sz := sz) (i := i) (s := kReturn) (by decide)
  have hp2 := pStmt_succ L sz f dp i
  simp only at hp2
  by_cases h0 : (tk L sz i).x = kLet
  · rw [decide_eq_true h0] at e0
    have hr : pStmt L sz (f + 1) dp i = tmS L sz i (pLet L sz dp (i + 1)) := by
      rw [hp2, if_pos h0]
      simp only [tmS, pLet, reT_mk, pCl, List.append_assoc]
    rw [hr] at hds ⊢
    exact stmt_let hp e0 hds
  rw [decide_eq_false h0] at e0
  rw [if_neg h0] at hp2
  by_cases h1 : (tk L sz i).x = kIf
  · rw [decide_eq_true h1] at e1
    have hr : pStmt L sz (f + 1) dp i = tmS L sz i (pIf L sz f dp (i + 1)) := by
      rw [hp2, if_pos h1]
      unfold tmS pIf
      simp only
      split
      · simp only [reT_mk, List.append_assoc]
      · simp only [reT_mk]
    rw [hr] at hds ⊢
    exact stmt_if hp e0 e1 hB (by omega) hds
  rw [decide_eq_false h1] at e1
  rw [if_neg h1] at hp2
  by_cases h2 : (tk L sz i).x = kWhile
  · rw [decide_eq_true h2] at e2
    have hr : pStmt L sz (f + 1) dp i = tmS L sz i (pWh L sz f dp (i + 1)) := by
      rw [hp2, if_pos h2]
      simp only [tmS, pWh, reT_mk]
    rw [hr] at hds ⊢
    exact stmt_while hp e0 e1 e2 hB (by omega) hds
  rw [decide_eq_false h2] at e2
  rw [if_neg h2] at hp2
  by_cases h3 : (tk L sz i).x = kSend
  · rw [decide_eq_true h3] at e3
    have hr : pStmt L sz (f + 1) dp i = tmS L sz i (pSnd L sz dp (i + 1)) := by
      rw [hp2, if_pos h3]
      simp only [tmS, pSnd, reT_mk, pCl, List.append_assoc]
    rw [hr] at hds ⊢
    exact stmt_send hp e0 e1 e2 e3 hds
  rw [decide_eq_false h3] at e3
  rw [if_neg h3] at hp2
  by_cases h4 : (tk L sz i).x = kReturn
  · rw [decide_eq_true h4] at e4
    have hr : pStmt L sz (f + 1) dp i = tmS L sz i (pRet L sz dp (i + 1)) := by
      rw [hp2, if_pos h4]
      simp only [tmS, pRet, reT_mk, pCl]
    rw [hr] at hds ⊢
    exact stmt_return hp e0 e1 e2 e3 e4 hds
  rw [decide_eq_false h4] at e4
  rw [if_neg h4] at hp2
  cases hN : nmB (tk L sz i).x
  · rw [if_neg (by rw [hN]; decide)] at hp2
    rw [hp2] at hds ⊢
    exact stmt_bad hp hil e0 e1 e2 e3 e4 hN (by simp at hds; omega)
  · rw [if_pos hN] at hp2
    have hr : pStmt L sz (f + 1) dp i = tmS L sz i (pSD L sz dp i) := by
      rw [hp2]
      unfold tmS pSD
      split
      · simp only [pSet, reT_mk, pCl]
      · simp only [pDo, reT_mk, pCl]
    rw [hr] at hds ⊢
    exact stmt_name hp hil e0 e1 e2 e3 e4 hN hds
/-- How long a slice is. -/
def lenV : Value → Nat
  | .slice _ n _ => n
  | _ => 0
/-- Where the reading of a block stands. -/
def RelB (gp : Nat) (L : List Tok) (sz dp : Nat) (D : Option Nat) (ds : List Dg) (f B : Nat) (w : World) (r : R (List Tr)) (v : Value) (wr : World) : Prop :=
  ∃ g j l da D' n, PSt gp wr L sz j dp (ds ++ da) D' ∧ Stp gp D D' w wr ∧ Row (RdS n) 93 15 B gp D' wr v l ∧ 50 * (L.length - j) + 3 + (40 - l.length) ≤ g ∧ g ≤ f ∧ l.length ≤ 40 ∧ r = ⟨(pStmts L sz g dp j l).v, (pStmts L sz g dp j l).i, da ++ (pStmts L sz g dp j l).d⟩
theorem told_block {w5 : World} {j n : Nat} {d : List Dg} {D3 : Option Nat} {v : Value} {l : List Tr} (hp5 : PSt gp w5 L sz j dp (ds ++ d) D3) (hs : Stp gp D D3 w w5) (hrow : Row (RdS n) 93 15 w.heap.size gp D3 w5 v l) (hl : l.length ≤ 1099511627776) : ToldB gp L sz dp D ds w w5 ⟨l, j, d⟩ v := by
  obtain ⟨p, cap, rfl, h⟩ := hrow.done (kept_S n)
  refine ⟨D3, n, p, cap, hp5, hs, rfl, hl, fun h0 => ?_⟩
  obtain ⟨g, e1, e2, e3⟩ := h h0
  refine ⟨g, e1, e2, fun j a hj => ?_⟩
  obtain ⟨c, _, h2, h3⟩ := e3 j a hj
  exact ⟨_, h2, h3⟩
set_option maxHeartbeats 1000000 in
set_option maxRecDepth 100000 in
theorem block_any {f : Nat} (hS : ∀ g, g < f → CSt g) (hp : PSt gp w L sz i dp ds D) (hf : 50 * (L.length - i) + 47 ≤ f) (hds : ds.length + (pBlock L sz (f + 1) dp i).d.length + 1 ≤ 1099511627776) :
    Calls Tryz.prog 152 #[.pointer (some ⟨gp, 0, none⟩)] w fun e w' => ∃ v, e = .returned v ∧ ToldB gp L sz dp D ds w w' (pBlock L sz (f + 1) dp i) v := by
  have hgp := hp.gp_lt
  have hdp := hp.dp1
  obtain ⟨i0, hi0, hz0, hz1, hz2⟩ := info_parts Tryz.infoSt
  rw [pBlock_succ] at hds ⊢
  go_enter_defers Tryz.func152, Tryz.ntmps152
  cases hI : isT L i (bs1 123)
  · have hN : pNeed L sz i (bs1 123) = ⟨false, i, [bad L sz i 2]⟩ := by unfold pNeed; rw [hI]; rfl
    rw [hI] at hds
    simp only [Bool.false_eq_true, if_false] at hds ⊢
    go_wp2_with (first
      | (go_at_call 148; refine (need_any hp (bs1 123) (by decide) (by omega)).mono ?_; rintro e w1 ⟨rfl, D1, hp1, hs1⟩; rw [hN] at hp1 ⊢))
    exact ⟨.slice none 0 0, by simp [results, Tryz.results152, go_sem], _, rfl, D1, 0, none, 0, hp1, hs1, rfl, by simp, fun h => absurd h (by simp)⟩
  · have hN : pNeed L sz i (bs1 123) = ⟨true, i + 1, []⟩ := by unfold pNeed; rw [hI]; rfl
    have hil := (isT_lt hI).1
    rw [hI] at hds
    simp only [if_true] at hds ⊢
    by_cases h12 : 12 ≤ dp
    · rw [if_pos h12] at hds ⊢
      obtain rfl : dp = 12 := by omega
      go_wp2_with (first
        | (go_at_call 148; refine (need_any hp (bs1 123) (by decide) (by omega)).mono ?_; rintro e w1 ⟨rfl, D1, hp1, hs1⟩; rw [hN] at hp1 ⊢; obtain ⟨p9, c9, v9, z0, z1, z2, z3, z4, z5, hf9, htok, hown, hD9⟩ := hp1.cells; clear htok hown hD9)
        | (go_at_call 108; refine (tell_any hp1 12 (by simp at hds ⊢; omega)).mono ?_; rintro e w2 ⟨rfl, D2, hp2, hs2⟩))
      exact ⟨.slice none 0 0, by simp [results, Tryz.results152, go_sem], _, rfl, D2, 0, none, 0, by simpa using hp2, hs1.trans hs2, rfl, by simp, fun h => absurd h (by simp)⟩
    · rw [if_neg h12] at hds ⊢
      have hd : dp < 12 := by omega
      have hdne : ¬ (dp : Int) = 12 := by omega
      have hq := (stmt_ok (sz := sz) hp.okL f).2.1 (dp + 1) (i + 1) [] hil
      have HE : Hid (∀ wr, Told gp L sz (dp + 1) D (i + 1) ds w wr → RelB gp L sz (dp + 1) D ds f w.heap.size w (pStmts L sz f (dp + 1) (i + 1) []) (.slice none 0 0) wr) := fun wr ⟨D1, h1, h2⟩ => ⟨f, i + 1, [], [], D1, 0, by rw [List.append_nil]; exact h1, h2, Row.nil hgp, by simp; omega, Nat.le_refl _, by simp, rfl⟩
      have hd1 : ds.length + (pStmts L sz f (dp + 1) (i + 1) []).d.length + 1 ≤ 1099511627776 := by simp only [List.length_append] at hds; omega
      have hd2 : (ds ++ (pStmts L sz f (dp + 1) (i + 1) []).d).length + 1 ≤ 1099511627776 := by simp only [List.length_append] at hds ⊢; omega
      clear h12 hds hq
      generalize pStmts L sz f (dp + 1) (i + 1) [] = r at *
      go_wp2_with (first
        | (go_at_call 148; refine (need_any hp (bs1 123) (by decide) (by omega)).mono ?_; rintro e w1 ⟨rfl, D1, hp1, hs1⟩; rw [hN] at hp1 ⊢; rw [List.append_nil] at hp1; obtain ⟨p9, c9, v9, z0, z1, z2, z3, z4, z5, hf9, htok, hown, hD9⟩ := hp1.cells; clear htok hown hD9)
        | (go_at_call 173; refine (enter_any hp1 hd).mono ?_; rintro e w2 ⟨rfl, hp2, hs2⟩; clear z0 z1 z2 z3 z4 z5 hf9))
      go_loopw [3] (fun v wr => RelB gp L sz (dp + 1) D ds f w.heap.size w r v wr) (fun v _ => 41 - lenV v)
      case atStart => exact HE.out _ ⟨D1, hp2, hs1.trans hs2⟩
      case round =>
        obtain ⟨g, j, l, da, D3, n, hp3, hs3, hrow, hg1, hg2, hl40, hr⟩ := hrel
        obtain ⟨p, cap, hv, _⟩ := hrow.done (kept_S n)
        subst hv
        obtain ⟨g, rfl⟩ : ∃ q, g = q + 1 := ⟨g - 1, by omega⟩
        have HR : Hid (r = ⟨(pStmts L sz (g + 1) (dp + 1) j l).v, (pStmts L sz (g + 1) (dp + 1) j l).i, da ++ (pStmts L sz (g + 1) (dp + 1) j l).d⟩) := hr
        clear hr
        have HQ : Hid (_ = _) := pStmts_succ L sz g (dp + 1) j l
        have hdl : (ds ++ da).length + 1 ≤ 1099511627776 := by rw [HR.out] at hd2; simp only [List.length_append] at hd2 ⊢; omega
        by_cases hM : j < L.length ∧ isT L j (bs1 125) = false
        · by_cases h5 : l.length = 40
          · have hm : pMore L sz j l.length 40 (bs1 125) = ⟨false, j, [bad L sz j 5]⟩ := by unfold pMore; rw [if_pos hM, if_pos h5]
            have hQ : r = ⟨l, j, da ++ [bad L sz j 5]⟩ := by rw [HR.out, HQ.out, if_pos hM, if_pos (by omega)]
            clear HR HQ hM h5
            subst hQ
            have hd3 : (ds ++ da ++ [bad L sz j 5]).length + 1 ≤ 1099511627776 := by simp only [List.length_append] at hd2 ⊢; omega
            go_wp2_with (first
              | (go_at_call 170; refine (more_any hp3 l.length 40 (bs1 125) (by decide) hdl).mono ?_; rintro e w4 ⟨rfl, D4, hp4, hs4⟩; rw [hm] at hp4 ⊢)
              | (go_at_call 148; refine (need_any hp4 (bs1 125) (by decide) hd3).mono ?_; rintro e w5 ⟨rfl, D5, hp5, hs5⟩))
            refine leaves_cons (f := 174) (args := #[.pointer (some ⟨gp, 0, none⟩)]) (by simp) (by simp [go_sem]) ?_
            refine (leave_any hp5 .returning).mono ?_
            rintro e u' w6 ⟨rfl, rfl, hp6, hs6⟩
            have hp6' : PSt gp w6 L sz (pNeed L sz j (bs1 125)).i dp (ds ++ (da ++ bad L sz j 5 :: (pNeed L sz j (bs1 125)).d)) D5 := by simpa using hp6
            have hT := told_block hp6' (((hs3.trans hs4).trans hs5).trans hs6) (((hrow.step (kept_S n) hs4).step (kept_S n) hs5).step (kept_S n) hs6) (by omega)
            exact ⟨.slice p l.length cap, by simp [results, Tryz.results152, go_sem], _, rfl, hT⟩
          · have hm : pMore L sz j l.length 40 (bs1 125) = ⟨true, j, []⟩ := by unfold pMore; rw [if_pos hM, if_neg h5]
            have HR2 : Hid (r = ⟨(pStmts L sz g (dp + 1) (pStmt L sz g (dp + 1) j).i (l ++ [(pStmt L sz g (dp + 1) j).v])).v, (pStmts L sz g (dp + 1) (pStmt L sz g (dp + 1) j).i (l ++ [(pStmt L sz g (dp + 1) j).v])).i, (da ++ (pStmt L sz g (dp + 1) j).d) ++ (pStmts L sz g (dp + 1) (pStmt L sz g (dp + 1) j).i (l ++ [(pStmt L sz g (dp + 1) j).v])).d⟩) := by
              show _ = _
              rw [HR.out, HQ.out, if_pos hM, if_neg (by omega), List.append_assoc]
            have hjl := hM.1
            have hge := ((stmt_ok (sz := sz) hp.okL g).2.2 (dp + 1) j hjl).1.ge
            have hdx : (ds ++ da).length + (pStmt L sz g (dp + 1) j).d.length + 1 ≤ 1099511627776 := by rw [HR2.out] at hd2; simp only [List.length_append] at hd2 ⊢; omega
            generalize hX : pStmt L sz g (dp + 1) j = x at *
            have H5 : Hid (¬ l.length = 40) := h5
            clear h5 hM HR HQ
            have hbytes : (l.length + 1) * 184 ≤ 140737488355328 := by omega
            have hmax : l.length + 1 ≤ maxLen := by unfold maxLen; omega
            go_wp2_with (first
              | (go_at_call 170; refine (more_any hp3 l.length 40 (bs1 125) (by decide) hdl).mono ?_; rintro e w4 ⟨rfl, D4, hp4, hs4⟩; rw [hm] at hp4 ⊢)
              | (go_at_call 175; refine (hS g (by omega) hp4 hjl (by omega) (by rw [hX]; simpa using hdx)).mono ?_; rintro e w5 ⟨v, rfl, D5, n5, hp5, hs5, hr5⟩; rw [hX] at hp5 hr5; obtain ⟨k0, x0, a0_, b0_, o0, ek, ex, en, ep, el, ec, ef, et, p1, l1, c1, p2, l2, c2, f0, t0, hv⟩ := hr5.shape; subst hv; have hrow4 := (hrow.step (kept_S n) hs4).step (kept_S n) hs5; have hs05 := (hs3.trans hs4).trans hs5; have hbn := (Below.refl w5.heap.size w5).alloc (Nat.le_refl _) (.cells #[.int .i64 (k0 : Int), .string x0, .int .i64 (a0_ : Int), .int .i64 (b0_ : Int), .bool o0, .int .i64 (ek : Int), .string ex, .int .i64 (en : Int), .slice ep el ec, .int .i64 (ef : Int), .int .i64 (et : Int), .slice p1 l1 c1, .slice p2 l2 c2, .int .i64 (f0 : Int), .int .i64 (t0 : Int)] 93); have hrow5 := hrow4.below (kept_S n) hbn; obtain ⟨vs, ho5, _⟩ := hrow5.own; have hz5 := hs05.size)
              | (at_builtin; refine wpList_append_lies _ rfl (.tmp 21) (.tmp 24) 33 rfl w.heap.size 93 i0 _ 15 184 Tryz.underlying33 hi0 hz0 hz1 hz2 rfl (by decide) _ _ _ rfl ho5 ⟨w5.heap.size, 0, none⟩ 1 1 [.int .i64 (k0 : Int), .string x0, .int .i64 (a0_ : Int), .int .i64 (b0_ : Int), .bool o0, .int .i64 (ek : Int), .string ex, .int .i64 (en : Int), .slice ep el ec, .int .i64 (ef : Int), .int .i64 (et : Int), .slice p1 l1 c1, .slice p2 l2 c2, .int .i64 (f0 : Int), .int .i64 (t0 : Int)] rfl rfl (World.news_of_block (heap_alloc_new w5 _)) (by simp [Value.oneCell']) (by decide) hmax hbytes (by simp; omega) _ rfl ?_; intro g6 cap6 w6 hown6 hgrow6 hat6 hlt6; obtain ⟨hp6, hs6, hrow6⟩ := app_step (kept_S (max n n5)) hp5 hs05 (hrow4.mono (fun _ _ _ _ h => h.le (Nat.le_max_left n n5))) rfl (hr5.le (Nat.le_max_right n n5)) ((hs3.trans hs4).size) (fun k e => Nat.lt_of_lt_of_le (hrow.lt e).2 hs4.size) ho5 hown6 hgrow6 hat6))
            go_roundw
            case rel =>
              refine ⟨g, x.i, l ++ [x.v], da ++ x.d, D5, max n n5, by simpa using hp6, hs6, hrow6, ?_, by omega, ?_, HR2.out⟩
              · have := H5.out; simp only [List.length_append, List.length_singleton]; omega
              · have := H5.out; simp only [List.length_append, List.length_singleton]; omega
            case measure => have := H5.out; simp [lenV]; omega
        · have hm : pMore L sz j l.length 40 (bs1 125) = ⟨false, j, []⟩ := by unfold pMore; rw [if_neg hM]
          have hQ : r = ⟨l, j, da⟩ := by rw [HR.out, HQ.out, if_neg hM]; simp
          clear HR HQ hM
          subst hQ
          have hd3 : (ds ++ da ++ []).length + 1 ≤ 1099511627776 := by simpa using hd2
          go_wp2_with (first
            | (go_at_call 170; refine (more_any hp3 l.length 40 (bs1 125) (by decide) hdl).mono ?_; rintro e w4 ⟨rfl, D4, hp4, hs4⟩; rw [hm] at hp4 ⊢)
            | (go_at_call 148; refine (need_any hp4 (bs1 125) (by decide) hd3).mono ?_; rintro e w5 ⟨rfl, D5, hp5, hs5⟩))
          refine leaves_cons (f := 174) (args := #[.pointer (some ⟨gp, 0, none⟩)]) (by simp) (by simp [go_sem]) ?_
          refine (leave_any hp5 .returning).mono ?_
          rintro e u' w6 ⟨rfl, rfl, hp6, hs6⟩
          have hp6' : PSt gp w6 L sz (pNeed L sz j (bs1 125)).i dp (ds ++ (da ++ (pNeed L sz j (bs1 125)).d)) D5 := by simpa using hp6
          have hT := told_block hp6' (((hs3.trans hs4).trans hs5).trans hs6) (((hrow.step (kept_S n) hs4).step (kept_S n) hs5).step (kept_S n) hs6) (by omega)
          exact ⟨.slice p l.length cap, by simp [results, Tryz.results152, go_sem], _, rfl, hT⟩
end
/-- Statements and blocks, with whatever fuel. -/
theorem all_stmt (f : Nat) : CBl f ∧ CSt f := by
  induction f using Nat.strongRecOn with
  | ind f ih =>
    cases f with
    | zero =>
      refine ⟨?_, ?_⟩
      · intro gp w L sz i dp ds D hp hf; omega
      · intro gp w L sz i dp ds D hp hil hf; omega
    | succ f =>
      refine ⟨?_, ?_⟩
      · intro gp w L sz i dp ds D hp hf hds
        exact block_any (fun g hg => (ih g (by omega)).2) hp (by omega) hds
      · intro gp w L sz i dp ds D hp hil hf hds
        exact stmt_any (ih f (by omega)).1 hp hil (by omega) hds
section
variable {gp : Nat} {w : World} {L : List Tok} {sz i : Nat} {ds : List Dg} {D : Option Nat}
/-- An item's block is read. -/
theorem blockR_any (hp : PSt gp w L sz i 0 ds D) (hds : ds.length + (pB L sz i).d.length + 1 ≤ 1099511627776) :
    Calls Tryz.prog 152 #[.pointer (some ⟨gp, 0, none⟩)] w fun e w' => ∃ v, e = .returned v ∧ ToldB gp L sz 0 D ds w w' (pB L sz i) v :=
  (all_stmt (50 * L.length + 100)).1 hp (by omega) hds
end
end Go.Proofs.YtfioihehhlpgcaaGreatDoor

/- Whether a text tells secrets, and any expression's label, is told as the document says: the law FlowTells. -/
import Derived.Test.YtdkpfnohdknldaaGreatDoorZcRfSecr
import Derived.Test.YtdkpfnohdknldaaGreatDoorZcLawAlive6
import Derived.Test.YtdkpfnohdknldaaGreatDoorZcLawNTells
namespace Go.Proofs.YtdkpfnohdknldaaGreatDoor
open Go.RowKit
set_option linter.unusedVariables false
attribute [local go_sem ↓] Go.wp_at_zero Go.wp_at_succ
theorem fil_lb (s : ByteArray) : ∀ e ∈ fil s, e.2.l < 256 ∧ ∀ p ∈ e.2.ps, p.l < 256 := by
  intro e he
  obtain ⟨j, _, hj⟩ := fil_mem he
  rw [hj]
  show (itI s j).l < 256 ∧ ∀ p ∈ (itI s j).ps, p.l < 256
  rw [itI_tx]
  exact ⟨(it_lb (L := tks (txI s j)) (sz := (txI s j).size)).1, (it_lb (L := tks (txI s j)) (sz := (txI s j).size)).2.1⟩
theorem fil_lbW (s : ByteArray) : ∀ (i : Nat) (p : Int) (it : It), (fil s)[i]? = some (p, it) → ∃ nl, ∀ b ∈ it.bd, lbW nl b := by
  intro i p it h
  obtain ⟨j, _, hj⟩ := fil_mem (List.mem_of_getElem? h)
  injection hj with _ h2
  rw [h2, itI_tx]
  exact (it_lb (L := tks (txI s j)) (sz := (txI s j).size)).2.2
theorem labR_neg {at_ : Int} (h : at_ < 0) (L : List Fv) : labR L at_ = (0, false) := by
  unfold labR
  have e : L.find? (hitF at_) = none := by
    rw [List.find?_eq_none]
    intro a _
    unfold hitF
    simp
    omega
  rw [e]
theorem flA_at {l : List (Int × It)} {i : Nat} {p : Int} {it : It} {T : List Tok} (h : l[i]? = some (p, it)) (hw : WfI T it) : (flA l)[i]? = some (flS l it.ss) := by
  unfold flA
  rw [List.getElem?_map, h]
  show some (flI l it) = _
  unfold flI
  split
  · rfl
  · rename_i hk
    rcases hw.k2 with h2 | h2
    · exact absurd h2 hk
    · rw [h2.2.1]; rfl
def allB (l : List (Int × It)) (k : Nat) : Bool := (List.range k).all (fun i => (noF (fvJ l (flA l) i)).isEmpty)
theorem allB_succ (l : List (Int × It)) (k : Nat) : allB l (k + 1) = (allB l k && (noF (fvJ l (flA l) k)).isEmpty) := by
  unfold allB
  rw [List.range_succ, List.all_append]
  simp
def RelFt (l : List (Int × It)) (W : World) (sv i : Value) (wr : World) : Prop := ∃ k : Nat, k ≤ l.length ∧ i = .int .i64 (k : Int) ∧ sv = .bool (allB l k) ∧ Below W.heap.size W wr
set_option maxHeartbeats 2000000 in
set_option maxRecDepth 100000 in
theorem sameFd_any (l : List Fv) (p1 p2 : Option Addr) (c1 c2 : Nat) (ok ok2 : Nat → Prop) (w : World) (h1 : SlAt ok w 4 fdC l p1) (h2 : SlAt ok2 w 4 fdC l p2) :
    Calls Tryz.prog 20 #[.slice p1 l.length c1, .slice p2 l.length c2] w fun e w' => e = .returned (.bool true) ∧ ∃ m, w' = w.drewN m := by
  have hl := h1.1
  go_enter Tryz.func20, Tryz.ntmps20
  go_wp2
  go_loopw [13] (fun i wr => RelQ l.length w i wr) (fun i _ => upN l.length i)
  case atStart => exact ⟨0, 0, Nat.zero_le _, rfl, rfl⟩
  case round =>
    obtain ⟨k, m, hk, rfl, rfl⟩ := hrel
    by_cases hlt : k < l.length
    · obtain ⟨g1, rfl, _, t1⟩ := h1.2 (by omega)
      obtain ⟨g2, rfl, _, t2⟩ := h2.2 (by omega)
      obtain ⟨t, ht⟩ : ∃ t, l[k]? = some t := ⟨_, List.getElem?_eq_getElem hlt⟩
      have a0 := t1 k t ht 0 (.int .i64 (t.f : Int)) rfl
      have a1 := t1 k t ht 1 (.int .i64 (t.t : Int)) rfl
      have a2 := t1 k t ht 2 (.int .i64 9) rfl
      have a3 := t1 k t ht 3 (.string t.x) rfl
      have b0 := t2 k t ht 0 (.int .i64 (t.f : Int)) rfl
      have b1 := t2 k t ht 1 (.int .i64 (t.t : Int)) rfl
      have b2 := t2 k t ht 2 (.int .i64 9) rfl
      have b3 := t2 k t ht 3 (.string t.x) rfl
      rw [Nat.add_zero] at a0 b0
      clear t1 t2 h1 h2 ht
      go_wp2
      go_quiet (fail)
      go_wp2
      go_roundw
      case rel => exact ⟨k + 1, m + nq, by omega, by go_num, by simp⟩
      case measure => simp [upN, intOf]; omega
    · go_wp2
      go_ret
      exact ⟨rfl, m, rfl⟩
theorem neg_of_lt {at_ : Int} (h : ¬ at_ ≥ 0) : at_ < 0 := by omega
set_option maxHeartbeats 8000000 in
set_option maxRecDepth 100000 in
theorem ftells_walk (s : ByteArray) (at_ : Int) (w : World) (hV : VarAt w) : Calls Tryz.prog 4 #[.string s, .int .i64 at_] w fun e w' => e = .returned (.bool true) ∧ Below w.heap.size w w' := by
  have HFi := hid (File_any s w hV)
  have hE5 := flE_le5 s
  by_cases hE : flE s = 0
  · have hs4 := (flE_small hE).1
    have HWf := hid (fil_wf s hs4)
    have HCw := hid (fil_cw s hs4)
    have HPs := hid (fil_ps s)
    have HLb := hid (fil_lb s)
    have HLw := hid (fil_lbW s)
    have HE := hid hE
    have hE0 : ((flE s : Nat) : Int) = 0 := by rw [hE]; rfl
    have HE0 := hid hE0
    have hlen := flE_small hE
    rw [← fil_len] at hlen
    have hl30 := hlen.2
    clear hE hE0 hE5 hs4 hlen
    go_enter Tryz.func4, Tryz.ntmps4
    go_wp2_with (first
      | (go_at_call 10; refine Calls.mono HFi.out ?_; rintro e w1 ⟨p, m, c, rfl, hft, hb1⟩; rw [HE0.out]; have hR1 := hft.1 HE.out; clear hft; have hm := RdF.size hR1; subst hm; have hba := (Below.refl w1.heap.size w1).alloc (Nat.le_refl _) (.cells #[.slice p (fil s).length c] 25); have hB1 := hb1.trans (hba.mono hb1.size); have hO : OneF (fil s) w1.heap.size p c (w1.alloc (.cells #[.slice p (fil s).length c] 25)) := ⟨cell_of_row _ _ 0 _ _ _ (heap_alloc_new w1 _), RdF.kept hR1 (fun k hk => hba.block k hk.2) (fun k hk => Nat.lt_of_lt_of_le hk.2 hba.size)⟩; have HFl := hid (Floors_any (fil s) p c _ _ (fun k hk => hk) hO.r); have HO := hid (And.intro hO hB1); clear hO hB1 hba hR1)
      | (go_at_call 17; refine Calls.mono HFl.out ?_; rintro e w3 ⟨gF, cF, rfl, hSF, hb3⟩; have hO3 := HO.out.1.below hb3; have y9 := hO3.y; have hB3 := HO.out.2.trans (hb3.mono HO.out.2.size)))
    clear HO HFi HE HE0 HFl
    generalize fil s = l at *
    generalize w1.heap.size = b9 at *
    go_loopw [8, 31] (fun sv i wr => RelFt l w3 sv i wr) (fun _ i _ => upN l.length i)
    case atStart => exact ⟨0, Nat.zero_le _, rfl, rfl, Below.refl _ _⟩
    case round =>
      obtain ⟨k, hkl, rfl, rfl, hbr⟩ := hrel
      have hOr := hO3.below hbr
      have hBr := hB3.trans (hbr.mono hB3.size)
      clear y9
      have y9 := hOr.y
      by_cases hlt : k < l.length
      · obtain ⟨e0, he0⟩ : ∃ e, l[k]? = some e := ⟨_, List.getElem?_eq_getElem hlt⟩
        obtain ⟨pp, it⟩ := e0
        obtain ⟨T, hT1, hT2⟩ := HWf.out k pp it he0
        obtain ⟨T2, m2, hc1, hc2⟩ := HCw.out k pp it he0
        obtain ⟨nl, hnl⟩ := HLw.out k pp it he0
        have hcnt : (noF (fvJ l (flA l) k)).length ≤ 7 * T2.length := by
          have h := cnt_item (L := T2) HPs.out he0 ⟨m2, hc1⟩
          exact h
        have hcn : (noF (fvJ l (flA l) k)).length < 1099511627776 := by omega
        have hfA := flA_at he0 hT1
        obtain ⟨gF', hgF, hgo, hFl⟩ := hSF.2 (by show 0 < (flA l).length; unfold flA; rw [List.length_map]; omega)
        injection hgF with hgF
        injection hgF with hgF
        subst hgF
        have f0 := hFl k _ hfA 0 (.int .i64 (flS l it.ss : Int)) rfl
        rw [Nat.mul_one, Nat.add_zero] at f0
        have HF0 := hid (fun (W : World) (h : Below w3.heap.size w3 W) => (World.cell?_of_block (a := ⟨gF, k, none⟩) (h.block gF hgo.2)).trans f0)
        have HSe := hid (fun (W : World) (h : OneF l b9 p c W) (a : Int) => rf_secrets l p c W _ (fun k hk => hk) h.r HLb.out HPs.out k pp it he0 T hT1 hT2 nl hnl hcn a)
        have HFo := hid (fun (W : World) (h : OneF l b9 p c W) => rf_floor l p c W _ (fun k hk => hk) h.r (fun e he => (HLb.out e he).1) k pp it he0)
        have HDi := hid (fun (W : World) (h : OneF l b9 p c W) => FDiags_any l p c W _ (fun k hk => hk) h.r HPs.out k hlt (fun p it h => HCw.out k p it h))
        have HLa := hid (fun (W : World) (h : OneF l b9 p c W) => Label_any l p c W _ (fun k hk => hk) h.r HPs.out k hlt at_ (fun p it h => HCw.out k p it h))
        have hbs := allB_succ l k
        have hNG := hid (fun (h : at_ < 0) => And.intro (labR_neg h (fvJ l (flA l) k)) (labR_neg (show (-1 : Int) < 0 by decide) (fvJ l (flA l) k)))
        generalize flS l it.ss = fl0 at *
        generalize fvJ l (flA l) k = J at *
        generalize allB l k = sk at *
        have HSK := hid hbs
        have HL := hid hlt
        have HCN := hid (Nat.le_of_lt hcn)
        have HGO := hid hgo
        have gk : (0 : Int) ≤ (k : Int) := by omega
        have gk1 : (k : Int) < (l.length : Int) := by omega
        have hkb : k < 1099511627776 := by omega
        have H1 := hid (HSe.out wr hOr (-1))
        clear hT1 hT2 he0 hlt hkl hc1 hc2 hnl hcnt hcn hfA hgo hFl f0 hbs
        generalize hNJ : noF J = NJ at *
        have HNJ := hid hNJ
        clear hNJ
        have hln : NJ.isEmpty = ((NJ.length : Int) == 0) := by cases NJ <;> simp <;> omega
        rw [hln] at HSK
        clear hln
        cases sk with
        | false =>
          rw [Bool.false_and] at HSK
          by_cases hat : at_ ≥ 0
          · have HAT := hid hat
            have hda : decide (at_ ≥ 0) = true := by simpa using hat
            have F1 : Hid (1 = 1) := rfl
            go_wp2_with (first
              | (go_at_call 18; go_loud (have ff := F1; clear ff F1; refine Calls.mono H1.out ?_; rintro e w5 ⟨rfl, ⟨D5, hRF5⟩, hb5⟩; have hO5 := hOr.below hb5; have v9 := hO5.y; obtain ⟨vd, u1, u2, u3, u6⟩ := hRF5.blk; rw [HNJ.out] at u2; obtain ⟨p2, cc2, hv2, hS2⟩ := row_slat (c := fdC) (fun a => by rfl) HCN.out u2 (Below.refl _ _); subst hv2; have c2 : w5.cell? ⟨wr.heap.size + 1, 2, none⟩ = some (.slice p2 NJ.length cc2) := cell_of_row _ _ 2 _ _ _ u1; have HU := hid (And.intro u1 hS2); have HC5 := hid (And.intro hb5 hO5); clear u1 u2 u3 u6 hS2 hRF5 hb5)))
            have hbr5 := hbr.trans (HC5.out.1.mono hbr.size)
            have f5 := HF0.out w5 hbr5
            have hdr := Below.drew (Below.refl w5.heap.size w5)
            have hOd := hO5.below hdr
            have HF6 := hid (HFo.out w5.drew hOd)
            have HC6 := hid (And.intro hbr5 hdr)
            clear hbr5 hdr
            go_region_held3 (fun w' => w'.cell? ⟨b9, 0, none⟩ = some (.slice p l.length c) ∧ w'.cell? ⟨gF, k, none⟩ = some (.int .i64 (fl0 : Int)) ∧ w'.cell? ⟨wr.heap.size + 1, 2, none⟩ = some (.slice p2 NJ.length cc2)) (first | go_keep | (with_reducible exact ⟨r9, rF, r2⟩) | (with_reducible exact ⟨s9, sF, s2⟩) | (with_reducible exact ⟨t9, tF, t2⟩))
              (first
                | (go_at_call 19; refine Calls.mono HF6.out ?_; rintro e w6 ⟨rfl, hb6⟩; have hO6 := hOd.below hb6; have hb56 : Below w5.heap.size w5 w6 := HC6.out.2.trans hb6; have r9 := hO6.y; have rF := HF0.out w6 (HC6.out.1.trans (hb56.mono HC6.out.1.size)); have r2 := cell_on hb56 c2; have HD7 := hid (HDi.out w6 hO6))
                | (go_at_call 21; go_loud (refine Calls.mono HD7.out ?_; rintro e w7 ⟨v7, rfl, hrow7, hb7⟩; obtain ⟨p1, cc1, hv1, hS1⟩ := row_slat (c := fdC) (fun a => by rfl) HCN.out hrow7 (Below.refl _ _); subst hv1; have hO7 := hO6.below hb7; have hb57 := hb56.trans (hb7.mono hb56.size); have s9 := hO7.y; have sF := HF0.out w7 (HC6.out.1.trans (hb57.mono HC6.out.1.size)); have s2 := cell_on hb57 c2; have HS8 := hid (sameFd_any NJ p1 p2 cc1 cc2 _ _ w7 hS1 (HU.out.2.kept (fun k hk => hb57.block k hk))); clear hS1 hrow7))
                | (go_at_call 20; refine Calls.mono HS8.out ?_; rintro e w8 ⟨rfl, m8, hw8⟩; subst hw8; have hb58 := below_drewN hb57 m8; have hO8 := hO7.below (below_drewN (Below.refl w7.heap.size w7) m8); have t9 := hO8.y; have tF := HF0.out (w7.drewN m8) (HC6.out.1.trans (hb58.mono HC6.out.1.size)); have t2 := cell_on hb58 c2))
            clear r9 rF r2 s9 sF s2 t9 tF t2 v9 c2 f5 y9
            have v9 := hO8.y
            have HL9 := hid (HLa.out _ hO8)
            have HB58 := hid (And.intro hb58 hO8)
            clear hb58 hb56 hb57 hO6 hO7 hOd hb6 hb7

            have hu5 := HB58.out
            go_wp2_with (first
              | (go_at_call 22; refine Calls.mono HL9.out ?_; rintro e w9 ⟨rfl, hb9⟩; have hO9 := HB58.out.2.below hb9; have x9 := hO9.y; have H2 := hid (HSe.out w9 hO9 at_))
              | (go_at_call 18; refine Calls.mono H2.out ?_; rintro e w10 ⟨rfl, ⟨D10, hRF10⟩, hb10⟩; have x4 := hRF10.cells.2.2.2.1; have x5 := hRF10.cells.2.2.2.2.1; have z9 := (hO9.below hb10).y))
            go_roundw
            case rel => exact ⟨k + 1, HL.out, by go_num, by rw [HSK.out], by have e1 := HC6.out.1; have e2 := HB58.out.1; have e3 := e1.trans (e2.mono e1.size); have e4 := e3.trans (hb9.mono e3.size); exact e4.trans (hb10.mono e4.size)⟩
            case measure => have := HL.out; simp [upN, intOf]; omega

          · have HAT := hid (neg_of_lt hat)
            have hda : decide (at_ ≥ 0) = false := by simpa using hat
            clear hat
            have F1 : Hid (1 = 1) := rfl
            go_wp2_with (first
              | (go_at_call 18; go_loud (have ff := F1; clear ff F1; refine Calls.mono H1.out ?_; rintro e w5 ⟨rfl, ⟨D5, hRF5⟩, hb5⟩; have hO5 := hOr.below hb5; have v9 := hO5.y; obtain ⟨vd, u1, u2, u3, u6⟩ := hRF5.blk; rw [HNJ.out] at u2; obtain ⟨p2, cc2, hv2, hS2⟩ := row_slat (c := fdC) (fun a => by rfl) HCN.out u2 (Below.refl _ _); subst hv2; have c2 : w5.cell? ⟨wr.heap.size + 1, 2, none⟩ = some (.slice p2 NJ.length cc2) := cell_of_row _ _ 2 _ _ _ u1; have HU := hid (And.intro u1 hS2); have HC5 := hid (And.intro hb5 hO5); clear u1 u2 u3 u6 hS2 hRF5 hb5)))
            have hbr5 := hbr.trans (HC5.out.1.mono hbr.size)
            have f5 := HF0.out w5 hbr5
            have hdr := Below.drew (Below.refl w5.heap.size w5)
            have hOd := hO5.below hdr
            have HF6 := hid (HFo.out w5.drew hOd)
            have HC6 := hid (And.intro hbr5 hdr)
            clear hbr5 hdr
            go_region_held3 (fun w' => w'.cell? ⟨b9, 0, none⟩ = some (.slice p l.length c) ∧ w'.cell? ⟨gF, k, none⟩ = some (.int .i64 (fl0 : Int)) ∧ w'.cell? ⟨wr.heap.size + 1, 2, none⟩ = some (.slice p2 NJ.length cc2)) (first | go_keep | (with_reducible exact ⟨r9, rF, r2⟩) | (with_reducible exact ⟨s9, sF, s2⟩) | (with_reducible exact ⟨t9, tF, t2⟩))
              (first
                | (go_at_call 19; refine Calls.mono HF6.out ?_; rintro e w6 ⟨rfl, hb6⟩; have hO6 := hOd.below hb6; have hb56 : Below w5.heap.size w5 w6 := HC6.out.2.trans hb6; have r9 := hO6.y; have rF := HF0.out w6 (HC6.out.1.trans (hb56.mono HC6.out.1.size)); have r2 := cell_on hb56 c2; have HD7 := hid (HDi.out w6 hO6))
                | (go_at_call 21; go_loud (refine Calls.mono HD7.out ?_; rintro e w7 ⟨v7, rfl, hrow7, hb7⟩; obtain ⟨p1, cc1, hv1, hS1⟩ := row_slat (c := fdC) (fun a => by rfl) HCN.out hrow7 (Below.refl _ _); subst hv1; have hO7 := hO6.below hb7; have hb57 := hb56.trans (hb7.mono hb56.size); have s9 := hO7.y; have sF := HF0.out w7 (HC6.out.1.trans (hb57.mono HC6.out.1.size)); have s2 := cell_on hb57 c2; have HS8 := hid (sameFd_any NJ p1 p2 cc1 cc2 _ _ w7 hS1 (HU.out.2.kept (fun k hk => hb57.block k hk))); clear hS1 hrow7))
                | (go_at_call 20; refine Calls.mono HS8.out ?_; rintro e w8 ⟨rfl, m8, hw8⟩; subst hw8; have hb58 := below_drewN hb57 m8; have hO8 := hO7.below (below_drewN (Below.refl w7.heap.size w7) m8); have t9 := hO8.y; have tF := HF0.out (w7.drewN m8) (HC6.out.1.trans (hb58.mono HC6.out.1.size)); have t2 := cell_on hb58 c2))
            clear r9 rF r2 s9 sF s2 t9 tF t2 v9 c2 f5 y9
            have v9 := hO8.y
            have HL9 := hid (HLa.out _ hO8)
            have HB58 := hid (And.intro hb58 hO8)
            clear hb58 hb56 hb57 hO6 hO7 hOd hb6 hb7

            have x4 : (w7.drewN m8).cell? ⟨wr.heap.size + 1, 4, none⟩ = some (.bool (labR J (-1)).2) := cell_on HB58.out.1 (cell_of_row _ _ 4 _ _ _ HU.out.1)
            have x5 : (w7.drewN m8).cell? ⟨wr.heap.size + 1, 5, none⟩ = some (.int .i64 ((labR J (-1)).1 : Int)) := cell_on HB58.out.1 (cell_of_row _ _ 5 _ _ _ HU.out.1)
            rw [(hNG.out HAT.out).2] at x4 x5
            rw [(hNG.out HAT.out).1] at HL9
            go_wp2_with (first
              | (go_at_call 22; refine Calls.mono HL9.out ?_; rintro e w9 ⟨rfl, hb9⟩; have x9 := (HB58.out.2.below hb9).y; have x4' := cell_on hb9 x4; have x5' := cell_on hb9 x5))
            go_roundw
            case rel => exact ⟨k + 1, HL.out, by go_num, by rw [HSK.out], by have e1 := HC6.out.1; have e2 := HB58.out.1; have e3 := e1.trans (e2.mono e1.size); exact e3.trans (hb9.mono e3.size)⟩
            case measure => have := HL.out; simp [upN, intOf]; omega

        | true =>
          rw [Bool.true_and] at HSK
          cases hlz : ((NJ.length : Int) == 0) with
          | true =>
            rw [hlz] at HSK
            by_cases hat : at_ ≥ 0
            · have HAT := hid hat
              have hda : decide (at_ ≥ 0) = true := by simpa using hat
              have F1 : Hid (1 = 1) := rfl
              go_wp2_with (first
                | (go_at_call 18; go_loud (have ff := F1; clear ff F1; refine Calls.mono H1.out ?_; rintro e w5 ⟨rfl, ⟨D5, hRF5⟩, hb5⟩; have hO5 := hOr.below hb5; have v9 := hO5.y; obtain ⟨vd, u1, u2, u3, u6⟩ := hRF5.blk; rw [HNJ.out] at u2; obtain ⟨p2, cc2, hv2, hS2⟩ := row_slat (c := fdC) (fun a => by rfl) HCN.out u2 (Below.refl _ _); subst hv2; have c2 : w5.cell? ⟨wr.heap.size + 1, 2, none⟩ = some (.slice p2 NJ.length cc2) := cell_of_row _ _ 2 _ _ _ u1; have HU := hid (And.intro u1 hS2); have HC5 := hid (And.intro hb5 hO5); clear u1 u2 u3 u6 hS2 hRF5 hb5)))
              have hbr5 := hbr.trans (HC5.out.1.mono hbr.size)
              have f5 := HF0.out w5 hbr5
              have hdr := Below.drew (Below.refl w5.heap.size w5)
              have hOd := hO5.below hdr
              have HF6 := hid (HFo.out w5.drew hOd)
              have HC6 := hid (And.intro hbr5 hdr)
              clear hbr5 hdr
              go_region_held3 (fun w' => w'.cell? ⟨b9, 0, none⟩ = some (.slice p l.length c) ∧ w'.cell? ⟨gF, k, none⟩ = some (.int .i64 (fl0 : Int)) ∧ w'.cell? ⟨wr.heap.size + 1, 2, none⟩ = some (.slice p2 NJ.length cc2)) (first | go_keep | (with_reducible exact ⟨r9, rF, r2⟩) | (with_reducible exact ⟨s9, sF, s2⟩) | (with_reducible exact ⟨t9, tF, t2⟩))
                (first
                  | (go_at_call 19; refine Calls.mono HF6.out ?_; rintro e w6 ⟨rfl, hb6⟩; have hO6 := hOd.below hb6; have hb56 : Below w5.heap.size w5 w6 := HC6.out.2.trans hb6; have r9 := hO6.y; have rF := HF0.out w6 (HC6.out.1.trans (hb56.mono HC6.out.1.size)); have r2 := cell_on hb56 c2; have HD7 := hid (HDi.out w6 hO6))
                  | (go_at_call 21; go_loud (refine Calls.mono HD7.out ?_; rintro e w7 ⟨v7, rfl, hrow7, hb7⟩; obtain ⟨p1, cc1, hv1, hS1⟩ := row_slat (c := fdC) (fun a => by rfl) HCN.out hrow7 (Below.refl _ _); subst hv1; have hO7 := hO6.below hb7; have hb57 := hb56.trans (hb7.mono hb56.size); have s9 := hO7.y; have sF := HF0.out w7 (HC6.out.1.trans (hb57.mono HC6.out.1.size)); have s2 := cell_on hb57 c2; have HS8 := hid (sameFd_any NJ p1 p2 cc1 cc2 _ _ w7 hS1 (HU.out.2.kept (fun k hk => hb57.block k hk))); clear hS1 hrow7))
                  | (go_at_call 20; refine Calls.mono HS8.out ?_; rintro e w8 ⟨rfl, m8, hw8⟩; subst hw8; have hb58 := below_drewN hb57 m8; have hO8 := hO7.below (below_drewN (Below.refl w7.heap.size w7) m8); have t9 := hO8.y; have tF := HF0.out (w7.drewN m8) (HC6.out.1.trans (hb58.mono HC6.out.1.size)); have t2 := cell_on hb58 c2))
              clear r9 rF r2 s9 sF s2 t9 tF t2 v9 c2 f5 y9
              have v9 := hO8.y
              have HL9 := hid (HLa.out _ hO8)
              have HB58 := hid (And.intro hb58 hO8)
              clear hb58 hb56 hb57 hO6 hO7 hOd hb6 hb7

              have hu5 := HB58.out
              go_wp2_with (first
                | (go_at_call 22; refine Calls.mono HL9.out ?_; rintro e w9 ⟨rfl, hb9⟩; have hO9 := HB58.out.2.below hb9; have x9 := hO9.y; have H2 := hid (HSe.out w9 hO9 at_))
                | (go_at_call 18; refine Calls.mono H2.out ?_; rintro e w10 ⟨rfl, ⟨D10, hRF10⟩, hb10⟩; have x4 := hRF10.cells.2.2.2.1; have x5 := hRF10.cells.2.2.2.2.1; have z9 := (hO9.below hb10).y))
              go_roundw
              case rel => exact ⟨k + 1, HL.out, by go_num, by rw [HSK.out], by have e1 := HC6.out.1; have e2 := HB58.out.1; have e3 := e1.trans (e2.mono e1.size); have e4 := e3.trans (hb9.mono e3.size); exact e4.trans (hb10.mono e4.size)⟩
              case measure => have := HL.out; simp [upN, intOf]; omega

            · have HAT := hid (neg_of_lt hat)
              have hda : decide (at_ ≥ 0) = false := by simpa using hat
              clear hat
              have F1 : Hid (1 = 1) := rfl
              go_wp2_with (first
                | (go_at_call 18; go_loud (have ff := F1; clear ff F1; refine Calls.mono H1.out ?_; rintro e w5 ⟨rfl, ⟨D5, hRF5⟩, hb5⟩; have hO5 := hOr.below hb5; have v9 := hO5.y; obtain ⟨vd, u1, u2, u3, u6⟩ := hRF5.blk; rw [HNJ.out] at u2; obtain ⟨p2, cc2, hv2, hS2⟩ := row_slat (c := fdC) (fun a => by rfl) HCN.out u2 (Below.refl _ _); subst hv2; have c2 : w5.cell? ⟨wr.heap.size + 1, 2, none⟩ = some (.slice p2 NJ.length cc2) := cell_of_row _ _ 2 _ _ _ u1; have HU := hid (And.intro u1 hS2); have HC5 := hid (And.intro hb5 hO5); clear u1 u2 u3 u6 hS2 hRF5 hb5)))
              have hbr5 := hbr.trans (HC5.out.1.mono hbr.size)
              have f5 := HF0.out w5 hbr5
              have hdr := Below.drew (Below.refl w5.heap.size w5)
              have hOd := hO5.below hdr
              have HF6 := hid (HFo.out w5.drew hOd)
              have HC6 := hid (And.intro hbr5 hdr)
              clear hbr5 hdr
              go_region_held3 (fun w' => w'.cell? ⟨b9, 0, none⟩ = some (.slice p l.length c) ∧ w'.cell? ⟨gF, k, none⟩ = some (.int .i64 (fl0 : Int)) ∧ w'.cell? ⟨wr.heap.size + 1, 2, none⟩ = some (.slice p2 NJ.length cc2)) (first | go_keep | (with_reducible exact ⟨r9, rF, r2⟩) | (with_reducible exact ⟨s9, sF, s2⟩) | (with_reducible exact ⟨t9, tF, t2⟩))
                (first
                  | (go_at_call 19; refine Calls.mono HF6.out ?_; rintro e w6 ⟨rfl, hb6⟩; have hO6 := hOd.below hb6; have hb56 : Below w5.heap.size w5 w6 := HC6.out.2.trans hb6; have r9 := hO6.y; have rF := HF0.out w6 (HC6.out.1.trans (hb56.mono HC6.out.1.size)); have r2 := cell_on hb56 c2; have HD7 := hid (HDi.out w6 hO6))
                  | (go_at_call 21; go_loud (refine Calls.mono HD7.out ?_; rintro e w7 ⟨v7, rfl, hrow7, hb7⟩; obtain ⟨p1, cc1, hv1, hS1⟩ := row_slat (c := fdC) (fun a => by rfl) HCN.out hrow7 (Below.refl _ _); subst hv1; have hO7 := hO6.below hb7; have hb57 := hb56.trans (hb7.mono hb56.size); have s9 := hO7.y; have sF := HF0.out w7 (HC6.out.1.trans (hb57.mono HC6.out.1.size)); have s2 := cell_on hb57 c2; have HS8 := hid (sameFd_any NJ p1 p2 cc1 cc2 _ _ w7 hS1 (HU.out.2.kept (fun k hk => hb57.block k hk))); clear hS1 hrow7))
                  | (go_at_call 20; refine Calls.mono HS8.out ?_; rintro e w8 ⟨rfl, m8, hw8⟩; subst hw8; have hb58 := below_drewN hb57 m8; have hO8 := hO7.below (below_drewN (Below.refl w7.heap.size w7) m8); have t9 := hO8.y; have tF := HF0.out (w7.drewN m8) (HC6.out.1.trans (hb58.mono HC6.out.1.size)); have t2 := cell_on hb58 c2))
              clear r9 rF r2 s9 sF s2 t9 tF t2 v9 c2 f5 y9
              have v9 := hO8.y
              have HL9 := hid (HLa.out _ hO8)
              have HB58 := hid (And.intro hb58 hO8)
              clear hb58 hb56 hb57 hO6 hO7 hOd hb6 hb7

              have x4 : (w7.drewN m8).cell? ⟨wr.heap.size + 1, 4, none⟩ = some (.bool (labR J (-1)).2) := cell_on HB58.out.1 (cell_of_row _ _ 4 _ _ _ HU.out.1)
              have x5 : (w7.drewN m8).cell? ⟨wr.heap.size + 1, 5, none⟩ = some (.int .i64 ((labR J (-1)).1 : Int)) := cell_on HB58.out.1 (cell_of_row _ _ 5 _ _ _ HU.out.1)
              rw [(hNG.out HAT.out).2] at x4 x5
              rw [(hNG.out HAT.out).1] at HL9
              go_wp2_with (first
                | (go_at_call 22; refine Calls.mono HL9.out ?_; rintro e w9 ⟨rfl, hb9⟩; have x9 := (HB58.out.2.below hb9).y; have x4' := cell_on hb9 x4; have x5' := cell_on hb9 x5))
              go_roundw
              case rel => exact ⟨k + 1, HL.out, by go_num, by rw [HSK.out], by have e1 := HC6.out.1; have e2 := HB58.out.1; have e3 := e1.trans (e2.mono e1.size); exact e3.trans (hb9.mono e3.size)⟩
              case measure => have := HL.out; simp [upN, intOf]; omega

          | false =>
            rw [hlz] at HSK
            by_cases hat : at_ ≥ 0
            · have HAT := hid hat
              have hda : decide (at_ ≥ 0) = true := by simpa using hat
              have F1 : Hid (1 = 1) := rfl
              go_wp2_with (first
                | (go_at_call 18; go_loud (have ff := F1; clear ff F1; refine Calls.mono H1.out ?_; rintro e w5 ⟨rfl, ⟨D5, hRF5⟩, hb5⟩; have hO5 := hOr.below hb5; have v9 := hO5.y; obtain ⟨vd, u1, u2, u3, u6⟩ := hRF5.blk; rw [HNJ.out] at u2; obtain ⟨p2, cc2, hv2, hS2⟩ := row_slat (c := fdC) (fun a => by rfl) HCN.out u2 (Below.refl _ _); subst hv2; have c2 : w5.cell? ⟨wr.heap.size + 1, 2, none⟩ = some (.slice p2 NJ.length cc2) := cell_of_row _ _ 2 _ _ _ u1; have HU := hid (And.intro u1 hS2); have HC5 := hid (And.intro hb5 hO5); clear u1 u2 u3 u6 hS2 hRF5 hb5)))
              have hbr5 := hbr.trans (HC5.out.1.mono hbr.size)
              have f5 := HF0.out w5 hbr5
              have hdr := Below.drew (Below.refl w5.heap.size w5)
              have hOd := hO5.below hdr
              have HF6 := hid (HFo.out w5.drew hOd)
              have HC6 := hid (And.intro hbr5 hdr)
              clear hbr5 hdr
              go_region_held3 (fun w' => w'.cell? ⟨b9, 0, none⟩ = some (.slice p l.length c) ∧ w'.cell? ⟨gF, k, none⟩ = some (.int .i64 (fl0 : Int)) ∧ w'.cell? ⟨wr.heap.size + 1, 2, none⟩ = some (.slice p2 NJ.length cc2)) (first | go_keep | (with_reducible exact ⟨r9, rF, r2⟩) | (with_reducible exact ⟨s9, sF, s2⟩) | (with_reducible exact ⟨t9, tF, t2⟩))
                (first
                  | (go_at_call 19; refine Calls.mono HF6.out ?_; rintro e w6 ⟨rfl, hb6⟩; have hO6 := hOd.below hb6; have hb56 : Below w5.heap.size w5 w6 := HC6.out.2.trans hb6; have r9 := hO6.y; have rF := HF0.out w6 (HC6.out.1.trans (hb56.mono HC6.out.1.size)); have r2 := cell_on hb56 c2; have HD7 := hid (HDi.out w6 hO6))
                  | (go_at_call 21; go_loud (refine Calls.mono HD7.out ?_; rintro e w7 ⟨v7, rfl, hrow7, hb7⟩; obtain ⟨p1, cc1, hv1, hS1⟩ := row_slat (c := fdC) (fun a => by rfl) HCN.out hrow7 (Below.refl _ _); subst hv1; have hO7 := hO6.below hb7; have hb57 := hb56.trans (hb7.mono hb56.size); have s9 := hO7.y; have sF := HF0.out w7 (HC6.out.1.trans (hb57.mono HC6.out.1.size)); have s2 := cell_on hb57 c2; have HS8 := hid (sameFd_any NJ p1 p2 cc1 cc2 _ _ w7 hS1 (HU.out.2.kept (fun k hk => hb57.block k hk))); clear hS1 hrow7))
                  | (go_at_call 20; refine Calls.mono HS8.out ?_; rintro e w8 ⟨rfl, m8, hw8⟩; subst hw8; have hb58 := below_drewN hb57 m8; have hO8 := hO7.below (below_drewN (Below.refl w7.heap.size w7) m8); have t9 := hO8.y; have tF := HF0.out (w7.drewN m8) (HC6.out.1.trans (hb58.mono HC6.out.1.size)); have t2 := cell_on hb58 c2))
              clear r9 rF r2 s9 sF s2 t9 tF t2 v9 c2 f5 y9
              have v9 := hO8.y
              have HL9 := hid (HLa.out _ hO8)
              have HB58 := hid (And.intro hb58 hO8)
              clear hb58 hb56 hb57 hO6 hO7 hOd hb6 hb7

              have hu5 := HB58.out
              go_wp2_with (first
                | (go_at_call 22; refine Calls.mono HL9.out ?_; rintro e w9 ⟨rfl, hb9⟩; have hO9 := HB58.out.2.below hb9; have x9 := hO9.y; have H2 := hid (HSe.out w9 hO9 at_))
                | (go_at_call 18; refine Calls.mono H2.out ?_; rintro e w10 ⟨rfl, ⟨D10, hRF10⟩, hb10⟩; have x4 := hRF10.cells.2.2.2.1; have x5 := hRF10.cells.2.2.2.2.1; have z9 := (hO9.below hb10).y))
              go_roundw
              case rel => exact ⟨k + 1, HL.out, by go_num, by rw [HSK.out], by have e1 := HC6.out.1; have e2 := HB58.out.1; have e3 := e1.trans (e2.mono e1.size); have e4 := e3.trans (hb9.mono e3.size); exact e4.trans (hb10.mono e4.size)⟩
              case measure => have := HL.out; simp [upN, intOf]; omega

            · have HAT := hid (neg_of_lt hat)
              have hda : decide (at_ ≥ 0) = false := by simpa using hat
              clear hat
              have F1 : Hid (1 = 1) := rfl
              go_wp2_with (first
                | (go_at_call 18; go_loud (have ff := F1; clear ff F1; refine Calls.mono H1.out ?_; rintro e w5 ⟨rfl, ⟨D5, hRF5⟩, hb5⟩; have hO5 := hOr.below hb5; have v9 := hO5.y; obtain ⟨vd, u1, u2, u3, u6⟩ := hRF5.blk; rw [HNJ.out] at u2; obtain ⟨p2, cc2, hv2, hS2⟩ := row_slat (c := fdC) (fun a => by rfl) HCN.out u2 (Below.refl _ _); subst hv2; have c2 : w5.cell? ⟨wr.heap.size + 1, 2, none⟩ = some (.slice p2 NJ.length cc2) := cell_of_row _ _ 2 _ _ _ u1; have HU := hid (And.intro u1 hS2); have HC5 := hid (And.intro hb5 hO5); clear u1 u2 u3 u6 hS2 hRF5 hb5)))
              have hbr5 := hbr.trans (HC5.out.1.mono hbr.size)
              have f5 := HF0.out w5 hbr5
              have hdr := Below.drew (Below.refl w5.heap.size w5)
              have hOd := hO5.below hdr
              have HF6 := hid (HFo.out w5.drew hOd)
              have HC6 := hid (And.intro hbr5 hdr)
              clear hbr5 hdr
              go_region_held3 (fun w' => w'.cell? ⟨b9, 0, none⟩ = some (.slice p l.length c) ∧ w'.cell? ⟨gF, k, none⟩ = some (.int .i64 (fl0 : Int)) ∧ w'.cell? ⟨wr.heap.size + 1, 2, none⟩ = some (.slice p2 NJ.length cc2)) (first | go_keep | (with_reducible exact ⟨r9, rF, r2⟩) | (with_reducible exact ⟨s9, sF, s2⟩) | (with_reducible exact ⟨t9, tF, t2⟩))
                (first
                  | (go_at_call 19; refine Calls.mono HF6.out ?_; rintro e w6 ⟨rfl, hb6⟩; have hO6 := hOd.below hb6; have hb56 : Below w5.heap.size w5 w6 := HC6.out.2.trans hb6; have r9 := hO6.y; have rF := HF0.out w6 (HC6.out.1.trans (hb56.mono HC6.out.1.size)); have r2 := cell_on hb56 c2; have HD7 := hid (HDi.out w6 hO6))
                  | (go_at_call 21; go_loud (refine Calls.mono HD7.out ?_; rintro e w7 ⟨v7, rfl, hrow7, hb7⟩; obtain ⟨p1, cc1, hv1, hS1⟩ := row_slat (c := fdC) (fun a => by rfl) HCN.out hrow7 (Below.refl _ _); subst hv1; have hO7 := hO6.below hb7; have hb57 := hb56.trans (hb7.mono hb56.size); have s9 := hO7.y; have sF := HF0.out w7 (HC6.out.1.trans (hb57.mono HC6.out.1.size)); have s2 := cell_on hb57 c2; have HS8 := hid (sameFd_any NJ p1 p2 cc1 cc2 _ _ w7 hS1 (HU.out.2.kept (fun k hk => hb57.block k hk))); clear hS1 hrow7))
                  | (go_at_call 20; refine Calls.mono HS8.out ?_; rintro e w8 ⟨rfl, m8, hw8⟩; subst hw8; have hb58 := below_drewN hb57 m8; have hO8 := hO7.below (below_drewN (Below.refl w7.heap.size w7) m8); have t9 := hO8.y; have tF := HF0.out (w7.drewN m8) (HC6.out.1.trans (hb58.mono HC6.out.1.size)); have t2 := cell_on hb58 c2))
              clear r9 rF r2 s9 sF s2 t9 tF t2 v9 c2 f5 y9
              have v9 := hO8.y
              have HL9 := hid (HLa.out _ hO8)
              have HB58 := hid (And.intro hb58 hO8)
              clear hb58 hb56 hb57 hO6 hO7 hOd hb6 hb7

              have x4 : (w7.drewN m8).cell? ⟨wr.heap.size + 1, 4, none⟩ = some (.bool (labR J (-1)).2) := cell_on HB58.out.1 (cell_of_row _ _ 4 _ _ _ HU.out.1)
              have x5 : (w7.drewN m8).cell? ⟨wr.heap.size + 1, 5, none⟩ = some (.int .i64 ((labR J (-1)).1 : Int)) := cell_on HB58.out.1 (cell_of_row _ _ 5 _ _ _ HU.out.1)
              rw [(hNG.out HAT.out).2] at x4 x5
              rw [(hNG.out HAT.out).1] at HL9
              go_wp2_with (first
                | (go_at_call 22; refine Calls.mono HL9.out ?_; rintro e w9 ⟨rfl, hb9⟩; have x9 := (HB58.out.2.below hb9).y; have x4' := cell_on hb9 x4; have x5' := cell_on hb9 x5))
              go_roundw
              case rel => exact ⟨k + 1, HL.out, by go_num, by rw [HSK.out], by have e1 := HC6.out.1; have e2 := HB58.out.1; have e3 := e1.trans (e2.mono e1.size); exact e3.trans (hb9.mono e3.size)⟩
              case measure => have := HL.out; simp [upN, intOf]; omega
      · obtain rfl : k = l.length := by omega
        have HSo := hid (Sound_any l p c wr _ (fun k hk => hk) hOr.r HPs.out (fun i p it h => HCw.out i p it h))
        have hsd : sndB l = allB l l.length := rfl
        have HSD := hid hsd
        clear hlt hkl hsd
        go_wp2_with (first
          | (go_at_call 23; refine Calls.mono HSo.out ?_; rintro e w5 ⟨rfl, hb5⟩; rw [HSD.out]))
        go_ret
        exact ⟨rfl, hBr.trans (hb5.mono hBr.size)⟩
  · have g : ((flE s : Int) != 0) = true := by simp; omega
    generalize flE s = e5 at *
    go_enter Tryz.func4, Tryz.ntmps4
    go_wp2_with (first
      | (go_at_call 10; refine Calls.mono HFi.out ?_; rintro e w1 ⟨p, m, c, rfl, _, hb1⟩))
    go_ret
    exact ⟨rfl, hb1.alloc hb1.size _⟩
end Go.Proofs.YtdkpfnohdknldaaGreatDoor

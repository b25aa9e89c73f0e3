/- Texts of this seat, one behind the other: LndY, LndZ, LndIt, LndIu, LndIv, LndItem. -/
import Derived.Test.YtfioihehhlpgcaaGreatDoorZb10
import Derived.Test.YtfioihehhlpgcaaGreatDoorZb01
namespace Go.Proofs.YtfioihehhlpgcaaGreatDoor
open Go.RowKit
attribute [local go_sem ↓] Go.wp_at_zero Go.wp_at_succ
theorem Tryz.infoPm : (Tryz.prog.info? 124).map (fun i => (i.zero, i.size, i.bytes)) = some (some (.agg #[.string ⟨#[]⟩, .int .i64 0, .int .i64 0]), 3, 32) := by kernel_rfl
/-- Flat parts, as they lie. -/
def rdF {α : Type} (c : α → List Value) : (Nat → Prop) → World → α → Value → Prop := fun _ _ a v => v = .agg (c a).toArray
theorem kept_F {α : Type} (c : α → List Value) : Kept (rdF c) := fun _ _ _ _ _ _ _ _ h => h
/-- A list of flat parts was read. -/
def ToldF {α : Type} (c : α → List Value) (st : Nat) (gp : Nat) (L : List Tok) (sz dp : Nat) (D : Option Nat) (ds : List Dg) (w w' : World) (r : R (List α)) (v : Value) : Prop := ∃ D' p cap, PSt gp w' L sz r.i dp (ds ++ r.d) D' ∧ Stp gp D D' w w' ∧ v = .slice p r.v.length cap ∧ SlAt (okS w.heap.size gp D' w') w' st c r.v p
section
variable {gp : Nat} {w : World} {L : List Tok} {sz i dp : Nat} {ds : List Dg} {D : Option Nat}
theorem told_flat {α : Type} {c : α → List Value} {T : TypeId} {st : Nat} {w5 : World} {j : Nat} {d : List Dg} {D3 : Option Nat} {v : Value} {l : List α} (hp5 : PSt gp w5 L sz j dp (ds ++ d) D3) (hs : Stp gp D D3 w w5) (hrow : Row (rdF c) T st w.heap.size gp D3 w5 v l) (hl : l.length ≤ 1099511627776) : ToldF c st gp L sz dp D ds w w5 ⟨l, j, d⟩ v := by
  obtain ⟨p, cap, rfl, h⟩ := hrow.done (kept_F c)
  refine ⟨D3, p, cap, hp5, hs, rfl, hl, fun h0 => ?_⟩
  obtain ⟨g, e1, e2, e3⟩ := h h0
  refine ⟨g, e1, e2, fun j a hj i u hi => ?_⟩
  obtain ⟨cc, _, h2, h3⟩ := e3 j a hj
  have h3 : (Value.agg cc.toArray) = .agg (c a).toArray := h3
  rw [h3] at h2
  exact h2.get i u (by simpa using hi)
/-- Where the reading of parameters stands. -/
def RelP (gp : Nat) (L : List Tok) (sz dp : Nat) (D : Option Nat) (ds : List Dg) (B : Nat) (w : World) (r : R (List Pm)) (v : Value) (wr : World) : Prop :=
  ∃ g j l da D', PSt gp wr L sz j dp (ds ++ da) D' ∧ Stp gp D D' w wr ∧ Row (rdF pmC) 124 3 B gp D' wr v l ∧ 6 ≤ g + l.length ∧ l.length ≤ 5 ∧ r = ⟨(pParams L sz g j l).v, (pParams L sz g j l).i, da ++ (pParams L sz g j l).d⟩
theorem pParams_succ (f j : Nat) (l : List Pm) : pParams L sz (f + 1) j l =
    (if moreB L j then
      if 5 ≤ l.length then ⟨l, j, [bad L sz j 5]⟩
      else if (pNeed L sz (pNamed L sz j).i (bs1 58)).v then
        if isT L (pLab L sz (pNeed L sz (pNamed L sz j).i (bs1 58)).i).i (bs1 44) then
          ⟨(pParams L sz f ((pLab L sz (pNeed L sz (pNamed L sz j).i (bs1 58)).i).i + 1) (l ++ [⟨(pNamed L sz j).v, (pLab L sz (pNeed L sz (pNamed L sz j).i (bs1 58)).i).v, (tk L sz j).a⟩])).v, (pParams L sz f ((pLab L sz (pNeed L sz (pNamed L sz j).i (bs1 58)).i).i + 1) (l ++ [⟨(pNamed L sz j).v, (pLab L sz (pNeed L sz (pNamed L sz j).i (bs1 58)).i).v, (tk L sz j).a⟩])).i, (pNamed L sz j).d ++ (pNeed L sz (pNamed L sz j).i (bs1 58)).d ++ (pLab L sz (pNeed L sz (pNamed L sz j).i (bs1 58)).i).d ++ (pParams L sz f ((pLab L sz (pNeed L sz (pNamed L sz j).i (bs1 58)).i).i + 1) (l ++ [⟨(pNamed L sz j).v, (pLab L sz (pNeed L sz (pNamed L sz j).i (bs1 58)).i).v, (tk L sz j).a⟩])).d⟩
        else ⟨l ++ [⟨(pNamed L sz j).v, (pLab L sz (pNeed L sz (pNamed L sz j).i (bs1 58)).i).v, (tk L sz j).a⟩], (pLab L sz (pNeed L sz (pNamed L sz j).i (bs1 58)).i).i, (pNamed L sz j).d ++ (pNeed L sz (pNamed L sz j).i (bs1 58)).d ++ (pLab L sz (pNeed L sz (pNamed L sz j).i (bs1 58)).i).d⟩
      else ⟨l, (pNeed L sz (pNamed L sz j).i (bs1 58)).i, (pNamed L sz j).d ++ (pNeed L sz (pNamed L sz j).i (bs1 58)).d⟩
    else ⟨l, j, []⟩) := by
  conv => lhs; unfold pParams
set_option maxHeartbeats 1000000 in
set_option maxRecDepth 100000 in
theorem params_any (hp : PSt gp w L sz i dp ds D) (hds : ds.length + (pParams L sz 6 i []).d.length + 1 ≤ 1099511627776) :
    Calls Tryz.prog 149 #[.pointer (some ⟨gp, 0, none⟩)] w fun e w' => ∃ v, e = .returned v ∧ ToldF pmC 3 gp L sz dp D ds w w' (pParams L sz 6 i []) v := by
  have hgp := hp.gp_lt
  obtain ⟨i0, hi0, hz0, hz1, hz2⟩ := info_parts Tryz.infoPm
  have HE : RelP gp L sz dp D ds w.heap.size w (pParams L sz 6 i []) (.slice none 0 0) w := ⟨6, i, [], [], D, by rw [List.append_nil]; exact hp, Stp.refl _ _ _, Row.nil hgp, by simp, by simp, rfl⟩
  generalize pParams L sz 6 i [] = r at *
  go_enter Tryz.func149, Tryz.ntmps149
  go_wp2
  go_loopw [3] (fun v wr => RelP gp L sz dp D ds w.heap.size w r v wr) (fun v _ => 6 - lenV v)
  case atStart => exact HE
  case round =>
    obtain ⟨g, j, l, da, D3, hp3, hs3, hrow, hg1, hl5, hr⟩ := hrel
    obtain ⟨p, cap, hv, _⟩ := hrow.done (kept_F pmC)
    subst hv
    obtain ⟨g, rfl⟩ : ∃ q, g = q + 1 := ⟨g - 1, by omega⟩
    have HR : Hid (r = ⟨(pParams L sz (g + 1) j l).v, (pParams L sz (g + 1) j l).i, da ++ (pParams L sz (g + 1) j l).d⟩) := hr
    clear hr HE
    have HQ : Hid (_ = _) := pParams_succ (L := L) (sz := sz) g j l
    have hdl : (ds ++ da).length + 1 ≤ 1099511627776 := by rw [HR.out] at hds; simp only [List.length_append] at hds ⊢; omega
    cases hM : moreB L j
    · have hm := more_of (sz := sz) (n := l.length) hM
      have hQ2 : r = ⟨l, j, da⟩ := by rw [HR.out, HQ.out, hM]; simp
      clear HR HQ
      subst hQ2
      go_wp2_with (first
        | (go_at_call 170; refine (more_any hp3 l.length 5 (bs1 41) (by decide) hdl).mono ?_; rintro e w4 ⟨rfl, D4, hp4, hs4⟩; rw [hm] at hp4 ⊢; rw [List.append_nil] at hp4))
      exact bodyPost_ret (v := .slice p l.length cap) (by simp [results, Tryz.results149, go_sem]) rfl ⟨_, rfl, told_flat hp4 (hs3.trans hs4) (hrow.step (kept_F pmC) hs4) (by omega)⟩
    · have hm := more_on (sz := sz) (n := l.length) hM
      by_cases h5 : l.length = 5
      · rw [if_pos h5] at hm
        have hQ2 : r = ⟨l, j, da ++ [bad L sz j 5]⟩ := by rw [HR.out, HQ.out, hM, if_pos rfl, if_pos (by omega)]
        clear HR HQ h5
        subst hQ2
        go_wp2_with (first
          | (go_at_call 170; refine (more_any hp3 l.length 5 (bs1 41) (by decide) hdl).mono ?_; rintro e w4 ⟨rfl, D4, hp4, hs4⟩; rw [hm] at hp4 ⊢))
        have hp4' : PSt gp w4 L sz j dp (ds ++ (da ++ [bad L sz j 5])) D4 := by simpa using hp4
        exact bodyPost_ret (v := .slice p l.length cap) (by simp [results, Tryz.results149, go_sem]) rfl ⟨_, rfl, told_flat hp4' (hs3.trans hs4) (hrow.step (kept_F pmC) hs4) (by omega)⟩
      · rw [if_neg h5] at hm
        have hq2 := HQ.out
        rw [hM, if_pos rfl, if_neg (by omega)] at hq2
        have HQ2 : Hid (_ = _) := hq2
        clear HQ hq2
        have hfd := fun w2 => (tkField (tk L sz j) w2).2.2
        generalize hA : pNamed L sz j = a at *
        generalize hQ : pNeed L sz a.i (bs1 58) = c at *
        have H5 : Hid (¬ l.length = 5) := h5
        clear h5
        have hda : (ds ++ da ++ a.d).length + 1 ≤ 1099511627776 := by
          rw [HR.out, HQ2.out] at hds
          split at hds
          · split at hds <;> (simp only [List.length_append] at hds ⊢; omega)
          · simp only [List.length_append] at hds ⊢; omega
        cases hcv : c.v
        · have hQ3 : r = ⟨l, c.i, da ++ (a.d ++ c.d)⟩ := by rw [HR.out, HQ2.out, hcv]; simp
          clear HR HQ2
          subst hQ3
          go_wp2_with (first
            | (go_at_call 170; refine (more_any hp3 l.length 5 (bs1 41) (by decide) hdl).mono ?_; rintro e w4 ⟨rfl, D4, hp4, hs4⟩; rw [hm] at hp4 ⊢; rw [List.append_nil] at hp4)
            | (go_at_call 146; refine (peek_any hp4).mono ?_; rintro e w5 ⟨rfl, hb5⟩; unfold tkV; have hp5 := hp4.below hb5; have hfr5 := hp5.fresh (Nat.le_refl w5.heap.size); have hb5' := (Below.refl w5.heap.size w5).alloc (Nat.le_refl _) (.cells #[.string ⟨#[]⟩, .int .i64 0, .int .i64 ((tk L sz j).a : Int)] 124); have hs5 := hs4.trans ((Stp.below hb5).trans (Stp.below hb5')))
            | (go_at_call 147; refine (nameR_any (hp5.below hb5') hdl).mono ?_; rintro e w6 ⟨rfl, D6, hp6, hs6⟩; rw [hA] at hp6 ⊢; have hbk6 := (slot (hs6.block w5.heap.size (by simp) (by omega) hfr5.2)).1; have hne6 := hs6.fresh (b := w5.heap.size) (by simp) hfr5.2; have d0 := cell_of_row _ _ 0 _ _ _ hbk6; simp only [List.getElem?_toArray, List.getElem?_cons_zero] at d0; have df : ∀ o, w6.frozen? ⟨w5.heap.size, o, none⟩ = false := (fun o => by simp [World.frozen?, hbk6]); have hs6' := (hs5.trans hs6).set (b := w5.heap.size) (Nat.le_trans hs4.size hb5.size) 0 (.string a.v); have hbk6' : (w6.setCell ⟨w5.heap.size, 0, none⟩ (.string a.v)).heap[w5.heap.size]? = some (.cells #[.string a.v, .int .i64 0, .int .i64 ((tk L sz j).a : Int)] 124 (0, 0)) := (by simp [World.setCell, Array.getElem?_modify, hbk6]); have hlt6 : w5.heap.size < w6.heap.size := (Array.getElem?_eq_some_iff.1 hbk6).1)
            | (go_at_call 148; refine (need_any (hp6.set hfr5.1 hne6 0 (.string a.v)) (bs1 58) (by decide) hda).mono ?_; rintro e w7 ⟨rfl, D7, hp7, hs7⟩; rw [hQ] at hp7 ⊢; rw [hcv]; have hs7' := hs6'.trans hs7; have hbk7 := (hs7.block w5.heap.size (by simpa using hlt6) (by omega) hne6).trans hbk6'; have hne7 := hs7.fresh (b := w5.heap.size) (by simpa using hlt6) hne6; clear d0 df; have df : ∀ o, w7.frozen? ⟨w5.heap.size, o, none⟩ = false := (fun o => by simp [World.frozen?, hbk7]); have d1 := cell_of_row _ _ 1 _ _ _ hbk7; simp only [List.getElem?_toArray, List.getElem?_cons_succ, List.getElem?_cons_zero] at d1))
          have hp7' : PSt gp w7 L sz c.i dp (ds ++ (da ++ (a.d ++ c.d))) D7 := by simpa using hp7
          exact bodyPost_ret (v := .slice p l.length cap) (by simp [results, Tryz.results149, go_sem]) rfl ⟨_, rfl, told_flat hp7' (hs3.trans hs7') (hrow.step (kept_F pmC) hs7') (by omega)⟩
        · rw [hcv, if_pos rfl] at HQ2
          generalize hB : pLab L sz c.i = b at *
          have hdb : (ds ++ da ++ a.d ++ c.d).length + b.d.length + 1 ≤ 1099511627776 := by
            rw [HR.out, HQ2.out] at hds
            split at hds <;> (simp only [List.length_append] at hds ⊢; omega)
          have hbytes : (l.length + 1) * 32 ≤ 140737488355328 := by omega
          have hmax : l.length + 1 ≤ maxLen := by unfold maxLen; omega
          cases hC : isT L b.i (bs1 44)
          · go_wp2_with (first
              | (go_at_call 170; refine (more_any hp3 l.length 5 (bs1 41) (by decide) hdl).mono ?_; rintro e w4 ⟨rfl, D4, hp4, hs4⟩; rw [hm] at hp4 ⊢; rw [List.append_nil] at hp4)
              | (go_at_call 146; refine (peek_any hp4).mono ?_; rintro e w5 ⟨rfl, hb5⟩; unfold tkV; have hp5 := hp4.below hb5; have hfr5 := hp5.fresh (Nat.le_refl w5.heap.size); have hb5' := (Below.refl w5.heap.size w5).alloc (Nat.le_refl _) (.cells #[.string ⟨#[]⟩, .int .i64 0, .int .i64 ((tk L sz j).a : Int)] 124); have hs5 := hs4.trans ((Stp.below hb5).trans (Stp.below hb5')))
              | (go_at_call 147; refine (nameR_any (hp5.below hb5') hdl).mono ?_; rintro e w6 ⟨rfl, D6, hp6, hs6⟩; rw [hA] at hp6 ⊢; have hbk6 := (slot (hs6.block w5.heap.size (by simp) (by omega) hfr5.2)).1; have hne6 := hs6.fresh (b := w5.heap.size) (by simp) hfr5.2; have d0 := cell_of_row _ _ 0 _ _ _ hbk6; simp only [List.getElem?_toArray, List.getElem?_cons_zero] at d0; have df : ∀ o, w6.frozen? ⟨w5.heap.size, o, none⟩ = false := (fun o => by simp [World.frozen?, hbk6]); have hs6' := (hs5.trans hs6).set (b := w5.heap.size) (Nat.le_trans hs4.size hb5.size) 0 (.string a.v); have hbk6' : (w6.setCell ⟨w5.heap.size, 0, none⟩ (.string a.v)).heap[w5.heap.size]? = some (.cells #[.string a.v, .int .i64 0, .int .i64 ((tk L sz j).a : Int)] 124 (0, 0)) := (by simp [World.setCell, Array.getElem?_modify, hbk6]); have hlt6 : w5.heap.size < w6.heap.size := (Array.getElem?_eq_some_iff.1 hbk6).1)
              | (go_at_call 148; refine (need_any (hp6.set hfr5.1 hne6 0 (.string a.v)) (bs1 58) (by decide) hda).mono ?_; rintro e w7 ⟨rfl, D7, hp7, hs7⟩; rw [hQ] at hp7 ⊢; rw [hcv]; have hs7' := hs6'.trans hs7; have hbk7 := (hs7.block w5.heap.size (by simpa using hlt6) (by omega) hne6).trans hbk6'; have hne7 := hs7.fresh (b := w5.heap.size) (by simpa using hlt6) hne6; clear d0 df; have df : ∀ o, w7.frozen? ⟨w5.heap.size, o, none⟩ = false := (fun o => by simp [World.frozen?, hbk7]); have d1 := cell_of_row _ _ 1 _ _ _ hbk7; simp only [List.getElem?_toArray, List.getElem?_cons_succ, List.getElem?_cons_zero] at d1)
              | (go_at_call 150; refine (labelR_any hp7 (by rw [hB]; exact hdb)).mono ?_; rintro e w8 ⟨rfl, D8, hp8, hs8⟩; rw [hB] at hp8 ⊢; have hlt7 : w5.heap.size < w7.heap.size := (Array.getElem?_eq_some_iff.1 hbk7).1; have hs8' := (hs7'.trans hs8).set (b := w5.heap.size) (Nat.le_trans hs4.size hb5.size) 1 (.int .i64 (b.v : Int)); have hbk8 := (hs8.block w5.heap.size hlt7 (by omega) hne7).trans hbk7; have hne8 := hs8.fresh (b := w5.heap.size) hlt7 hne7; clear d1 df; have df : ∀ o, w8.frozen? ⟨w5.heap.size, o, none⟩ = false := (fun o => by simp [World.frozen?, hbk8]); have d0 := cell_of_row _ _ 0 _ _ _ hbk8; have d1 := cell_of_row _ _ 1 _ _ _ hbk8; have d2 := cell_of_row _ _ 2 _ _ _ hbk8; simp only [List.getElem?_toArray, List.getElem?_cons_succ, List.getElem?_cons_zero] at d0 d1 d2; have hp9 := hp8.set hfr5.1 hne8 1 (.int .i64 (b.v : Int)); have hrow9 := hrow.step (kept_F pmC) hs8'; have hbn := (Below.refl (w8.setCell ⟨w5.heap.size, 1, none⟩ (.int .i64 (b.v : Int))).heap.size (w8.setCell ⟨w5.heap.size, 1, none⟩ (.int .i64 (b.v : Int)))).alloc (Nat.le_refl _) (.cells #[.string a.v, .int .i64 (b.v : Int), .int .i64 ((tk L sz j).a : Int)] 124); have hrow10 := hrow9.below (kept_F pmC) hbn; obtain ⟨vs, ho5, _⟩ := hrow10.own; have hz9 := (hs3.trans hs8').size)
              | (at_builtin; have hsz8 : (w8.setCell ⟨w5.heap.size, 1, none⟩ (.int .i64 (b.v : Int))).heap.size = w8.heap.size := (by simp); have hnew := heap_alloc_new (w8.setCell ⟨w5.heap.size, 1, none⟩ (.int .i64 (b.v : Int))) (.cells #[.string a.v, .int .i64 (b.v : Int), .int .i64 ((tk L sz j).a : Int)] 124); rw [hsz8] at hnew; refine wpList_append_lies _ rfl (.tmp 22) (.tmp 24) 31 rfl w.heap.size 124 i0 _ 3 32 Tryz.underlying31 hi0 hz0 hz1 hz2 rfl (by decide) _ _ _ rfl ho5 ⟨w8.heap.size, 0, none⟩ 1 1 [.string a.v, .int .i64 (b.v : Int), .int .i64 ((tk L sz j).a : Int)] rfl rfl (World.news_of_block hnew) (by simp [Value.oneCell']) (by decide) hmax hbytes (by simp at hz9 ⊢; omega) _ rfl ?_; intro g6 cap6 w9 hown6 hgrow6 hat6 hlt6; obtain ⟨hp10, hs10, hrow11⟩ := app_step (kept_F pmC) (W := wr.heap.size) (a := (⟨a.v, b.v, (tk L sz j).a⟩ : Pm)) hp9 (hs3.trans hs8') hrow9 rfl rfl hs3.size (fun k e => (hrow.lt e).2) ho5 hown6 hgrow6 hat6)
              | (go_at_call 105; refine (take_any hp10 (bs1 44) (by decide)).mono ?_; rintro e w11 ⟨rfl, hp11, hs11⟩; rw [hC] at hp11 ⊢; simp only [Bool.false_eq_true, if_false] at hp11))
            have hQ3 : r = ⟨l ++ [⟨a.v, b.v, (tk L sz j).a⟩], b.i, da ++ (a.d ++ c.d ++ b.d)⟩ := by rw [HR.out, HQ2.out, hC]; simp
            subst hQ3
            have hp11' : PSt gp w11 L sz b.i dp (ds ++ (da ++ (a.d ++ c.d ++ b.d))) D8 := by simpa using hp11
            exact bodyPost_ret (v := .slice (some ⟨g6, 0, none⟩) (l.length + 1) cap6) (by simp [results, Tryz.results149, go_sem]) rfl ⟨_, rfl, told_flat hp11' (hs10.trans hs11) (hrow11.step (kept_F pmC) hs11) (by simp; omega)⟩
          · go_wp2_with (first
              | (go_at_call 170; refine (more_any hp3 l.length 5 (bs1 41) (by decide) hdl).mono ?_; rintro e w4 ⟨rfl, D4, hp4, hs4⟩; rw [hm] at hp4 ⊢; rw [List.append_nil] at hp4)
              | (go_at_call 146; refine (peek_any hp4).mono ?_; rintro e w5 ⟨rfl, hb5⟩; unfold tkV; have hp5 := hp4.below hb5; have hfr5 := hp5.fresh (Nat.le_refl w5.heap.size); have hb5' := (Below.refl w5.heap.size w5).alloc (Nat.le_refl _) (.cells #[.string ⟨#[]⟩, .int .i64 0, .int .i64 ((tk L sz j).a : Int)] 124); have hs5 := hs4.trans ((Stp.below hb5).trans (Stp.below hb5')))
              | (go_at_call 147; refine (nameR_any (hp5.below hb5') hdl).mono ?_; rintro e w6 ⟨rfl, D6, hp6, hs6⟩; rw [hA] at hp6 ⊢; have hbk6 := (slot (hs6.block w5.heap.size (by simp) (by omega) hfr5.2)).1; have hne6 := hs6.fresh (b := w5.heap.size) (by simp) hfr5.2; have d0 := cell_of_row _ _ 0 _ _ _ hbk6; simp only [List.getElem?_toArray, List.getElem?_cons_zero] at d0; have df : ∀ o, w6.frozen? ⟨w5.heap.size, o, none⟩ = false := (fun o => by simp [World.frozen?, hbk6]); have hs6' := (hs5.trans hs6).set (b := w5.heap.size) (Nat.le_trans hs4.size hb5.size) 0 (.string a.v); have hbk6' : (w6.setCell ⟨w5.heap.size, 0, none⟩ (.string a.v)).heap[w5.heap.size]? = some (.cells #[.string a.v, .int .i64 0, .int .i64 ((tk L sz j).a : Int)] 124 (0, 0)) := (by simp [World.setCell, Array.getElem?_modify, hbk6]); have hlt6 : w5.heap.size < w6.heap.size := (Array.getElem?_eq_some_iff.1 hbk6).1)
              | (go_at_call 148; refine (need_any (hp6.set hfr5.1 hne6 0 (.string a.v)) (bs1 58) (by decide) hda).mono ?_; rintro e w7 ⟨rfl, D7, hp7, hs7⟩; rw [hQ] at hp7 ⊢; rw [hcv]; have hs7' := hs6'.trans hs7; have hbk7 := (hs7.block w5.heap.size (by simpa using hlt6) (by omega) hne6).trans hbk6'; have hne7 := hs7.fresh (b := w5.heap.size) (by simpa using hlt6) hne6; clear d0 df; have df : ∀ o, w7.frozen? ⟨w5.heap.size, o, none⟩ = false := (fun o => by simp [World.frozen?, hbk7]); have d1 := cell_of_row _ _ 1 _ _ _ hbk7; simp only [List.getElem?_toArray, List.getElem?_cons_succ, List.getElem?_cons_zero] at d1)
              | (go_at_call 150; refine (labelR_any hp7 (by rw [hB]; exact hdb)).mono ?_; rintro e w8 ⟨rfl, D8, hp8, hs8⟩; rw [hB] at hp8 ⊢; have hlt7 : w5.heap.size < w7.heap.size := (Array.getElem?_eq_some_iff.1 hbk7).1; have hs8' := (hs7'.trans hs8).set (b := w5.heap.size) (Nat.le_trans hs4.size hb5.size) 1 (.int .i64 (b.v : Int)); have hbk8 := (hs8.block w5.heap.size hlt7 (by omega) hne7).trans hbk7; have hne8 := hs8.fresh (b := w5.heap.size) hlt7 hne7; clear d1 df; have df : ∀ o, w8.frozen? ⟨w5.heap.size, o, none⟩ = false := (fun o => by simp [World.frozen?, hbk8]); have d0 := cell_of_row _ _ 0 _ _ _ hbk8; have d1 := cell_of_row _ _ 1 _ _ _ hbk8; have d2 := cell_of_row _ _ 2 _ _ _ hbk8; simp only [List.getElem?_toArray, List.getElem?_cons_succ, List.getElem?_cons_zero] at d0 d1 d2; have hp9 := hp8.set hfr5.1 hne8 1 (.int .i64 (b.v : Int)); have hrow9 := hrow.step (kept_F pmC) hs8'; have hbn := (Below.refl (w8.setCell ⟨w5.heap.size, 1, none⟩ (.int .i64 (b.v : Int))).heap.size (w8.setCell ⟨w5.heap.size, 1, none⟩ (.int .i64 (b.v : Int)))).alloc (Nat.le_refl _) (.cells #[.string a.v, .int .i64 (b.v : Int), .int .i64 ((tk L sz j).a : Int)] 124); have hrow10 := hrow9.below (kept_F pmC) hbn; obtain ⟨vs, ho5, _⟩ := hrow10.own; have hz9 := (hs3.trans hs8').size)
              | (at_builtin; have hsz8 : (w8.setCell ⟨w5.heap.size, 1, none⟩ (.int .i64 (b.v : Int))).heap.size = w8.heap.size := (by simp); have hnew := heap_alloc_new (w8.setCell ⟨w5.heap.size, 1, none⟩ (.int .i64 (b.v : Int))) (.cells #[.string a.v, .int .i64 (b.v : Int), .int .i64 ((tk L sz j).a : Int)] 124); rw [hsz8] at hnew; refine wpList_append_lies _ rfl (.tmp 22) (.tmp 24) 31 rfl w.heap.size 124 i0 _ 3 32 Tryz.underlying31 hi0 hz0 hz1 hz2 rfl (by decide) _ _ _ rfl ho5 ⟨w8.heap.size, 0, none⟩ 1 1 [.string a.v, .int .i64 (b.v : Int), .int .i64 ((tk L sz j).a : Int)] rfl rfl (World.news_of_block hnew) (by simp [Value.oneCell']) (by decide) hmax hbytes (by simp at hz9 ⊢; omega) _ rfl ?_; intro g6 cap6 w9 hown6 hgrow6 hat6 hlt6; obtain ⟨hp10, hs10, hrow11⟩ := app_step (kept_F pmC) (W := wr.heap.size) (a := (⟨a.v, b.v, (tk L sz j).a⟩ : Pm)) hp9 (hs3.trans hs8') hrow9 rfl rfl hs3.size (fun k e => (hrow.lt e).2) ho5 hown6 hgrow6 hat6)
              | (go_at_call 105; refine (take_any hp10 (bs1 44) (by decide)).mono ?_; rintro e w11 ⟨rfl, hp11, hs11⟩; rw [hC] at hp11 ⊢; simp only [if_true] at hp11))
            go_roundw
            case rel =>
              refine ⟨g, b.i + 1, l ++ [⟨a.v, b.v, (tk L sz j).a⟩], da ++ (a.d ++ c.d ++ b.d), D8, by simpa using hp11, hs10.trans hs11, hrow11.step (kept_F pmC) hs11, ?_, ?_, ?_⟩
              · simp only [List.length_append, List.length_singleton]; omega
              · have := H5.out; simp only [List.length_append, List.length_singleton]; omega
              · rw [HR.out, HQ2.out, hC]; simp
            case measure => have := H5.out; simp [lenV]; omega
end
end Go.Proofs.YtfioihehhlpgcaaGreatDoor
namespace Go.Proofs.YtfioihehhlpgcaaGreatDoor
open Go.RowKit
attribute [local go_sem ↓] Go.wp_at_zero Go.wp_at_succ
theorem Tryz.infoRf : (Tryz.prog.info? 45).map (fun i => (i.zero, i.size, i.bytes)) = some (some (.agg #[.string ⟨#[]⟩, .int .i64 0]), 2, 24) := by kernel_rfl
/-- Sends, with their word, or none. -/
def pSs (L : List Tok) (sz i : Nat) : R (List Rf) := if isT L i kSends then pSends L sz 8 (i + 1) [] else ⟨[], i, []⟩
section
variable {gp : Nat} {w : World} {L : List Tok} {sz i dp : Nat} {ds : List Dg} {D : Option Nat}
theorem pSends_succ (f j : Nat) (l : List Rf) : pSends L sz (f + 1) j l =
    (if 5 ≤ l.length ∧ j < L.length then ⟨l, j, [bad L sz j 5]⟩
    else if isT L (pNamed L sz j).i (bs1 44) then ⟨(pSends L sz f ((pNamed L sz j).i + 1) (l ++ [⟨(pNamed L sz j).v, (tk L sz j).a⟩])).v, (pSends L sz f ((pNamed L sz j).i + 1) (l ++ [⟨(pNamed L sz j).v, (tk L sz j).a⟩])).i, (pNamed L sz j).d ++ (pSends L sz f ((pNamed L sz j).i + 1) (l ++ [⟨(pNamed L sz j).v, (tk L sz j).a⟩])).d⟩
    else ⟨l ++ [⟨(pNamed L sz j).v, (tk L sz j).a⟩], (pNamed L sz j).i, (pNamed L sz j).d⟩) := by
  conv => lhs; unfold pSends
/-- Where the reading of sends stands: whether it goes on, or is at its end. -/
def RelSs (gp : Nat) (L : List Tok) (sz dp : Nat) (D : Option Nat) (ds : List Dg) (B : Nat) (w : World) (r : R (List Rf)) (v on : Value) (wr : World) : Prop :=
  ∃ j l da D', PSt gp wr L sz j dp (ds ++ da) D' ∧ Stp gp D D' w wr ∧ Row (rdF rfC) 45 2 B gp D' wr v l ∧
    ((on = .bool true ∧ l.length ≤ 5 ∧ ∃ g, 8 ≤ g + l.length ∧ r = ⟨(pSends L sz g j l).v, (pSends L sz g j l).i, da ++ (pSends L sz g j l).d⟩) ∨ (on = .bool false ∧ l.length ≤ 6 ∧ r = ⟨l, j, da⟩))
set_option maxHeartbeats 1000000 in
set_option maxRecDepth 100000 in
theorem sends_any (hp : PSt gp w L sz i dp ds D) (hds : ds.length + (pSs L sz i).d.length + 1 ≤ 1099511627776) :
    Calls Tryz.prog 151 #[.pointer (some ⟨gp, 0, none⟩)] w fun e w' => ∃ v, e = .returned v ∧ ToldF rfC 2 gp L sz dp D ds w w' (pSs L sz i) v := by
  have hgp := hp.gp_lt
  obtain ⟨i0, hi0, hz0, hz1, hz2⟩ := info_parts Tryz.infoRf
  have HE : Hid (∀ wr, PSt gp wr L sz (if isT L i kSends then i + 1 else i) dp ds D → Stp gp D D w wr → RelSs gp L sz dp D ds w.heap.size w (pSs L sz i) (.slice none 0 0) (.bool (isT L i kSends)) wr) := by
    intro wr h1 h2
    cases hI : isT L i kSends
    · rw [hI] at h1
      exact ⟨i, [], [], D, by simpa using h1, h2, Row.nil hgp, .inr ⟨rfl, by simp, by unfold pSs; rw [hI]; rfl⟩⟩
    · rw [hI] at h1
      exact ⟨i + 1, [], [], D, by simpa using h1, h2, Row.nil hgp, .inl ⟨rfl, by simp, 8, by simp, by unfold pSs; rw [hI]; rfl⟩⟩
  generalize pSs L sz i = r at *
  go_enter Tryz.func151, Tryz.ntmps151
  go_wp2_with (first
    | (go_at_call 105; refine (take_any hp kSends (by decide)).mono ?_; rintro e w1 ⟨rfl, hp1, hs1⟩))
  go_loopw [3, 4] (fun v on wr => RelSs gp L sz dp D ds w.heap.size w r v on wr) (fun v _ _ => 7 - lenV v)
  case atStart => exact HE.out _ hp1 hs1
  case round =>
    obtain ⟨j, l, da, D3, hp3, hs3, hrow, ⟨rfl, hl5, g, hg1, hr⟩ | ⟨rfl, hl6, hr⟩⟩ := hrel
    · obtain ⟨p, cap, hv, _⟩ := hrow.done (kept_F rfC)
      subst hv
      obtain ⟨g, rfl⟩ : ∃ q, g = q + 1 := ⟨g - 1, by omega⟩
      have HR : Hid (r = ⟨(pSends L sz (g + 1) j l).v, (pSends L sz (g + 1) j l).i, da ++ (pSends L sz (g + 1) j l).d⟩) := hr
      clear hr HE
      have HQ : Hid (_ = _) := pSends_succ (L := L) (sz := sz) g j l
      have hdl : (ds ++ da).length + 1 ≤ 1099511627776 := by rw [HR.out] at hds; simp only [List.length_append] at hds ⊢; omega
      have hfd := fun w2 => (tkField (tk L sz j) w2).2.2
      have hbytes : (l.length + 1) * 24 ≤ 140737488355328 := by omega
      have hmax : l.length + 1 ≤ maxLen := by unfold maxLen; omega
      by_cases h5 : l.length = 5
      · have hk5 : ((l.length : Int) == 5) = true := by rw [h5]; rfl
        by_cases hjl : j < L.length
        · have hlf : decide (j < L.length) = true := by simpa using hjl
          have hQ2 : r = ⟨l, j, da ++ [bad L sz j 5]⟩ := by rw [HR.out, HQ.out, if_pos ⟨by omega, hjl⟩]
          clear HR HQ h5 hjl
          subst hQ2
          go_wp2_with (first
            | (go_at_call 109; refine (left_any hp3).mono ?_; rintro e w4 ⟨rfl, hb4⟩; rw [hlf])
            | (go_at_call 108; refine (tell_any (hp3.below hb4) 5 hdl).mono ?_; rintro e w5 ⟨rfl, D5, hp5, hs5⟩))
          have hp5' : PSt gp w5 L sz j dp (ds ++ (da ++ [bad L sz j 5])) D5 := by simpa using hp5
          exact bodyPost_ret (v := .slice p l.length cap) (by simp [results, Tryz.results151, go_sem]) rfl ⟨_, rfl, told_flat hp5' (hs3.trans ((Stp.below hb4).trans hs5)) (hrow.step (kept_F rfC) ((Stp.below hb4).trans hs5)) (by omega)⟩
        · have hlf : decide (j < L.length) = false := by simpa using hjl
          have hq2 := HQ.out
          rw [if_neg (fun h => hjl h.2)] at hq2
          have HQ2 : Hid (_ = _) := hq2
          have hai : (pNamed L sz j).i = j := by unfold pNamed; rw [tok_no (by omega)]; rw [if_neg (by rw [show nmB (⟨0, noB, sz⟩ : Tok).x = false from nm_none]; decide), if_neg (by show ¬ (0 : Nat) = 1; decide)]
          have hC : isT L (pNamed L sz j).i (bs1 44) = false := by rw [hai]; unfold isT; rw [List.getElem?_eq_none (by omega)]
          clear HQ hq2 hai h5 hjl
          generalize hA : pNamed L sz j = a at *
          go_wp2_with (first
            | (go_at_call 109; refine (left_any hp3).mono ?_; rintro e w4 ⟨rfl, hb4⟩; rw [hlf])
            | (go_at_call 146; refine (peek_any (hp3.below hb4)).mono ?_; rintro e w5 ⟨rfl, hb5⟩; unfold tkV)
            | (go_at_call 147; refine (nameR_any ((hp3.below hb4).below hb5) hdl).mono ?_; rintro e w6 ⟨rfl, D6, hp6, hs6⟩; rw [hA] at hp6 ⊢; have hs6' := ((Stp.below hb4).trans (Stp.below hb5)).trans hs6; have hrow6 := hrow.step (kept_F rfC) hs6'; have hbn := (Below.refl w6.heap.size w6).alloc (Nat.le_refl _) (.cells #[.string a.v, .int .i64 ((tk L sz j).a : Int)] 45); have hrow7 := hrow6.below (kept_F rfC) hbn; obtain ⟨vs, ho5, _⟩ := hrow7.own; have hz6 := (hs3.trans hs6').size)
            | (at_builtin; refine wpList_append_lies _ rfl (.tmp 23) (.tmp 28) 32 rfl w.heap.size 45 i0 _ 2 24 Tryz.underlying32 hi0 hz0 hz1 hz2 rfl (by decide) _ _ _ rfl ho5 ⟨w6.heap.size, 0, none⟩ 1 1 [.string a.v, .int .i64 ((tk L sz j).a : Int)] rfl rfl (World.news_of_block (heap_alloc_new w6 _)) (by simp [Value.oneCell']) (by decide) hmax hbytes (by simp; omega) _ rfl ?_; intro g6 cap6 w9 hown6 hgrow6 hat6 hlt6; obtain ⟨hp10, hs10, hrow11⟩ := app_step (kept_F rfC) (W := wr.heap.size) (a := (⟨a.v, (tk L sz j).a⟩ : Rf)) hp6 (hs3.trans hs6') hrow6 rfl rfl hs3.size (fun k e => (hrow.lt e).2) ho5 hown6 hgrow6 hat6)
            | (go_at_call 105; refine (take_any hp10 (bs1 44) (by decide)).mono ?_; rintro e w11 ⟨rfl, hp11, hs11⟩; rw [hC] at hp11 ⊢; simp only [Bool.false_eq_true, if_false] at hp11))
          go_roundw
          case rel =>
            refine ⟨a.i, l ++ [⟨a.v, (tk L sz j).a⟩], da ++ a.d, D6, by simpa using hp11, hs10.trans hs11, hrow11.step (kept_F rfC) hs11, .inr ⟨rfl, ?_, ?_⟩⟩
            · simp only [List.length_append, List.length_singleton]; omega
            · rw [HR.out, HQ2.out, hC]; simp
          case measure => simp [lenV]; omega
      · have hk5 : ((l.length : Int) == 5) = false := by simp; omega
        have H5 : Hid (¬ l.length = 5) := h5
        have hq2 := HQ.out
        rw [if_neg (fun h => h5 (by omega))] at hq2
        have HQ2 : Hid (_ = _) := hq2
        clear HQ hq2 h5
        generalize hA : pNamed L sz j = a at *
        cases hC : isT L a.i (bs1 44)
        · go_wp2_with (first
            | (go_at_call 146; refine (peek_any hp3).mono ?_; rintro e w5 ⟨rfl, hb5⟩; unfold tkV)
            | (go_at_call 147; refine (nameR_any (hp3.below hb5) hdl).mono ?_; rintro e w6 ⟨rfl, D6, hp6, hs6⟩; rw [hA] at hp6 ⊢; have hs6' := ((Stp.refl gp D3 wr).trans (Stp.below hb5)).trans hs6; have hrow6 := hrow.step (kept_F rfC) hs6'; have hbn := (Below.refl w6.heap.size w6).alloc (Nat.le_refl _) (.cells #[.string a.v, .int .i64 ((tk L sz j).a : Int)] 45); have hrow7 := hrow6.below (kept_F rfC) hbn; obtain ⟨vs, ho5, _⟩ := hrow7.own; have hz6 := (hs3.trans hs6').size)
            | (at_builtin; refine wpList_append_lies _ rfl (.tmp 23) (.tmp 28) 32 rfl w.heap.size 45 i0 _ 2 24 Tryz.underlying32 hi0 hz0 hz1 hz2 rfl (by decide) _ _ _ rfl ho5 ⟨w6.heap.size, 0, none⟩ 1 1 [.string a.v, .int .i64 ((tk L sz j).a : Int)] rfl rfl (World.news_of_block (heap_alloc_new w6 _)) (by simp [Value.oneCell']) (by decide) hmax hbytes (by simp; omega) _ rfl ?_; intro g6 cap6 w9 hown6 hgrow6 hat6 hlt6; obtain ⟨hp10, hs10, hrow11⟩ := app_step (kept_F rfC) (W := wr.heap.size) (a := (⟨a.v, (tk L sz j).a⟩ : Rf)) hp6 (hs3.trans hs6') hrow6 rfl rfl hs3.size (fun k e => (hrow.lt e).2) ho5 hown6 hgrow6 hat6)
            | (go_at_call 105; refine (take_any hp10 (bs1 44) (by decide)).mono ?_; rintro e w11 ⟨rfl, hp11, hs11⟩; rw [hC] at hp11 ⊢; simp only [Bool.false_eq_true, if_false] at hp11))
          go_roundw
          case rel =>
            refine ⟨a.i, l ++ [⟨a.v, (tk L sz j).a⟩], da ++ a.d, D6, by simpa using hp11, hs10.trans hs11, hrow11.step (kept_F rfC) hs11, .inr ⟨rfl, ?_, ?_⟩⟩
            · simp only [List.length_append, List.length_singleton]; omega
            · rw [HR.out, HQ2.out, hC]; simp
          case measure => simp [lenV]; omega
        · go_wp2_with (first
            | (go_at_call 146; refine (peek_any hp3).mono ?_; rintro e w5 ⟨rfl, hb5⟩; unfold tkV)
            | (go_at_call 147; refine (nameR_any (hp3.below hb5) hdl).mono ?_; rintro e w6 ⟨rfl, D6, hp6, hs6⟩; rw [hA] at hp6 ⊢; have hs6' := ((Stp.refl gp D3 wr).trans (Stp.below hb5)).trans hs6; have hrow6 := hrow.step (kept_F rfC) hs6'; have hbn := (Below.refl w6.heap.size w6).alloc (Nat.le_refl _) (.cells #[.string a.v, .int .i64 ((tk L sz j).a : Int)] 45); have hrow7 := hrow6.below (kept_F rfC) hbn; obtain ⟨vs, ho5, _⟩ := hrow7.own; have hz6 := (hs3.trans hs6').size)
            | (at_builtin; refine wpList_append_lies _ rfl (.tmp 23) (.tmp 28) 32 rfl w.heap.size 45 i0 _ 2 24 Tryz.underlying32 hi0 hz0 hz1 hz2 rfl (by decide) _ _ _ rfl ho5 ⟨w6.heap.size, 0, none⟩ 1 1 [.string a.v, .int .i64 ((tk L sz j).a : Int)] rfl rfl (World.news_of_block (heap_alloc_new w6 _)) (by simp [Value.oneCell']) (by decide) hmax hbytes (by simp; omega) _ rfl ?_; intro g6 cap6 w9 hown6 hgrow6 hat6 hlt6; obtain ⟨hp10, hs10, hrow11⟩ := app_step (kept_F rfC) (W := wr.heap.size) (a := (⟨a.v, (tk L sz j).a⟩ : Rf)) hp6 (hs3.trans hs6') hrow6 rfl rfl hs3.size (fun k e => (hrow.lt e).2) ho5 hown6 hgrow6 hat6)
            | (go_at_call 105; refine (take_any hp10 (bs1 44) (by decide)).mono ?_; rintro e w11 ⟨rfl, hp11, hs11⟩; rw [hC] at hp11 ⊢; simp only [if_true] at hp11))
          go_roundw
          case rel =>
            refine ⟨a.i + 1, l ++ [⟨a.v, (tk L sz j).a⟩], da ++ a.d, D6, by simpa using hp11, hs10.trans hs11, hrow11.step (kept_F rfC) hs11, .inl ⟨rfl, ?_, g, ?_, ?_⟩⟩
            · have := H5.out; simp only [List.length_append, List.length_singleton]; omega
            · simp only [List.length_append, List.length_singleton]; omega
            · rw [HR.out, HQ2.out, hC]; simp
          case measure => simp [lenV]; omega
    · obtain ⟨p, cap, hv, _⟩ := hrow.done (kept_F rfC)
      subst hv
      subst hr
      go_wp2
      exact bodyPost_ret (v := .slice p l.length cap) (by simp [results, Tryz.results151, go_sem]) rfl ⟨_, rfl, told_flat hp3 hs3 hrow (by omega)⟩
end
end Go.Proofs.YtfioihehhlpgcaaGreatDoor
namespace Go.Proofs.YtfioihehhlpgcaaGreatDoor
open Go.RowKit
theorem ten_at {w1 : World} {b : Nat} {u0 u1 u2 u3 u4 u5 u6 u7 u8 u9 : Value} {t : TypeId} (h : w1.heap[b]? = some (.cells #[u0, u1, u2, u3, u4, u5, u6, u7, u8, u9] t (0, 0))) :
    w1.cell? ⟨b, 0, none⟩ = some u0 ∧ w1.cell? ⟨b, 1, none⟩ = some u1 ∧ w1.cell? ⟨b, 2, none⟩ = some u2 ∧ w1.cell? ⟨b, 3, none⟩ = some u3 ∧ w1.cell? ⟨b, 4, none⟩ = some u4 ∧ w1.cell? ⟨b, 5, none⟩ = some u5 ∧ w1.cell? ⟨b, 6, none⟩ = some u6 ∧ w1.cell? ⟨b, 7, none⟩ = some u7 ∧ w1.cell? ⟨b, 8, none⟩ = some u8 ∧ w1.cell? ⟨b, 9, none⟩ = some u9 ∧ ∀ o, w1.frozen? ⟨b, o, none⟩ = false :=
  ⟨cell_of_row _ _ _ _ _ _ h, cell_of_row _ _ _ _ _ _ h, cell_of_row _ _ _ _ _ _ h, cell_of_row _ _ _ _ _ _ h, cell_of_row _ _ _ _ _ _ h, cell_of_row _ _ _ _ _ _ h, cell_of_row _ _ _ _ _ _ h, cell_of_row _ _ _ _ _ _ h, cell_of_row _ _ _ _ _ _ h, cell_of_row _ _ _ _ _ _ h, fun o => by simp [World.frozen?, h]⟩
theorem ten_blk {w' : World} {b : Nat} {x0 x1 x2 x3 x4 x5 x6 x7 x8 x9 : Value} {t : TypeId} (h : w'.heap[b]? = some (.cells #[x0, x1, x2, x3, x4, x5, x6, x7, x8, x9] t (0, 0))) (u0 u1 u2 u3 u4 u5 u6 u7 u8 u9 : Value) :
    ((((((((((w'.setCell ⟨b, 0, none⟩ u0).setCell ⟨b, 1, none⟩ u1).setCell ⟨b, 2, none⟩ u2).setCell ⟨b, 3, none⟩ u3).setCell ⟨b, 4, none⟩ u4).setCell ⟨b, 5, none⟩ u5).setCell ⟨b, 6, none⟩ u6).setCell ⟨b, 7, none⟩ u7).setCell ⟨b, 8, none⟩ u8).setCell ⟨b, 9, none⟩ u9).heap[b]? = some (.cells #[u0, u1, u2, u3, u4, u5, u6, u7, u8, u9] t (0, 0)) := by
  simp [World.setCell, Array.getElem?_modify, h]
section
variable {gp : Nat} {w : World} {L : List Tok} {sz i dp : Nat} {ds : List Dg} {D : Option Nat}
/-- An item is written into its place. -/
theorem ten {w' : World} {D' : Option Nat} {b : Nat} (h : PSt gp w' L sz i dp ds D') (hs : Stp gp D D' w w') (hb : w.heap.size ≤ b) (h1 : gp < b) (h2 : some b ≠ D') (u0 u1 u2 u3 u4 u5 u6 u7 u8 u9 : Value) :
    PSt gp ((((((((((w'.setCell ⟨b, 0, none⟩ u0).setCell ⟨b, 1, none⟩ u1).setCell ⟨b, 2, none⟩ u2).setCell ⟨b, 3, none⟩ u3).setCell ⟨b, 4, none⟩ u4).setCell ⟨b, 5, none⟩ u5).setCell ⟨b, 6, none⟩ u6).setCell ⟨b, 7, none⟩ u7).setCell ⟨b, 8, none⟩ u8).setCell ⟨b, 9, none⟩ u9) L sz i dp ds D' ∧ Stp gp D D' w ((((((((((w'.setCell ⟨b, 0, none⟩ u0).setCell ⟨b, 1, none⟩ u1).setCell ⟨b, 2, none⟩ u2).setCell ⟨b, 3, none⟩ u3).setCell ⟨b, 4, none⟩ u4).setCell ⟨b, 5, none⟩ u5).setCell ⟨b, 6, none⟩ u6).setCell ⟨b, 7, none⟩ u7).setCell ⟨b, 8, none⟩ u8).setCell ⟨b, 9, none⟩ u9) :=
  ⟨((((((((((h.set h1 h2 _ _).set h1 h2 _ _).set h1 h2 _ _).set h1 h2 _ _).set h1 h2 _ _).set h1 h2 _ _).set h1 h2 _ _).set h1 h2 _ _).set h1 h2 _ _).set h1 h2 _ _), ((((((((((hs.set hb _ _).set hb _ _).set hb _ _).set hb _ _).set hb _ _).set hb _ _).set hb _ _).set hb _ _).set hb _ _).set hb _ _)⟩
theorem ten_far {w' : World} {b k : Nat} (hne : k ≠ b) (u0 u1 u2 u3 u4 u5 u6 u7 u8 u9 : Value) : ((((((((((w'.setCell ⟨b, 0, none⟩ u0).setCell ⟨b, 1, none⟩ u1).setCell ⟨b, 2, none⟩ u2).setCell ⟨b, 3, none⟩ u3).setCell ⟨b, 4, none⟩ u4).setCell ⟨b, 5, none⟩ u5).setCell ⟨b, 6, none⟩ u6).setCell ⟨b, 7, none⟩ u7).setCell ⟨b, 8, none⟩ u8).setCell ⟨b, 9, none⟩ u9).heap[k]? = w'.heap[k]? := (((((((((Below.heap_setCell _ _ _ k hne).trans (Below.heap_setCell _ _ _ k hne)).trans (Below.heap_setCell _ _ _ k hne)).trans (Below.heap_setCell _ _ _ k hne)).trans (Below.heap_setCell _ _ _ k hne)).trans (Below.heap_setCell _ _ _ k hne)).trans (Below.heap_setCell _ _ _ k hne)).trans (Below.heap_setCell _ _ _ k hne)).trans (Below.heap_setCell _ _ _ k hne)).trans (Below.heap_setCell _ _ _ k hne)
/-- An item without its diags was read: what an item looks like while the reader still has its list. -/
def ToldI (gp : Nat) (L : List Tok) (sz dp : Nat) (D : Option Nat) (ds : List Dg) (w w' : World) (q : Nat) (d : List Dg) (k : Nat) (x : ByteArray) (lb : Nat) (ps : List Pm) (ss : List Rf) (bd : List Tr) (mrk : Nat) (v : Value) : Prop :=
  ∃ D' n p1 c1 p2 c2 p3 c3, PSt gp w' L sz q dp (ds ++ d) D' ∧ Stp gp D D' w w' ∧ v = .agg #[.int .i64 (k : Int), .string x, .int .i64 (lb : Int), .slice p1 ps.length c1, .slice p2 ss.length c2, .slice p3 bd.length c3, .int .i64 0, .int .i64 0, .int .i64 (mrk : Int), .slice none 0 0] ∧
    SlAt (okS w.heap.size gp D' w') w' 3 pmC ps p1 ∧ SlAt (okS w.heap.size gp D' w') w' 2 rfC ss p2 ∧ SlB n w.heap.size gp D' w' bd p3
end
end Go.Proofs.YtfioihehhlpgcaaGreatDoor
namespace Go.Proofs.YtfioihehhlpgcaaGreatDoor
open Go.RowKit
attribute [local go_sem ↓] Go.wp_at_zero Go.wp_at_succ
/-- A block of one's own, of whatever type, that the reader leaves alone. -/
structure Lc (T : TypeId) (gp : Nat) (D : Option Nat) (w : World) (b : Nat) (cs : Array Value) : Prop where
  blk : w.heap[b]? = some (.cells cs T (0, 0))
  gp : gp < b
  ne : some b ≠ D
section
variable {T : TypeId} {gp : Nat} {w w' : World} {L : List Tok} {sz i dp b : Nat} {ds : List Dg} {D D' : Option Nat} {cs : Array Value}
theorem Lc.lt (h : Lc T gp D w b cs) : b < w.heap.size := (Array.getElem?_eq_some_iff.1 h.blk).1
theorem Lc.new (T : TypeId) (hp : PSt gp w L sz i dp ds D) (cs : Array Value) : Lc T gp D (w.alloc (.cells cs T)) w.heap.size cs := ⟨heap_alloc_new w _, (hp.fresh (Nat.le_refl _)).1, (hp.fresh (Nat.le_refl _)).2⟩
theorem Lc.step (h : Lc T gp D w b cs) (hs : Stp gp D D' w w') : Lc T gp D' w' b cs := ⟨(hs.block b h.lt (by have := h.gp; omega) h.ne).trans h.blk, h.gp, hs.fresh h.lt h.ne⟩
theorem Lc.set (h : Lc T gp D w b cs) (o : Nat) (u : Value) : Lc T gp D (w.setCell ⟨b, o, none⟩ u) b (cs.setIfInBounds o u) := ⟨by simp [World.setCell, Array.getElem?_modify, h.blk], h.gp, h.ne⟩
theorem Lc.far (h : Lc T gp D w b cs) {c : Nat} (hc : b ≠ c) (o : Nat) (u : Value) : Lc T gp D (w.setCell ⟨c, o, none⟩ u) b cs := ⟨(Below.heap_setCell w _ _ b hc).trans h.blk, h.gp, h.ne⟩
theorem PSt.lc (hp : PSt gp w L sz i dp ds D) (h : Lc T gp D w b cs) (o : Nat) (u : Value) : PSt gp (w.setCell ⟨b, o, none⟩ u) L sz i dp ds D := hp.set h.gp h.ne o u
theorem SlAt.step {α : Type} {B st : Nat} {c : α → List Value} {l : List α} {p : Option Addr} (h : SlAt (okS B gp D w) w st c l p) (hs : Stp gp D D' w w') : SlAt (okS B gp D' w') w' st c l p := (h.kept (okS.step hs).1).wide (okS.step hs).2
theorem SlAt.set {α : Type} {B st : Nat} {c : α → List Value} {l : List α} {p : Option Addr} (h : SlAt (okS B gp D w) w st c l p) (hb : b < B) (o : Nat) (u : Value) : SlAt (okS B gp D (w.setCell ⟨b, o, none⟩ u)) (w.setCell ⟨b, o, none⟩ u) st c l p :=
  (h.kept (fun k hk => Below.heap_setCell w _ _ k (by have := hk.1; simp; omega))).wide (fun _ hk => ⟨hk.1, by simpa using hk.2.1, hk.2.2⟩)
theorem SlAt.low {α : Type} {B B' st : Nat} {c : α → List Value} {l : List α} {p : Option Addr} (h : SlAt (okS B gp D w) w st c l p) (hB : B' ≤ B) : SlAt (okS B' gp D w) w st c l p := h.wide (fun _ hk => ⟨Nat.le_trans hB hk.1, hk.2⟩)
theorem SlB.low {n B B' : Nat} {l : List Tr} {p : Option Addr} (h : SlB n B gp D w l p) (hB : B' ≤ B) : SlB n B' gp D w l p :=
  SlT.kept h (fun _ _ => rfl) (fun _ hk => ⟨Nat.le_trans hB hk.1, hk.2⟩) (RdS.kept n (fun _ _ => rfl) (fun _ hk => ⟨Nat.le_trans hB hk.1, hk.2⟩))
theorem SlAt.nil {α : Type} (ok : Nat → Prop) (w : World) (st : Nat) (c : α → List Value) (p : Option Addr) : SlAt ok w st c ([] : List α) p := ⟨by simp, fun h => absurd h (by simp)⟩
theorem SlB.nil (n B gp : Nat) (D : Option Nat) (w : World) (p : Option Addr) : SlB n B gp D w [] p := ⟨by simp, fun h => absurd h (by simp)⟩
/-- An item that lies somewhere is handed back. -/
theorem it_fin {w3 : World} {q n : Nat} {D1 : Option Nat} {ps : List Pm} {ss : List Rf} {bd : List Tr} {p1 p2 p3 : Option Addr} {u0 u1 u2 u3 u4 u5 u6 u7 u8 u9 : Value} (hfr : gp < w.heap.size ∧ some w.heap.size ≠ D) (hp3 : PSt gp w3 L sz q dp ds D1) (hs : Stp gp D D1 (w.alloc (.cells #[.int .i64 0, .string ⟨#[]⟩, .int .i64 0, .slice none 0 0, .slice none 0 0, .slice none 0 0, .int .i64 0, .int .i64 0, .int .i64 0, .slice none 0 0] 36)) w3)
    (h1 : SlAt (okS (w.heap.size + 1) gp D1 w3) w3 3 pmC ps p1) (h2 : SlAt (okS (w.heap.size + 1) gp D1 w3) w3 2 rfC ss p2) (h3 : SlB n (w.heap.size + 1) gp D1 w3 bd p3) {W : World} (hW : W = ((((((((((w3.setCell ⟨w.heap.size, 0, none⟩ u0).setCell ⟨w.heap.size, 1, none⟩ u1).setCell ⟨w.heap.size, 2, none⟩ u2).setCell ⟨w.heap.size, 3, none⟩ u3).setCell ⟨w.heap.size, 4, none⟩ u4).setCell ⟨w.heap.size, 5, none⟩ u5).setCell ⟨w.heap.size, 6, none⟩ u6).setCell ⟨w.heap.size, 7, none⟩ u7).setCell ⟨w.heap.size, 8, none⟩ u8).setCell ⟨w.heap.size, 9, none⟩ u9)) :
    PSt gp W L sz q dp ds D1 ∧ Stp gp D D1 w W ∧ SlAt (okS w.heap.size gp D1 W) W 3 pmC ps p1 ∧ SlAt (okS w.heap.size gp D1 W) W 2 rfC ss p2 ∧ SlB n w.heap.size gp D1 W bd p3 := by
  have hb0 := (Below.refl w.heap.size w).alloc (Nat.le_refl _) (.cells #[.int .i64 0, .string ⟨#[]⟩, .int .i64 0, .slice none 0 0, .slice none 0 0, .slice none 0 0, .int .i64 0, .int .i64 0, .int .i64 0, .slice none 0 0] 36)
  have hsx := ten hp3 ((Stp.below hb0).trans hs) (Nat.le_refl _) hfr.1 (hs.fresh (by simp) hfr.2) u0 u1 u2 u3 u4 u5 u6 u7 u8 u9
  have hkk : ∀ k, k ≠ w.heap.size → W.heap[k]? = w3.heap[k]? := fun k hk => by rw [hW]; exact ten_far hk u0 u1 u2 u3 u4 u5 u6 u7 u8 u9
  have hsz : W.heap.size = w3.heap.size := by rw [hW]; simp
  rw [← hW] at hsx
  have e1 : ∀ k, okS (w.heap.size + 1) gp D1 w3 k → W.heap[k]? = w3.heap[k]? := fun k hk => hkk k (by have := hk.1; omega)
  have e2 : ∀ k, okS (w.heap.size + 1) gp D1 w3 k → okS w.heap.size gp D1 W k := fun k hk => ⟨by have := hk.1; omega, by rw [hsz]; exact hk.2.1, hk.2.2⟩
  exact ⟨hsx.1, hsx.2, (h1.kept e1).wide e2, (h2.kept e1).wide e2, SlT.kept h3 e1 e2 (RdS.kept n e1 e2)⟩
end
section
variable {gp : Nat} {w : World} {L : List Tok} {sz i dp : Nat} {ds : List Dg} {D : Option Nat}
/-- A channel, behind its word. -/
def pChn (L : List Tok) (sz i : Nat) : R (ByteArray × Nat) :=
  let a := pNamed L sz i
  let c := pNeed L sz a.i (bs1 58)
  let b := pLab L sz c.i
  let g := pNeed L sz b.i (bs1 59)
  ⟨(a.v, b.v), g.i, a.d ++ c.d ++ b.d ++ g.d⟩
/-- A function, behind its word. -/
structure Fn where
  x : ByteArray
  l : Nat
  ps : List Pm
  ss : List Rf
  bd : List Tr
def pFun (L : List Tok) (sz i : Nat) : R Fn :=
  let a := pNamed L sz i
  let b := pNeed L sz a.i (bs1 40)
  let c := pParams L sz 6 b.i []
  let g := pNeed L sz c.i (bs1 41)
  let h := pNeed L sz g.i (bs1 58)
  let l := pLab L sz h.i
  let s := pSs L sz l.i
  let o := pB L sz s.i
  ⟨⟨a.v, l.v, c.v, s.v, o.v⟩, o.i, a.d ++ b.d ++ c.d ++ g.d ++ h.d ++ l.d ++ s.d ++ o.d⟩
set_option maxHeartbeats 2000000 in
set_option maxRecDepth 100000 in
theorem channel_any (hp : PSt gp w L sz i dp ds D) (hds : ds.length + (pChn L sz i).d.length + 1 ≤ 1099511627776) :
    Calls Tryz.prog 107 #[.pointer (some ⟨gp, 0, none⟩)] w fun e w' => ∃ v, e = .returned v ∧ ToldI gp L sz dp D ds w w' (pChn L sz i).i (pChn L sz i).d 1 (pChn L sz i).v.1 (pChn L sz i).v.2 [] [] [] (tk L sz i).a v := by
  have hgp := hp.gp_lt
  have hb0 := (Below.refl w.heap.size w).alloc (Nat.le_refl _) (.cells #[.int .i64 0, .string ⟨#[]⟩, .int .i64 0, .slice none 0 0, .slice none 0 0, .slice none 0 0, .int .i64 0, .int .i64 0, .int .i64 0, .slice none 0 0] 36)
  have hp0 := hp.below hb0
  have hfr := hp.fresh (Nat.le_refl w.heap.size)
  have hl0 := Lc.new 36 hp #[.int .i64 0, .string ⟨#[]⟩, .int .i64 0, .slice none 0 0, .slice none 0 0, .slice none 0 0, .int .i64 0, .int .i64 0, .int .i64 0, .slice none 0 0]
  have hfd := fun w2 => (tkField (tk L sz i) w2).2.2
  unfold pChn at hds ⊢
  simp only at hds ⊢
  generalize hA : pNamed L sz i = a at *
  generalize hQ : pNeed L sz a.i (bs1 58) = c at *
  generalize hB : pLab L sz c.i = b at *
  generalize hE : pNeed L sz b.i (bs1 59) = q at *
  have hd1 : ds.length + 1 ≤ 1099511627776 := by simp only [List.length_append] at hds; omega
  have hd2 : (ds ++ a.d).length + 1 ≤ 1099511627776 := by simp only [List.length_append] at hds ⊢; omega
  have hd3 : (ds ++ a.d ++ c.d).length + b.d.length + 1 ≤ 1099511627776 := by simp only [List.length_append] at hds ⊢; omega
  have hd4 : (ds ++ a.d ++ c.d ++ b.d).length + 1 ≤ 1099511627776 := by simp only [List.length_append] at hds ⊢; omega
  have F1 : Hid (1 = 1) := rfl
  have F2 : Hid (1 = 1) := rfl
  go_enter Tryz.func107, Tryz.ntmps107
  go_wp2_with (first
    | (go_at_call 146; refine (peek_any hp0).mono ?_; rintro e w1 ⟨rfl, hb1⟩; unfold tkV; have hp1 := hp0.below hb1; have hb1' := (Below.refl w1.heap.size w1).alloc (Nat.le_refl _) (.cells #[.int .i64 1, .string ⟨#[]⟩, .int .i64 0, .slice none 0 0, .slice none 0 0, .slice none 0 0, .int .i64 0, .int .i64 0, .int .i64 ((tk L sz i).a : Int), .slice none 0 0] 36); have hlA := Lc.new 36 hp1 #[.int .i64 1, .string ⟨#[]⟩, .int .i64 0, .slice none 0 0, .slice none 0 0, .slice none 0 0, .int .i64 0, .int .i64 0, .int .i64 ((tk L sz i).a : Int), .slice none 0 0]; have hl1 := (hl0.step (Stp.below hb1)).step (Stp.below hb1'); have hs1 := (Stp.below (gp := gp) (D := D) hb1).trans (Stp.below hb1'); have hz : w.heap.size + 1 ≤ w1.heap.size := (by simpa using hb1.size); have hnb : w.heap.size ≠ w1.heap.size := (by omega); have hn2 : ¬ w1.heap.size = w.heap.size := (by omega); have hn3 : ¬ w.heap.size = w1.heap.size := (by omega); have hsbz : (w.alloc (.cells #[.int .i64 0, .string ⟨#[]⟩, .int .i64 0, .slice none 0 0, .slice none 0 0, .slice none 0 0, .int .i64 0, .int .i64 0, .int .i64 0, .slice none 0 0] 36)).heap.size ≤ w1.heap.size := hb1.size)
    | (go_at_call 147; refine (nameR_any (hp1.below hb1') hd1).mono ?_; rintro e w2 ⟨rfl, D2, hp2, hs2⟩; rw [hA] at hp2 ⊢; have hl2_ : Lc 36 gp D2 w2 w1.heap.size #[.int .i64 1, .string ⟨#[]⟩, .int .i64 0, .slice none 0 0, .slice none 0 0, .slice none 0 0, .int .i64 0, .int .i64 0, .int .i64 ((tk L sz i).a : Int), .slice none 0 0] := Lc.step hlA hs2; have hm2_ := Lc.step hl1 hs2; have H2_ := Stp.trans hs1 hs2; obtain ⟨a0, a1, a2, a3, a4, a5, a6, a7, a8, a9, af⟩ := ten_at hl2_.blk)
    | (go_at_call 148; have f := F1; clear f F1; have qp3_0 := PSt.lc hp2 hl2_ 1 (.string a.v); have qq3_0 := Lc.set hl2_ 1 (.string a.v); have qs3_0 := Lc.far hm2_ hnb 1 (.string a.v); have qH3_0 := Stp.set H2_ hsbz 1 (.string a.v); refine (need_any qp3_0 (bs1 58) (by decide) hd2).mono ?_; rintro e w3 ⟨rfl, D3, hp3, hs3⟩; rw [hQ] at hp3 ⊢; have hl3_ : Lc 36 gp D3 w3 w1.heap.size #[.int .i64 1, .string a.v, .int .i64 0, .slice none 0 0, .slice none 0 0, .slice none 0 0, .int .i64 0, .int .i64 0, .int .i64 ((tk L sz i).a : Int), .slice none 0 0] := Lc.step qq3_0 hs3; have hm3_ := Lc.step qs3_0 hs3; have H3_ := Stp.trans qH3_0 hs3; clear a0 a1 a2 a3 a4 a5 a6 a7 a8 a9 af; obtain ⟨a0, a1, a2, a3, a4, a5, a6, a7, a8, a9, af⟩ := ten_at hl3_.blk)
    | (go_at_call 150; refine (labelR_any hp3 (by rw [hB]; exact hd3)).mono ?_; rintro e w4 ⟨rfl, D4, hp4, hs4⟩; rw [hB] at hp4 ⊢; have hl4_ : Lc 36 gp D4 w4 w1.heap.size #[.int .i64 1, .string a.v, .int .i64 0, .slice none 0 0, .slice none 0 0, .slice none 0 0, .int .i64 0, .int .i64 0, .int .i64 ((tk L sz i).a : Int), .slice none 0 0] := Lc.step hl3_ hs4; have hm4_ := Lc.step hm3_ hs4; have H4_ := Stp.trans H3_ hs4; clear a0 a1 a2 a3 a4 a5 a6 a7 a8 a9 af; obtain ⟨a0, a1, a2, a3, a4, a5, a6, a7, a8, a9, af⟩ := ten_at hl4_.blk)
    | (go_at_call 148; have f := F2; clear f F2; have qp5_0 := PSt.lc hp4 hl4_ 2 (.int .i64 (b.v : Int)); have qq5_0 := Lc.set hl4_ 2 (.int .i64 (b.v : Int)); have qs5_0 := Lc.far hm4_ hnb 2 (.int .i64 (b.v : Int)); have qH5_0 := Stp.set H4_ hsbz 2 (.int .i64 (b.v : Int)); refine (need_any qp5_0 (bs1 59) (by decide) hd4).mono ?_; rintro e w5 ⟨rfl, D5, hp5, hs5⟩; rw [hE] at hp5 ⊢; have hl5_ : Lc 36 gp D5 w5 w1.heap.size #[.int .i64 1, .string a.v, .int .i64 (b.v : Int), .slice none 0 0, .slice none 0 0, .slice none 0 0, .int .i64 0, .int .i64 0, .int .i64 ((tk L sz i).a : Int), .slice none 0 0] := Lc.step qq5_0 hs5; have hm5_ := Lc.step qs5_0 hs5; have H5_ := Stp.trans qH5_0 hs5; clear a0 a1 a2 a3 a4 a5 a6 a7 a8 a9 af; obtain ⟨a0, a1, a2, a3, a4, a5, a6, a7, a8, a9, af⟩ := ten_at hl5_.blk; obtain ⟨r0, r1, r2, r3, r4, r5, r6, r7, r8, r9, rf⟩ := ten_at hm5_.blk))
  have H7 := H5_
  have hp7 := hp5
  obtain ⟨f1, f2, f3, f4, f5⟩ := it_fin hfr hp7 H7 (SlAt.nil _ _ _ _ none) (SlAt.nil _ _ _ _ none) (SlB.nil 0 _ _ _ _ none) rfl
  exact bodyPost_ret (v := .agg #[.int .i64 1, .string a.v, .int .i64 (b.v : Int), .slice none 0 0, .slice none 0 0, .slice none 0 0, .int .i64 0, .int .i64 0, .int .i64 ((tk L sz i).a : Int), .slice none 0 0]) (by simp [results, Tryz.results107, go_sem, r0, r1, r2, r3, r4, r5, r6, r7, r8, r9]) rfl ⟨_, rfl, D5, _, _, _, _, _, _, _, by simpa using f1, f2, rfl, f3, f4, f5⟩
set_option maxHeartbeats 2000000 in
set_option maxRecDepth 100000 in
theorem function_any (hp : PSt gp w L sz i 0 ds D) (hds : ds.length + (pFun L sz i).d.length + 1 ≤ 1099511627776) :
    Calls Tryz.prog 106 #[.pointer (some ⟨gp, 0, none⟩)] w fun e w' => ∃ v, e = .returned v ∧ ToldI gp L sz 0 D ds w w' (pFun L sz i).i (pFun L sz i).d 2 (pFun L sz i).v.x (pFun L sz i).v.l (pFun L sz i).v.ps (pFun L sz i).v.ss (pFun L sz i).v.bd (tk L sz i).a v := by
  have hgp := hp.gp_lt
  have hb0 := (Below.refl w.heap.size w).alloc (Nat.le_refl _) (.cells #[.int .i64 0, .string ⟨#[]⟩, .int .i64 0, .slice none 0 0, .slice none 0 0, .slice none 0 0, .int .i64 0, .int .i64 0, .int .i64 0, .slice none 0 0] 36)
  have hp0 := hp.below hb0
  have hfr := hp.fresh (Nat.le_refl w.heap.size)
  have hl0 := Lc.new 36 hp #[.int .i64 0, .string ⟨#[]⟩, .int .i64 0, .slice none 0 0, .slice none 0 0, .slice none 0 0, .int .i64 0, .int .i64 0, .int .i64 0, .slice none 0 0]
  have hfd := fun w2 => (tkField (tk L sz i) w2).2.2
  unfold pFun at hds ⊢
  simp only at hds ⊢
  generalize hA : pNamed L sz i = a at *
  generalize hB : pNeed L sz a.i (bs1 40) = b at *
  generalize hC : pParams L sz 6 b.i [] = c at *
  generalize hG : pNeed L sz c.i (bs1 41) = g at *
  generalize hH : pNeed L sz g.i (bs1 58) = h at *
  generalize hLb : pLab L sz h.i = l at *
  generalize hS : pSs L sz l.i = s at *
  generalize hO : pB L sz s.i = o at *
  have hd1 : ds.length + 1 ≤ 1099511627776 := by simp only [List.length_append] at hds; omega
  have hd2 : (ds ++ a.d).length + 1 ≤ 1099511627776 := by simp only [List.length_append] at hds ⊢; omega
  have hd3 : (ds ++ a.d ++ b.d).length + c.d.length + 1 ≤ 1099511627776 := by simp only [List.length_append] at hds ⊢; omega
  have hd4 : (ds ++ a.d ++ b.d ++ c.d).length + 1 ≤ 1099511627776 := by simp only [List.length_append] at hds ⊢; omega
  have hd5 : (ds ++ a.d ++ b.d ++ c.d ++ g.d).length + 1 ≤ 1099511627776 := by simp only [List.length_append] at hds ⊢; omega
  have hd6 : (ds ++ a.d ++ b.d ++ c.d ++ g.d ++ h.d).length + l.d.length + 1 ≤ 1099511627776 := by simp only [List.length_append] at hds ⊢; omega
  have hd7 : (ds ++ a.d ++ b.d ++ c.d ++ g.d ++ h.d ++ l.d).length + s.d.length + 1 ≤ 1099511627776 := by simp only [List.length_append] at hds ⊢; omega
  have hd8 : (ds ++ a.d ++ b.d ++ c.d ++ g.d ++ h.d ++ l.d ++ s.d).length + o.d.length + 1 ≤ 1099511627776 := by simp only [List.length_append] at hds ⊢; omega
  have F1 : Hid (1 = 1) := rfl
  have F2 : Hid (1 = 1) := rfl
  have F3 : Hid (1 = 1) := rfl
  go_enter Tryz.func106, Tryz.ntmps106
  go_wp2_with (first
    | (go_at_call 146; refine (peek_any hp0).mono ?_; rintro e w1 ⟨rfl, hb1⟩; unfold tkV; have hp1 := hp0.below hb1; have hb1' := (Below.refl w1.heap.size w1).alloc (Nat.le_refl _) (.cells #[.int .i64 2, .string ⟨#[]⟩, .int .i64 0, .slice none 0 0, .slice none 0 0, .slice none 0 0, .int .i64 0, .int .i64 0, .int .i64 ((tk L sz i).a : Int), .slice none 0 0] 36); have hlA := Lc.new 36 hp1 #[.int .i64 2, .string ⟨#[]⟩, .int .i64 0, .slice none 0 0, .slice none 0 0, .slice none 0 0, .int .i64 0, .int .i64 0, .int .i64 ((tk L sz i).a : Int), .slice none 0 0]; have hl1 := (hl0.step (Stp.below hb1)).step (Stp.below hb1'); have hs1 := (Stp.below (gp := gp) (D := D) hb1).trans (Stp.below hb1'); have hz : w.heap.size + 1 ≤ w1.heap.size := (by simpa using hb1.size); have hnb : w.heap.size ≠ w1.heap.size := (by omega); have hn2 : ¬ w1.heap.size = w.heap.size := (by omega); have hn3 : ¬ w.heap.size = w1.heap.size := (by omega); have hsbz : (w.alloc (.cells #[.int .i64 0, .string ⟨#[]⟩, .int .i64 0, .slice none 0 0, .slice none 0 0, .slice none 0 0, .int .i64 0, .int .i64 0, .int .i64 0, .slice none 0 0] 36)).heap.size ≤ w1.heap.size := hb1.size)
    | (go_at_call 147; refine (nameR_any (hp1.below hb1') hd1).mono ?_; rintro e w2 ⟨rfl, D2, hp2, hs2⟩; rw [hA] at hp2 ⊢; have hl2_ : Lc 36 gp D2 w2 w1.heap.size #[.int .i64 2, .string ⟨#[]⟩, .int .i64 0, .slice none 0 0, .slice none 0 0, .slice none 0 0, .int .i64 0, .int .i64 0, .int .i64 ((tk L sz i).a : Int), .slice none 0 0] := Lc.step hlA hs2; have hm2_ := Lc.step hl1 hs2; have H2_ := Stp.trans hs1 hs2; obtain ⟨a0, a1, a2, a3, a4, a5, a6, a7, a8, a9, af⟩ := ten_at hl2_.blk)
    | (go_at_call 148; have f := F1; clear f F1; have qp3_0 := PSt.lc hp2 hl2_ 1 (.string a.v); have qq3_0 := Lc.set hl2_ 1 (.string a.v); have qs3_0 := Lc.far hm2_ hnb 1 (.string a.v); have qH3_0 := Stp.set H2_ hsbz 1 (.string a.v); refine (need_any qp3_0 (bs1 40) (by decide) hd2).mono ?_; rintro e w3 ⟨rfl, D3, hp3, hs3⟩; rw [hB] at hp3 ⊢; have hl3_ : Lc 36 gp D3 w3 w1.heap.size #[.int .i64 2, .string a.v, .int .i64 0, .slice none 0 0, .slice none 0 0, .slice none 0 0, .int .i64 0, .int .i64 0, .int .i64 ((tk L sz i).a : Int), .slice none 0 0] := Lc.step qq3_0 hs3; have hm3_ := Lc.step qs3_0 hs3; have H3_ := Stp.trans qH3_0 hs3; clear a0 a1 a2 a3 a4 a5 a6 a7 a8 a9 af; obtain ⟨a0, a1, a2, a3, a4, a5, a6, a7, a8, a9, af⟩ := ten_at hl3_.blk)
    | (go_at_call 149; have hlt4 := Lc.lt hl3_; refine (params_any hp3 (by rw [hC]; exact hd3)).mono ?_; rintro e w4 ⟨v, rfl, D4, p4, c4, hp4, hs4, rfl, hr4⟩; rw [hC] at hp4 hr4 ⊢; have hl4_ : Lc 36 gp D4 w4 w1.heap.size #[.int .i64 2, .string a.v, .int .i64 0, .slice none 0 0, .slice none 0 0, .slice none 0 0, .int .i64 0, .int .i64 0, .int .i64 ((tk L sz i).a : Int), .slice none 0 0] := Lc.step hl3_ hs4; have hm4_ := Lc.step hm3_ hs4; have H4_ := Stp.trans H3_ hs4; clear a0 a1 a2 a3 a4 a5 a6 a7 a8 a9 af; obtain ⟨a0, a1, a2, a3, a4, a5, a6, a7, a8, a9, af⟩ := ten_at hl4_.blk)
    | (go_at_call 148; have f := F2; clear f F2; have qp5_0 := PSt.lc hp4 hl4_ 3 (.slice p4 c.v.length c4); have qq5_0 := Lc.set hl4_ 3 (.slice p4 c.v.length c4); have qs5_0 := Lc.far hm4_ hnb 3 (.slice p4 c.v.length c4); have qH5_0 := Stp.set H4_ hsbz 3 (.slice p4 c.v.length c4); have qt5_0_0 := hr4.set hlt4 3 (.slice p4 c.v.length c4); refine (need_any qp5_0 (bs1 41) (by decide) hd4).mono ?_; rintro e w5 ⟨rfl, D5, hp5, hs5⟩; rw [hG] at hp5 ⊢; have hl5_ : Lc 36 gp D5 w5 w1.heap.size #[.int .i64 2, .string a.v, .int .i64 0, .slice p4 c.v.length c4, .slice none 0 0, .slice none 0 0, .int .i64 0, .int .i64 0, .int .i64 ((tk L sz i).a : Int), .slice none 0 0] := Lc.step qq5_0 hs5; have hm5_ := Lc.step qs5_0 hs5; have H5_ := Stp.trans qH5_0 hs5; have ht5_0 := qt5_0_0.step hs5; clear a0 a1 a2 a3 a4 a5 a6 a7 a8 a9 af; obtain ⟨a0, a1, a2, a3, a4, a5, a6, a7, a8, a9, af⟩ := ten_at hl5_.blk)
    | (go_at_call 148; have f := F3; clear f F3; refine (need_any hp5 (bs1 58) (by decide) hd5).mono ?_; rintro e w6 ⟨rfl, D6, hp6, hs6⟩; rw [hH] at hp6 ⊢; have hl6_ : Lc 36 gp D6 w6 w1.heap.size #[.int .i64 2, .string a.v, .int .i64 0, .slice p4 c.v.length c4, .slice none 0 0, .slice none 0 0, .int .i64 0, .int .i64 0, .int .i64 ((tk L sz i).a : Int), .slice none 0 0] := Lc.step hl5_ hs6; have hm6_ := Lc.step hm5_ hs6; have H6_ := Stp.trans H5_ hs6; have ht6_0 := ht5_0.step hs6; clear a0 a1 a2 a3 a4 a5 a6 a7 a8 a9 af; obtain ⟨a0, a1, a2, a3, a4, a5, a6, a7, a8, a9, af⟩ := ten_at hl6_.blk)
    | (go_at_call 150; refine (labelR_any hp6 (by rw [hLb]; exact hd6)).mono ?_; rintro e w7 ⟨rfl, D7, hp7, hs7⟩; rw [hLb] at hp7 ⊢; have hl7_ : Lc 36 gp D7 w7 w1.heap.size #[.int .i64 2, .string a.v, .int .i64 0, .slice p4 c.v.length c4, .slice none 0 0, .slice none 0 0, .int .i64 0, .int .i64 0, .int .i64 ((tk L sz i).a : Int), .slice none 0 0] := Lc.step hl6_ hs7; have hm7_ := Lc.step hm6_ hs7; have H7_ := Stp.trans H6_ hs7; have ht7_0 := ht6_0.step hs7; clear a0 a1 a2 a3 a4 a5 a6 a7 a8 a9 af; obtain ⟨a0, a1, a2, a3, a4, a5, a6, a7, a8, a9, af⟩ := ten_at hl7_.blk)
    | (go_at_call 151; have qp8_0 := PSt.lc hp7 hl7_ 2 (.int .i64 (l.v : Int)); have qq8_0 := Lc.set hl7_ 2 (.int .i64 (l.v : Int)); have qs8_0 := Lc.far hm7_ hnb 2 (.int .i64 (l.v : Int)); have qH8_0 := Stp.set H7_ hsbz 2 (.int .i64 (l.v : Int)); have qt8_0_0 := ht7_0.set hlt4 2 (.int .i64 (l.v : Int)); have hlt8 := Lc.lt qq8_0; refine (sends_any qp8_0 (by rw [hS]; exact hd7)).mono ?_; rintro e w8 ⟨v, rfl, D8, p8, c8, hp8, hs8, rfl, hr8⟩; rw [hS] at hp8 hr8 ⊢; have hl8_ : Lc 36 gp D8 w8 w1.heap.size #[.int .i64 2, .string a.v, .int .i64 (l.v : Int), .slice p4 c.v.length c4, .slice none 0 0, .slice none 0 0, .int .i64 0, .int .i64 0, .int .i64 ((tk L sz i).a : Int), .slice none 0 0] := Lc.step qq8_0 hs8; have hm8_ := Lc.step qs8_0 hs8; have H8_ := Stp.trans qH8_0 hs8; have ht8_0 := qt8_0_0.step hs8; clear a0 a1 a2 a3 a4 a5 a6 a7 a8 a9 af; obtain ⟨a0, a1, a2, a3, a4, a5, a6, a7, a8, a9, af⟩ := ten_at hl8_.blk)
    | (go_at_call 152; have qp9_0 := PSt.lc hp8 hl8_ 4 (.slice p8 s.v.length c8); have qq9_0 := Lc.set hl8_ 4 (.slice p8 s.v.length c8); have qs9_0 := Lc.far hm8_ hnb 4 (.slice p8 s.v.length c8); have qH9_0 := Stp.set H8_ hsbz 4 (.slice p8 s.v.length c8); have qt9_0_0 := ht8_0.set hlt4 4 (.slice p8 s.v.length c8); have qt9_0_1 := hr8.set hlt8 4 (.slice p8 s.v.length c8); have hlt9 := Lc.lt qq9_0; refine (blockR_any qp9_0 (by rw [hO]; exact hd8)).mono ?_; rintro e w9 ⟨v, rfl, D9, n9, p9, c9, hp9, hs9, rfl, hr9⟩; rw [hO] at hp9 hr9 ⊢; have hl9_ : Lc 36 gp D9 w9 w1.heap.size #[.int .i64 2, .string a.v, .int .i64 (l.v : Int), .slice p4 c.v.length c4, .slice p8 s.v.length c8, .slice none 0 0, .int .i64 0, .int .i64 0, .int .i64 ((tk L sz i).a : Int), .slice none 0 0] := Lc.step qq9_0 hs9; have hm9_ := Lc.step qs9_0 hs9; have H9_ := Stp.trans qH9_0 hs9; have ht9_0 := qt9_0_0.step hs9; have ht9_1 := qt9_0_1.step hs9; clear a0 a1 a2 a3 a4 a5 a6 a7 a8 a9 af; obtain ⟨a0, a1, a2, a3, a4, a5, a6, a7, a8, a9, af⟩ := ten_at hl9_.blk; obtain ⟨r0, r1, r2, r3, r4, r5, r6, r7, r8, r9, rf⟩ := ten_at hm9_.blk))
  have H7 := (Stp.set H9_ hsbz 5 (.slice p9 o.v.length c9))
  have hp7 := (PSt.set hp9 hl9_.gp hl9_.ne 5 (.slice p9 o.v.length c9))
  have hT0 := (ht9_0.set hlt4 5 (.slice p9 o.v.length c9)).low (B' := w.heap.size + 1) (by have := hlt4; omega)
  have hT1 := (ht9_1.set hlt8 5 (.slice p9 o.v.length c9)).low (B' := w.heap.size + 1) (by have := hlt8; omega)
  have hT2 := (hr9.set hlt9 5 (.slice p9 o.v.length c9)).low (B' := w.heap.size + 1) (by have := hlt9; omega)
  obtain ⟨f1, f2, f3, f4, f5⟩ := it_fin hfr hp7 H7 hT0 hT1 hT2 rfl
  exact bodyPost_ret (v := .agg #[.int .i64 2, .string a.v, .int .i64 (l.v : Int), .slice p4 c.v.length c4, .slice p8 s.v.length c8, .slice p9 o.v.length c9, .int .i64 0, .int .i64 0, .int .i64 ((tk L sz i).a : Int), .slice none 0 0]) (by simp [results, Tryz.results106, go_sem, r0, r1, r2, r3, r4, r5, r6, r7, r8, r9]) rfl ⟨_, rfl, D9, _, _, _, _, _, _, _, by simpa using f1, f2, rfl, f3, f4, f5⟩
end
end Go.Proofs.YtfioihehhlpgcaaGreatDoor
namespace Go.Proofs.YtfioihehhlpgcaaGreatDoor
open Go.RowKit
attribute [local go_sem ↓] Go.wp_at_zero Go.wp_at_succ
theorem pIt_fn {L : List Tok} {sz : Nat} (h : isT L 0 kFn = true) : pIt L sz = ⟨2, (pFun L sz 1).v.x, (pFun L sz 1).v.l, (pFun L sz 1).v.ps, (pFun L sz 1).v.ss, (pFun L sz 1).v.bd, sz, (tk L sz 1).a, (pFun L sz 1).d ++ rest L sz (pFun L sz 1).i⟩ := by
  unfold pIt pFun pSs
  rw [if_pos h]
theorem pIt_chan {L : List Tok} {sz : Nat} (h : isT L 0 kFn = false) (h2 : isT L 0 kChan = true) : pIt L sz = ⟨1, (pChn L sz 1).v.1, (pChn L sz 1).v.2, [], [], [], sz, (tk L sz 1).a, (pChn L sz 1).d ++ rest L sz (pChn L sz 1).i⟩ := by
  unfold pIt pChn
  rw [if_neg (by simp [h]), if_pos h2]
theorem pIt_none {L : List Tok} {sz : Nat} (h : isT L 0 kFn = false) (h2 : isT L 0 kChan = false) : pIt L sz = ⟨3, noB, 0, [], [], [], sz, 0, [bad L sz 0 2]⟩ := by
  unfold pIt
  rw [if_neg (by simp [h]), if_neg (by simp [h2])]
section
variable {gp : Nat} {w : World} {L : List Tok} {sz : Nat} {ds : List Dg} {D : Option Nat}
/-- What an item comes to. -/
def ItTold (gp : Nat) (L : List Tok) (sz : Nat) (D : Option Nat) (ds : List Dg) (w w' : World) (it : It) (v : Value) : Prop := ∃ q, ToldI gp L sz 0 D ds w w' q it.ds it.k it.x it.l it.ps it.ss it.bd it.mrk v
set_option maxHeartbeats 2000000 in
set_option maxRecDepth 100000 in
theorem item_fn (hp : PSt gp w L sz 0 0 ds D) (hw0 : isT L 0 kFn = true) (hds : ds.length + (pIt L sz).ds.length + 1 ≤ 1099511627776) :
    Calls Tryz.prog 82 #[.pointer (some ⟨gp, 0, none⟩)] w fun e w' => ∃ v, e = .returned v ∧ ItTold gp L sz D ds w w' (pIt L sz) v := by
  have hgp := hp.gp_lt
  have hb0 := (Below.refl w.heap.size w).alloc (Nat.le_refl _) (.cells #[.int .i64 0, .string ⟨#[]⟩, .int .i64 0, .slice none 0 0, .slice none 0 0, .slice none 0 0, .int .i64 0, .int .i64 0, .int .i64 0, .slice none 0 0] 36)
  have hb1 := (Below.refl (w.alloc (.cells #[.int .i64 0, .string ⟨#[]⟩, .int .i64 0, .slice none 0 0, .slice none 0 0, .slice none 0 0, .int .i64 0, .int .i64 0, .int .i64 0, .slice none 0 0] 36)).heap.size (w.alloc (.cells #[.int .i64 0, .string ⟨#[]⟩, .int .i64 0, .slice none 0 0, .slice none 0 0, .slice none 0 0, .int .i64 0, .int .i64 0, .int .i64 0, .slice none 0 0] 36))).alloc (Nat.le_refl _) (.cells #[.int .i64 0, .string ⟨#[]⟩, .int .i64 0, .slice none 0 0, .slice none 0 0, .slice none 0 0, .int .i64 0, .int .i64 0, .int .i64 0, .slice none 0 0] 36)
  have hp0 := hp.below hb0
  have hp1 := hp0.below hb1
  have hfr := hp.fresh (Nat.le_refl w.heap.size)
  have hlR := (Lc.new 36 hp #[.int .i64 0, .string ⟨#[]⟩, .int .i64 0, .slice none 0 0, .slice none 0 0, .slice none 0 0, .int .i64 0, .int .i64 0, .int .i64 0, .slice none 0 0]).step (Stp.below hb1)
  have hlI : Lc 36 gp D ((w.alloc (.cells #[.int .i64 0, .string ⟨#[]⟩, .int .i64 0, .slice none 0 0, .slice none 0 0, .slice none 0 0, .int .i64 0, .int .i64 0, .int .i64 0, .slice none 0 0] 36)).alloc (.cells #[.int .i64 0, .string ⟨#[]⟩, .int .i64 0, .slice none 0 0, .slice none 0 0, .slice none 0 0, .int .i64 0, .int .i64 0, .int .i64 0, .slice none 0 0] 36)) (w.heap.size + 1) #[.int .i64 0, .string ⟨#[]⟩, .int .i64 0, .slice none 0 0, .slice none 0 0, .slice none 0 0, .int .i64 0, .int .i64 0, .int .i64 0, .slice none 0 0] := by have h := Lc.new 36 hp0 #[.int .i64 0, .string ⟨#[]⟩, .int .i64 0, .slice none 0 0, .slice none 0 0, .slice none 0 0, .int .i64 0, .int .i64 0, .int .i64 0, .slice none 0 0]; simpa using h
  have hn1 : w.heap.size ≠ w.heap.size + 1 := by omega
  have hsbz : (w.alloc (.cells #[.int .i64 0, .string ⟨#[]⟩, .int .i64 0, .slice none 0 0, .slice none 0 0, .slice none 0 0, .int .i64 0, .int .i64 0, .int .i64 0, .slice none 0 0] 36)).heap.size ≤ w.heap.size + 1 := by simp
  have hs1 : Stp gp D D (w.alloc (.cells #[.int .i64 0, .string ⟨#[]⟩, .int .i64 0, .slice none 0 0, .slice none 0 0, .slice none 0 0, .int .i64 0, .int .i64 0, .int .i64 0, .slice none 0 0] 36)) ((w.alloc (.cells #[.int .i64 0, .string ⟨#[]⟩, .int .i64 0, .slice none 0 0, .slice none 0 0, .slice none 0 0, .int .i64 0, .int .i64 0, .int .i64 0, .slice none 0 0] 36)).alloc (.cells #[.int .i64 0, .string ⟨#[]⟩, .int .i64 0, .slice none 0 0, .slice none 0 0, .slice none 0 0, .int .i64 0, .int .i64 0, .int .i64 0, .slice none 0 0] 36)) := Stp.below hb1
  rw [pIt_fn hw0] at hds ⊢
  unfold ItTold
  simp only at hds ⊢
  generalize hF : pFun L sz 1 = f at *
  have hd1 : ds.length + f.d.length + 1 ≤ 1099511627776 := by simp only [List.length_append] at hds; omega
  have F0 : Hid (1 = 1) := rfl
  go_enter Tryz.func82, Tryz.ntmps82
  by_cases hl : f.i < L.length
  · have hlf : decide (f.i < L.length) = true := by simpa using hl
    have hrs : rest L sz f.i = [bad L sz f.i 2] := by unfold rest; rw [if_pos hl]
    rw [hrs] at hds ⊢
    clear hl hrs
    have hd2 : (ds ++ f.d).length + 1 ≤ 1099511627776 := by simp only [List.length_append, List.length_singleton] at hds ⊢; omega
    go_wp2_with (first
      | (go_at_call 105; have f := F0; clear f F0; refine (take_any hp1 kFn (by decide)).mono ?_; rintro e v0_ ⟨rfl, hq0, hr0⟩; rw [hw0] at hq0 ⊢; simp only [if_true] at hq0)
      | (go_at_call 106; refine (function_any hq0 (by rw [hF]; exact hd1)).mono ?_; rintro e w3 ⟨v, rfl, D3, n3, p1, c1, p2, c2, p3, c3, hp3, hs3, hv, h1, h2, h3⟩; rw [hF] at hp3 h1 h2 h3 hv; generalize hk0 : ((2 : Nat) : Int) = kk at hv; subst hv; have H3 := Stp.trans (Stp.trans hs1 hr0) hs3; have hlI3 := (hlI.step (hr0)).step hs3; have hlR3 := (hlR.step (hr0)).step hs3; have hlt3 : w.heap.size + 1 < v0_.heap.size := (hlI.step (hr0)).lt; obtain ⟨a0, a1, a2, a3, a4, a5, a6, a7, a8, a9, af⟩ := ten_at hlI3.blk))
    go_at_call 109
    obtain ⟨hp4, H4⟩ := ten hp3 H3 (b := w.heap.size + 1) hsbz hlI3.gp hlI3.ne (.int .i64 kk) (.string f.v.x) (.int .i64 (f.v.l : Int)) (.slice p1 f.v.ps.length c1) (.slice p2 f.v.ss.length c2) (.slice p3 f.v.bd.length c3) (.int .i64 0) (.int .i64 0) (.int .i64 ((tk L sz 1).a : Int)) (.slice none 0 0)
    have hblk4 := ten_blk hlI3.blk (.int .i64 kk) (.string f.v.x) (.int .i64 (f.v.l : Int)) (.slice p1 f.v.ps.length c1) (.slice p2 f.v.ss.length c2) (.slice p3 f.v.bd.length c3) (.int .i64 0) (.int .i64 0) (.int .i64 ((tk L sz 1).a : Int)) (.slice none 0 0)
    have hfar4 : ∀ k, k ≠ w.heap.size + 1 → ((((((((((w3.setCell ⟨w.heap.size + 1, 0, none⟩ (.int .i64 kk)).setCell ⟨w.heap.size + 1, 1, none⟩ (.string f.v.x)).setCell ⟨w.heap.size + 1, 2, none⟩ (.int .i64 (f.v.l : Int))).setCell ⟨w.heap.size + 1, 3, none⟩ (.slice p1 f.v.ps.length c1)).setCell ⟨w.heap.size + 1, 4, none⟩ (.slice p2 f.v.ss.length c2)).setCell ⟨w.heap.size + 1, 5, none⟩ (.slice p3 f.v.bd.length c3)).setCell ⟨w.heap.size + 1, 6, none⟩ (.int .i64 0)).setCell ⟨w.heap.size + 1, 7, none⟩ (.int .i64 0)).setCell ⟨w.heap.size + 1, 8, none⟩ (.int .i64 ((tk L sz 1).a : Int))).setCell ⟨w.heap.size + 1, 9, none⟩ (.slice none 0 0)).heap[k]? = w3.heap[k]? := fun k hk => ten_far hk (.int .i64 kk) (.string f.v.x) (.int .i64 (f.v.l : Int)) (.slice p1 f.v.ps.length c1) (.slice p2 f.v.ss.length c2) (.slice p3 f.v.bd.length c3) (.int .i64 0) (.int .i64 0) (.int .i64 ((tk L sz 1).a : Int)) (.slice none 0 0)
    have hsz4 : ((((((((((w3.setCell ⟨w.heap.size + 1, 0, none⟩ (.int .i64 kk)).setCell ⟨w.heap.size + 1, 1, none⟩ (.string f.v.x)).setCell ⟨w.heap.size + 1, 2, none⟩ (.int .i64 (f.v.l : Int))).setCell ⟨w.heap.size + 1, 3, none⟩ (.slice p1 f.v.ps.length c1)).setCell ⟨w.heap.size + 1, 4, none⟩ (.slice p2 f.v.ss.length c2)).setCell ⟨w.heap.size + 1, 5, none⟩ (.slice p3 f.v.bd.length c3)).setCell ⟨w.heap.size + 1, 6, none⟩ (.int .i64 0)).setCell ⟨w.heap.size + 1, 7, none⟩ (.int .i64 0)).setCell ⟨w.heap.size + 1, 8, none⟩ (.int .i64 ((tk L sz 1).a : Int))).setCell ⟨w.heap.size + 1, 9, none⟩ (.slice none 0 0)).heap.size = w3.heap.size := (by simp)
    clear a0 a1 a2 a3 a4 a5 a6 a7 a8 a9 af
    generalize ((((((((((w3.setCell ⟨w.heap.size + 1, 0, none⟩ (.int .i64 kk)).setCell ⟨w.heap.size + 1, 1, none⟩ (.string f.v.x)).setCell ⟨w.heap.size + 1, 2, none⟩ (.int .i64 (f.v.l : Int))).setCell ⟨w.heap.size + 1, 3, none⟩ (.slice p1 f.v.ps.length c1)).setCell ⟨w.heap.size + 1, 4, none⟩ (.slice p2 f.v.ss.length c2)).setCell ⟨w.heap.size + 1, 5, none⟩ (.slice p3 f.v.bd.length c3)).setCell ⟨w.heap.size + 1, 6, none⟩ (.int .i64 0)).setCell ⟨w.heap.size + 1, 7, none⟩ (.int .i64 0)).setCell ⟨w.heap.size + 1, 8, none⟩ (.int .i64 ((tk L sz 1).a : Int))).setCell ⟨w.heap.size + 1, 9, none⟩ (.slice none 0 0)) = W4 at *
    have g1 : SlAt (okS v0_.heap.size gp D3 W4) W4 3 pmC f.v.ps p1 := (h1.kept (fun k hk => hfar4 k (by have := hk.1; omega))).wide (fun k hk => ⟨hk.1, by rw [hsz4]; exact hk.2.1, hk.2.2⟩)
    have g2 : SlAt (okS v0_.heap.size gp D3 W4) W4 2 rfC f.v.ss p2 := (h2.kept (fun k hk => hfar4 k (by have := hk.1; omega))).wide (fun k hk => ⟨hk.1, by rw [hsz4]; exact hk.2.1, hk.2.2⟩)
    have g3 : SlB n3 v0_.heap.size gp D3 W4 f.v.bd p3 := SlT.kept h3 (fun k hk => hfar4 k (by have := hk.1; omega)) (fun k hk => ⟨hk.1, by rw [hsz4]; exact hk.2.1, hk.2.2⟩) (RdS.kept n3 (fun k hk => hfar4 k (by have := hk.1; omega)) (fun k hk => ⟨hk.1, by rw [hsz4]; exact hk.2.1, hk.2.2⟩))
    have hlI4 : Lc 36 gp D3 W4 (w.heap.size + 1) #[.int .i64 kk, .string f.v.x, .int .i64 (f.v.l : Int), .slice p1 f.v.ps.length c1, .slice p2 f.v.ss.length c2, .slice p3 f.v.bd.length c3, .int .i64 0, .int .i64 0, .int .i64 ((tk L sz 1).a : Int), .slice none 0 0] := ⟨hblk4, hlI3.gp, hlI3.ne⟩
    have hlR4 : Lc 36 gp D3 W4 w.heap.size #[.int .i64 0, .string ⟨#[]⟩, .int .i64 0, .slice none 0 0, .slice none 0 0, .slice none 0 0, .int .i64 0, .int .i64 0, .int .i64 0, .slice none 0 0] := ⟨(hfar4 _ hn1).trans hlR3.blk, hlR3.gp, hlR3.ne⟩
    refine (left_any hp4).mono ?_
    rintro e w5 ⟨rfl, hb5⟩
    rw [hlf]
    have hp5 := hp4.below hb5
    have hs5 := Stp.below (gp := gp) (D := D3) hb5
    go_wp2_with (first
      | (go_at_call 108; refine (tell_any hp5 2 hd2).mono ?_; rintro e w6 ⟨rfl, D6, hp6, hs6'⟩; have hs6 := hs5.trans hs6'; have hlI6 := hlI4.step hs6; have hlR6 := hlR4.step hs6; obtain ⟨a0, a1, a2, a3, a4, a5, a6, a7, a8, a9, af⟩ := ten_at hlI6.blk; obtain ⟨r0, r1, r2, r3, r4, r5, r6, r7, r8, r9, rf⟩ := ten_at hlR6.blk))
    have hzz : w.heap.size + 1 ≤ v0_.heap.size := by omega
    obtain ⟨f1, f2, f3, f4, f5⟩ := it_fin hfr hp6 (H4.trans hs6) ((g1.step hs6).low hzz) ((g2.step hs6).low hzz) ((g3.step hs6).low hzz) rfl
    exact bodyPost_ret (v := .agg #[.int .i64 kk, .string f.v.x, .int .i64 (f.v.l : Int), .slice p1 f.v.ps.length c1, .slice p2 f.v.ss.length c2, .slice p3 f.v.bd.length c3, .int .i64 0, .int .i64 0, .int .i64 ((tk L sz 1).a : Int), .slice none 0 0]) (by simp [results, Tryz.results82, go_sem, r0, r1, r2, r3, r4, r5, r6, r7, r8, r9]) rfl ⟨_, rfl, _, D6, _, _, _, _, _, _, _, by simpa using f1, f2, by rw [← hk0], f3, f4, f5⟩
  · have hlf : decide (f.i < L.length) = false := by simpa using hl
    have hrs : rest L sz f.i = [] := by unfold rest; rw [if_neg hl]
    rw [hrs] at hds ⊢
    clear hl hrs
    go_wp2_with (first
      | (go_at_call 105; have f := F0; clear f F0; refine (take_any hp1 kFn (by decide)).mono ?_; rintro e v0_ ⟨rfl, hq0, hr0⟩; rw [hw0] at hq0 ⊢; simp only [if_true] at hq0)
      | (go_at_call 106; refine (function_any hq0 (by rw [hF]; exact hd1)).mono ?_; rintro e w3 ⟨v, rfl, D3, n3, p1, c1, p2, c2, p3, c3, hp3, hs3, hv, h1, h2, h3⟩; rw [hF] at hp3 h1 h2 h3 hv; generalize hk0 : ((2 : Nat) : Int) = kk at hv; subst hv; have H3 := Stp.trans (Stp.trans hs1 hr0) hs3; have hlI3 := (hlI.step (hr0)).step hs3; have hlR3 := (hlR.step (hr0)).step hs3; have hlt3 : w.heap.size + 1 < v0_.heap.size := (hlI.step (hr0)).lt; obtain ⟨a0, a1, a2, a3, a4, a5, a6, a7, a8, a9, af⟩ := ten_at hlI3.blk))
    go_at_call 109
    obtain ⟨hp4, H4⟩ := ten hp3 H3 (b := w.heap.size + 1) hsbz hlI3.gp hlI3.ne (.int .i64 kk) (.string f.v.x) (.int .i64 (f.v.l : Int)) (.slice p1 f.v.ps.length c1) (.slice p2 f.v.ss.length c2) (.slice p3 f.v.bd.length c3) (.int .i64 0) (.int .i64 0) (.int .i64 ((tk L sz 1).a : Int)) (.slice none 0 0)
    have hblk4 := ten_blk hlI3.blk (.int .i64 kk) (.string f.v.x) (.int .i64 (f.v.l : Int)) (.slice p1 f.v.ps.length c1) (.slice p2 f.v.ss.length c2) (.slice p3 f.v.bd.length c3) (.int .i64 0) (.int .i64 0) (.int .i64 ((tk L sz 1).a : Int)) (.slice none 0 0)
    have hfar4 : ∀ k, k ≠ w.heap.size + 1 → ((((((((((w3.setCell ⟨w.heap.size + 1, 0, none⟩ (.int .i64 kk)).setCell ⟨w.heap.size + 1, 1, none⟩ (.string f.v.x)).setCell ⟨w.heap.size + 1, 2, none⟩ (.int .i64 (f.v.l : Int))).setCell ⟨w.heap.size + 1, 3, none⟩ (.slice p1 f.v.ps.length c1)).setCell ⟨w.heap.size + 1, 4, none⟩ (.slice p2 f.v.ss.length c2)).setCell ⟨w.heap.size + 1, 5, none⟩ (.slice p3 f.v.bd.length c3)).setCell ⟨w.heap.size + 1, 6, none⟩ (.int .i64 0)).setCell ⟨w.heap.size + 1, 7, none⟩ (.int .i64 0)).setCell ⟨w.heap.size + 1, 8, none⟩ (.int .i64 ((tk L sz 1).a : Int))).setCell ⟨w.heap.size + 1, 9, none⟩ (.slice none 0 0)).heap[k]? = w3.heap[k]? := fun k hk => ten_far hk (.int .i64 kk) (.string f.v.x) (.int .i64 (f.v.l : Int)) (.slice p1 f.v.ps.length c1) (.slice p2 f.v.ss.length c2) (.slice p3 f.v.bd.length c3) (.int .i64 0) (.int .i64 0) (.int .i64 ((tk L sz 1).a : Int)) (.slice none 0 0)
    have hsz4 : ((((((((((w3.setCell ⟨w.heap.size + 1, 0, none⟩ (.int .i64 kk)).setCell ⟨w.heap.size + 1, 1, none⟩ (.string f.v.x)).setCell ⟨w.heap.size + 1, 2, none⟩ (.int .i64 (f.v.l : Int))).setCell ⟨w.heap.size + 1, 3, none⟩ (.slice p1 f.v.ps.length c1)).setCell ⟨w.heap.size + 1, 4, none⟩ (.slice p2 f.v.ss.length c2)).setCell ⟨w.heap.size + 1, 5, none⟩ (.slice p3 f.v.bd.length c3)).setCell ⟨w.heap.size + 1, 6, none⟩ (.int .i64 0)).setCell ⟨w.heap.size + 1, 7, none⟩ (.int .i64 0)).setCell ⟨w.heap.size + 1, 8, none⟩ (.int .i64 ((tk L sz 1).a : Int))).setCell ⟨w.heap.size + 1, 9, none⟩ (.slice none 0 0)).heap.size = w3.heap.size := (by simp)
    clear a0 a1 a2 a3 a4 a5 a6 a7 a8 a9 af
    generalize ((((((((((w3.setCell ⟨w.heap.size + 1, 0, none⟩ (.int .i64 kk)).setCell ⟨w.heap.size + 1, 1, none⟩ (.string f.v.x)).setCell ⟨w.heap.size + 1, 2, none⟩ (.int .i64 (f.v.l : Int))).setCell ⟨w.heap.size + 1, 3, none⟩ (.slice p1 f.v.ps.length c1)).setCell ⟨w.heap.size + 1, 4, none⟩ (.slice p2 f.v.ss.length c2)).setCell ⟨w.heap.size + 1, 5, none⟩ (.slice p3 f.v.bd.length c3)).setCell ⟨w.heap.size + 1, 6, none⟩ (.int .i64 0)).setCell ⟨w.heap.size + 1, 7, none⟩ (.int .i64 0)).setCell ⟨w.heap.size + 1, 8, none⟩ (.int .i64 ((tk L sz 1).a : Int))).setCell ⟨w.heap.size + 1, 9, none⟩ (.slice none 0 0)) = W4 at *
    have g1 : SlAt (okS v0_.heap.size gp D3 W4) W4 3 pmC f.v.ps p1 := (h1.kept (fun k hk => hfar4 k (by have := hk.1; omega))).wide (fun k hk => ⟨hk.1, by rw [hsz4]; exact hk.2.1, hk.2.2⟩)
    have g2 : SlAt (okS v0_.heap.size gp D3 W4) W4 2 rfC f.v.ss p2 := (h2.kept (fun k hk => hfar4 k (by have := hk.1; omega))).wide (fun k hk => ⟨hk.1, by rw [hsz4]; exact hk.2.1, hk.2.2⟩)
    have g3 : SlB n3 v0_.heap.size gp D3 W4 f.v.bd p3 := SlT.kept h3 (fun k hk => hfar4 k (by have := hk.1; omega)) (fun k hk => ⟨hk.1, by rw [hsz4]; exact hk.2.1, hk.2.2⟩) (RdS.kept n3 (fun k hk => hfar4 k (by have := hk.1; omega)) (fun k hk => ⟨hk.1, by rw [hsz4]; exact hk.2.1, hk.2.2⟩))
    have hlI4 : Lc 36 gp D3 W4 (w.heap.size + 1) #[.int .i64 kk, .string f.v.x, .int .i64 (f.v.l : Int), .slice p1 f.v.ps.length c1, .slice p2 f.v.ss.length c2, .slice p3 f.v.bd.length c3, .int .i64 0, .int .i64 0, .int .i64 ((tk L sz 1).a : Int), .slice none 0 0] := ⟨hblk4, hlI3.gp, hlI3.ne⟩
    have hlR4 : Lc 36 gp D3 W4 w.heap.size #[.int .i64 0, .string ⟨#[]⟩, .int .i64 0, .slice none 0 0, .slice none 0 0, .slice none 0 0, .int .i64 0, .int .i64 0, .int .i64 0, .slice none 0 0] := ⟨(hfar4 _ hn1).trans hlR3.blk, hlR3.gp, hlR3.ne⟩
    refine (left_any hp4).mono ?_
    rintro e w5 ⟨rfl, hb5⟩
    rw [hlf]
    have hp5 := hp4.below hb5
    have hs5 := Stp.below (gp := gp) (D := D3) hb5
    have hlI5 := hlI4.step hs5
    have hlR5 := hlR4.step hs5
    obtain ⟨a0, a1, a2, a3, a4, a5, a6, a7, a8, a9, af⟩ := ten_at hlI5.blk
    obtain ⟨r0, r1, r2, r3, r4, r5, r6, r7, r8, r9, rf⟩ := ten_at hlR5.blk
    go_wp2
    have hzz : w.heap.size + 1 ≤ v0_.heap.size := by omega
    obtain ⟨f1, f2, f3, f4, f5⟩ := it_fin hfr hp5 (H4.trans hs5) ((g1.step hs5).low hzz) ((g2.step hs5).low hzz) ((g3.step hs5).low hzz) rfl
    exact bodyPost_ret (v := .agg #[.int .i64 kk, .string f.v.x, .int .i64 (f.v.l : Int), .slice p1 f.v.ps.length c1, .slice p2 f.v.ss.length c2, .slice p3 f.v.bd.length c3, .int .i64 0, .int .i64 0, .int .i64 ((tk L sz 1).a : Int), .slice none 0 0]) (by simp [results, Tryz.results82, go_sem, r0, r1, r2, r3, r4, r5, r6, r7, r8, r9]) rfl ⟨_, rfl, _, D3, _, _, _, _, _, _, _, by simpa using f1, f2, by rw [← hk0], f3, f4, f5⟩
set_option maxHeartbeats 2000000 in
set_option maxRecDepth 100000 in
theorem item_chan (hp : PSt gp w L sz 0 0 ds D) (hw0 : isT L 0 kFn = false) (hw1 : isT L 0 kChan = true) (hds : ds.length + (pIt L sz).ds.length + 1 ≤ 1099511627776) :
    Calls Tryz.prog 82 #[.pointer (some ⟨gp, 0, none⟩)] w fun e w' => ∃ v, e = .returned v ∧ ItTold gp L sz D ds w w' (pIt L sz) v := by
  have hgp := hp.gp_lt
  have hb0 := (Below.refl w.heap.size w).alloc (Nat.le_refl _) (.cells #[.int .i64 0, .string ⟨#[]⟩, .int .i64 0, .slice none 0 0, .slice none 0 0, .slice none 0 0, .int .i64 0, .int .i64 0, .int .i64 0, .slice none 0 0] 36)
  have hb1 := (Below.refl (w.alloc (.cells #[.int .i64 0, .string ⟨#[]⟩, .int .i64 0, .slice none 0 0, .slice none 0 0, .slice none 0 0, .int .i64 0, .int .i64 0, .int .i64 0, .slice none 0 0] 36)).heap.size (w.alloc (.cells #[.int .i64 0, .string ⟨#[]⟩, .int .i64 0, .slice none 0 0, .slice none 0 0, .slice none 0 0, .int .i64 0, .int .i64 0, .int .i64 0, .slice none 0 0] 36))).alloc (Nat.le_refl _) (.cells #[.int .i64 0, .string ⟨#[]⟩, .int .i64 0, .slice none 0 0, .slice none 0 0, .slice none 0 0, .int .i64 0, .int .i64 0, .int .i64 0, .slice none 0 0] 36)
  have hp0 := hp.below hb0
  have hp1 := hp0.below hb1
  have hfr := hp.fresh (Nat.le_refl w.heap.size)
  have hlR := (Lc.new 36 hp #[.int .i64 0, .string ⟨#[]⟩, .int .i64 0, .slice none 0 0, .slice none 0 0, .slice none 0 0, .int .i64 0, .int .i64 0, .int .i64 0, .slice none 0 0]).step (Stp.below hb1)
  have hlI : Lc 36 gp D ((w.alloc (.cells #[.int .i64 0, .string ⟨#[]⟩, .int .i64 0, .slice none 0 0, .slice none 0 0, .slice none 0 0, .int .i64 0, .int .i64 0, .int .i64 0, .slice none 0 0] 36)).alloc (.cells #[.int .i64 0, .string ⟨#[]⟩, .int .i64 0, .slice none 0 0, .slice none 0 0, .slice none 0 0, .int .i64 0, .int .i64 0, .int .i64 0, .slice none 0 0] 36)) (w.heap.size + 1) #[.int .i64 0, .string ⟨#[]⟩, .int .i64 0, .slice none 0 0, .slice none 0 0, .slice none 0 0, .int .i64 0, .int .i64 0, .int .i64 0, .slice none 0 0] := by have h := Lc.new 36 hp0 #[.int .i64 0, .string ⟨#[]⟩, .int .i64 0, .slice none 0 0, .slice none 0 0, .slice none 0 0, .int .i64 0, .int .i64 0, .int .i64 0, .slice none 0 0]; simpa using h
  have hn1 : w.heap.size ≠ w.heap.size + 1 := by omega
  have hsbz : (w.alloc (.cells #[.int .i64 0, .string ⟨#[]⟩, .int .i64 0, .slice none 0 0, .slice none 0 0, .slice none 0 0, .int .i64 0, .int .i64 0, .int .i64 0, .slice none 0 0] 36)).heap.size ≤ w.heap.size + 1 := by simp
  have hs1 : Stp gp D D (w.alloc (.cells #[.int .i64 0, .string ⟨#[]⟩, .int .i64 0, .slice none 0 0, .slice none 0 0, .slice none 0 0, .int .i64 0, .int .i64 0, .int .i64 0, .slice none 0 0] 36)) ((w.alloc (.cells #[.int .i64 0, .string ⟨#[]⟩, .int .i64 0, .slice none 0 0, .slice none 0 0, .slice none 0 0, .int .i64 0, .int .i64 0, .int .i64 0, .slice none 0 0] 36)).alloc (.cells #[.int .i64 0, .string ⟨#[]⟩, .int .i64 0, .slice none 0 0, .slice none 0 0, .slice none 0 0, .int .i64 0, .int .i64 0, .int .i64 0, .slice none 0 0] 36)) := Stp.below hb1
  rw [pIt_chan hw0 hw1] at hds ⊢
  unfold ItTold
  simp only at hds ⊢
  generalize hF : pChn L sz 1 = f at *
  have hd1 : ds.length + f.d.length + 1 ≤ 1099511627776 := by simp only [List.length_append] at hds; omega
  have F0 : Hid (1 = 1) := rfl
  have F1 : Hid (1 = 1) := rfl
  go_enter Tryz.func82, Tryz.ntmps82
  by_cases hl : f.i < L.length
  · have hlf : decide (f.i < L.length) = true := by simpa using hl
    have hrs : rest L sz f.i = [bad L sz f.i 2] := by unfold rest; rw [if_pos hl]
    rw [hrs] at hds ⊢
    clear hl hrs
    have hd2 : (ds ++ f.d).length + 1 ≤ 1099511627776 := by simp only [List.length_append, List.length_singleton] at hds ⊢; omega
    go_wp2_with (first
      | (go_at_call 105; have f := F0; clear f F0; refine (take_any hp1 kFn (by decide)).mono ?_; rintro e v0_ ⟨rfl, hq0, hr0⟩; rw [hw0] at hq0 ⊢; simp only [Bool.false_eq_true, if_false] at hq0)
      | (go_at_call 105; have f := F1; clear f F1; refine (take_any hq0 kChan (by decide)).mono ?_; rintro e v1_ ⟨rfl, hq1, hr1⟩; rw [hw1] at hq1 ⊢; simp only [if_true] at hq1)
      | (go_at_call 107; refine (channel_any hq1 (by rw [hF]; exact hd1)).mono ?_; rintro e w3 ⟨v, rfl, D3, n3, p1, c1, p2, c2, p3, c3, hp3, hs3, hv, h1, h2, h3⟩; rw [hF] at hp3 hv; generalize hk0 : ((1 : Nat) : Int) = kk at hv; subst hv; have H3 := Stp.trans (Stp.trans (Stp.trans hs1 hr0) hr1) hs3; have hlI3 := (hlI.step ((Stp.trans hr0 hr1))).step hs3; have hlR3 := (hlR.step ((Stp.trans hr0 hr1))).step hs3; have hlt3 : w.heap.size + 1 < v1_.heap.size := (hlI.step ((Stp.trans hr0 hr1))).lt; obtain ⟨a0, a1, a2, a3, a4, a5, a6, a7, a8, a9, af⟩ := ten_at hlI3.blk))
    go_at_call 109
    obtain ⟨hp4, H4⟩ := ten hp3 H3 (b := w.heap.size + 1) hsbz hlI3.gp hlI3.ne (.int .i64 kk) (.string f.v.1) (.int .i64 (f.v.2 : Int)) (.slice p1 ([] : List Pm).length c1) (.slice p2 ([] : List Rf).length c2) (.slice p3 ([] : List Tr).length c3) (.int .i64 0) (.int .i64 0) (.int .i64 ((tk L sz 1).a : Int)) (.slice none 0 0)
    have hblk4 := ten_blk hlI3.blk (.int .i64 kk) (.string f.v.1) (.int .i64 (f.v.2 : Int)) (.slice p1 ([] : List Pm).length c1) (.slice p2 ([] : List Rf).length c2) (.slice p3 ([] : List Tr).length c3) (.int .i64 0) (.int .i64 0) (.int .i64 ((tk L sz 1).a : Int)) (.slice none 0 0)
    have hfar4 : ∀ k, k ≠ w.heap.size + 1 → ((((((((((w3.setCell ⟨w.heap.size + 1, 0, none⟩ (.int .i64 kk)).setCell ⟨w.heap.size + 1, 1, none⟩ (.string f.v.1)).setCell ⟨w.heap.size + 1, 2, none⟩ (.int .i64 (f.v.2 : Int))).setCell ⟨w.heap.size + 1, 3, none⟩ (.slice p1 ([] : List Pm).length c1)).setCell ⟨w.heap.size + 1, 4, none⟩ (.slice p2 ([] : List Rf).length c2)).setCell ⟨w.heap.size + 1, 5, none⟩ (.slice p3 ([] : List Tr).length c3)).setCell ⟨w.heap.size + 1, 6, none⟩ (.int .i64 0)).setCell ⟨w.heap.size + 1, 7, none⟩ (.int .i64 0)).setCell ⟨w.heap.size + 1, 8, none⟩ (.int .i64 ((tk L sz 1).a : Int))).setCell ⟨w.heap.size + 1, 9, none⟩ (.slice none 0 0)).heap[k]? = w3.heap[k]? := fun k hk => ten_far hk (.int .i64 kk) (.string f.v.1) (.int .i64 (f.v.2 : Int)) (.slice p1 ([] : List Pm).length c1) (.slice p2 ([] : List Rf).length c2) (.slice p3 ([] : List Tr).length c3) (.int .i64 0) (.int .i64 0) (.int .i64 ((tk L sz 1).a : Int)) (.slice none 0 0)
    have hsz4 : ((((((((((w3.setCell ⟨w.heap.size + 1, 0, none⟩ (.int .i64 kk)).setCell ⟨w.heap.size + 1, 1, none⟩ (.string f.v.1)).setCell ⟨w.heap.size + 1, 2, none⟩ (.int .i64 (f.v.2 : Int))).setCell ⟨w.heap.size + 1, 3, none⟩ (.slice p1 ([] : List Pm).length c1)).setCell ⟨w.heap.size + 1, 4, none⟩ (.slice p2 ([] : List Rf).length c2)).setCell ⟨w.heap.size + 1, 5, none⟩ (.slice p3 ([] : List Tr).length c3)).setCell ⟨w.heap.size + 1, 6, none⟩ (.int .i64 0)).setCell ⟨w.heap.size + 1, 7, none⟩ (.int .i64 0)).setCell ⟨w.heap.size + 1, 8, none⟩ (.int .i64 ((tk L sz 1).a : Int))).setCell ⟨w.heap.size + 1, 9, none⟩ (.slice none 0 0)).heap.size = w3.heap.size := (by simp)
    clear a0 a1 a2 a3 a4 a5 a6 a7 a8 a9 af
    generalize ((((((((((w3.setCell ⟨w.heap.size + 1, 0, none⟩ (.int .i64 kk)).setCell ⟨w.heap.size + 1, 1, none⟩ (.string f.v.1)).setCell ⟨w.heap.size + 1, 2, none⟩ (.int .i64 (f.v.2 : Int))).setCell ⟨w.heap.size + 1, 3, none⟩ (.slice p1 ([] : List Pm).length c1)).setCell ⟨w.heap.size + 1, 4, none⟩ (.slice p2 ([] : List Rf).length c2)).setCell ⟨w.heap.size + 1, 5, none⟩ (.slice p3 ([] : List Tr).length c3)).setCell ⟨w.heap.size + 1, 6, none⟩ (.int .i64 0)).setCell ⟨w.heap.size + 1, 7, none⟩ (.int .i64 0)).setCell ⟨w.heap.size + 1, 8, none⟩ (.int .i64 ((tk L sz 1).a : Int))).setCell ⟨w.heap.size + 1, 9, none⟩ (.slice none 0 0)) = W4 at *
    have g1 : SlAt (okS v1_.heap.size gp D3 W4) W4 3 pmC ([] : List Pm) p1 := (h1.kept (fun k hk => hfar4 k (by have := hk.1; omega))).wide (fun k hk => ⟨hk.1, by rw [hsz4]; exact hk.2.1, hk.2.2⟩)
    have g2 : SlAt (okS v1_.heap.size gp D3 W4) W4 2 rfC ([] : List Rf) p2 := (h2.kept (fun k hk => hfar4 k (by have := hk.1; omega))).wide (fun k hk => ⟨hk.1, by rw [hsz4]; exact hk.2.1, hk.2.2⟩)
    have g3 : SlB n3 v1_.heap.size gp D3 W4 ([] : List Tr) p3 := SlT.kept h3 (fun k hk => hfar4 k (by have := hk.1; omega)) (fun k hk => ⟨hk.1, by rw [hsz4]; exact hk.2.1, hk.2.2⟩) (RdS.kept n3 (fun k hk => hfar4 k (by have := hk.1; omega)) (fun k hk => ⟨hk.1, by rw [hsz4]; exact hk.2.1, hk.2.2⟩))
    have hlI4 : Lc 36 gp D3 W4 (w.heap.size + 1) #[.int .i64 kk, .string f.v.1, .int .i64 (f.v.2 : Int), .slice p1 ([] : List Pm).length c1, .slice p2 ([] : List Rf).length c2, .slice p3 ([] : List Tr).length c3, .int .i64 0, .int .i64 0, .int .i64 ((tk L sz 1).a : Int), .slice none 0 0] := ⟨hblk4, hlI3.gp, hlI3.ne⟩
    have hlR4 : Lc 36 gp D3 W4 w.heap.size #[.int .i64 0, .string ⟨#[]⟩, .int .i64 0, .slice none 0 0, .slice none 0 0, .slice none 0 0, .int .i64 0, .int .i64 0, .int .i64 0, .slice none 0 0] := ⟨(hfar4 _ hn1).trans hlR3.blk, hlR3.gp, hlR3.ne⟩
    refine (left_any hp4).mono ?_
    rintro e w5 ⟨rfl, hb5⟩
    rw [hlf]
    have hp5 := hp4.below hb5
    have hs5 := Stp.below (gp := gp) (D := D3) hb5
    go_wp2_with (first
      | (go_at_call 108; refine (tell_any hp5 2 hd2).mono ?_; rintro e w6 ⟨rfl, D6, hp6, hs6'⟩; have hs6 := hs5.trans hs6'; have hlI6 := hlI4.step hs6; have hlR6 := hlR4.step hs6; obtain ⟨a0, a1, a2, a3, a4, a5, a6, a7, a8, a9, af⟩ := ten_at hlI6.blk; obtain ⟨r0, r1, r2, r3, r4, r5, r6, r7, r8, r9, rf⟩ := ten_at hlR6.blk))
    have hzz : w.heap.size + 1 ≤ v1_.heap.size := by omega
    obtain ⟨f1, f2, f3, f4, f5⟩ := it_fin hfr hp6 (H4.trans hs6) ((g1.step hs6).low hzz) ((g2.step hs6).low hzz) ((g3.step hs6).low hzz) rfl
    exact bodyPost_ret (v := .agg #[.int .i64 kk, .string f.v.1, .int .i64 (f.v.2 : Int), .slice p1 ([] : List Pm).length c1, .slice p2 ([] : List Rf).length c2, .slice p3 ([] : List Tr).length c3, .int .i64 0, .int .i64 0, .int .i64 ((tk L sz 1).a : Int), .slice none 0 0]) (by simp [results, Tryz.results82, go_sem, r0, r1, r2, r3, r4, r5, r6, r7, r8, r9]) rfl ⟨_, rfl, _, D6, _, _, _, _, _, _, _, by simpa using f1, f2, by rw [← hk0], f3, f4, f5⟩
  · have hlf : decide (f.i < L.length) = false := by simpa using hl
    have hrs : rest L sz f.i = [] := by unfold rest; rw [if_neg hl]
    rw [hrs] at hds ⊢
    clear hl hrs
    go_wp2_with (first
      | (go_at_call 105; have f := F0; clear f F0; refine (take_any hp1 kFn (by decide)).mono ?_; rintro e v0_ ⟨rfl, hq0, hr0⟩; rw [hw0] at hq0 ⊢; simp only [Bool.false_eq_true, if_false] at hq0)
      | (go_at_call 105; have f := F1; clear f F1; refine (take_any hq0 kChan (by decide)).mono ?_; rintro e v1_ ⟨rfl, hq1, hr1⟩; rw [hw1] at hq1 ⊢; simp only [if_true] at hq1)
      | (go_at_call 107; refine (channel_any hq1 (by rw [hF]; exact hd1)).mono ?_; rintro e w3 ⟨v, rfl, D3, n3, p1, c1, p2, c2, p3, c3, hp3, hs3, hv, h1, h2, h3⟩; rw [hF] at hp3 hv; generalize hk0 : ((1 : Nat) : Int) = kk at hv; subst hv; have H3 := Stp.trans (Stp.trans (Stp.trans hs1 hr0) hr1) hs3; have hlI3 := (hlI.step ((Stp.trans hr0 hr1))).step hs3; have hlR3 := (hlR.step ((Stp.trans hr0 hr1))).step hs3; have hlt3 : w.heap.size + 1 < v1_.heap.size := (hlI.step ((Stp.trans hr0 hr1))).lt; obtain ⟨a0, a1, a2, a3, a4, a5, a6, a7, a8, a9, af⟩ := ten_at hlI3.blk))
    go_at_call 109
    obtain ⟨hp4, H4⟩ := ten hp3 H3 (b := w.heap.size + 1) hsbz hlI3.gp hlI3.ne (.int .i64 kk) (.string f.v.1) (.int .i64 (f.v.2 : Int)) (.slice p1 ([] : List Pm).length c1) (.slice p2 ([] : List Rf).length c2) (.slice p3 ([] : List Tr).length c3) (.int .i64 0) (.int .i64 0) (.int .i64 ((tk L sz 1).a : Int)) (.slice none 0 0)
    have hblk4 := ten_blk hlI3.blk (.int .i64 kk) (.string f.v.1) (.int .i64 (f.v.2 : Int)) (.slice p1 ([] : List Pm).length c1) (.slice p2 ([] : List Rf).length c2) (.slice p3 ([] : List Tr).length c3) (.int .i64 0) (.int .i64 0) (.int .i64 ((tk L sz 1).a : Int)) (.slice none 0 0)
    have hfar4 : ∀ k, k ≠ w.heap.size + 1 → ((((((((((w3.setCell ⟨w.heap.size + 1, 0, none⟩ (.int .i64 kk)).setCell ⟨w.heap.size + 1, 1, none⟩ (.string f.v.1)).setCell ⟨w.heap.size + 1, 2, none⟩ (.int .i64 (f.v.2 : Int))).setCell ⟨w.heap.size + 1, 3, none⟩ (.slice p1 ([] : List Pm).length c1)).setCell ⟨w.heap.size + 1, 4, none⟩ (.slice p2 ([] : List Rf).length c2)).setCell ⟨w.heap.size + 1, 5, none⟩ (.slice p3 ([] : List Tr).length c3)).setCell ⟨w.heap.size + 1, 6, none⟩ (.int .i64 0)).setCell ⟨w.heap.size + 1, 7, none⟩ (.int .i64 0)).setCell ⟨w.heap.size + 1, 8, none⟩ (.int .i64 ((tk L sz 1).a : Int))).setCell ⟨w.heap.size + 1, 9, none⟩ (.slice none 0 0)).heap[k]? = w3.heap[k]? := fun k hk => ten_far hk (.int .i64 kk) (.string f.v.1) (.int .i64 (f.v.2 : Int)) (.slice p1 ([] : List Pm).length c1) (.slice p2 ([] : List Rf).length c2) (.slice p3 ([] : List Tr).length c3) (.int .i64 0) (.int .i64 0) (.int .i64 ((tk L sz 1).a : Int)) (.slice none 0 0)
    have hsz4 : ((((((((((w3.setCell ⟨w.heap.size + 1, 0, none⟩ (.int .i64 kk)).setCell ⟨w.heap.size + 1, 1, none⟩ (.string f.v.1)).setCell ⟨w.heap.size + 1, 2, none⟩ (.int .i64 (f.v.2 : Int))).setCell ⟨w.heap.size + 1, 3, none⟩ (.slice p1 ([] : List Pm).length c1)).setCell ⟨w.heap.size + 1, 4, none⟩ (.slice p2 ([] : List Rf).length c2)).setCell ⟨w.heap.size + 1, 5, none⟩ (.slice p3 ([] : List Tr).length c3)).setCell ⟨w.heap.size + 1, 6, none⟩ (.int .i64 0)).setCell ⟨w.heap.size + 1, 7, none⟩ (.int .i64 0)).setCell ⟨w.heap.size + 1, 8, none⟩ (.int .i64 ((tk L sz 1).a : Int))).setCell ⟨w.heap.size + 1, 9, none⟩ (.slice none 0 0)).heap.size = w3.heap.size := (by simp)
    clear a0 a1 a2 a3 a4 a5 a6 a7 a8 a9 af
    generalize ((((((((((w3.setCell ⟨w.heap.size + 1, 0, none⟩ (.int .i64 kk)).setCell ⟨w.heap.size + 1, 1, none⟩ (.string f.v.1)).setCell ⟨w.heap.size + 1, 2, none⟩ (.int .i64 (f.v.2 : Int))).setCell ⟨w.heap.size + 1, 3, none⟩ (.slice p1 ([] : List Pm).length c1)).setCell ⟨w.heap.size + 1, 4, none⟩ (.slice p2 ([] : List Rf).length c2)).setCell ⟨w.heap.size + 1, 5, none⟩ (.slice p3 ([] : List Tr).length c3)).setCell ⟨w.heap.size + 1, 6, none⟩ (.int .i64 0)).setCell ⟨w.heap.size + 1, 7, none⟩ (.int .i64 0)).setCell ⟨w.heap.size + 1, 8, none⟩ (.int .i64 ((tk L sz 1).a : Int))).setCell ⟨w.heap.size + 1, 9, none⟩ (.slice none 0 0)) = W4 at *
    have g1 : SlAt (okS v1_.heap.size gp D3 W4) W4 3 pmC ([] : List Pm) p1 := (h1.kept (fun k hk => hfar4 k (by have := hk.1; omega))).wide (fun k hk => ⟨hk.1, by rw [hsz4]; exact hk.2.1, hk.2.2⟩)
    have g2 : SlAt (okS v1_.heap.size gp D3 W4) W4 2 rfC ([] : List Rf) p2 := (h2.kept (fun k hk => hfar4 k (by have := hk.1; omega))).wide (fun k hk => ⟨hk.1, by rw [hsz4]; exact hk.2.1, hk.2.2⟩)
    have g3 : SlB n3 v1_.heap.size gp D3 W4 ([] : List Tr) p3 := SlT.kept h3 (fun k hk => hfar4 k (by have := hk.1; omega)) (fun k hk => ⟨hk.1, by rw [hsz4]; exact hk.2.1, hk.2.2⟩) (RdS.kept n3 (fun k hk => hfar4 k (by have := hk.1; omega)) (fun k hk => ⟨hk.1, by rw [hsz4]; exact hk.2.1, hk.2.2⟩))
    have hlI4 : Lc 36 gp D3 W4 (w.heap.size + 1) #[.int .i64 kk, .string f.v.1, .int .i64 (f.v.2 : Int), .slice p1 ([] : List Pm).length c1, .slice p2 ([] : List Rf).length c2, .slice p3 ([] : List Tr).length c3, .int .i64 0, .int .i64 0, .int .i64 ((tk L sz 1).a : Int), .slice none 0 0] := ⟨hblk4, hlI3.gp, hlI3.ne⟩
    have hlR4 : Lc 36 gp D3 W4 w.heap.size #[.int .i64 0, .string ⟨#[]⟩, .int .i64 0, .slice none 0 0, .slice none 0 0, .slice none 0 0, .int .i64 0, .int .i64 0, .int .i64 0, .slice none 0 0] := ⟨(hfar4 _ hn1).trans hlR3.blk, hlR3.gp, hlR3.ne⟩
    refine (left_any hp4).mono ?_
    rintro e w5 ⟨rfl, hb5⟩
    rw [hlf]
    have hp5 := hp4.below hb5
    have hs5 := Stp.below (gp := gp) (D := D3) hb5
    have hlI5 := hlI4.step hs5
    have hlR5 := hlR4.step hs5
    obtain ⟨a0, a1, a2, a3, a4, a5, a6, a7, a8, a9, af⟩ := ten_at hlI5.blk
    obtain ⟨r0, r1, r2, r3, r4, r5, r6, r7, r8, r9, rf⟩ := ten_at hlR5.blk
    go_wp2
    have hzz : w.heap.size + 1 ≤ v1_.heap.size := by omega
    obtain ⟨f1, f2, f3, f4, f5⟩ := it_fin hfr hp5 (H4.trans hs5) ((g1.step hs5).low hzz) ((g2.step hs5).low hzz) ((g3.step hs5).low hzz) rfl
    exact bodyPost_ret (v := .agg #[.int .i64 kk, .string f.v.1, .int .i64 (f.v.2 : Int), .slice p1 ([] : List Pm).length c1, .slice p2 ([] : List Rf).length c2, .slice p3 ([] : List Tr).length c3, .int .i64 0, .int .i64 0, .int .i64 ((tk L sz 1).a : Int), .slice none 0 0]) (by simp [results, Tryz.results82, go_sem, r0, r1, r2, r3, r4, r5, r6, r7, r8, r9]) rfl ⟨_, rfl, _, D3, _, _, _, _, _, _, _, by simpa using f1, f2, by rw [← hk0], f3, f4, f5⟩
set_option maxHeartbeats 2000000 in
set_option maxRecDepth 100000 in
theorem item_none (hp : PSt gp w L sz 0 0 ds D) (hw0 : isT L 0 kFn = false) (hw1 : isT L 0 kChan = false) (hds : ds.length + (pIt L sz).ds.length + 1 ≤ 1099511627776) :
    Calls Tryz.prog 82 #[.pointer (some ⟨gp, 0, none⟩)] w fun e w' => ∃ v, e = .returned v ∧ ItTold gp L sz D ds w w' (pIt L sz) v := by
  have hgp := hp.gp_lt
  have hb0 := (Below.refl w.heap.size w).alloc (Nat.le_refl _) (.cells #[.int .i64 0, .string ⟨#[]⟩, .int .i64 0, .slice none 0 0, .slice none 0 0, .slice none 0 0, .int .i64 0, .int .i64 0, .int .i64 0, .slice none 0 0] 36)
  have hb1 := (Below.refl (w.alloc (.cells #[.int .i64 0, .string ⟨#[]⟩, .int .i64 0, .slice none 0 0, .slice none 0 0, .slice none 0 0, .int .i64 0, .int .i64 0, .int .i64 0, .slice none 0 0] 36)).heap.size (w.alloc (.cells #[.int .i64 0, .string ⟨#[]⟩, .int .i64 0, .slice none 0 0, .slice none 0 0, .slice none 0 0, .int .i64 0, .int .i64 0, .int .i64 0, .slice none 0 0] 36))).alloc (Nat.le_refl _) (.cells #[.int .i64 0, .string ⟨#[]⟩, .int .i64 0, .slice none 0 0, .slice none 0 0, .slice none 0 0, .int .i64 0, .int .i64 0, .int .i64 0, .slice none 0 0] 36)
  have hp0 := hp.below hb0
  have hp1 := hp0.below hb1
  have hfr := hp.fresh (Nat.le_refl w.heap.size)
  have hlR := (Lc.new 36 hp #[.int .i64 0, .string ⟨#[]⟩, .int .i64 0, .slice none 0 0, .slice none 0 0, .slice none 0 0, .int .i64 0, .int .i64 0, .int .i64 0, .slice none 0 0]).step (Stp.below hb1)
  have hlI : Lc 36 gp D ((w.alloc (.cells #[.int .i64 0, .string ⟨#[]⟩, .int .i64 0, .slice none 0 0, .slice none 0 0, .slice none 0 0, .int .i64 0, .int .i64 0, .int .i64 0, .slice none 0 0] 36)).alloc (.cells #[.int .i64 0, .string ⟨#[]⟩, .int .i64 0, .slice none 0 0, .slice none 0 0, .slice none 0 0, .int .i64 0, .int .i64 0, .int .i64 0, .slice none 0 0] 36)) (w.heap.size + 1) #[.int .i64 0, .string ⟨#[]⟩, .int .i64 0, .slice none 0 0, .slice none 0 0, .slice none 0 0, .int .i64 0, .int .i64 0, .int .i64 0, .slice none 0 0] := by have h := Lc.new 36 hp0 #[.int .i64 0, .string ⟨#[]⟩, .int .i64 0, .slice none 0 0, .slice none 0 0, .slice none 0 0, .int .i64 0, .int .i64 0, .int .i64 0, .slice none 0 0]; simpa using h
  have hn1 : w.heap.size ≠ w.heap.size + 1 := by omega
  have hsbz : (w.alloc (.cells #[.int .i64 0, .string ⟨#[]⟩, .int .i64 0, .slice none 0 0, .slice none 0 0, .slice none 0 0, .int .i64 0, .int .i64 0, .int .i64 0, .slice none 0 0] 36)).heap.size ≤ w.heap.size + 1 := by simp
  have hs1 : Stp gp D D (w.alloc (.cells #[.int .i64 0, .string ⟨#[]⟩, .int .i64 0, .slice none 0 0, .slice none 0 0, .slice none 0 0, .int .i64 0, .int .i64 0, .int .i64 0, .slice none 0 0] 36)) ((w.alloc (.cells #[.int .i64 0, .string ⟨#[]⟩, .int .i64 0, .slice none 0 0, .slice none 0 0, .slice none 0 0, .int .i64 0, .int .i64 0, .int .i64 0, .slice none 0 0] 36)).alloc (.cells #[.int .i64 0, .string ⟨#[]⟩, .int .i64 0, .slice none 0 0, .slice none 0 0, .slice none 0 0, .int .i64 0, .int .i64 0, .int .i64 0, .slice none 0 0] 36)) := Stp.below hb1
  rw [pIt_none hw0 hw1] at hds ⊢
  unfold ItTold
  simp only at hds ⊢
  have hd1 : ds.length + 1 ≤ 1099511627776 := by simp only [List.length_singleton] at hds; omega
  have F0 : Hid (1 = 1) := rfl
  have F1 : Hid (1 = 1) := rfl
  go_enter Tryz.func82, Tryz.ntmps82
  go_wp2_with (first
    | (go_at_call 105; have f := F0; clear f F0; refine (take_any hp1 kFn (by decide)).mono ?_; rintro e v0_ ⟨rfl, hq0, hr0⟩; rw [hw0] at hq0 ⊢; simp only [Bool.false_eq_true, if_false] at hq0)
    | (go_at_call 105; have f := F1; clear f F1; refine (take_any hq0 kChan (by decide)).mono ?_; rintro e v1_ ⟨rfl, hq1, hr1⟩; rw [hw1] at hq1 ⊢; simp only [Bool.false_eq_true, if_false] at hq1)
    | (go_at_call 108; refine (tell_any hq1 2 hd1).mono ?_; rintro e w3 ⟨rfl, D3, hp3, hs3⟩; have hlR3 := (hlR.step (Stp.trans hr0 hr1)).step hs3; obtain ⟨r0, r1, r2, r3, r4, r5, r6, r7, r8, r9, rf⟩ := ten_at hlR3.blk))
  obtain ⟨f1, f2, f3, f4, f5⟩ := it_fin hfr hp3 (Stp.trans (Stp.trans hs1 (Stp.trans hr0 hr1)) hs3) (SlAt.nil _ _ _ _ none) (SlAt.nil _ _ _ _ none) (SlB.nil 0 _ _ _ _ none) rfl
  exact bodyPost_ret (v := .agg #[.int .i64 3, .string ⟨#[]⟩, .int .i64 0, .slice none 0 0, .slice none 0 0, .slice none 0 0, .int .i64 0, .int .i64 0, .int .i64 0, .slice none 0 0]) (by simp [results, Tryz.results82, go_sem, r0, r1, r2, r3, r4, r5, r6, r7, r8, r9]) rfl ⟨_, rfl, _, D3, _, _, _, _, _, _, _, f1, f2, rfl, f3, f4, f5⟩
theorem item_any (hp : PSt gp w L sz 0 0 ds D) (hds : ds.length + (pIt L sz).ds.length + 1 ≤ 1099511627776) :
    Calls Tryz.prog 82 #[.pointer (some ⟨gp, 0, none⟩)] w fun e w' => ∃ v, e = .returned v ∧ ItTold gp L sz D ds w w' (pIt L sz) v := by
  cases hw0 : isT L 0 kFn
  · cases hw1 : isT L 0 kChan
    · exact item_none hp hw0 hw1 hds
    · exact item_chan hp hw0 hw1 hds
  · exact item_fn hp hw0 hds
end
end Go.Proofs.YtfioihehhlpgcaaGreatDoor
namespace Go.Proofs.YtfioihehhlpgcaaGreatDoor
open Go.RowKit
attribute [local go_sem ↓] Go.wp_at_zero Go.wp_at_succ
/-- The reader at its start. -/
theorem st0 {w1 : World} {s : ByteArray} {p : Option Addr} {cap : Nat} (htok : 0 < (tks s).length → ∃ g, p = some ⟨g, 0, none⟩ ∧ g < w1.heap.size ∧ TokAt w1 g 0 (tks s)) (hV : 2 < w1.heap.size ∧ VarOk w1) (hs : s.size ≤ 1048576) :
    PSt w1.heap.size (w1.alloc (.cells #[.slice p (tks s).length cap, .int .i64 (s.size : Int), .int .i64 0, .int .i64 0, .int .i64 0, .slice none 0 0] 150)) (tks s) s.size 0 0 [] none := by
  have hl := tks_len s
  refine ⟨⟨p, cap, .slice none 0 0, ?_, fun h0 => ?_, World.ownsRow_nil _ _ _ _, rfl⟩, by omega, by omega, tks_facts s, Nat.zero_le _, by omega, hV.1, hV.2.kept (Below.heap_alloc w1 _ _ hV.1)⟩
  · rw [heap_alloc_new]; simp [endT]
  · obtain ⟨g, e1, e2, e3⟩ := htok h0
    exact ⟨g, e1, e2, e3.kept (Below.heap_alloc w1 _ g e2)⟩
theorem own_diags {w : World} {B : Nat} {v : Value} {ds : List Dg} (h : w.ownsRow B 81 4 v ds.length (dsC ds)) (hl : ds.length ≤ 1099511627776) : ∃ p c, v = .slice p ds.length c ∧ SlAt (fun k => B ≤ k ∧ k < w.heap.size) w 4 dgC ds p := by
  have hlt := fun g e => h.lt g e
  have hcells : ∀ g, v.ownBlock = some g → ∀ j u, (dsC ds)[j]? = some u → w.cell? ((⟨g, 0, none⟩ : Addr).add j) = some u := fun g hg => h.cells hg
  obtain ⟨_, ⟨rfl, h0⟩ | ⟨g, cap, cur, rfl, hb, hg, hcap, _⟩⟩ := h
  · exact ⟨none, 0, by rw [h0], hl, fun h1 => by omega⟩
  · have e : ∀ i, (⟨g, 0, none⟩ : Addr).add i = ⟨g, i, none⟩ := by intro i; simp only [Addr.add, Nat.zero_add]; split <;> simp_all
    refine ⟨_, cap, rfl, hl, fun _ => ⟨g, rfl, ⟨hb, (hlt g rfl).2⟩, fun j t hj i u hi => ?_⟩⟩
    have hv : ∀ c ∈ ds.map dgC, c.length = 4 := fun c hc => by obtain ⟨d, _, rfl⟩ := List.mem_map.1 hc; rfl
    have := flat_at hv j (dgC t) (by simp [hj]) i u hi
    have := hcells g rfl _ _ (by rw [dsC, List.flatMap_def]; exact this)
    rwa [e] at this
theorem Stp.low {gp B : Nat} {D' : Option Nat} {w w' : World} (h : Stp gp none D' w w') (hB : B ≤ gp) (hw : B ≤ w.heap.size) : Below B w w' := ⟨h.os, h.tape, h.output, h.size, fun k hk => h.block k (by omega) (by omega) (by simp)⟩
theorem drew_heap (w : World) : w.drew.heap = w.heap := rfl
theorem below_drew {B : Nat} {a w : World} (h : Below B a w) : Below B a w.drew := ⟨h.os, h.tape, h.output, h.size, h.block⟩
set_option maxHeartbeats 2000000 in
set_option maxRecDepth 100000 in
theorem Item_any (s : ByteArray) (at_ : Int) (w : World) (hs : s.size ≤ 1048576) (hV : 2 < w.heap.size ∧ VarOk w) :
    Calls Tryz.prog 57 #[.string s, .int .i64 at_] w fun e w' => ∃ v, e = .returned v ∧ RdI (fun k => w.heap.size ≤ k ∧ k < w'.heap.size) w' at_ (itm s) v ∧ Below w.heap.size w w' := by
  have hb0 := (Below.refl w.heap.size w).alloc (Nat.le_refl _) (.cells #[.int .i64 0, .string ⟨#[]⟩, .int .i64 0, .slice none 0 0, .slice none 0 0, .slice none 0 0, .int .i64 0, .int .i64 0, .int .i64 0, .slice none 0 0] 36)
  have hmuch := item_much (sz := s.size) (tks_okT s)
  have htl := tks_len s
  unfold itm
  go_enter Tryz.func57, Tryz.ntmps57
  go_wp2_with (first
    | (go_at_call 81; refine (tokens_read s _ (by omega)).mono ?_; rintro e w1 ⟨p, cap, rfl, hcap, htok, hb1⟩; have hV1 : 2 < w1.heap.size ∧ VarOk w1 := ⟨Nat.lt_of_lt_of_le (Nat.lt_of_lt_of_le hV.1 hb0.size) hb1.size, (hV.2.kept (hb0.block _ hV.1)).kept (hb1.block _ (Nat.lt_of_lt_of_le hV.1 hb0.size))⟩; have hP := st0 (cap := cap) (fun h0 => (let ⟨g, e1, _, e3, e4⟩ := htok h0; ⟨g, e1, e3, e4⟩)) hV1 hs; have hsz1 : w.heap.size + 1 ≤ w1.heap.size := (by simpa using hb1.size))
    | (go_at_call 82; refine (item_any hP (by simp; omega)).mono ?_; rintro e w3 ⟨v, rfl, q, D3, n3, p1, c1, p2, c2, p3, c3, hp3, hs3, hv, h1, h2, h3⟩; subst hv; obtain ⟨x0, x1, v5, y0, y1, y2, y3, y4, y5, yf, _, hown, hD⟩ := hp3.cells; rw [List.nil_append] at hown; obtain ⟨p4, c4, hv5, hdg⟩ := own_diags hown (by omega); subst hv5; have z5 := cell_alloc y5; clear y0 y1 y2 y3 y4 yf hown; have hg3 := hp3.gp_lt; have hn1 : ¬ w3.heap.size = w1.heap.size := (by omega); have hn2 : ¬ w1.heap.size = w3.heap.size := (by omega); have hn3 : ¬ w3.heap.size = w.heap.size := (by omega); have hn4 : ¬ w.heap.size = w3.heap.size := (by omega); have hR3 := (hs3.block w.heap.size (by simp; omega) (by omega) (by simp)).trans ((Below.heap_alloc w1 _ w.heap.size (by omega)).trans ((hb1.block w.heap.size (by simp)).trans (heap_alloc_new w _))); obtain ⟨r0, r1, r2, r3, r4, r5, r6, r7, r8, r9, rf⟩ := ten_at hR3; have s0 := cell_alloc r0; have s1 := cell_alloc r1; have s2 := cell_alloc r2; have s3 := cell_alloc r3; have s4 := cell_alloc r4; have s5 := cell_alloc r5; have s6 := cell_alloc r6; have s7 := cell_alloc r7; have s8 := cell_alloc r8; have s9 := cell_alloc r9; have sf : ∀ o k, (w3.alloc o).frozen? ⟨w.heap.size, k, none⟩ = false := (fun o k => frozen_alloc (rf k) (by show w.heap.size < w3.heap.size; omega) o); clear r0 r1 r2 r3 r4 r5 r6 r7 r8 r9 rf))
  go_region
  go_wp2
  have hz0 := it_sz (tks s) s.size
  generalize pIt (tks s) s.size = it at *
  have hlow : Below w.heap.size w w3 := (hb0.trans (hb1.mono hb0.size)).trans (((Below.refl w1.heap.size w1).alloc (Nat.le_refl _) _).mono (by omega) |>.trans (hs3.low (by omega) (by simp; omega)))
  refine bodyPost_ret (v := .agg #[.int .i64 (it.k : Int), .string it.x, .int .i64 (it.l : Int), .slice p1 it.ps.length c1, .slice p2 it.ss.length c2, .slice p3 it.bd.length c3, .int .i64 at_, .int .i64 (s.size : Int), .int .i64 (it.mrk : Int), .slice p4 it.ds.length c4]) (by simp [results, Tryz.results57, go_sem, s0, s1, s2, s3, s4, s5, s6, s7, s8, s9]) rfl ⟨_, rfl, ?_, ?_⟩
  · refine RdI.kept (w := w3) (ok := fun k => w.heap.size + 1 ≤ k ∧ k < w3.heap.size) ?_ (fun k hk => ?_) (fun k hk => ⟨by omega, ?_⟩)
    · have e1 : ∀ k, okS (w1.alloc (.cells #[.slice p (tks s).length cap, .int .i64 (s.size : Int), .int .i64 0, .int .i64 0, .int .i64 0, .slice none 0 0] 150)).heap.size w1.heap.size D3 w3 k → w.heap.size + 1 ≤ k ∧ k < w3.heap.size := fun k hk => ⟨by have h9 := hk.1; simp at h9; omega, hk.2.1⟩
      refine ⟨p1, c1, p2, c2, p3, c3, p4, c4, ?_, h1.wide e1, h2.wide e1, ⟨n3, SlT.kept h3 (fun _ _ => rfl) e1 (RdS.kept n3 (fun _ _ => rfl) e1)⟩, hdg.wide (fun k hk => ⟨by omega, hk.2⟩)⟩
      rw [hz0]
    · rw [drew_heap]
      exact (ten_far (show k ≠ w.heap.size by omega) (.int .i64 (it.k : Int)) (.string it.x) (.int .i64 (it.l : Int)) (.slice p1 it.ps.length c1) (.slice p2 it.ss.length c2) (.slice p3 it.bd.length c3) (.int .i64 at_) (.int .i64 (s.size : Int)) (.int .i64 (it.mrk : Int)) (.slice p4 it.ds.length c4)).trans (Below.heap_alloc w3 _ k hk.2)
    · have := hk.2
      rw [drew_heap]
      simp
      omega
  · refine below_drew ?_
    exact ((((((((((hlow.alloc hlow.size _).setCell (Nat.le_refl _) _).setCell (Nat.le_refl _) _).setCell (Nat.le_refl _) _).setCell (Nat.le_refl _) _).setCell (Nat.le_refl _) _).setCell (Nat.le_refl _) _).setCell (Nat.le_refl _) _).setCell (Nat.le_refl _) _).setCell (Nat.le_refl _) _).setCell (Nat.le_refl _) _
end Go.Proofs.YtfioihehhlpgcaaGreatDoor

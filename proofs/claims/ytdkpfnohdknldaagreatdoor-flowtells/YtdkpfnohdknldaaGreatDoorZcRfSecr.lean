/- The document's Secrets of an item. -/
import Derived.Test.YtdkpfnohdknldaaGreatDoorZf35
namespace Go.Proofs.YtdkpfnohdknldaaGreatDoor
open Go.RowKit Go.WideMaps Go.Maps
set_option linter.unusedVariables false
attribute [local go_sem ↓] Go.wp_at_zero Go.wp_at_succ
theorem scQ_len : ∀ (L : List Pm) (env : Env), (scQ env L).length ≤ env.length + L.length := by
  intro L
  induction L with
  | nil => intro env; exact Nat.le_refl _
  | cons p r ih =>
    intro env
    show (scQ (scMk env p.x p.l) r).length ≤ _
    have h := ih (scMk env p.x p.l)
    have h2 : (scMk env p.x p.l).length ≤ env.length + 1 := by unfold scMk; split <;> simp
    rw [List.length_cons]
    omega
structure RelSc (bn : Nat) (l : List (Int × It)) (i : Nat) (at_ : Int) (fq : Option Addr) (fc : Nat) (bm : Nat) (w : World) (E : Nat → Env) (n : Nat) (j : Value) (wr : World) : Prop where
  at_ : ∃ k : Nat, k ≤ n ∧ j = .int .i64 (k : Int) ∧ RF bn l i at_ fq fc wr [] none ∧ Stp bn none none w wr ∧ MpL wr bm (E k) (E k).length ∧ okS 0 bn none wr bm
set_option maxHeartbeats 4000000 in
set_option maxRecDepth 100000 in
theorem rf_secrets (l : List (Int × It)) (q : Option Addr) (c : Nat) (w : World) (ok : Nat → Prop) (hok : ∀ k, ok k → k < w.heap.size) (hR : RdF ok w l (.agg #[.slice q l.length c])) (hlb : ∀ e ∈ l, e.2.l < 256 ∧ ∀ p ∈ e.2.ps, p.l < 256) (hP : ∀ e ∈ l, e.2.ps.length ≤ 5) (i : Nat) (pp : Int) (it : It) (hi : l[i]? = some (pp, it)) (T : List Tok) (hw : WfI T it) (hT : T.length ≤ 1000000) (nl : Nat) (hl : ∀ s ∈ it.bd, lbW nl s) (hn : (noF (fvJ l (flA l) i)).length < 1099511627776) (at_ : Int) :
    Calls Tryz.prog 18 #[.agg #[.slice q l.length c], .int .i64 (i : Int), .int .i64 at_] w fun e w' => e = .returned (.pointer (some ⟨w.heap.size + 1, 0, none⟩)) ∧ (∃ D, RF (w.heap.size + 1) l i at_ q c w' (fvJ l (flA l) i) D) ∧ Below w.heap.size w w' := by
  have hlen : l.length ≤ 1099511627776 := by obtain ⟨_, _, _, h, _⟩ := hR; exact h
  have hil := (List.getElem?_eq_some_iff.1 hi).1
  have hb1 := (Below.refl w.heap.size w).alloc (Nat.le_refl _) (.cells #[.slice q l.length c] 25)
  have e1 : (w.alloc (.cells #[.slice q l.length c] 25)).heap.size = w.heap.size + 1 := by simp
  have hb2 := hb1.alloc (by simp) (.cells #[.slice q l.length c, .int .i64 (i : Int), .slice none 0 0, .int .i64 at_, .bool false, .int .i64 0] 53)
  have hb12 := (Below.refl (w.alloc (.cells #[.slice q l.length c] 25)).heap.size (w.alloc (.cells #[.slice q l.length c] 25))).alloc (Nat.le_refl _) (.cells #[.slice q l.length c, .int .i64 (i : Int), .slice none 0 0, .int .i64 at_, .bool false, .int .i64 0] 53)
  have e2 : ((w.alloc (.cells #[.slice q l.length c] 25)).alloc (.cells #[.slice q l.length c, .int .i64 (i : Int), .slice none 0 0, .int .i64 at_, .bool false, .int .i64 0] 53)).heap.size = w.heap.size + 2 := by simp
  have hnn := heap_alloc_new (w.alloc (.cells #[.slice q l.length c] 25)) (.cells #[.slice q l.length c, .int .i64 (i : Int), .slice none 0 0, .int .i64 at_, .bool false, .int .i64 0] 53)
  rw [e1] at hnn
  have y0 := (World.cell?_of_block (a := ⟨w.heap.size, 0, none⟩) (hb12.block w.heap.size (by omega))).trans (one_new w (.slice q l.length c) 25)
  have hRW : RdF (fun k => k < w.heap.size + 1) ((w.alloc (.cells #[.slice q l.length c] 25)).alloc (.cells #[.slice q l.length c, .int .i64 (i : Int), .slice none 0 0, .int .i64 at_, .bool false, .int .i64 0] 53)) l (.agg #[.slice q l.length c]) := RdF.kept hR (fun k hk => hb2.block k (hok k hk)) (fun k hk => Nat.lt_succ_of_lt (hok k hk))
  have hs0 : RF (w.heap.size + 1) l i at_ q c ((w.alloc (.cells #[.slice q l.length c] 25)).alloc (.cells #[.slice q l.length c, .int .i64 (i : Int), .slice none 0 0, .int .i64 at_, .bool false, .int .i64 0] 53)) [] none := ⟨⟨_, hnn, World.ownsRow_nil _ _ _ _, rfl, hRW⟩⟩
  obtain ⟨g, vI, hq, hgo, hcv, hI⟩ := RdF.itemF hRW hi
  obtain ⟨p1, c1, p2, c2, p3, c3, p4, c4, rfl, hPs, _, ⟨nb, hB⟩, _⟩ := hI
  have i0 := hcv.get 0 _ rfl
  have i3 := hcv.get 3 _ rfl
  have i5 := hcv.get 5 _ rfl
  rw [Nat.add_zero] at i0
  have gi : (0 : Int) ≤ (i : Int) := by omega
  have gi1 : (i : Int) < (l.length : Int) := by omega
  have hib : i < 1099511627776 := by omega
  subst hq
  have HB := hid hb2
  have hev : fvJ l (flA l) i = if it.k = 2 then fvB l (flA l) it.l 0 (scQ [] it.ps) it.bd else [] := by unfold fvJ; rw [hi]
  rw [hev] at hn ⊢
  by_cases hk : it.k = 2
  · rw [if_pos hk] at hn ⊢
    have g2 : ((it.k : Int) == 2) = true := by rw [hk]; rfl
    have hbm := (Below.refl ((w.alloc (.cells #[.slice (some ⟨g, 0, none⟩) l.length c] 25)).alloc (.cells #[.slice (some ⟨g, 0, none⟩) l.length c, .int .i64 (i : Int), .slice none 0 0, .int .i64 at_, .bool false, .int .i64 0] 53)).heap.size ((w.alloc (.cells #[.slice (some ⟨g, 0, none⟩) l.length c] 25)).alloc (.cells #[.slice (some ⟨g, 0, none⟩) l.length c, .int .i64 (i : Int), .slice none 0 0, .int .i64 at_, .bool false, .int .i64 0] 53))).alloc (Nat.le_refl _) (.map #[] 0)
    have hmm := @run_makeMap Tryz.prog
    obtain ⟨hPl, hPh⟩ := hPs
    have hps5 := hw.pn
    have HPx := hid (fun (j : Nat) (p : Pm) (h : it.ps[j]? = some p) => show p.x.size ≤ maxLen ∧ p.l < 256 by
      refine ⟨?_, (hlb _ (List.mem_of_getElem? hi)).2 p (List.mem_of_getElem? h)⟩
      rcases hw.ps p (List.mem_of_getElem? h) with h | h
      · rw [h]; decide
      · have := tkn_size h; unfold maxLen; omega)
    obtain ⟨nw, hwb⟩ := hw.bd
    have HEk := hid (fun k a (h : it.ps[k]? = some a) => show scQ [] (it.ps.take (k + 1)) = scMk (scQ [] (it.ps.take k)) a.x a.l by rw [List.take_add_one, h]; simp only [Option.toList_some]; rw [scQ_app])
    have HEl := hid (fun k => show (scQ [] (it.ps.take k)).length ≤ 5 by have := scQ_len (it.ps.take k) []; rw [List.length_take, List.length_nil] at this; omega)
    have HEz : Hid (scQ [] (it.ps.take it.ps.length) = scQ [] it.ps) := by show _ = _; rw [List.take_length]
    have HE0 : Hid (scQ [] (it.ps.take 0) = []) := by show _ = _; rw [List.take_zero]; rfl
    generalize hEd : (fun k => scQ [] (it.ps.take k)) = E
    have hEk : ∀ k, scQ [] (it.ps.take k) = E k := fun k => by rw [← hEd]
    simp only [hEk] at HEk HEl HEz HE0
    rw [← HEz.out] at hn ⊢
    clear hEd hEk HEz
    have HBl := hid (fun (wr : World) (hsr : RF (w.heap.size + 1) l i at_ (some ⟨g, 0, none⟩) c wr [] none) (hstr : Stp (w.heap.size + 1) none none ((w.alloc (.cells #[.slice (some ⟨g, 0, none⟩) l.length c] 25)).alloc (.cells #[.slice (some ⟨g, 0, none⟩) l.length c, .int .i64 (i : Int), .slice none 0 0, .int .i64 at_, .bool false, .int .i64 0] 53)) wr) (hmr : MpL wr (w.heap.size + 2) (E it.ps.length) (E it.ps.length).length) (hokr : okS 0 (w.heap.size + 1) none wr (w.heap.size + 2)) => rf_block (bk := it.l) hlb hP ⟨_, hi, rfl⟩ nw none wr [] (E it.ps.length) (w.heap.size + 2) it.bd p3 c3 nb T.length 0 nl hsr hmr hokr (hB.kept (Stp.lowF hstr hs0) (fun _ h => h) (RdS.kept nb (Stp.lowF hstr hs0) (fun _ h => h))) hwb hl (by have := HEl.out it.ps.length; omega) (by decide) (by rw [List.nil_append]; exact hn))
    have HPl := hid (fun (wr : World) (hstr : Stp (w.heap.size + 1) none none ((w.alloc (.cells #[.slice (some ⟨g, 0, none⟩) l.length c] 25)).alloc (.cells #[.slice (some ⟨g, 0, none⟩) l.length c, .int .i64 (i : Int), .slice none 0 0, .int .i64 at_, .bool false, .int .i64 0] 53)) wr) (z : Nat) (hz : z < w.heap.size + 1) => Stp.lowF hstr hs0 z hz)
    have HGO := hid hgo
    have HM0 := hid (show RelSc (w.heap.size + 1) l i at_ (some ⟨g, 0, none⟩) c (w.heap.size + 2) ((w.alloc (.cells #[.slice (some ⟨g, 0, none⟩) l.length c] 25)).alloc (.cells #[.slice (some ⟨g, 0, none⟩) l.length c, .int .i64 (i : Int), .slice none 0 0, .int .i64 at_, .bool false, .int .i64 0] 53)) E it.ps.length (.int .i64 (0 : Nat)) (((w.alloc (.cells #[.slice (some ⟨g, 0, none⟩) l.length c] 25)).alloc (.cells #[.slice (some ⟨g, 0, none⟩) l.length c, .int .i64 (i : Int), .slice none 0 0, .int .i64 at_, .bool false, .int .i64 0] 53)).alloc (.map #[] 0)) from ⟨0, Nat.zero_le _, rfl, hs0.below hbm, Stp.below hbm, by rw [HE0.out, ← e2]; exact mp_nil _, by rw [← e2]; exact hs0.fresh (Nat.le_refl _) (by simp)⟩)
    have m0 := cell_alloc i0 (.map #[] 0)
    have m3 := cell_alloc i3 (.map #[] 0)
    have n0 := cell_alloc y0 (.map #[] 0)
    have HE2 := hid e2
    clear hcv hR hRW hs0 hB hbm hb1 hb2 hb12 hnn hev hk hn hl hlb hwb hw hok hgo
    go_enter Tryz.func18, Tryz.ntmps18
    go_wp2
    generalize hWq : (w.alloc (.cells #[.slice (some ⟨g, 0, none⟩) l.length c] 25)).alloc (.cells #[.slice (some ⟨g, 0, none⟩) l.length c, .int .i64 (i : Int), .slice none 0 0, .int .i64 at_, .bool false, .int .i64 0] 53) = W at *
    clear hWq
    try rw [e2]
    go_loopw [31] (fun j wr => RelSc (w.heap.size + 1) l i at_ (some ⟨g, 0, none⟩) c (w.heap.size + 2) W E it.ps.length j wr) (fun j _ => upN it.ps.length j)
    case atStart => exact HM0.out
    case round =>
      obtain ⟨j, hjl, rfl, hsr, hstr, hmr, hokr⟩ := hrel.at_
      clear HM0 hrel m0 m3 n0
      by_cases hlt : j < it.ps.length
      · obtain ⟨gp, rfl, hgpo, hFp⟩ := hPh (by omega)
        obtain ⟨pr, hpr⟩ : ∃ p, it.ps[j]? = some p := ⟨_, List.getElem?_eq_getElem hlt⟩
        have hcell : ∀ o, wr.cell? ⟨gp, o, none⟩ = W.cell? ⟨gp, o, none⟩ := fun o => World.cell?_of_block (a := ⟨gp, o, none⟩) (HPl.out wr hstr gp hgpo)
        have s0 := (hcell (j * 3 + 0)).trans (hFp j pr hpr 0 (.string pr.x) rfl)
        have s1 := (hcell (j * 3 + 1)).trans (hFp j pr hpr 1 (.int .i64 (pr.l : Int)) rfl)
        have s2 := (hcell (j * 3 + 2)).trans (hFp j pr hpr 2 (.int .i64 (pr.a : Int)) rfl)
        rw [Nat.add_zero] at s0
        have gj : (0 : Int) ≤ (j : Int) := by omega
        have gj1 : (j : Int) < (it.ps.length : Int) := by omega
        have hjb : j < 1099511627776 := by omega
        have hba := (Below.refl wr.heap.size wr).alloc (Nat.le_refl _) (.cells #[.string pr.x, .int .i64 (pr.l : Int), .int .i64 (pr.a : Int)] 62)
        have hok1 := okS.step (Stp.below (gp := w.heap.size + 1) (D := none) hba) (B := 0)
        have hel := HEl.out j
        obtain ⟨w5, hrun, hm5, hg5⟩ := mp_put (hmr.kept (hok1.1 _ hokr)) pr.x pr.l (HPx.out j pr hpr).2 (HPx.out j pr hpr).1 (by unfold maxLen; omega)
        have HG := hid (And.intro hm5 (And.intro hg5 (And.intro (hsr.below hba) (And.intro (hstr.trans (Stp.below hba)) (hok1.2 _ hokr)))))
        have HN := hid (HEk.out j pr hpr)
        have HL := hid hlt
        clear hm5 hg5 hba hok1 hsr hstr hmr hokr hFp hcell hpr hlt hjl
        go_wp2
        go_roundw
        case rel => exact ⟨j + 1, HL.out, by go_num, HG.out.2.2.1.grown HG.out.2.1 (by omega) (fun e => by cases e), HG.out.2.2.2.1.grown HG.out.2.1 (fun k e => by injection e with e; have := HE2.out; omega), by rw [HN.out]; exact HG.out.1, ⟨Nat.zero_le _, Nat.lt_of_lt_of_le HG.out.2.2.2.2.2.1 HG.out.2.1.size, HG.out.2.2.2.2.2.2⟩⟩
        case measure => have := HL.out; simp [upN, intOf]; omega
      · obtain rfl : j = it.ps.length := by omega
        have HC := hid (HBl.out wr hsr hstr hmr hokr)
        have b0 := (World.cell?_of_block (a := ⟨w.heap.size, 0, none⟩) (HPl.out wr hstr w.heap.size (by omega))).trans y0
        have b5 := (World.cell?_of_block (a := ⟨g, i * 10 + 5, none⟩) (HPl.out wr hstr g HGO.out)).trans i5
        have HST := hid hstr
        clear hlt hjl hmr hokr hsr hstr y0 i0 i3 i5
        go_wp2_with (first
          | (go_at_call 45; refine Calls.mono HC.out ?_; rintro e w6 ⟨rfl, D6, hs6, hst6⟩))
        go_ret
        have hst := HST.out.trans hst6
        exact ⟨rfl, ⟨D6, by rw [List.nil_append] at hs6; exact hs6⟩, HB.out.trans ⟨hst.os, hst.tape, hst.output, hst.size, fun k hk => hst.block k (by have := HE2.out; omega) (by omega) (fun e => by cases e)⟩⟩
  · rw [if_neg hk]
    have g2 : ((it.k : Int) == 2) = false := by simp; omega
    have HS := hid hs0
    clear hcv hR hRW hs0 hB hb1 hb2 hb12 hnn hev hk hn hl hlb hw hok hgo hPs
    go_enter Tryz.func18, Tryz.ntmps18
    go_wp2
    try rw [e1]
    go_ret
    exact ⟨rfl, ⟨none, HS.out⟩, HB.out⟩
end Go.Proofs.YtdkpfnohdknldaaGreatDoor

/- A more secret channel tells no more: the law FlowMore. -/
import Derived.Test.YtgifjkljpbbegaaGreatDoorZcLawFMor2
namespace Go.Proofs.YtgifjkljpbbegaaGreatDoor
open Go.RowKit
set_option linter.unusedVariables false
attribute [local go_sem ↓] Go.wp_at_zero Go.wp_at_succ
theorem own_emptyF (w : World) (T : TypeId) (st : Nat) : (w.alloc (.cells #[] T)).ownsRow w.heap.size T st (.slice (some ⟨w.heap.size, 0, none⟩) 0 0) 0 [] :=
  ⟨by simp, .inr ⟨w.heap.size, 0, #[], rfl, Nat.le_refl _, heap_alloc_new w _, Nat.le_refl _, by unfold maxLen; omega, by simp, by simp⟩⟩
theorem add0F (g j : Nat) : (⟨g, 0, none⟩ : Addr).add j = ⟨g, j, none⟩ := by simp only [Addr.add, Nat.zero_add]; split <;> simp_all
theorem set_ps {l : List (Int × It)} {i : Nat} {p : Int} {it : It} {n : Nat} (h : l[i]? = some (p, it)) (hP : ∀ e ∈ l, e.2.ps.length ≤ 5) : ∀ e ∈ l.set i (p, upL it n), e.2.ps.length ≤ 5 := by
  intro e he
  obtain ⟨j, hj⟩ := List.mem_iff_getElem?.1 he
  rw [set_get h] at hj
  split at hj
  · injection hj with hj
    rw [← hj]
    exact hP (p, it) (List.mem_of_getElem? h)
  · exact hP _ (List.mem_of_getElem? hj)
theorem set_cw {l : List (Int × It)} {i : Nat} {p : Int} {it : It} {n : Nat} (h : l[i]? = some (p, it)) (hw : ∀ (i : Nat) (p : Int) (it : It), l[i]? = some (p, it) → ∃ T m, wfL (cwS T m) T.length it.bd ∧ T.length ≤ 1000000) : ∀ (j : Nat) (q : Int) (jt : It), (l.set i (p, upL it n))[j]? = some (q, jt) → ∃ T m, wfL (cwS T m) T.length jt.bd ∧ T.length ≤ 1000000 := by
  intro j q jt hj
  rw [set_get h] at hj
  split at hj
  · injection hj with hj
    injection hj with h1 h2
    rw [← h2]
    exact hw i p it h
  · exact hw j q jt hj
theorem RdF.isF {ok : Nat → Prop} {w : World} {l : List (Int × It)} {g c : Nat} (h : RdF ok w l (.agg #[.slice (some ⟨g, 0, none⟩) l.length c])) (h0 : 0 < l.length) : ok g ∧ RdIs ok w l g := by
  obtain ⟨q, d, hv, _, hits⟩ := h
  injection hv with hv
  have hv : Value.slice (some ⟨g, 0, none⟩) l.length c = Value.slice q l.length d := by simpa using hv
  injection hv with h1 _ _
  obtain ⟨g', e1, e2, e3⟩ := hits h0
  rw [e1] at h1
  injection h1 with h1
  injection h1 with h1
  subst h1
  exact ⟨e2, e3⟩
theorem more_rd {w3 w6 : World} {l : List (Int × It)} {k g g6 cap6 n : Nat} {pp : Int} {it : It} {cur : Array Value} {t : TypeId} (FB : Obj) (hRI : RdIs (fun k => k < w3.heap.size) w3 l g) (he0 : l[k]? = some (pp, it)) (hb : Below w3.heap.size w3 w6) (hg6 : w3.heap.size ≤ g6) (hx : ∀ (j : Nat) (u : Value), j < l.length * 10 → w3.cell? ⟨g, j, none⟩ = some u → w6.cell? ⟨g6, j, none⟩ = some u) (hh : w6.heap[g6]? = some (.cells cur t (0, 0))) (hlen : l.length ≤ 1099511627776) :
    RdF (fun j => j < (((w6.setCell ⟨g6, k * 10 + 2, none⟩ (.int .i64 (n : Int))).alloc FB).drew).heap.size) (((w6.setCell ⟨g6, k * 10 + 2, none⟩ (.int .i64 (n : Int))).alloc FB).drew) (l.set k (pp, upL it n)) (.agg #[.slice (some ⟨g6, 0, none⟩) (l.set k (pp, upL it n)).length cap6]) := by
  have hg6s : g6 < w6.heap.size := (Array.getElem?_eq_some_iff.1 hh).1
  have h6 : RdIs (fun k => k < w3.heap.size) w6 l g6 := items_copy hRI hx (fun j hj => hb.block j hj) (fun _ h => h)
  have h7 := items_up (n := n) h6 he0 (fun h => by omega) hh
  have hs0 : (w6.setCell ⟨g6, k * 10 + 2, none⟩ (.int .i64 (n : Int))).heap.size = w6.heap.size := by simp
  have hba := (Below.refl (w6.setCell ⟨g6, k * 10 + 2, none⟩ (.int .i64 (n : Int))).heap.size (w6.setCell ⟨g6, k * 10 + 2, none⟩ (.int .i64 (n : Int)))).alloc (Nat.le_refl _) FB
  have hs1 := hba.size
  have hs2 := hb.size
  have hsz : (((w6.setCell ⟨g6, k * 10 + 2, none⟩ (.int .i64 (n : Int))).alloc FB).drew).heap.size = ((w6.setCell ⟨g6, k * 10 + 2, none⟩ (.int .i64 (n : Int))).alloc FB).heap.size := rfl
  rw [hs0] at hs1
  refine ⟨_, _, rfl, by rw [List.length_set]; exact hlen, fun _ => ⟨g6, rfl, by rw [hsz]; omega, ?_⟩⟩
  exact items_copy h7 (fun j u hj hu => cell_onF hba hu) (fun j hj => hba.block j (by rw [hs0]; omega)) (fun j hj => by rw [hsz]; omega)
set_option maxHeartbeats 8000000 in
set_option maxRecDepth 100000 in
theorem fmore_walk (s : ByteArray) (i more : Int) (w : World) (hV : VarAt w) : Calls Tryz.prog 6 #[.string s, .int .i64 i, .int .i64 more] w fun e w' => e = .returned (.bool true) ∧ Below w.heap.size w w' := by
  have HAl := hid (alive6 w hV)
  have HFi := hid (fun w' hv => File_any s w' hv)
  have HRt := hid (fun W => rightN_any more W)
  have hE5 := flE_le5 s
  by_cases hE : flE s = 0
  · have hs4 := (flE_small hE).1
    have HP := hid (fil_ps s)
    have HW := hid (fil_cw s hs4)
    have hl30 := (flE_small hE).2
    rw [← fil_len] at hl30
    have HE := hid hE
    have hE0 : ((flE s : Nat) : Int) = 0 := by rw [hE]; rfl
    have HE0 := hid hE0
    generalize hl : fil s = l at *
    have HLf := hid hl
    clear hE hE0 hE5 hs4 hl
    by_cases hi0 : i < 0
    · go_enter Tryz.func6, Tryz.ntmps6
      go_wp2_with (first
        | (go_at_call 30; refine Calls.mono HAl.out ?_; rintro e w0 ⟨rfl, hb0⟩; have hV0 := hV.below hb0)
        | (go_at_call 9; refine Calls.mono (HFi.out _ hV0) ?_; rintro e w1 ⟨p, m, c, rfl, hft, hb1⟩; rw [HE0.out]))
      go_ret
      have hB1 := hb0.trans (hb1.mono hb0.size)
      exact ⟨rfl, hB1.alloc hB1.size _⟩
    · by_cases hi1 : i ≥ (l.length : Int)
      · go_enter Tryz.func6, Tryz.ntmps6
        go_wp2_with (first
          | (go_at_call 30; refine Calls.mono HAl.out ?_; rintro e w0 ⟨rfl, hb0⟩; have hV0 := hV.below hb0)
          | (go_at_call 9; refine Calls.mono (HFi.out _ hV0) ?_; rintro e w1 ⟨p, m, c, rfl, hft, hb1⟩; rw [HE0.out]; have hR1 := hft.1 HE.out; rw [HLf.out] at hR1; clear hft; have hm := RdF.sizeQ hR1; subst hm; clear hR1))
        go_ret
        have hB1 := hb0.trans (hb1.mono hb0.size)
        exact ⟨rfl, hB1.alloc hB1.size _⟩
      · obtain ⟨k, rfl⟩ : ∃ k : Nat, i = (k : Int) := ⟨i.toNat, by omega⟩
        have hlt : k < l.length := by omega
        obtain ⟨e0, he0⟩ : ∃ e, l[k]? = some e := ⟨_, List.getElem?_eq_getElem hlt⟩
        obtain ⟨pp, it⟩ := e0
        have HK0 := hid he0
        have gk : (0 : Int) ≤ (k : Int) := by omega
        have gk1 : (k : Int) < (l.length : Int) := by omega
        have hkb : k < 1099511627776 := by omega
        by_cases hm0 : 0 ≤ more ∧ more ≤ 255
        · rw [decide_eq_true hm0] at HRt
          obtain ⟨mo, rfl⟩ : ∃ m : Nat, more = (m : Int) := ⟨more.toNat, by omega⟩
          by_cases hk1 : it.k = 1
          · cases hsn : sndB l with
            | false =>
              have HSn := hid hsn
              have g1 : ((it.k : Int) != 1) = false := by rw [hk1]; rfl
              clear he0 hk1 hlt hm0 hsn
              go_enter Tryz.func6, Tryz.ntmps6
              go_wp2_with (first
                | (go_at_call 30; refine Calls.mono HAl.out ?_; rintro e w0 ⟨rfl, hb0⟩; have hV0 := hV.below hb0)
                | (go_at_call 9; refine Calls.mono (HFi.out _ hV0) ?_; rintro e w1 ⟨p, m, c, rfl, hft, hb1⟩; rw [HE0.out]; have hR1 := hft.1 HE.out; rw [HLf.out] at hR1; clear hft; have hm := RdF.sizeQ hR1; subst hm; have hba := (Below.refl w1.heap.size w1).alloc (Nat.le_refl _) (.cells #[.slice p l.length c] 24); have hO : OneG l w1.heap.size p c (w1.alloc (.cells #[.slice p l.length c] 24)) := ⟨one_new w1 _ _, RdF.kept hR1 (fun k hk => hba.block k hk.2) (fun k hk => Nat.lt_of_lt_of_le hk.2 hba.size)⟩; obtain ⟨g, vI, hq, hgo, hcv, hI⟩ := RdF.itemF hO.r HK0.out; obtain ⟨p1, c1, p2, c2, p3, c3, p4, c4, hvI, _⟩ := hI; subst hvI; subst hq; have i0 := hcv.get 0 _ rfl; rw [Nat.add_zero] at i0; have HSo := hid (Sound_any l (some ⟨g, 0, none⟩) c _ _ (fun k hk => hk) hO.r HP.out HW.out); rw [HSn.out] at HSo; clear hcv)
                | (go_at_call 31; refine Calls.mono (HRt.out _) ?_; rintro e w2 ⟨rfl, hw2⟩; subst w2)
                | (go_at_call 29; refine Calls.mono HSo.out ?_; rintro e w3 ⟨rfl, hb3⟩))
              go_ret
              have hB1 := hb0.trans (hb1.mono hb0.size)
              have hB2 := hB1.trans (hba.mono hB1.size)
              exact ⟨rfl, hB2.trans (hb3.mono hB2.size)⟩
            | true =>
              have HSn := hid hsn
              have g1 : ((it.k : Int) != 1) = false := by rw [hk1]; rfl
              have HMs := hid (mor_snd (n := jnL it.l mo) he0 hk1 (flw_jn it.l mo) hsn)
              have HP2 := hid (set_ps (n := jnL it.l mo) he0 HP.out)
              have HW2 := hid (set_cw (n := jnL it.l mo) he0 HW.out)
              have HJ := hid (fun W => joinN_any it.l mo W)
              obtain ⟨t0, ht0, hz0, hz1, hz2⟩ := info_parts Tryz.infoIt
              have hpos : 0 < l.length := by omega
              have hmax : 0 + l.length ≤ maxLen := by unfold maxLen; omega
              have hby : (0 + l.length) * 152 ≤ 140737488355328 := by omega
              have HLen := hid (show l.length ≤ 1099511627776 by omega)
              clear he0 hk1 hlt hm0 hsn
              go_enter Tryz.func6, Tryz.ntmps6
              go_wp2_with (first
                | (go_at_call 30; refine Calls.mono HAl.out ?_; rintro e w0 ⟨rfl, hb0⟩; have hV0 := hV.below hb0)
                | (go_at_call 9; refine Calls.mono (HFi.out _ hV0) ?_; rintro e w1 ⟨p, m, c, rfl, hft, hb1⟩; rw [HE0.out]; have hR1 := hft.1 HE.out; rw [HLf.out] at hR1; clear hft; have hm := RdF.sizeQ hR1; subst hm; have hba := (Below.refl w1.heap.size w1).alloc (Nat.le_refl _) (.cells #[.slice p l.length c] 24); have hO : OneG l w1.heap.size p c (w1.alloc (.cells #[.slice p l.length c] 24)) := ⟨one_new w1 _ _, RdF.kept hR1 (fun k hk => hba.block k hk.2) (fun k hk => Nat.lt_of_lt_of_le hk.2 hba.size)⟩; obtain ⟨g, vI, hq, hgo, hcv, hI⟩ := RdF.itemF hO.r HK0.out; obtain ⟨p1, c1, p2, c2, p3, c3, p4, c4, hvI, _⟩ := hI; subst hvI; subst hq; have i0 := hcv.get 0 _ rfl; rw [Nat.add_zero] at i0; have HSo := hid (Sound_any l (some ⟨g, 0, none⟩) c _ _ (fun k hk => hk) hO.r HP.out HW.out); rw [HSn.out] at HSo; clear hcv)
                | (go_at_call 31; refine Calls.mono (HRt.out _) ?_; rintro e w2 ⟨rfl, hw2⟩; subst w2)
                | (go_at_call 29; refine Calls.mono HSo.out ?_; rintro e w3 ⟨rfl, hb3⟩; have hO3 := hO.below hb3; have z0 := hO3.y; have z0a := cell_alloc z0; have hRI := (RdF.isF hO3.r hpos); obtain ⟨xs, hx1, hx2, hx3, hx4⟩ := item_cells hRI.2; have HNW : Hid (∀ (j : Nat) (u : Value), xs[j]? = some u → (w3.alloc (.cells #[] 50)).cell? ((⟨g, 0, none⟩ : Addr).add j) = some u) := fun j u h => (by rw [add0F]; exact cell_alloc (hx2 j u h) _); have HX4 := hid hx4; have HRI := hid hRI; clear hx2 hx4 hRI i0)
                | (at_builtin; refine wpList_append_lies _ rfl (.tmp 49) (.tmp 51) 22 rfl w3.heap.size 50 t0 _ 10 152 Tryz.underlying22 ht0 hz0 hz1 hz2 rfl (by decide) _ _ _ rfl (own_emptyF w3 50 10) ⟨g, 0, none⟩ l.length c xs rfl hx1 HNW.out hx3 hpos hmax hby (by simp) _ rfl ?_; intro g6 cap6 w6 hown6 hgrow6 hat6 hlt6))
              have hb34 := (Below.refl w3.heap.size w3).alloc (Nat.le_refl _) (.cells #[] 50)
              have hb36 : Below w3.heap.size w3 w6 := hb34.grown hgrow6 hb34.size (fun j hj => by cases hj; exact Nat.le_refl _)
              have hg6 : w3.heap.size ≤ g6 := (hown6.lt g6 rfl).1
              have hcl : ∀ (j : Nat) (u : Value), j < l.length * 10 → w3.cell? ⟨g, j, none⟩ = some u → w6.cell? ⟨g6, j, none⟩ = some u := fun j u hj hu => by
                have h := hown6.cells (g := g6) rfl j u (by rw [List.nil_append]; exact HX4.out j u hj hu)
                rwa [add0F] at h
              obtain ⟨cur, hh⟩ : ∃ cur, w6.heap[g6]? = some (.cells cur 50 (0, 0)) := by
                obtain ⟨_, ⟨h0, _⟩ | ⟨g', cap', cur, hv, _, hg', _⟩⟩ := hown6
                · cases h0
                · injection hv with hv
                  injection hv with hv
                  injection hv with hv
                  subst hv
                  exact ⟨cur, hg'⟩
              obtain ⟨vI, hcv, hI⟩ := HRI.out.2 k _ HK0.out
              obtain ⟨p1', c1', p2', c2', p3', c3', p4', c4', hvI, _⟩ := hI
              subst hvI
              have c6 := hcl (k * 10 + 2) _ (by omega) (hcv.get 2 _ rfl)
              have c6a := cell_alloc c6
              have f6a : ∀ o : Obj, (w6.alloc o).frozen? ⟨g6, k * 10 + 2, none⟩ = false := fun o => (World.frozen?_of_block (a := ⟨g6, k * 10 + 2, none⟩) (Below.heap_alloc w6 o g6 hlt6)).trans (by simp [World.frozen?, hh])
              have hB1 := hb0.trans (hb1.mono hb0.size)
              have hB2 := hB1.trans (hba.mono hB1.size)
              have hB3 := hB2.trans (hb3.mono hB2.size)
              have hB6 := hB3.trans (hb36.mono hB3.size)
              have HRd := hid (fun FB => more_rd (cap6 := cap6) (n := jnL it.l mo) FB HRI.out.2 HK0.out hb36 hg6 hcl hh HLen.out)
              clear hown6 hgrow6 hat6 hcl hh hcv hO hO3 z0 z0a hb34 hmax hby
              have gn1 : ¬ g6 = w6.heap.size := by omega
              have gn2 : ¬ w6.heap.size = g6 := by omega
              have hgw : w.heap.size ≤ g6 := by have := hB3.size; omega
              go_region_with (first
                | (go_at_call 32; refine Calls.mono (HJ.out _) ?_; rintro e wj ⟨rfl, hwj⟩; subst wj))
              all_goals
                have HS2 := hid (Sound_any (l.set k (pp, upL it (jnL it.l mo))) (some ⟨g6, 0, none⟩) cap6 _ _ (fun k hk => hk) (HRd.out (.cells #[.slice (some ⟨g6, 0, none⟩) l.length cap6] 24)) HP2.out HW2.out)
                rw [HMs.out, List.length_set] at HS2
                go_wp2_with (first
                  | (go_at_call 29; refine Calls.mono HS2.out ?_; rintro e w9 ⟨rfl, hb9⟩))
                go_ret
                have hB7 : Below w.heap.size w (w6.setCell ⟨g6, k * 10 + 2, none⟩ (.int .i64 (jnL it.l mo : Int))) := hB6.setCell hgw _
                have hB8 := (hB7.alloc hB7.size (.cells #[.slice (some ⟨g6, 0, none⟩) l.length cap6] 24)).drew
                exact ⟨rfl, hB8.trans (hb9.mono hB8.size)⟩
          · have g1 : ((it.k : Int) != 1) = true := by simp; omega
            clear he0 hk1 hlt hm0
            go_enter Tryz.func6, Tryz.ntmps6
            go_wp2_with (first
              | (go_at_call 30; refine Calls.mono HAl.out ?_; rintro e w0 ⟨rfl, hb0⟩; have hV0 := hV.below hb0)
              | (go_at_call 9; refine Calls.mono (HFi.out _ hV0) ?_; rintro e w1 ⟨p, m, c, rfl, hft, hb1⟩; rw [HE0.out]; have hR1 := hft.1 HE.out; rw [HLf.out] at hR1; clear hft; have hm := RdF.sizeQ hR1; subst hm; have hba := (Below.refl w1.heap.size w1).alloc (Nat.le_refl _) (.cells #[.slice p l.length c] 24); have hO : OneG l w1.heap.size p c (w1.alloc (.cells #[.slice p l.length c] 24)) := ⟨one_new w1 _ _, RdF.kept hR1 (fun k hk => hba.block k hk.2) (fun k hk => Nat.lt_of_lt_of_le hk.2 hba.size)⟩; obtain ⟨g, vI, hq, hgo, hcv, hI⟩ := RdF.itemF hO.r HK0.out; obtain ⟨p1, c1, p2, c2, p3, c3, p4, c4, hvI, _⟩ := hI; subst hvI; subst hq; have i0 := hcv.get 0 _ rfl; rw [Nat.add_zero] at i0; clear hcv)
              | (go_at_call 31; refine Calls.mono (HRt.out _) ?_; rintro e w2 ⟨rfl, hw2⟩; subst w2))
            go_ret
            have hB1 := hb0.trans (hb1.mono hb0.size)
            exact ⟨rfl, hB1.trans (hba.mono hB1.size)⟩
        · rw [decide_eq_false hm0] at HRt
          clear he0 hlt hm0
          go_enter Tryz.func6, Tryz.ntmps6
          go_wp2_with (first
            | (go_at_call 30; refine Calls.mono HAl.out ?_; rintro e w0 ⟨rfl, hb0⟩; have hV0 := hV.below hb0)
            | (go_at_call 9; refine Calls.mono (HFi.out _ hV0) ?_; rintro e w1 ⟨p, m, c, rfl, hft, hb1⟩; rw [HE0.out]; have hR1 := hft.1 HE.out; rw [HLf.out] at hR1; clear hft; have hm := RdF.sizeQ hR1; subst hm; clear hR1)
            | (go_at_call 31; refine Calls.mono (HRt.out _) ?_; rintro e w2 ⟨rfl, hw2⟩; subst w2))
          go_ret
          have hB1 := hb0.trans (hb1.mono hb0.size)
          exact ⟨rfl, hB1.alloc hB1.size _⟩
  · have g : ((flE s : Int) != 0) = true := by simp; omega
    generalize flE s = e5 at *
    go_enter Tryz.func6, Tryz.ntmps6
    go_wp2_with (first
      | (go_at_call 30; refine Calls.mono HAl.out ?_; rintro e w0 ⟨rfl, hb0⟩; have hV0 := hV.below hb0)
      | (go_at_call 9; refine Calls.mono (HFi.out _ hV0) ?_; rintro e w1 ⟨p, m, c, rfl, _, hb1⟩))
    go_ret
    have hB1 := hb0.trans (hb1.mono hb0.size)
    exact ⟨rfl, hB1.alloc hB1.size _⟩
end Go.Proofs.YtgifjkljpbbegaaGreatDoor

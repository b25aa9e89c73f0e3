/- All that it sends to, and nothing else: the law EffectLeast. -/
import Derived.Test.YtfioihehhlpgcaaGreatDoorZf42
namespace Go.Proofs.YtfioihehhlpgcaaGreatDoor
open Go.RowKit Go.Sort Go.WideMaps Go.Maps
set_option linter.unusedVariables false
attribute [local go_sem ↓] Go.wp_at_zero Go.wp_at_succ
attribute [local go_sem ↓] appE_hide
theorem one_newS (w : World) (a : Addr) (u v : Value) (T : TypeId) : ((w.setCell a u).alloc (.cells #[v] T)).cell? ⟨w.heap.size, 0, none⟩ = some v := by
  have h := one_new (w.setCell a u) v T
  simpa using h
theorem hh6 {w : World} {g o : Nat} {cur : Array Value} {T : TypeId} {u : Value} (h : w.heap[g]? = some (.cells cur T (0, 0))) (hc : w.cell? ⟨g, o, none⟩ = some u) : o < cur.size := by
  rw [cell_of_row _ _ _ _ _ _ h] at hc
  exact (Array.getElem?_eq_some_iff.1 hc).1
theorem grown_refl (w : World) (r : Option Nat) : w.grownBy w r := ⟨rfl, rfl, rfl, Nat.le_refl _, fun _ _ _ => rfl⟩
theorem grown_below {w w1 w2 : World} {b : Nat} (h : w.grownBy w1 (some b)) (k : Below w1.heap.size w1 w2) : w.grownBy w2 (some b) := h.trans ⟨k.os, k.tape, k.output, k.size, fun z hz _ => k.block z hz⟩
/-- The first names have been put in. -/
def RelM1 (ss : List BL) (bm : Nat) (W : World) (i : Value) (wr : World) : Prop := ∃ (k : Nat) (ns : List BL), k ≤ ss.length ∧ i = .int .i64 (k : Int) ∧ WnAt wr bm ns ∧ ns.length ≤ k ∧ (∀ s, s ∈ ns ↔ s ∈ ss.take k) ∧ W.grownBy wr (some bm)
def RelM2 (l : List (Int × It)) (sn ca : List BL) (bm : Nat) (W : World) (i : Value) (wr : World) : Prop := ∃ (k : Nat) (ns : List BL), k ≤ ca.length ∧ i = .int .i64 (k : Int) ∧ WnAt wr bm ns ∧ ns.length ≤ 4000 + k * 120000 ∧ (∀ s, s ∈ ns ↔ s ∈ sn ∨ ∃ (n : BL) (q : Nat), n ∈ ca.take k ∧ fnd l 2 (bA n) = (q : Int) ∧ s ∈ reaL l (q : Int)) ∧ W.grownBy wr (some bm)
def RelM3 (R n0 : List BL) (bm : Nat) (W : World) (i : Value) (wr : World) : Prop := ∃ (k : Nat) (ns : List BL), k ≤ R.length ∧ i = .int .i64 (k : Int) ∧ WnAt wr bm ns ∧ ns.length ≤ n0.length + k ∧ (∀ s, s ∈ ns ↔ s ∈ n0 ∨ s ∈ R.take k) ∧ W.grownBy wr (some bm)
theorem take_mem {ss : List BL} {k : Nat} {s x : BL} (h : ss[k]? = some s) : x ∈ ss.take (k + 1) ↔ x ∈ ss.take k ∨ x = s := by
  rw [List.take_add_one, h, List.mem_append]
  simp
set_option maxHeartbeats 8000000 in
set_option maxRecDepth 100000 in
theorem least_walk (s : ByteArray) (w : World) (hV : VarAt w) : Calls Tryz.prog 3 #[.string s] w fun e w' => e = .returned (.bool true) ∧ Below w.heap.size w w' := by
  have hmm := @run_makeMap Tryz.prog
  have HAl := hid (alive5 w hV)
  have HFi := hid (fun w' hv => File_any s w' hv)
  have hE5 := flE_le5 s
  by_cases hE : flE s = 0
  · obtain ⟨hs4, hl30⟩ := flE_small hE
    have HE := hid hE
    have hE0 : ((flE s : Nat) : Int) = 0 := by rw [hE]; rfl
    have HE0 := hid hE0
    have hES := fil_es s hs4
    have hDF := fun i : Int => fil_dfs s hE i
    have hSZ := fil_size s
    rw [← fil_len] at hl30
    obtain ⟨l, hl⟩ : ∃ l, fil s = l := ⟨_, rfl⟩
    have HLf := hid hl
    rw [hl] at hES hDF hSZ hl30
    have hnE : ∀ e ∈ l, (esI e.2).length < 1099511627776 := fun e he => by have := hES e he; omega
    have hnD : ∀ i : Int, (dfs l l.length (List.replicate l.length false, []) i).2.length < 1099511627776 := fun i => by have := hDF i; omega
    have HK := hid (And.intro hES (And.intro hDF (And.intro hSZ (And.intro hnE hnD))))
    have HL30 := hid hl30
    clear hE hE0 hE5 hES hDF hSZ hl hnE hnD hs4 hl30
    go_enter Tryz.func3, Tryz.ntmps3
    go_wp2_with (first
      | (go_at_call 9; refine Calls.mono HAl.out ?_; rintro e w0 ⟨rfl, hb0⟩; have hV0 := hV.below hb0)
      | (go_at_call 10; refine Calls.mono (HFi.out _ hV0) ?_; rintro e w1 ⟨p, m, c, rfl, hft, hb1⟩; rw [HE0.out]; have hR1 := hft.1 HE.out; rw [HLf.out] at hR1; clear hft; have hm := RdF.sizeQ hR1; subst hm; have hba := (Below.refl w1.heap.size w1).alloc (Nat.le_refl _) (.cells #[.slice p l.length c] 25); have hO : OneG l w1.heap.size p c (w1.alloc (.cells #[.slice p l.length c] 25)) := ⟨one_new w1 _ _, RdF.kept hR1 (fun k hk => hba.block k hk.2) (fun k hk => Nat.lt_of_lt_of_le hk.2 hba.size)⟩; have HO := hid hO; have HAll := hid (All_any l p c _ _ (fun k hk => hk) hO.r HK.out.2.2.2.1 (fun i _ => HK.out.2.2.2.2 (i : Int))); have hB1 := hb0.trans (hb1.mono hb0.size); have hB2 := hB1.trans (hba.mono hB1.size); clear hR1 hO)
      | (go_at_call 11; refine Calls.mono HAll.out ?_; rintro e w2 ⟨gA, fA, rfl, hA, hb2⟩; have y2 := (HO.out.below hb2).y))
    have hO2 := HO.out.below hb2
    have hB3 := hB2.trans (hb2.mono hB2.size)
    have HB := hid hB3
    have hsb : w1.heap.size < w2.heap.size := by have := hb2.size; simp at this; omega
    have HA := hid hA
    have HO2 := hid hO2
    have hgA := hA.2.1
    clear hb0 hb1 hba hB1 hB2 hb2 hV0 hA hO2 HO HAll HE HE0 HAl HFi hB3
    -- THE ROUND
    go_loopw [35] (fun i wr => RelNU l.length w2 i wr) (fun i _ => upN l.length i)
    case atStart => exact ⟨0, Nat.zero_le _, rfl, Below.refl _ _⟩
    case round =>
      obtain ⟨k, hkl, rfl, hbr⟩ := hrel
      obtain ⟨wo, rfl⟩ : ∃ x, x = wr := ⟨wr, rfl⟩
      have HBr := hid (HB.out.trans (hbr.mono HB.out.size))
      have HBR := hid hbr
      have yr := cell_onF hbr y2
      have hszr := hbr.size
      by_cases hlt : k < l.length
      · obtain ⟨e0, he0⟩ : ∃ e, l[k]? = some e := ⟨_, List.getElem?_eq_getElem hlt⟩
        obtain ⟨pp, it⟩ := e0
        have HE := hid he0
        have hOr := HO2.out.below hbr
        have hAr := HA.out.below hbr
        obtain ⟨g, vI, hq, hgo, hcv, hI⟩ := RdF.itemF hOr.r he0
        obtain ⟨p1, c1, p2, c2, p3, c3, p4, c4, hvI, hu1⟩ := id hI
        clear hu1
        subst hvI
        subst hq
        have d0 := hcv.get 0 _ rfl
        have d1 := hcv.get 1 _ rfl
        have d2 := hcv.get 2 _ rfl
        have d3 := hcv.get 3 _ rfl
        have d4 := hcv.get 4 _ rfl
        have d5 := hcv.get 5 _ rfl
        have d6 := hcv.get 6 _ rfl
        have d7 := hcv.get 7 _ rfl
        have d8 := hcv.get 8 _ rfl
        have d9 := hcv.get 9 _ rfl
        rw [Nat.add_zero] at d0
        have hba := (Below.refl wo.heap.size wo).alloc (Nat.le_refl _) (.cells #[.int .i64 (it.k : Int), .string it.x, .int .i64 (it.l : Int), .slice p1 it.ps.length c1, .slice p2 it.ss.length c2, .slice p3 it.bd.length c3, .int .i64 pp, .int .i64 (it.sz : Int), .int .i64 (it.mrk : Int), .slice p4 it.ds.length c4] 36)
        have HOw := hid (effOwn_any it pp _ (wo.alloc (.cells #[.int .i64 (it.k : Int), .string it.x, .int .i64 (it.l : Int), .slice p1 it.ps.length c1, .slice p2 it.ss.length c2, .slice p3 it.bd.length c3, .int .i64 pp, .int .i64 (it.sz : Int), .int .i64 (it.mrk : Int), .slice p4 it.ds.length c4] 36)) (fun z => z < wo.heap.size) (fun z hz => Nat.lt_of_lt_of_le hz hba.size) (RdI.kept hI (fun z hz => hba.block z hz) (fun _ h => h)) (HK.out.2.2.2.1 _ (List.mem_of_getElem? he0)))
        have gk : (0 : Int) ≤ (k : Int) := by omega
        have gk1 : (k : Int) < (l.length : Int) := by omega
        have hkb : k < 1099511627776 := by have := HL30.out; omega
        have HL := hid hlt
        have x0 : (wo.alloc (.cells #[.int .i64 (it.k : Int), .string it.x, .int .i64 (it.l : Int), .slice p1 it.ps.length c1, .slice p2 it.ss.length c2, .slice p3 it.bd.length c3, .int .i64 pp, .int .i64 (it.sz : Int), .int .i64 (it.mrk : Int), .slice p4 it.ds.length c4] 36)).cell? ⟨wo.heap.size, 0, none⟩ = some (.int .i64 (it.k : Int)) := cell_of_row _ _ 0 _ _ _ (heap_alloc_new wo (.cells #[.int .i64 (it.k : Int), .string it.x, .int .i64 (it.l : Int), .slice p1 it.ps.length c1, .slice p2 it.ss.length c2, .slice p3 it.bd.length c3, .int .i64 pp, .int .i64 (it.sz : Int), .int .i64 (it.mrk : Int), .slice p4 it.ds.length c4] 36))
        have ya := cell_alloc yr (.cells #[.int .i64 (it.k : Int), .string it.x, .int .i64 (it.l : Int), .slice p1 it.ps.length c1, .slice p2 it.ss.length c2, .slice p3 it.bd.length c3, .int .i64 pp, .int .i64 (it.sz : Int), .int .i64 (it.mrk : Int), .slice p4 it.ds.length c4] 36)
        have HX := hid (And.intro x0 ya)
        have HBA := hid hba
        have HOA := hid (And.intro hOr hAr)
        clear hcv hI he0 hlt hkl hba hOr hAr x0 ya hbr
        go_wp2_with (first
          | (go_at_call 12; refine Calls.mono HOw.out ?_; rintro e wB ⟨v1, v2, rfl, hS1, hS2, hbB⟩; obtain ⟨D1, hT1, hD1⟩ := hS1.lt; obtain ⟨D2, hT2, hD2⟩ := hS2.lt; obtain ⟨q1, cc1, hv1, _⟩ := id hT1; obtain ⟨q2, cc2, hv2, _⟩ := id hT2; subst hv1 hv2; clear hS1 hS2))
        have hbw : Below wo.heap.size wo wB := HBA.out.trans (hbB.mono HBA.out.size)
        have xB := cell_onF hbB HX.out.1
        have yB := cell_onF hbB HX.out.2
        have hszB : wo.heap.size < wB.heap.size := by have := hbB.size; simp at this; omega
        have HMb : Hid (WnAt (wB.alloc (.map #[] 0)) wB.heap.size []) := ⟨0, Nat.le_refl _, World.ownsMap_made _ _ _ _⟩
        have hbM := (Below.refl wB.heap.size wB).alloc (Nat.le_refl _) (.map #[] 0)
        have hT1M := hT1.kept hbM.size (fun z e => hbM.block z (hD1 z e).2)
        have hT2M := hT2.kept hbM.size (fun z e => hbM.block z (hD2 z e).2)
        have hwM : Below wo.heap.size wo (wB.alloc (.map #[] 0)) := hbw.trans (hbM.mono hbw.size)
        have HOM := hid (And.intro (HOA.out.1.below hwM) (HOA.out.2.below hwM))
        have xM := cell_onF hbM xB
        have hszM : (wB.alloc (.map #[] 0)).heap.size = wB.heap.size + 1 := by simp
        have HT := hid (And.intro hT1M (And.intro hT2M (And.intro (fun z e => (hD1 z e).2) (fun z e => (hD2 z e).2))))
        have HWM := hid hwM
        have HXM := hid xM
        have hgg : g < wo.heap.size := hgo
        have hgAo : gA < wo.heap.size := by omega
        have hsbo : w1.heap.size < wo.heap.size := by omega
        have HS0 := hid (show RelM1 (snI it) wB.heap.size (wB.alloc (.map #[] 0)) (.int .i64 (0 : Nat)) (wB.alloc (.map #[] 0)) from ⟨0, [], Nat.zero_le _, rfl, HMb.out, Nat.le_refl _, fun s => by simp, grown_refl _ _⟩)
        clear hT1 hT2 hD1 hD2 hT1M hT2M hwM xB yB xM hbM hbw hbB HMb yr hgo
        generalize wB.heap.size = bm at *
        generalize wB.alloc (.map #[] 0) = WM at *
        go_loopw [48] (fun j wx => RelM1 (snI it) bm WM j wx) (fun j _ => upN (snI it).length j)
        case atStart => exact HS0.out
        case round =>
          obtain ⟨j, ns, hj, rfl, hW, hlen, hmem, hg⟩ := hrel
          obtain ⟨wx, rfl⟩ : ∃ x, x = wr := ⟨wr, rfl⟩
          by_cases hjl : j < (snI it).length
          · obtain ⟨sj, hsj⟩ : ∃ x, (snI it)[j]? = some x := ⟨_, List.getElem?_eq_getElem hjl⟩
            obtain ⟨q', cap', e', _, h2⟩ := id HT.out.1
            injection e' with e5 _ e6
            subst e5 e6
            obtain ⟨g1, o1, e7, e8, e9, e10⟩ := h2 (by omega)
            subst e7
            have hD := HT.out.2.2.1 g1 e8
            have a0 : wx.cell? ⟨g1, o1 + j, none⟩ = some (.string (bA sj)) := (World.cell?_of_block (a := ⟨g1, o1 + j, none⟩) (hg.block g1 e9 (fun e => by injection e with e; omega))).trans (e10 j sj hsj)
            have gj : (0 : Int) ≤ (j : Int) := by omega
            have gj1 : (j : Int) < ((snI it).length : Int) := by omega
            have hsl : (snI it).length ≤ 4000 := Nat.le_trans (snI_len it) (HK.out.1 _ (List.mem_of_getElem? HE.out))
            have hjb : j < 1099511627776 := by omega
            have hkx := keyS (bA sj) (by have := sn_size (it := it) (s := sj) (HK.out.2.2.1 _ (List.mem_of_getElem? HE.out)) (.inl (List.mem_of_getElem? hsj)); unfold maxLen; omega)
            obtain ⟨n2, hn2, hownX⟩ := hW
            have hltX : n2 < maxLen := by unfold maxLen; omega
            have HJ := hid (And.intro hjl (And.intro hsj (And.intro hmem (And.intro hlen (And.intro hn2 hg)))))
            clear hjl hsj hmem hlen hn2 hg h2 e8 e9 e10 hD hj hsl
            go_wp2_with (first
              | (at_mapUpdate; refine wpList_mapUpdate_own _ rfl _ _ _ 40 rfl 9 4 kStr Tryz.underlying40 _ bm _ _ rfl hownX hltX _ _ _ rfl rfl hkx _ [] (plainElem_bool Tryz.underlying4 true) ?_; intro w5 hown5 hg5; go_frame)
              | go_in)
            go_roundw
            case rel =>
              obtain ⟨hjl, hsj, hmem, hlen, hn2, hg⟩ := HJ.out
              exact ⟨j + 1, sj :: ns, hjl, by go_num, ⟨n2 + 1, by simp only [List.length_cons]; omega, hown5⟩, by simp only [List.length_cons]; omega, fun s => by rw [List.mem_cons, take_mem hsj, hmem]; exact or_comm, hg.trans hg5⟩
            case measure => have := HJ.out.1; simp [upN, Go.RowKit.intOf]; omega
          · obtain rfl : j = (snI it).length := by omega
            rw [List.take_length] at hmem
            have hsl : (snI it).length ≤ 4000 := Nat.le_trans (snI_len it) (HK.out.1 _ (List.mem_of_getElem? HE.out))
            have HS1 := hid (show RelM2 l (snI it) (caI it) bm WM (.int .i64 (0 : Nat)) wx from ⟨0, ns, Nat.zero_le _, rfl, hW, by omega, fun s => by rw [hmem]; simp, hg⟩)
            clear hjl hj hW hlen hmem hg hsl HS0
            go_wp2
            go_loopw [57] (fun j wx => RelM2 l (snI it) (caI it) bm WM j wx) (fun j _ => upN (caI it).length j)
            case atStart => exact HS1.out
            case round =>
              obtain ⟨j, ns, hj, rfl, hW, hlen, hmem, hg⟩ := hrel
              obtain ⟨wx, rfl⟩ : ∃ x, x = wr := ⟨wr, rfl⟩
              clear HS1
              have hold : ∀ z, z < bm → wx.heap[z]? = WM.heap[z]? := fun z hz => hg.block z (by omega) (fun e => by injection e with e; omega)
              have hcaL : (caI it).length ≤ 4000 := Nat.le_trans (caI_len it) (HK.out.1 _ (List.mem_of_getElem? HE.out))
              have hszx := hg.size
              by_cases hjl : j < (caI it).length
              · obtain ⟨nj, hnj⟩ : ∃ x, (caI it)[j]? = some x := ⟨_, List.getElem?_eq_getElem hjl⟩
                obtain ⟨q', cap', e', _, h2⟩ := id HT.out.2.1
                injection e' with e5 _ e6
                subst e5 e6
                obtain ⟨g1, o1, e7, e8, e9, e10⟩ := h2 (by omega)
                subst e7
                have hD := HT.out.2.2.2 g1 e8
                have a0 : wx.cell? ⟨g1, o1 + j, none⟩ = some (.string (bA nj)) := (World.cell?_of_block (a := ⟨g1, o1 + j, none⟩) (hold g1 hD)).trans (e10 j nj hnj)
                have gj : (0 : Int) ≤ (j : Int) := by omega
                have gj1 : (j : Int) < ((caI it).length : Int) := by omega
                have hjb : j < 1099511627776 := by omega
                have yX := (World.cell?_of_block (a := ⟨w1.heap.size, 0, none⟩) (hold w1.heap.size (by omega))).trans HOM.out.1.y
                have hRX : RdF (fun z => z < wo.heap.size) wx l (.agg #[.slice (some ⟨g, 0, none⟩) l.length c]) := RdF.kept HOA.out.1.r (fun z hz => (hold z (by omega)).trans (HWM.out.block z hz)) (fun _ h => h)
                have HFd := hid (rn_find l _ 2 (bA nj) wx (fun z => z < wo.heap.size) (fun z hz => by omega) hRX)
                have HJ := hid (And.intro hjl (And.intro hnj (And.intro hmem (And.intro hlen (And.intro hW (And.intro hg (And.intro hold hcaL)))))))
                have hbmx : bm < wx.heap.size := by omega
                clear h2 e8 e9 e10 hD hRX
                rcases fnd_casesF l 2 (bA nj) with hq | ⟨q, hq, hql⟩
                · rw [hq] at HFd
                  have HQ := hid hq
                  clear hjl hnj hmem hlen hW hg hold hcaL hj hq
                  go_wp2_with (first
                    | (go_at_call 13; refine Calls.mono HFd.out ?_; rintro e w5 ⟨rfl, hb5⟩))
                  go_roundw
                  case rel =>
                    obtain ⟨hjl, hnj, hmem, hlen, hW, hg, _⟩ := HJ.out
                    refine ⟨j + 1, ns, hjl, by go_num, hW.kept (hb5.block bm hbmx), Nat.le_trans hlen (Nat.add_le_add_left (Nat.mul_le_mul_right _ (Nat.le_succ j)) _), fun s => ?_, grown_below hg hb5⟩
                    rw [hmem]
                    constructor
                    · rintro (h | ⟨n, z, h1, h3⟩)
                      · exact .inl h
                      · exact .inr ⟨n, z, (take_mem hnj).2 (.inl h1), h3⟩
                    · rintro (h | ⟨n, z, h1, h3, h4⟩)
                      · exact .inl h
                      · rcases (take_mem hnj).1 h1 with h5 | h5
                        · exact .inr ⟨n, z, h5, h3, h4⟩
                        · rw [h5, HQ.out] at h3; omega
                  case measure => have := HJ.out.1; simp [upN, Go.RowKit.intOf]; omega
                · rw [hq] at HFd
                  have HQ := hid hq
                  obtain ⟨vq, Dq, k1, k2, k3⟩ := HOA.out.2.2.2 q hql
                  obtain ⟨pq, cq, evq, _, k4⟩ := id k2
                  subst evq
                  have aq : wx.cell? ⟨gA, q, none⟩ = some (.slice pq (reaL l (q : Int)).length cq) := (World.cell?_of_block (a := ⟨gA, q, none⟩) ((hold gA (by omega)).trans (HWM.out.block gA hgAo))).trans k1
                  have gq : (0 : Int) ≤ (q : Int) := by omega
                  have gq1 : (q : Int) < (l.length : Int) := by omega
                  have hqb : q < 1099511627776 := by have := HL30.out; omega
                  have hRl : (reaL l (q : Int)).length ≤ 120000 := Nat.le_trans (risB_le _) (HK.out.2.1 (q : Int))
                  have HRl := hid hRl
                  have HSq := hid (fun st h => rea_size HK.out.2.2.1 q hql (s := st) h)
                  have HKq := hid (And.intro k3 k4)
                  clear hjl hnj hmem hlen hW hg hcaL hj hq k1 k2 k3 k4 hql hRl
                  obtain ⟨Rq, hRq⟩ : ∃ R, reaL l (q : Int) = R := ⟨_, rfl⟩
                  have HRq := hid hRq
                  rw [hRq] at aq HRl HSq HKq
                  clear hRq
                  have hold2 := hid hold
                  clear hold
                  go_wp2_with (first
                    | (go_at_call 13; refine Calls.mono HFd.out ?_; rintro e w5 ⟨rfl, hb5⟩; have bq := cell_onF hb5 aq))
                  have HS2 := hid (show RelM3 Rq ns bm w5 (.int .i64 (0 : Nat)) w5 from ⟨0, ns, Nat.zero_le _, rfl, HJ.out.2.2.2.2.1.kept (hb5.block bm hbmx), Nat.le_refl _, fun s => by simp, grown_refl _ _⟩)
                  have hsz5 := hb5.size
                  go_loopw [71] (fun t wy => RelM3 Rq ns bm w5 t wy) (fun t _ => upN Rq.length t)
                  case atStart => exact HS2.out
                  case round =>
                    obtain ⟨t, n3, ht, rfl, hW3, hlen3, hmem3, hg3⟩ := hrel
                    obtain ⟨wy, rfl⟩ : ∃ x, x = wr := ⟨wr, rfl⟩
                    clear HS2
                    by_cases htl : t < Rq.length
                    · obtain ⟨sj, hsj⟩ : ∃ x, Rq[t]? = some x := ⟨_, List.getElem?_eq_getElem htl⟩
                      obtain ⟨g3, o3, e7, e8, e9, e10⟩ := HKq.out.2 (by omega)
                      subst e7
                      have hD3 := (HKq.out.1 g3 e8).2
                      have a3 : wy.cell? ⟨g3, o3 + t, none⟩ = some (.string (bA sj)) := (World.cell?_of_block (a := ⟨g3, o3 + t, none⟩) ((hg3.block g3 (by omega) (fun e => by injection e with e; omega)).trans ((hb5.block g3 (by omega)).trans ((hold2.out g3 (by omega)).trans (HWM.out.block g3 hD3))))).trans (e10 t sj hsj)
                      have gt : (0 : Int) ≤ (t : Int) := by omega
                      have gt1 : (t : Int) < (Rq.length : Int) := by omega
                      have htb : t < 1099511627776 := by have := HRl.out; omega
                      have hkx := keyS (bA sj) (by have := HSq.out sj (List.mem_of_getElem? hsj); unfold maxLen; omega)
                      obtain ⟨n2, hn2, hownX⟩ := hW3
                      have hltX : n2 < maxLen := by have := HRl.out; have := HJ.out.2.2.2.1; have := HJ.out.2.2.2.2.2.2.2; have := HJ.out.1; unfold maxLen; omega
                      have HT3 := hid (And.intro htl (And.intro hsj (And.intro hmem3 (And.intro hlen3 (And.intro hn2 hg3)))))
                      clear htl hsj hmem3 hlen3 hn2 hg3 e8 e9 e10 hD3 ht
                      go_wp2_with (first
                        | (at_mapUpdate; refine wpList_mapUpdate_own _ rfl _ _ _ 40 rfl 9 4 kStr Tryz.underlying40 _ bm _ _ rfl hownX hltX _ _ _ rfl rfl hkx _ [] (plainElem_bool Tryz.underlying4 true) ?_; intro w7 hown5 hg5; go_frame)
                        | go_in)
                      go_roundw
                      case rel =>
                        obtain ⟨htl, hsj, hmem3, hlen3, hn2, hg3⟩ := HT3.out
                        exact ⟨t + 1, sj :: n3, htl, by go_num, ⟨n2 + 1, by simp only [List.length_cons]; omega, hown5⟩, by simp only [List.length_cons]; omega, fun s => by rw [List.mem_cons, take_mem hsj, hmem3]; exact ⟨fun h => by rcases h with h | h | h; exact .inr (.inr h); exact .inl h; exact .inr (.inl h), fun h => by rcases h with h | h | h; exact .inr (.inl h); exact .inr (.inr h); exact .inl h⟩, hg3.trans hg5⟩
                      case measure => have := HT3.out.1; simp [upN, Go.RowKit.intOf]; omega
                    · obtain rfl : t = Rq.length := by omega
                      rw [List.take_length] at hmem3
                      have HT3 := hid (And.intro hW3 (And.intro hlen3 (And.intro hmem3 hg3)))
                      clear htl ht hW3 hlen3 hmem3 hg3
                      go_wp2
                      go_roundw
                      case rel =>
                        obtain ⟨hjl, hnj, hmem, hlen, hW, hg, _⟩ := HJ.out
                        obtain ⟨hW3, hlen3, hmem3, hg3⟩ := HT3.out
                        refine ⟨j + 1, n3, hjl, by go_num, hW3, by have := HRl.out; omega, fun s => ?_, (grown_below hg hb5).trans hg3⟩
                        rw [hmem3, hmem]
                        constructor
                        · rintro ((h | ⟨n, z, h1, h3⟩) | h)
                          · exact .inl h
                          · exact .inr ⟨n, z, (take_mem hnj).2 (.inl h1), h3⟩
                          · exact .inr ⟨nj, q, (take_mem hnj).2 (.inr rfl), HQ.out, by rw [HRq.out]; exact h⟩
                        · rintro (h | ⟨n, z, h1, h3, h4⟩)
                          · exact .inl (.inl h)
                          · rcases (take_mem hnj).1 h1 with h5 | h5
                            · exact .inl (.inr ⟨n, z, h5, h3, h4⟩)
                            · rw [h5, HQ.out] at h3
                              have h6 : q = z := by omega
                              rw [← h6, HRq.out] at h4
                              exact .inr h4
                      case measure => have := HJ.out.1; simp [upN, Go.RowKit.intOf]; omega
              · obtain rfl : j = (caI it).length := by omega
                rw [List.take_length] at hmem
                -- REST
                have xX := (World.cell?_of_block (a := ⟨wo.heap.size, 0, none⟩) (hold wo.heap.size (by omega))).trans HXM.out
                obtain ⟨vk, Dk, k1, k2, k3⟩ := HOA.out.2.2.2 k HL.out
                obtain ⟨pk, ck, evk, _⟩ := id k2
                subst evk
                have ak : wx.cell? ⟨gA, k, none⟩ = some (.slice pk (reaL l (k : Int)).length ck) := (World.cell?_of_block (a := ⟨gA, k, none⟩) ((hold gA (by omega)).trans (HWM.out.block gA hgAo))).trans k1
                have hTk : StrAt wx Dk (reaL l (k : Int)) (.slice pk (reaL l (k : Int)).length ck) := k2.kept (by have := HWM.out.size; omega) (fun z e => (hold z (by have := (k3 z e).2; omega)).trans (HWM.out.block z (k3 z e).2))
                have hRl : (reaL l (k : Int)).length ≤ 120000 := Nat.le_trans (risB_le _) (HK.out.2.1 (k : Int))
                have HRl := hid hRl
                have HTk := hid hTk
                have HDk := hid (fun z e => show z < wx.heap.size from by have := (k3 z e).2; have := HWM.out.size; omega)
                have hBx : Below wo.heap.size wo wx := HWM.out.grown hg (by omega) (fun z e => by injection e with e; omega)
                have HOx := hid (HOA.out.1.below hBx)
                have yX := (World.cell?_of_block (a := ⟨w1.heap.size, 0, none⟩) (hold w1.heap.size (by omega))).trans HOM.out.1.y
                have HBx := hid hBx
                have hwx : wo.heap.size ≤ wx.heap.size := hBx.size
                have hns : ns.length < 1099511627776 := by have h := Nat.mul_le_mul_right 120000 hcaL; omega
                have HRs := hid (rising_ref ns bm wx.drew (hW.kept rfl) hns)
                have HRn := hid (rising_nil wx.drew)
                have hdr := Below.drew (Below.refl wx.heap.size wx)
                have HDR := hid hdr
                clear hdr
                have HRE := hid (fun (R : List BL) (hR : Inc R) (hm : ∀ s, s ∈ R ↔ s ∈ ns) => rea_eq HE.out hR hm hmem)
                have HNo := hid (fun (h : it.k ≠ 2) => rea_none l k _ HE.out h)
                have HTA := hid (fun (v2 : Value) (D2' : Option Nat) (X : World) (h1 : StrAt X Dk (reaL l (k : Int)) (.slice pk (reaL l (k : Int)).length ck)) (h2 : StrAt X D2' (reaL l (k : Int)) v2) => sameTexts_any (reaL l (k : Int)) _ v2 Dk D2' X h1 h2 (by have := HRl.out; omega))
                have HSS := hid (rea_ss (ss := (reaL l (k : Int)).map rfB) HE.out (k : Int))
                clear k1 k2 k3 hTk hBx hW hlen hmem hg hold hcaL hjl hj hRl
                obtain ⟨Rk, hRk⟩ : ∃ R, reaL l (k : Int) = R := ⟨_, rfl⟩
                have HRk := hid hRk
                rw [hRk] at ak HRl HTk HRE HNo HTA HSS
                clear hRk
                by_cases hk2 : it.k = 2
                · have g2 : ((it.k : Int) != 2) = false := by rw [hk2]; rfl
                  clear hk2
                  go_wp2
                  go_region_held3 (fun w' => w'.cell? ⟨gA, k, none⟩ = some (.slice pk Rk.length ck)) (first | go_keep | (with_reducible exact t0) | (with_reducible exact t1))
                    (first
                      | (go_at_call 15; refine Calls.mono HRs.out ?_; rintro e w6 ⟨vR, R, DR, rfl, hSR, hinc, hmR, hb6⟩; have hRR := HRE.out R hinc hmR; rw [hRR] at hSR; have hb6 := HDR.out.trans (hb6.mono HDR.out.size); have t0 := cell_onF hb6 ak; have HSm := hid (HTA.out vR DR w6 (HTk.out.kept hb6.size (fun z e => hb6.block z (HDk.out z e))) hSR); have HB6 := hid hb6; clear hRR hinc hmR hSR)
                      | (go_at_call 14; refine Calls.mono HSm.out ?_; rintro e w7 ⟨rfl, m7, hw7⟩; have t1 : w7.cell? ⟨gA, k, none⟩ = some (.slice pk Rk.length ck) := (by rw [hw7]; exact t0); have HB7 := hid (show Below wx.heap.size wx w7 from by rw [hw7]; exact below_drewN HB6.out m7); clear hw7))
                  have hO7 := HOx.out.below HB7.out
                  have z7 := hO7.y
                  have z7a := cell_alloc z7
                  have hpos : 0 < l.length := by have := HL.out; omega
                  have hRI := RdF.isF hO7.r hpos
                  obtain ⟨xs, hx1, hx2, hx3, hx4⟩ := item_cells hRI.2
                  have HNW : Hid (∀ (j : Nat) (u : Value), xs[j]? = some u → (w7.alloc (.cells #[] 36)).cell? ((⟨g, 0, none⟩ : Addr).add j) = some u) := fun j u h => (by rw [add0F]; exact cell_alloc (hx2 j u h) _)
                  have HX4 := hid hx4
                  have HRI := hid hRI
                  obtain ⟨vI7, hcv7, hI7⟩ := hRI.2 k _ HE.out
                  obtain ⟨s1, e1, s2, e2, s3, e3, s4, e4, hvI7, hu7⟩ := hI7
                  subst hvI7
                  clear hu7
                  have HC4 := hid (hcv7.get 4 _ rfl)
                  obtain ⟨ti, ht0, hz0, hz1, hz2⟩ := info_parts Tryz.infoIt
                  have hmax : 0 + l.length ≤ maxLen := by have := HL30.out; unfold maxLen; omega
                  have hby : (0 + l.length) * 152 ≤ 140737488355328 := by have := HL30.out; omega
                  have hsz7 := HB7.out.size
                  have HT1 := hid t1
                  clear hx2 hx4 hRI hcv7 hO7
                  go_wp2_with (first
                    | (at_builtin; refine wpList_append_lies _ rfl (.tmp 90) (.tmp 92) 23 rfl w7.heap.size 36 ti _ 10 152 Tryz.underlying23 ht0 hz0 hz1 hz2 rfl (by decide) _ _ _ rfl (own_emptyF w7 36 10) ⟨g, 0, none⟩ l.length c xs rfl hx1 HNW.out hx3 hpos hmax hby (by simp) _ rfl ?_; intro g6 cap6 w8 hown8 hgrow8 hat8 hlt8; obtain ⟨hb8, hg6, hg6l, hcl, cur, hh⟩ := copied hown8 hgrow8 HX4.out; have c6 := hcl (k * 10 + 4) _ (by have := HL.out; omega) HC4.out; have f6 : w8.frozen? ⟨g6, k * 10 + 4, none⟩ = false := (by simp [World.frozen?, hh]); have c6a := cell_alloc c6; have f6a : ∀ o : Obj, (w8.alloc o).frozen? ⟨g6, k * 10 + 4, none⟩ = false := (fun o => (World.frozen?_of_block (a := ⟨g6, k * 10 + 4, none⟩) (Below.heap_alloc w8 o g6 hg6l)).trans f6); have t8 := cell_onF hb8 HT1.out; have t8b := cell_alloc (show (w8.setCell ⟨g6, k * 10 + 4, none⟩ (.slice none 0 0)).cell? ⟨gA, k, none⟩ = some (.slice pk Rk.length ck) from (World.cell?_setCell_other _ _ _ _ (by intro e; simp only [Addr.mk.injEq] at e; omega)).trans t8); have gn1 : ¬ g6 = gA := (by omega); have gn2 : ¬ gA = g6 := (by omega); have gn3 : ¬ g6 = w8.heap.size := (by omega); have gn4 : ¬ w8.heap.size = g6 := (by omega); have HCC := hid (And.intro hb8 (And.intro hg6 (And.intro hg6l (And.intro hcl hh)))); clear hown8 hgrow8 hat8 hb8 hcl hh t8))
                  have HT8 := hid (show StrAt ((w8.setCell ⟨g6, k * 10 + 4, none⟩ (.slice none 0 0)).alloc (.cells #[.slice (some ⟨g6, 0, none⟩) l.length cap6] 25)) Dk Rk (.slice pk Rk.length ck) from by
                    have hba := (Below.refl (w8.setCell ⟨g6, k * 10 + 4, none⟩ (.slice none 0 0)).heap.size (w8.setCell ⟨g6, k * 10 + 4, none⟩ (.slice none 0 0))).alloc (Nat.le_refl _) (.cells #[.slice (some ⟨g6, 0, none⟩) l.length cap6] 25)
                    have e : (w8.setCell ⟨g6, k * 10 + 4, none⟩ (.slice none 0 0)).heap.size = w8.heap.size := by simp
                    refine HTk.out.kept (by have := HCC.out.1.size; have := hba.size; omega) (fun z ez => ?_)
                    have hz := HDk.out z ez
                    have := HCC.out.1.size
                    have := HCC.out.2.1
                    exact (hba.block z (by omega)).trans ((Below.heap_setCell _ _ _ z (by show z ≠ g6; omega)).trans ((HCC.out.1.block z (by omega)).trans (HB7.out.block z hz))))
                  have HH5 := hid (show ((w8.setCell ⟨g6, k * 10 + 4, none⟩ (.slice none 0 0)).alloc (.cells #[.slice (some ⟨g6, 0, none⟩) l.length cap6] 25)).heap[g6]? = some (.cells (cur.setIfInBounds (k * 10 + 4) (.slice none 0 0)) 36 (0, 0)) from (Below.heap_alloc _ _ g6 (by simp; omega)).trans (heap_setCell_same _ _ _ _ _ _ HCC.out.2.2.2.2))
                  have HB5 := hid (show Below w7.heap.size w7 ((w8.setCell ⟨g6, k * 10 + 4, none⟩ (.slice none 0 0)).alloc (.cells #[.slice (some ⟨g6, 0, none⟩) l.length cap6] 25)) from (HCC.out.1.setCell HCC.out.2.1 _).alloc (by have := HCC.out.1.size; simp; omega) _)
                  have y5 := one_newS w8 ⟨g6, k * 10 + 4, none⟩ (.slice none 0 0) (.slice (some ⟨g6, 0, none⟩) l.length cap6) 25
                  have e5 : ((w8.setCell ⟨g6, k * 10 + 4, none⟩ (.slice none 0 0)).alloc (.cells #[.slice (some ⟨g6, 0, none⟩) l.length cap6] 25)).heap.size = w8.heap.size + 1 := by simp
                  have hbcur : k * 10 + 4 < cur.size := by
                    have h1 := hh6 HCC.out.2.2.2.2 c6
                    exact h1
                  clear c6 f6 c6a f6a t8b z7 z7a
                  generalize ((w8.setCell ⟨g6, k * 10 + 4, none⟩ (.slice none 0 0)).alloc (.cells #[.slice (some ⟨g6, 0, none⟩) l.length cap6] 25)) = W5 at *
                  have hs8 := HCC.out.1.size
                  go_loopw [105] (fun t wz => RelG5 Rk g6 (k * 10 + 4) cur W5 t wz) (fun t _ => upN Rk.length t)
                  case atStart => exact ⟨0, .slice none 0 0, Nat.zero_le _, rfl, HH5.out, World.ownsRow_nil _ _ _ _, grown_refl _ _⟩
                  case round =>
                    obtain ⟨t, v, ht, rfl, hh9, hown9, hg9⟩ := hrel
                    obtain ⟨w9, rfl⟩ : ∃ x, x = wr := ⟨wr, rfl⟩
                    have hs9 := hg9.size
                    have y9 := (World.cell?_of_block (a := ⟨w8.heap.size, 0, none⟩) (hg9.block w8.heap.size (by omega) (fun e => by injection e with e; omega))).trans y5
                    by_cases htl : t < Rk.length
                    · obtain ⟨sj, hsj⟩ : ∃ x, Rk[t]? = some x := ⟨_, List.getElem?_eq_getElem htl⟩
                      obtain ⟨q', cap', e', _, h2⟩ := id HT8.out
                      injection e' with e5' _ e6'
                      subst e5' e6'
                      obtain ⟨g9, o9, e7, e8, e9, e10⟩ := h2 (by omega)
                      subst e7
                      have hD9 := HDk.out g9 e8
                      have a9 : w9.cell? ⟨g9, o9 + t, none⟩ = some (.string (bA sj)) := (World.cell?_of_block (a := ⟨g9, o9 + t, none⟩) (hg9.block g9 e9 (fun e => by injection e with e; omega))).trans (e10 t sj hsj)
                      have gt : (0 : Int) ≤ (t : Int) := by omega
                      have gt1 : (t : Int) < (Rk.length : Int) := by omega
                      have htb : t < 1099511627776 := by have := HRl.out; omega
                      obtain ⟨pv, cv, hv⟩ := own_formD hown9
                      subst hv
                      have hne9 : some g6 ≠ (Value.slice pv t cv).ownBlock := fun e => by have := (hown9.lt g6 e.symm).1; omega
                      have hne8 : some w8.heap.size ≠ (Value.slice pv t cv).ownBlock := fun e => by have := (hown9.lt _ e.symm).1; omega
                      have c9 : w9.cell? ⟨g6, k * 10 + 4, none⟩ = some (.slice pv t cv) := by rw [cell_of_row _ _ _ _ _ _ hh9, Array.getElem?_setIfInBounds_self_of_lt hbcur]
                      have hba9 := (Below.refl w9.heap.size w9).alloc (Nat.le_refl _) (.cells #[.string (bA sj), .int .i64 0] 45)
                      have ca := cell_alloc c9
                      have ya := cell_alloc y9
                      obtain ⟨ir, hr0, hrz0, hrz1, hrz2⟩ := info_parts Tryz.infoRf
                      obtain ⟨gR, capR, wz, hrun, hownz, hgz, hatz, hltz⟩ := run_append_lies (P := Tryz.prog) ((w9.alloc (.cells #[.string (bA sj), .int .i64 0] 45)).drew) 32 32 W5.heap.size 45 ir _ 2 24 Tryz.underlying32 hr0 hrz0 hrz1 hrz2 rfl (by decide) (.slice pv t cv) t _ ((hown9.alloc _).drew) ⟨w9.heap.size, 0, none⟩ 1 1 [.string (bA sj), .int .i64 0] rfl (World.news_of_block (heap_alloc_new w9 (.cells #[.string (bA sj), .int .i64 0] 45))) (by intro u hu; simp at hu; rcases hu with rfl | rfl <;> rfl) (by decide) (by unfold maxLen; omega) (by omega) (by have := hba9.size; show W5.heap.size ≤ (w9.alloc _).heap.size; omega) _ rfl
                      have hA : appE Tryz.prog #[32, 32] 32 #[.slice pv t cv, .slice (some ⟨w9.heap.size, 0, none⟩) 1 1] ((w9.alloc (.cells #[.string (bA sj), .int .i64 0] 45)).drew) = _ := hrun
                      have hbz : ∀ z, z < w9.heap.size → some z ≠ (Value.slice pv t cv).ownBlock → wz.heap[z]? = w9.heap[z]? := fun z hz hn => (hgz.block z (show z < (w9.alloc _).heap.size by have := hba9.size; omega) hn).trans (hba9.block z hz)
                      have cz := (World.cell?_of_block (a := ⟨g6, k * 10 + 4, none⟩) (hbz g6 (by omega) hne9)).trans c9
                      have yz := (World.cell?_of_block (a := ⟨w8.heap.size, 0, none⟩) (hbz w8.heap.size (by omega) hne8)).trans y9
                      have fz : wz.frozen? ⟨g6, k * 10 + 4, none⟩ = false := (World.frozen?_of_block (a := ⟨g6, k * 10 + 4, none⟩) (hbz g6 (by omega) hne9)).trans (by simp [World.frozen?, hh9])
                      have HN9 := hid (g5_next (by omega) htl hsj hh9 hown9 hg9 hownz hgz)
                      have HL9 := hid htl
                      clear htl ht hsj hh9 hown9 hg9 hownz hgz hrun hbz h2 e8 e9 e10 hD9 hba9 hatz
                      go_wp2
                      go_region
                      go_wp2
                      go_roundw
                      case rel => exact HN9.out
                      case measure => have := HL9.out; simp [upN, Go.RowKit.intOf]; omega
                    · obtain rfl : t = Rk.length := by omega
                      rw [List.take_length] at hown9
                      have hRl9 : Rk.length ≤ 1099511627776 := by have := HRl.out; omega
                      have hll9 : l.length ≤ 1099511627776 := by have := HL30.out; omega
                      have hRd := said_rd (cap6 := cap6) HRI.out.2 HE.out HCC.out.1 HCC.out.2.2.2.1 HCC.out.2.2.2.2 HCC.out.2.1 hh9 (fun z hz => (hg9.block z (by have := HB5.out.size; omega) (fun e => by injection e with e; have := HCC.out.2.1; omega)).trans (HB5.out.block z hz)) (by have := HB5.out.size; omega) hown9 hRl9 hll9
                      have HDi := hid (least_diags HE.out HSS.out HK.out.2.2.2.1 HK.out.2.2.2.2 (fun z hz => hz) hRd)
                      have HGo := hid (And.intro (((HBR.out.trans (HBx.out.mono HBR.out.size)).trans (HB7.out.mono (by have := HBR.out.size; have := HBx.out.size; omega))).trans (HB5.out.mono (by have := HBR.out.size; have := HBx.out.size; have := HB7.out.size; omega))) hg9)
                      have hzz : w2.heap.size ≤ g6 := by have := HBR.out.size; have := HBx.out.size; have := HB7.out.size; have := HCC.out.2.1; omega
                      clear htl ht hh9 hown9 hg9 hRd HT8
                      go_wp2_with (first
                        | (go_at_call 16; refine Calls.mono HDi.out ?_; rintro e wE ⟨qD, dD, rfl, hbE⟩))
                      go_roundw
                      case rel =>
                        have hb9 : Below w2.heap.size w2 w9 := HGo.out.1.grown HGo.out.2 HGo.out.1.size (fun z e => by injection e with e; omega)
                        exact ⟨k + 1, HL.out, by go_num, hb9.trans (hbE.mono hb9.size)⟩
                      case measure => have := HL.out; simp [upN, Go.RowKit.intOf]; omega
                · have hRn := HNo.out hk2
                  have HRN := hid hRn
                  have g2 : ((it.k : Int) != 2) = true := by simp; omega
                  clear hk2 hRn
                  go_wp2
                  go_region_held3 (fun w' => w'.cell? ⟨gA, k, none⟩ = some (.slice pk Rk.length ck)) (first | go_keep | (with_reducible exact t0) | (with_reducible exact t1))
                    (first
                      | (go_at_call 15; refine Calls.mono HRn.out ?_; rintro e w6 ⟨rfl, hb6⟩; have hb6 := HDR.out.trans (hb6.mono HDR.out.size); have t0 := cell_onF hb6 ak; have HSm := hid (HTA.out (.slice none 0 0) none w6 (HTk.out.kept hb6.size (fun z e => hb6.block z (HDk.out z e))) (by rw [HRN.out]; exact strNil _ _ _ _ (fun _ => rfl))); have HB6 := hid hb6)
                      | (go_at_call 14; refine Calls.mono HSm.out ?_; rintro e w7 ⟨rfl, m7, hw7⟩; have t1 : w7.cell? ⟨gA, k, none⟩ = some (.slice pk Rk.length ck) := (by rw [hw7]; exact t0); have HB7 := hid (show Below wx.heap.size wx w7 from by rw [hw7]; exact below_drewN HB6.out m7); clear hw7))
                  have hO7 := HOx.out.below HB7.out
                  have z7 := hO7.y
                  have z7a := cell_alloc z7
                  have hpos : 0 < l.length := by have := HL.out; omega
                  have hRI := RdF.isF hO7.r hpos
                  obtain ⟨xs, hx1, hx2, hx3, hx4⟩ := item_cells hRI.2
                  have HNW : Hid (∀ (j : Nat) (u : Value), xs[j]? = some u → (w7.alloc (.cells #[] 36)).cell? ((⟨g, 0, none⟩ : Addr).add j) = some u) := fun j u h => (by rw [add0F]; exact cell_alloc (hx2 j u h) _)
                  have HX4 := hid hx4
                  have HRI := hid hRI
                  obtain ⟨vI7, hcv7, hI7⟩ := hRI.2 k _ HE.out
                  obtain ⟨s1, e1, s2, e2, s3, e3, s4, e4, hvI7, hu7⟩ := hI7
                  subst hvI7
                  clear hu7
                  have HC4 := hid (hcv7.get 4 _ rfl)
                  obtain ⟨ti, ht0, hz0, hz1, hz2⟩ := info_parts Tryz.infoIt
                  have hmax : 0 + l.length ≤ maxLen := by have := HL30.out; unfold maxLen; omega
                  have hby : (0 + l.length) * 152 ≤ 140737488355328 := by have := HL30.out; omega
                  have hsz7 := HB7.out.size
                  have HT1 := hid t1
                  clear hx2 hx4 hRI hcv7 hO7
                  go_wp2_with (first
                    | (at_builtin; refine wpList_append_lies _ rfl (.tmp 90) (.tmp 92) 23 rfl w7.heap.size 36 ti _ 10 152 Tryz.underlying23 ht0 hz0 hz1 hz2 rfl (by decide) _ _ _ rfl (own_emptyF w7 36 10) ⟨g, 0, none⟩ l.length c xs rfl hx1 HNW.out hx3 hpos hmax hby (by simp) _ rfl ?_; intro g6 cap6 w8 hown8 hgrow8 hat8 hlt8; obtain ⟨hb8, hg6, hg6l, hcl, cur, hh⟩ := copied hown8 hgrow8 HX4.out; have c6 := hcl (k * 10 + 4) _ (by have := HL.out; omega) HC4.out; have f6 : w8.frozen? ⟨g6, k * 10 + 4, none⟩ = false := (by simp [World.frozen?, hh]); have c6a := cell_alloc c6; have f6a : ∀ o : Obj, (w8.alloc o).frozen? ⟨g6, k * 10 + 4, none⟩ = false := (fun o => (World.frozen?_of_block (a := ⟨g6, k * 10 + 4, none⟩) (Below.heap_alloc w8 o g6 hg6l)).trans f6); have t8 := cell_onF hb8 HT1.out; have t8b := cell_alloc (show (w8.setCell ⟨g6, k * 10 + 4, none⟩ (.slice none 0 0)).cell? ⟨gA, k, none⟩ = some (.slice pk Rk.length ck) from (World.cell?_setCell_other _ _ _ _ (by intro e; simp only [Addr.mk.injEq] at e; omega)).trans t8); have gn1 : ¬ g6 = gA := (by omega); have gn2 : ¬ gA = g6 := (by omega); have gn3 : ¬ g6 = w8.heap.size := (by omega); have gn4 : ¬ w8.heap.size = g6 := (by omega); have HCC := hid (And.intro hb8 (And.intro hg6 (And.intro hg6l (And.intro hcl hh)))); clear hown8 hgrow8 hat8 hb8 hcl hh t8))
                  have HT8 := hid (show StrAt ((w8.setCell ⟨g6, k * 10 + 4, none⟩ (.slice none 0 0)).alloc (.cells #[.slice (some ⟨g6, 0, none⟩) l.length cap6] 25)) Dk Rk (.slice pk Rk.length ck) from by
                    have hba := (Below.refl (w8.setCell ⟨g6, k * 10 + 4, none⟩ (.slice none 0 0)).heap.size (w8.setCell ⟨g6, k * 10 + 4, none⟩ (.slice none 0 0))).alloc (Nat.le_refl _) (.cells #[.slice (some ⟨g6, 0, none⟩) l.length cap6] 25)
                    have e : (w8.setCell ⟨g6, k * 10 + 4, none⟩ (.slice none 0 0)).heap.size = w8.heap.size := by simp
                    refine HTk.out.kept (by have := HCC.out.1.size; have := hba.size; omega) (fun z ez => ?_)
                    have hz := HDk.out z ez
                    have := HCC.out.1.size
                    have := HCC.out.2.1
                    exact (hba.block z (by omega)).trans ((Below.heap_setCell _ _ _ z (by show z ≠ g6; omega)).trans ((HCC.out.1.block z (by omega)).trans (HB7.out.block z hz))))
                  have HH5 := hid (show ((w8.setCell ⟨g6, k * 10 + 4, none⟩ (.slice none 0 0)).alloc (.cells #[.slice (some ⟨g6, 0, none⟩) l.length cap6] 25)).heap[g6]? = some (.cells (cur.setIfInBounds (k * 10 + 4) (.slice none 0 0)) 36 (0, 0)) from (Below.heap_alloc _ _ g6 (by simp; omega)).trans (heap_setCell_same _ _ _ _ _ _ HCC.out.2.2.2.2))
                  have HB5 := hid (show Below w7.heap.size w7 ((w8.setCell ⟨g6, k * 10 + 4, none⟩ (.slice none 0 0)).alloc (.cells #[.slice (some ⟨g6, 0, none⟩) l.length cap6] 25)) from (HCC.out.1.setCell HCC.out.2.1 _).alloc (by have := HCC.out.1.size; simp; omega) _)
                  have y5 := one_newS w8 ⟨g6, k * 10 + 4, none⟩ (.slice none 0 0) (.slice (some ⟨g6, 0, none⟩) l.length cap6) 25
                  have e5 : ((w8.setCell ⟨g6, k * 10 + 4, none⟩ (.slice none 0 0)).alloc (.cells #[.slice (some ⟨g6, 0, none⟩) l.length cap6] 25)).heap.size = w8.heap.size + 1 := by simp
                  have hbcur : k * 10 + 4 < cur.size := by
                    have h1 := hh6 HCC.out.2.2.2.2 c6
                    exact h1
                  clear c6 f6 c6a f6a t8b z7 z7a
                  generalize ((w8.setCell ⟨g6, k * 10 + 4, none⟩ (.slice none 0 0)).alloc (.cells #[.slice (some ⟨g6, 0, none⟩) l.length cap6] 25)) = W5 at *
                  have hs8 := HCC.out.1.size
                  go_loopw [105] (fun t wz => RelG5 Rk g6 (k * 10 + 4) cur W5 t wz) (fun t _ => upN Rk.length t)
                  case atStart => exact ⟨0, .slice none 0 0, Nat.zero_le _, rfl, HH5.out, World.ownsRow_nil _ _ _ _, grown_refl _ _⟩
                  case round =>
                    obtain ⟨t, v, ht, rfl, hh9, hown9, hg9⟩ := hrel
                    obtain ⟨w9, rfl⟩ : ∃ x, x = wr := ⟨wr, rfl⟩
                    have hs9 := hg9.size
                    have y9 := (World.cell?_of_block (a := ⟨w8.heap.size, 0, none⟩) (hg9.block w8.heap.size (by omega) (fun e => by injection e with e; omega))).trans y5
                    by_cases htl : t < Rk.length
                    · obtain ⟨sj, hsj⟩ : ∃ x, Rk[t]? = some x := ⟨_, List.getElem?_eq_getElem htl⟩
                      obtain ⟨q', cap', e', _, h2⟩ := id HT8.out
                      injection e' with e5' _ e6'
                      subst e5' e6'
                      obtain ⟨g9, o9, e7, e8, e9, e10⟩ := h2 (by omega)
                      subst e7
                      have hD9 := HDk.out g9 e8
                      have a9 : w9.cell? ⟨g9, o9 + t, none⟩ = some (.string (bA sj)) := (World.cell?_of_block (a := ⟨g9, o9 + t, none⟩) (hg9.block g9 e9 (fun e => by injection e with e; omega))).trans (e10 t sj hsj)
                      have gt : (0 : Int) ≤ (t : Int) := by omega
                      have gt1 : (t : Int) < (Rk.length : Int) := by omega
                      have htb : t < 1099511627776 := by have := HRl.out; omega
                      obtain ⟨pv, cv, hv⟩ := own_formD hown9
                      subst hv
                      have hne9 : some g6 ≠ (Value.slice pv t cv).ownBlock := fun e => by have := (hown9.lt g6 e.symm).1; omega
                      have hne8 : some w8.heap.size ≠ (Value.slice pv t cv).ownBlock := fun e => by have := (hown9.lt _ e.symm).1; omega
                      have c9 : w9.cell? ⟨g6, k * 10 + 4, none⟩ = some (.slice pv t cv) := by rw [cell_of_row _ _ _ _ _ _ hh9, Array.getElem?_setIfInBounds_self_of_lt hbcur]
                      have hba9 := (Below.refl w9.heap.size w9).alloc (Nat.le_refl _) (.cells #[.string (bA sj), .int .i64 0] 45)
                      have ca := cell_alloc c9
                      have ya := cell_alloc y9
                      obtain ⟨ir, hr0, hrz0, hrz1, hrz2⟩ := info_parts Tryz.infoRf
                      obtain ⟨gR, capR, wz, hrun, hownz, hgz, hatz, hltz⟩ := run_append_lies (P := Tryz.prog) ((w9.alloc (.cells #[.string (bA sj), .int .i64 0] 45)).drew) 32 32 W5.heap.size 45 ir _ 2 24 Tryz.underlying32 hr0 hrz0 hrz1 hrz2 rfl (by decide) (.slice pv t cv) t _ ((hown9.alloc _).drew) ⟨w9.heap.size, 0, none⟩ 1 1 [.string (bA sj), .int .i64 0] rfl (World.news_of_block (heap_alloc_new w9 (.cells #[.string (bA sj), .int .i64 0] 45))) (by intro u hu; simp at hu; rcases hu with rfl | rfl <;> rfl) (by decide) (by unfold maxLen; omega) (by omega) (by have := hba9.size; show W5.heap.size ≤ (w9.alloc _).heap.size; omega) _ rfl
                      have hA : appE Tryz.prog #[32, 32] 32 #[.slice pv t cv, .slice (some ⟨w9.heap.size, 0, none⟩) 1 1] ((w9.alloc (.cells #[.string (bA sj), .int .i64 0] 45)).drew) = _ := hrun
                      have hbz : ∀ z, z < w9.heap.size → some z ≠ (Value.slice pv t cv).ownBlock → wz.heap[z]? = w9.heap[z]? := fun z hz hn => (hgz.block z (show z < (w9.alloc _).heap.size by have := hba9.size; omega) hn).trans (hba9.block z hz)
                      have cz := (World.cell?_of_block (a := ⟨g6, k * 10 + 4, none⟩) (hbz g6 (by omega) hne9)).trans c9
                      have yz := (World.cell?_of_block (a := ⟨w8.heap.size, 0, none⟩) (hbz w8.heap.size (by omega) hne8)).trans y9
                      have fz : wz.frozen? ⟨g6, k * 10 + 4, none⟩ = false := (World.frozen?_of_block (a := ⟨g6, k * 10 + 4, none⟩) (hbz g6 (by omega) hne9)).trans (by simp [World.frozen?, hh9])
                      have HN9 := hid (g5_next (by omega) htl hsj hh9 hown9 hg9 hownz hgz)
                      have HL9 := hid htl
                      clear htl ht hsj hh9 hown9 hg9 hownz hgz hrun hbz h2 e8 e9 e10 hD9 hba9 hatz
                      go_wp2
                      go_region
                      go_wp2
                      go_roundw
                      case rel => exact HN9.out
                      case measure => have := HL9.out; simp [upN, Go.RowKit.intOf]; omega
                    · obtain rfl : t = Rk.length := by omega
                      rw [List.take_length] at hown9
                      have hRl9 : Rk.length ≤ 1099511627776 := by have := HRl.out; omega
                      have hll9 : l.length ≤ 1099511627776 := by have := HL30.out; omega
                      have hRd := said_rd (cap6 := cap6) HRI.out.2 HE.out HCC.out.1 HCC.out.2.2.2.1 HCC.out.2.2.2.2 HCC.out.2.1 hh9 (fun z hz => (hg9.block z (by have := HB5.out.size; omega) (fun e => by injection e with e; have := HCC.out.2.1; omega)).trans (HB5.out.block z hz)) (by have := HB5.out.size; omega) hown9 hRl9 hll9
                      have HDi := hid (least_diags HE.out HSS.out HK.out.2.2.2.1 HK.out.2.2.2.2 (fun z hz => hz) hRd)
                      have HGo := hid (And.intro (((HBR.out.trans (HBx.out.mono HBR.out.size)).trans (HB7.out.mono (by have := HBR.out.size; have := HBx.out.size; omega))).trans (HB5.out.mono (by have := HBR.out.size; have := HBx.out.size; have := HB7.out.size; omega))) hg9)
                      have hzz : w2.heap.size ≤ g6 := by have := HBR.out.size; have := HBx.out.size; have := HB7.out.size; have := HCC.out.2.1; omega
                      clear htl ht hh9 hown9 hg9 hRd HT8
                      go_wp2_with (first
                        | (go_at_call 16; refine Calls.mono HDi.out ?_; rintro e wE ⟨qD, dD, rfl, hbE⟩))
                      go_roundw
                      case rel =>
                        have hb9 : Below w2.heap.size w2 w9 := HGo.out.1.grown HGo.out.2 HGo.out.1.size (fun z e => by injection e with e; omega)
                        exact ⟨k + 1, HL.out, by go_num, hb9.trans (hbE.mono hb9.size)⟩
                      case measure => have := HL.out; simp [upN, Go.RowKit.intOf]; omega
      · obtain rfl : k = l.length := by omega
        clear hlt hkl
        go_wp2
        go_ret
        exact ⟨rfl, HBr.out⟩
    -- ITS END
  · have g : ((flE s : Int) != 0) = true := by simp; omega
    generalize flE s = e5 at *
    go_enter Tryz.func3, Tryz.ntmps3
    go_wp2_with (first
      | (go_at_call 9; refine Calls.mono HAl.out ?_; rintro e w0 ⟨rfl, hb0⟩; have hV0 := hV.below hb0)
      | (go_at_call 10; refine Calls.mono (HFi.out _ hV0) ?_; rintro e w1 ⟨p, m, c, rfl, _, hb1⟩))
    go_ret
    have hB1 := hb0.trans (hb1.mono hb0.size)
    exact ⟨rfl, hB1.alloc hB1.size _⟩
end Go.Proofs.YtfioihehhlpgcaaGreatDoor

/- What items send to, and call, is told as the document says: the law EffectTells. -/
import Derived.Test.YtjpmnholpeidmaaZb55
import Derived.Test.YtjpmnholpeidmaaZb40
import Derived.Test.YtjpmnholpeidmaaZb03
namespace Go.Proofs.Ytjpmnholpeidmaa
open Go.RowKit Go.Sort
set_option linter.unusedVariables false
attribute [local go_sem ↓] Go.wp_at_zero Go.wp_at_succ
/-- A file at a variable's block, and what its items may send to. -/
structure OneE (l : List (Int × It)) (b g : Nat) (p : Option Addr) (c : Nat) (W : World) : Prop where
  y : W.cell? ⟨b, 0, none⟩ = some (.slice p l.length c)
  r : RdF (fun k => k < W.heap.size) W l (.agg #[.slice p l.length c])
  a : AllAt 0 W l g l.length
  lt : b < W.heap.size
theorem OneE.below {l : List (Int × It)} {b g : Nat} {p : Option Addr} {c : Nat} {W W' : World} (h : OneE l b g p c W) (hb : Below W.heap.size W W') : OneE l b g p c W' :=
  ⟨(hb.cell (p := ⟨b, 0, none⟩) h.lt).trans h.y, RdF.kept h.r (fun k hk => hb.block k hk) (fun _ hk => Nat.lt_of_lt_of_le hk hb.size), h.a.below hb, Nat.lt_of_lt_of_le h.lt hb.size⟩
def RelEt (n : Nat) (W : World) (i : Value) (wr : World) : Prop := ∃ k : Nat, k ≤ n ∧ i = .int .i64 (k : Int) ∧ Below W.heap.size W wr
/-- Names as what is wrong. -/
def dgE (R : List BL) : List Dg := R.map fun s => ⟨0, 0, 10, bA s⟩
theorem dgE_row (R : List BL) : (dgE R).flatMap dgC = R.flatMap edC ∧ (dgE R).length = R.length := by
  refine ⟨?_, by simp [dgE]⟩
  unfold dgE
  rw [List.flatMap_map]
  rfl
theorem dgE_slat {w : World} {B : Nat} {v : Value} {R : List BL} (h : w.ownsRow B 60 4 v R.length (R.flatMap edC)) (hl : R.length ≤ 1099511627776) : ∃ p n, v = .slice p (dgE R).length n ∧ SlAt (fun k => k < w.heap.size) w 4 dgC (dgE R) p := by
  rw [← (dgE_row R).1, ← (dgE_row R).2] at h
  obtain ⟨p, n, h1, h2⟩ := own_flatQ h (fun _ => rfl) (by rw [(dgE_row R).2]; exact hl)
  exact ⟨p, n, h1, h2.wide (fun k hk => hk.2)⟩
theorem SlAt.belowQ {α : Type} {st : Nat} {c : α → List Value} {l : List α} {p : Option Addr} {w w' : World} (h : SlAt (fun k => k < w.heap.size) w st c l p) (hb : Below w.heap.size w w') : SlAt (fun k => k < w'.heap.size) w' st c l p :=
  (h.kept (fun k hk => hb.block k hk)).wide (fun k hk => Nat.lt_of_lt_of_le hk hb.size)
theorem below_drawn (W : World) (m : Nat) : Below W.heap.size W (W.drewN m) := below_drewN (Below.refl _ _) m
set_option maxHeartbeats 8000000 in
set_option maxRecDepth 100000 in
theorem etells_walk (s : ByteArray) (w : World) : Calls Try.prog 3 #[.string s] w fun e w' => e = .returned (.bool true) ∧ Below w.heap.size w w' := by
  have HFi := hid (refFile_any s w)
  by_cases hE : flE s = 0
  · have hs4 := flE_ok hE
    have hE0 : ((flE s : Nat) : Int) = 0 := by rw [hE]; rfl
    have HE := hid hE
    have HE0 := hid hE0
    have H4 := hid hs4
    clear hE hE0 hs4
    go_enter Try.func3, Try.ntmps3
    go_wp2_with (first
      | (go_at_call 5; refine Calls.mono HFi.out ?_; rintro e w1 ⟨p, m, c, rfl, hl, hb1⟩; obtain ⟨l, hm, hlc, hF, hR⟩ := hl HE.out; subst hm; rw [HE0.out]; have HF := hid hF; have hba := (Below.refl w1.heap.size w1).alloc (Nat.le_refl _) (.cells #[.slice p l.length c] 24); have hRW : RdF (fun k => k < w1.heap.size) (w1.alloc (.cells #[.slice p l.length c] 24)) l (.agg #[.slice p l.length c]) := RdF.kept hR (fun k hk => hba.block k hk.2) (fun k hk => hk.2); have h30 : l.length ≤ 30 := (by rw [hlc]; exact H4.out.2); have hnE : ∀ e ∈ l, (esI e.2).length ≤ 4000 := (fun e he => by obtain ⟨j, hj⟩ := List.mem_iff_getElem?.1 he; exact (hF j e hj).2.es H4.out.1); have hnS : ∀ e ∈ l, (snI e.2).length ≤ 4000 := (fun e he => by obtain ⟨j, hj⟩ := List.mem_iff_getElem?.1 he; exact ((hF j e hj).2.ca H4.out.1).2); have HNE := hid (And.intro hnE hnS); have HRW := hid hRW; have HA := hid (All_any l p c _ _ (fun k hk => by simp; omega) hRW (fun e he => Nat.lt_of_le_of_lt (hnE e he) (by decide)) (fun i hi => Nat.lt_of_le_of_lt (rea_much l 4000 hnS (i : Int)) (by omega))); clear hl hF hR hRW hnE hnS hlc)
      | (go_at_call 6; refine Calls.mono HA.out ?_; rintro e w3 ⟨gA, fc, rfl, hAt, hb3⟩; have hO3 : OneE l w1.heap.size gA p c w3 := ⟨(hb3.cell (p := ⟨w1.heap.size, 0, none⟩) (by simp)).trans (cell_of_row _ _ 0 _ _ _ (heap_alloc_new w1 _)), RdF.kept HRW.out (fun k hk => hb3.block k (by simp; omega)) (fun k hk => by have := hb3.size; simp at this; omega), ⟨Nat.zero_le _, hAt.2.1, fun j hj => (let ⟨v, D, h1, h2, h3⟩ := hAt.2.2 j hj; ⟨v, D, h1, h2, fun k hk => ⟨Nat.zero_le _, (h3 k hk).2⟩⟩)⟩, by have := hb3.size; simp at this; omega⟩; have y3 := hO3.y; have hB3 : Below w.heap.size w w3 := hb1.trans ((hba.trans (hb3.mono hba.size)).mono hb1.size)))
    clear HA HRW hAt hb3 hba hb1
    generalize w1.heap.size = bF at *
    have HB3 := hid hB3
    have HO3 := hid hO3
    clear hB3 hO3
    go_loopw [30] (fun i wr => RelEt l.length w3 i wr) (fun i _ => upN l.length i)
    case atStart => exact ⟨0, Nat.zero_le _, rfl, Below.refl _ _⟩
    case round =>
      obtain ⟨k, hkl, rfl, hbr⟩ := hrel
      have hOr := HO3.out.below hbr
      by_cases hlt : k < l.length
      · obtain ⟨⟨pp, it⟩, hit⟩ : ∃ e, l[k]? = some e := ⟨_, List.getElem?_eq_getElem hlt⟩
        obtain ⟨g, vI, hq, hgo, hcv, hI⟩ := RdF.itemF hOr.r hit
        obtain ⟨p1, c1, p2, c2, p3, c3, p4, c4, rfl, _⟩ := id hI
        subst hq
        have d0 := hcv.get 0 _ rfl
        have d1 := hcv.get 1 _ rfl
        have d2 := hcv.get 2 _ rfl
        have d3 := hcv.get 3 _ rfl
        have d4 := hcv.get 4 _ rfl
        have d5 := hcv.get 5 _ rfl
        have d6 := hcv.get 6 _ rfl
        have d7 := hcv.get 7 _ rfl
        have d8 := hcv.get 8 _ rfl
        have d9 := hcv.get 9 _ rfl
        rw [Nat.add_zero] at d0
        have gk : (0 : Int) ≤ (k : Int) := by omega
        have gk1 : (k : Int) < (l.length : Int) := by omega
        have hkb : k < 1099511627776 := by omega
        have hk0 := HF.out k _ hit
        have hes : (esI it).length ≤ 4000 := HNE.out.1 _ (List.mem_of_getElem? hit)
        have hO10 := heap_alloc_new wr (.cells #[.int .i64 (it.k : Int), .string it.x, .int .i64 (it.l : Int), .slice p1 it.ps.length c1, .slice p2 it.ss.length c2, .slice p3 it.bd.length c3, .int .i64 pp, .int .i64 (it.sz : Int), .int .i64 (it.mrk : Int), .slice p4 it.ds.length c4] 35)
        obtain ⟨x0, x1, x2, x3, x4, x5, x6, x7, x8, x9, xf⟩ := ten_at hO10
        have hba := (Below.refl wr.heap.size wr).alloc (Nat.le_refl _) (.cells #[.int .i64 (it.k : Int), .string it.x, .int .i64 (it.l : Int), .slice p1 it.ps.length c1, .slice p2 it.ss.length c2, .slice p3 it.bd.length c3, .int .i64 pp, .int .i64 (it.sz : Int), .int .i64 (it.mrk : Int), .slice p4 it.ds.length c4] 35)
        have hI4 : RdI (fun k => k < wr.heap.size) (wr.alloc (.cells #[.int .i64 (it.k : Int), .string it.x, .int .i64 (it.l : Int), .slice p1 it.ps.length c1, .slice p2 it.ss.length c2, .slice p3 it.bd.length c3, .int .i64 pp, .int .i64 (it.sz : Int), .int .i64 (it.mrk : Int), .slice p4 it.ds.length c4] 35)) pp it (.agg #[.int .i64 (it.k : Int), .string it.x, .int .i64 (it.l : Int), .slice p1 it.ps.length c1, .slice p2 it.ss.length c2, .slice p3 it.bd.length c3, .int .i64 pp, .int .i64 (it.sz : Int), .int .i64 (it.mrk : Int), .slice p4 it.ds.length c4]) := RdI.kept hI (fun j hj => hba.block j hj) (fun j hj => hj)
        have HC1 := hid (effOwn_any it pp _ _ (fun j => j < wr.heap.size) (fun j hj => by simp; omega) hI4 (by omega))
        have HIT := hid hit
        have HK0 := hid hk0
        have HI4 := hid hI4
        have HBK := hid hO10
        have HL := hid hlt
        have HBA := hid hba
        have HOR := hid hOr
        have yr := hOr.y
        have HES := hid hes
        clear hI hcv hit hk0 hI4 hO10 hba hOr hkl hlt hes xf
        go_upto_region 12 with (first
          | (go_at_call 7; refine Calls.mono HC1.out ?_; rintro e w5 ⟨v1, v2, rfl, hn1, hn2, hb5⟩; obtain ⟨D1, hs1, hd1⟩ := hn1.lt; obtain ⟨D2, hs2, hd2⟩ := hn2.lt; obtain ⟨z0, z1, z2, z3, z4, z5, z6, z7, z8, z9, zf⟩ := ten_at ((hb5.block wr.heap.size (by simp)).trans HBK.out); have HC2 := hid (eOwn_ref (L := tks (txI s k)) (sz := (txI s k).size) (by have := txI_le s k; have := H4.out.1; omega) it pp _ w5 (fun j => j < wr.heap.size) (fun j hj => by have := hb5.size; simp at this; omega) (RdI.kept HI4.out (fun j hj => hb5.block j (by simp; omega)) (fun j hj => hj)) HK0.out.2.1 (fun tk h => (tks_facts _ tk h).1) (by have := HES.out; omega)); have HS12 := hid (And.intro hs1 hs2); have HB5 := hid hb5; clear hs1 hs2 hd1 hd2 hn1 hn2 hb5 zf x0 x1 x2 x3 x4 x5 x6 x7 x8 x9)
          | (go_at_call 8; refine Calls.mono HC2.out ?_; rintro e w6 ⟨v3, v4, D3, D4, rfl, hs3, hs4, hb6, _, _⟩))
        clear z0 z1 z2 z3 z4 z5 z6 z7 z8 z9 d0 d1 d2 d3 d4 d5 d6 d7 d8 d9
        have hW6 : Below wr.heap.size wr w6 := HBA.out.trans ((HB5.out.trans (hb6.mono HB5.out.size)).mono (by simp))
        have hbd := Below.drew (Below.refl w6.heap.size w6)
        have hO6 := (HOR.out.below hW6).below hbd
        have h1 := (HS12.out.1.belowQ hb6).belowQ hbd
        have h2 := (HS12.out.2.belowQ hb6).belowQ hbd
        have h3 := hs3.belowQ hbd
        have h4 := hs4.belowQ hbd
        obtain ⟨vl, Dl, hcl, hstl, _⟩ := hO6.a.2.2 k HL.out
        obtain ⟨pl, cl, hvl, _⟩ := id hstl
        subst hvl
        have hca := HK0.out.2.ca H4.out.1
        have hre : (reaL l (k : Int)).length ≤ 200000 := Nat.le_trans (risB_le _) (Nat.le_trans (rea_much l 4000 HNE.out.2 (k : Int)) (by omega))
        have hed : (edF it.ss (reaL l (k : Int))).length ≤ (reaL l (k : Int)).length := List.length_filter_le _ _
        have HLE := hid (show (snI it).length ≤ 4000 ∧ (caI it).length ≤ 4000 ∧ (reaL l (k : Int)).length ≤ 200000 ∧ (edF it.ss (reaL l (k : Int))).length ≤ 200000 from ⟨hca.2, hca.1, hre, Nat.le_trans hed hre⟩)
        have HDF := hid (Nat.lt_of_le_of_lt (rea_much l 4000 HNE.out.2 (k : Int)) (show l.length * 4000 < 1099511627776 by omega))
        have HS1 := hid (sameTexts_any (snI it) v1 v3 D1 D3 w6.drew h1 h3 (by have := HLE.out; omega))
        have H14 := hid (And.intro h1 (And.intro h2 (And.intro h3 h4)))
        have s0 : w6.drew.cell? ⟨bF, 0, none⟩ = some (.slice (some ⟨g, 0, none⟩) l.length c) ∧ w6.drew.cell? ⟨gA, k, none⟩ = some (.slice pl (reaL l (k : Int)).length cl) := ⟨hO6.y, hcl⟩
        have HO6 := hid hO6
        have HSL := hid hstl
        have HW6 := hid hW6
        have HBR := hid hbr
        clear hO6 hcl hstl hca hre hed h1 h2 h3 h4 hs3 hs4 hW6 hbd hb6 hbr hgo y3
        go_region_held3 (fun w' => w'.cell? ⟨bF, 0, none⟩ = some (.slice (some ⟨g, 0, none⟩) l.length c) ∧ w'.cell? ⟨gA, k, none⟩ = some (.slice pl (reaL l (k : Int)).length cl)) (first | (with_reducible exact s0) | (with_reducible exact s7) | (with_reducible exact s8) | (with_reducible exact s9) | (with_reducible exact s10) | (with_reducible exact s11) | (with_reducible exact s12) | (with_reducible exact s13) | go_keep)
          (first
            | (go_at_call 9; refine Calls.mono HS1.out ?_; clear HS1; rintro e w7 ⟨rfl, m7, hw7⟩; have hb7 : Below w6.drew.heap.size w6.drew w7 := (by rw [hw7]; exact below_drawn _ _); clear hw7; have s7 : w7.cell? ⟨bF, 0, none⟩ = some (.slice (some ⟨g, 0, none⟩) l.length c) ∧ w7.cell? ⟨gA, k, none⟩ = some (.slice pl (reaL l (k : Int)).length cl) := ⟨cell_onF hb7 s0.1, cell_onF hb7 s0.2⟩; have HS2 := hid (sameTexts_any (caI it) v2 v4 D2 D4 w7 (H14.out.2.1.belowQ hb7) (H14.out.2.2.2.belowQ hb7) (by have := HLE.out; omega)))
            | (go_at_call 9; refine Calls.mono HS2.out ?_; clear HS2; rintro e w8 ⟨rfl, m8, hw8⟩; have hb8 : Below w6.drew.heap.size w6.drew w8 := (by rw [hw8]; exact below_drewN hb7 m8); clear hw8; have s8 : w8.cell? ⟨bF, 0, none⟩ = some (.slice (some ⟨g, 0, none⟩) l.length c) ∧ w8.cell? ⟨gA, k, none⟩ = some (.slice pl (reaL l (k : Int)).length cl) := ⟨cell_onF hb8 s0.1, cell_onF hb8 s0.2⟩; have HRe := hid (reach_ref s l _ w8 (fun j => j < w8.heap.size) (fun _ h => h) (HO6.out.below hb8).r HF.out H4.out.1 h30 k HL.out))
            | (go_at_call 10; refine Calls.mono HRe.out ?_; clear HRe; rintro e w9 ⟨vR, DR, rfl, hsR, _, hb9q⟩; have hb9 : Below w6.drew.heap.size w6.drew w9 := hb8.trans (hb9q.mono hb8.size); clear hb9q; have s9 : w9.cell? ⟨bF, 0, none⟩ = some (.slice (some ⟨g, 0, none⟩) l.length c) ∧ w9.cell? ⟨gA, k, none⟩ = some (.slice pl (reaL l (k : Int)).length cl) := ⟨cell_onF hb9 s0.1, cell_onF hb9 s0.2⟩; have HS3 := hid (sameTexts_any (reaL l (k : Int)) (.slice pl (reaL l (k : Int)).length cl) vR Dl DR w9 (HSL.out.belowQ hb9) hsR (by have := HLE.out; omega)))
            | (go_at_call 9; refine Calls.mono HS3.out ?_; clear HS3; rintro e w10 ⟨rfl, m10, hw10⟩; have hb10 : Below w6.drew.heap.size w6.drew w10 := (by rw [hw10]; exact below_drewN hb9 m10); clear hw10; have s10 : w10.cell? ⟨bF, 0, none⟩ = some (.slice (some ⟨g, 0, none⟩) l.length c) ∧ w10.cell? ⟨gA, k, none⟩ = some (.slice pl (reaL l (k : Int)).length cl) := ⟨cell_onF hb10 s0.1, cell_onF hb10 s0.2⟩; have HD := hid (ediags_any l (some ⟨g, 0, none⟩) c w10 (fun j => j < w10.heap.size) (fun _ h => h) (HO6.out.below hb10).r (fun e he => Nat.lt_of_le_of_lt (HNE.out.1 e he) (by decide)) k pp it HIT.out HDF.out))
            | (go_at_call 12; refine Calls.mono HD.out ?_; clear HD; rintro e w11 ⟨vd, rfl, hrow, hb11q⟩; obtain ⟨pd, nd, hvd, hsd⟩ := dgE_slat hrow (by have := HLE.out; omega); subst hvd; have hb11 : Below w6.drew.heap.size w6.drew w11 := hb10.trans (hb11q.mono hb10.size); clear hb11q hrow; have s11 : w11.cell? ⟨bF, 0, none⟩ = some (.slice (some ⟨g, 0, none⟩) l.length c) ∧ w11.cell? ⟨gA, k, none⟩ = some (.slice pl (reaL l (k : Int)).length cl) := ⟨cell_onF hb11 s0.1, cell_onF hb11 s0.2⟩; have HX := hid (effects_ref s l _ w11 (fun j => j < w11.heap.size) (fun _ h => h) (HO6.out.below hb11).r HF.out H4.out.1 h30 k pp it HIT.out))
            | (go_at_call 13; refine Calls.mono HX.out ?_; clear HX; rintro e w12 ⟨ve, rfl, hrow2, hb12q⟩; obtain ⟨pe, ne, hve, hse⟩ := dgE_slat hrow2 (by have := HLE.out; omega); subst hve; have hb12 : Below w6.drew.heap.size w6.drew w12 := hb11.trans (hb12q.mono hb11.size); have HSD := hid (sameDiags_any (dgE (edF it.ss (reaL l (k : Int)))) pd pe nd ne _ w12 (hsd.belowQ hb12q) hse); clear hb12q hrow2 hse; have s12 : w12.cell? ⟨bF, 0, none⟩ = some (.slice (some ⟨g, 0, none⟩) l.length c) ∧ w12.cell? ⟨gA, k, none⟩ = some (.slice pl (reaL l (k : Int)).length cl) := ⟨cell_onF hb12 s0.1, cell_onF hb12 s0.2⟩)
            | (go_at_call 11; refine Calls.mono HSD.out ?_; clear HSD; rintro e w13 ⟨rfl, m13, hw13⟩; have hb13 : Below w6.drew.heap.size w6.drew w13 := (by rw [hw13]; exact below_drewN hb12 m13); clear hw13; have s13 : w13.cell? ⟨bF, 0, none⟩ = some (.slice (some ⟨g, 0, none⟩) l.length c) ∧ w13.cell? ⟨gA, k, none⟩ = some (.slice pl (reaL l (k : Int)).length cl) := ⟨cell_onF hb13 s0.1, cell_onF hb13 s0.2⟩))
        have HB13 := hid hb13
        go_wp2
        go_roundw
        case rel => exact ⟨k + 1, HL.out, by go_num, (HBR.out.trans (HW6.out.mono HBR.out.size)).trans ((Below.drew (Below.refl w6.heap.size w6)).trans HB13.out |>.mono (Nat.le_trans HBR.out.size HW6.out.size))⟩
        case measure => have := HL.out; simp [upN, Go.RowKit.intOf]; omega
      · obtain rfl : k = l.length := by omega
        go_wp2
        go_ret
        exact ⟨rfl, HB3.out.trans (hbr.mono HB3.out.size)⟩
  · have HE := hid hE
    have hE0 : ((flE s : Nat) : Int) ≠ 0 := by omega
    clear hE
    go_enter Try.func3, Try.ntmps3
    go_wp2_with (first
      | (go_at_call 5; refine Calls.mono HFi.out ?_; rintro e w1 ⟨p, m, c, rfl, hl, hb1⟩))
    go_ret
    exact ⟨rfl, hb1.alloc hb1.size _⟩
end Go.Proofs.Ytjpmnholpeidmaa


/- Where all is secret nothing is told: the law FlowTop. (Written by tools/gen_lawftop.py.) -/
import Derived.Test.YtdkpfnohdknldaaGreatDoorZg37
import Derived.Test.YtdkpfnohdknldaaGreatDoorZhLawAlive6
import Derived.Test.YtdkpfnohdknldaaGreatDoorZhLawNTells
import Derived.Test.YtdkpfnohdknldaaGreatDoorZb12
namespace Go.Proofs.YtdkpfnohdknldaaGreatDoor
open Go.RowKit
set_option linter.unusedVariables false
attribute [local go_sem ↓] Go.wp_at_zero Go.wp_at_succ
theorem fil_smT (s : ByteArray) : ∀ e ∈ fil s, smL e.2.bd := by
 intro e he
 obtain ⟨j, _, hj⟩ := fil_mem he
 rw [hj]
 show smL (itI s j).bd
 rw [itI_tx]
 exact itm_small _
def RelT1 (l : List (Int × It)) (oB : Nat) (W0 : World) (i : Value) (wr : World) : Prop := ∃ (k : Nat) (q : Option Addr) (cq : Nat), k ≤ l.length ∧ i = .int .i64 (k : Int) ∧ Ag oB W0 wr ((l.map topE).take k) (.slice q k cq)
def RelPm (ps : List Pm) (B z : Nat) (q : Option Addr) (W : World) (i : Value) (wr : World) : Prop := ∃ k : Nat, k ≤ ps.length ∧ i = .int .i64 (k : Int) ∧ PmR ps B z q W k wr
theorem top_rdI {it : It} {pp : Int} {B z1 z2 z3 n bi : Nat} {q1 q2 q3 q4 : Option Addr} {e1 e2 e3 e4 : Nat} {w3 w4 w5 w6 : World} (h : OwnP it B z1 z2 z3 q1 q2 q3 q4 w3) (hB : bi + 1 = B) (h4 : ∀ z, z ≠ bi → w4.heap[z]? = w3.heap[z]?) (s4 : w4.heap.size = w3.heap.size) (h5 : PmR it.ps B z1 q1 w4 it.ps.length w5) (h6 : SlA (RdA n) z2 z3 w6 (it.bd.map topX) q3) (o6 : Outs z2 z3 w5 w6) :
  RdI (fun j => bi ≤ j ∧ j < w6.heap.size) w6 pp (topI it) (.agg #[.int .i64 (it.k : Int), .string it.x, .int .i64 255, .slice q1 it.ps.length e1, .slice q2 it.ss.length e2, .slice q3 it.bd.length e3, .int .i64 pp, .int .i64 (it.sz : Int), .int .i64 (it.mrk : Int), .slice q4 it.ds.length e4]) := by
 have a1 := h.a1
 have a2 := h.a2
 have a3 := h.a3
 have a4 := h.a4
 have hs : w6.heap.size = w3.heap.size := by rw [o6.size, h5.o.size, s4]
 obtain ⟨L, l1, l2⟩ := h5.l
 have hL := l1.done
 subst hL
 have b6 : ∀ z, B ≤ z → (z < z2 ∨ z3 ≤ z) → z < z1 ∨ z1 ≤ z → True := fun _ _ _ _ => trivial
 have k1 : ∀ z, (B ≤ z ∧ z < z1) → w6.heap[z]? = w5.heap[z]? := fun z hz => o6.block z (by omega)
 have k2 : ∀ z, B ≤ z → (z1 ≤ z) → (z < z2 ∨ z3 ≤ z) → w6.heap[z]? = w3.heap[z]? := fun z c d e => (o6.block z e).trans ((h5.o.block z (.inr d)).trans (h4 z (by omega)))
 refine ⟨q1, e1, q2, e2, q3, e3, q4, e4, by simp [topI], (l2.kept k1).wide (fun z hz => ⟨by omega, by omega⟩), (h.ss.kept (fun z hz => k2 z (by omega) hz.1 (.inl hz.2))).wide (fun z hz => ⟨by omega, by omega⟩), ⟨n, h6.slT (fun z c d => ⟨by omega, by omega⟩) (fun lo' hi' c d => RdA.rdS n (fun z c2 d2 => ⟨by omega, by omega⟩))⟩, (h.ds.kept (fun z hz => k2 z (by omega) (by omega) (.inr hz.1))).wide (fun z hz => ⟨by omega, by omega⟩)⟩
set_option maxHeartbeats 4000000 in
set_option maxRecDepth 100000 in
theorem ftop_walk (s : ByteArray) (w : World) (hV : VarAt w) : Calls Tryz.prog 5 #[.string s] w fun e w' => e = .returned (.bool true) ∧ Below w.heap.size w w' := by
 have HAl := hid (alive6 w hV)
 have HFi := hid (fun w' hv => File_any s w' hv)
 have hE5 := flE_le5 s
 by_cases hE : flE s = 0
 ·have hs4 := (flE_small hE).1
  have HP := hid (fil_ps s)
  have HCw := hid (fil_cw s hs4)
  have HWf := hid (fil_wf s hs4)
  have HN := hid (fil_n s hE)
  have HSm := hid (fil_smT s)
  have hl30 := (flE_small hE).2
  rw [← fil_len] at hl30
  have HE := hid hE
  have hE0 : ((flE s : Nat) : Int) = 0 := by rw [hE]; rfl
  have HE0 := hid hE0
  obtain ⟨i0, hi0, hz0, hz1, hz2⟩ := info_parts Tryz.infoIt
  clear hE hE0 hE5 hs4
  go_enter Tryz.func5, Tryz.ntmps5
  go_wp2_with (first
   | (go_at_call 24; refine Calls.mono HAl.out ?_; rintro e w0 ⟨rfl, hb0⟩; have hV0 := hV.below hb0)
   | (go_at_call 10; refine Calls.mono (HFi.out _ hV0) ?_; rintro e w1 ⟨p, m, c, rfl, hft, hb1⟩; rw [HE0.out]; have hR1 := hft.1 HE.out; clear hft; have hm := RdF.sizeQ hR1; subst hm))
  generalize fil s = l at *
  have hba := (Below.refl w1.heap.size w1).alloc (Nat.le_refl _) (.cells #[.slice p l.length c] 25)
  have hbb := hba.alloc (by simp) (.cells #[.slice none 0 0] 25)
  have e1 : (w1.alloc (.cells #[.slice p l.length c] 25)).heap.size = w1.heap.size + 1 := by simp
  have hB0 := hb0.trans (hb1.mono hb0.size)
  have HB1 := hid (hB0.trans (hbb.mono hB0.size))
  have HWB := hid hB0.size
  have hA0 := Ag.start (wt := w1.alloc (.cells #[.slice p l.length c] 25))
  rw [e1] at hA0
  have y0 := cell_alloc (one_new w1 (.slice p l.length c) 25) (.cells #[.slice none 0 0] 25)
  have hR0 : RdF (fun k => k < w1.heap.size) ((w1.alloc (.cells #[.slice p l.length c] 25)).alloc (.cells #[.slice none 0 0] 25)) l (.agg #[.slice p l.length c]) := RdF.kept hR1 (fun k hk => hbb.block k hk.2) (fun k hk => hk.2)
  clear hR1 hba hbb hb0 hb1 HFi HE HE0 HAl hV0 hB0 e1
  go_wp2
  generalize (w1.alloc (.cells #[.slice p l.length c] 25)).alloc (.cells #[.slice none 0 0] 25) = W0 at *
  generalize w1.heap.size = b3 at *
  have HR0 := hid hR0
  have HY0 := hid y0
  clear hR0
  go_loopw [25] (fun i wr => RelT1 l (b3 + 1) W0 i wr) (fun i _ => upN l.length i)
  case atStart => exact ⟨0, none, 0, Nat.zero_le _, rfl, hA0⟩
  case round =>
   generalize wr = wO at *
   obtain ⟨k, q, cq, hkl, rfl, hA⟩ := hrel
   have hlow : ∀ z, z < b3 + 1 → wO.heap[z]? = W0.heap[z]? := fun z hz => hA.stp.block z (by have := hA.siz; omega) (by omega) (by simp)
   have hoB := hA.lt
   have cO : wO.cell? ⟨b3 + 1, 0, none⟩ = some (.slice q k cq) := cell_of_row _ _ 0 _ _ _ hA.blk
   clear hA0 y0
   by_cases hlt : k < l.length
   ·obtain ⟨e0, he0⟩ : ∃ e, l[k]? = some e := ⟨_, List.getElem?_eq_getElem hlt⟩
    obtain ⟨pp, it⟩ := e0
    obtain ⟨g, vI, hq, hgo, hcv, hI⟩ := RdF.itemF HR0.out he0
    subst hq
    have hgo : g < b3 := hgo
    have hcv := hcv.kept (hlow g (by omega))
    have hI := RdI.kept hI (fun z hz => hlow z (Nat.lt_succ_of_lt hz)) (fun _ h => h)
    obtain ⟨p1, c1, p2, c2, p3, c3, p4, c4, hvI, _⟩ := id hI
    subst hvI
    have d0 := hcv.get 0 _ rfl
    have d1 := hcv.get 1 _ rfl
    have d2 := hcv.get 2 _ rfl
    have d3 := hcv.get 3 _ rfl
    have d4 := hcv.get 4 _ rfl
    have d5 := hcv.get 5 _ rfl
    have d6 := hcv.get 6 _ rfl
    have d7 := hcv.get 7 _ rfl
    have d8 := hcv.get 8 _ rfl
    have d9 := hcv.get 9 _ rfl
    rw [Nat.add_zero] at d0
    have gk : (0 : Int) ≤ (k : Int) := by omega
    have gk1 : (k : Int) < (l.length : Int) := by omega
    have hkb : k < 1099511627776 := by omega
    have hbI := (Below.refl wO.heap.size wO).alloc (Nat.le_refl _) (.cells #[.int .i64 (it.k : Int), .string it.x, .int .i64 (it.l : Int), .slice p1 it.ps.length c1, .slice p2 it.ss.length c2, .slice p3 it.bd.length c3, .int .i64 pp, .int .i64 (it.sz : Int), .int .i64 (it.mrk : Int), .slice p4 it.ds.length c4] 36)
    have hsI : (wO.alloc (.cells #[.int .i64 (it.k : Int), .string it.x, .int .i64 (it.l : Int), .slice p1 it.ps.length c1, .slice p2 it.ss.length c2, .slice p3 it.bd.length c3, .int .i64 pp, .int .i64 (it.sz : Int), .int .i64 (it.mrk : Int), .slice p4 it.ds.length c4] 36)).heap.size = wO.heap.size + 1 := by simp
    have HOw := hid (OwnA_any it pp _ (wO.alloc (.cells #[.int .i64 (it.k : Int), .string it.x, .int .i64 (it.l : Int), .slice p1 it.ps.length c1, .slice p2 it.ss.length c2, .slice p3 it.bd.length c3, .int .i64 pp, .int .i64 (it.sz : Int), .int .i64 (it.mrk : Int), .slice p4 it.ds.length c4] 36)) (fun z => z < b3) (fun z hz => by show z < _; omega) (HSm.out _ (List.mem_of_getElem? he0)) (RdI.kept hI (fun z hz => hbI.block z (by show z < _; omega)) (fun _ h => h)))
    have hnI := heap_alloc_new wO (.cells #[.int .i64 (it.k : Int), .string it.x, .int .i64 (it.l : Int), .slice p1 it.ps.length c1, .slice p2 it.ss.length c2, .slice p3 it.bd.length c3, .int .i64 pp, .int .i64 (it.sz : Int), .int .i64 (it.mrk : Int), .slice p4 it.ds.length c4] 36)
    have HTk := hid (show (l.map topE).take (k + 1) = (l.map topE).take k ++ [(pp, topI it)] by rw [List.take_add_one, List.getElem?_map, he0]; rfl)
    have HLN := hid (show ((l.map topE).take k).length = k by rw [List.length_take, List.length_map]; omega)
    have HL := hid hlt
    have HBI := hid (And.intro hbI hsI)
    have hmax : k + 1 ≤ maxLen := by unfold maxLen; omega
    have hby : (k + 1) * 152 ≤ 140737488355328 := by omega
    obtain ⟨v0, v1, v2, v3, v4, v5, v6, v7, v8, v9, _⟩ := tenF_at hnI
    have HA := hid hA
    have HcO := hid cO
    have hps5 := HP.out _ (List.mem_of_getElem? he0)
    have hbis : wO.heap.size < (wO.alloc (.cells #[.int .i64 (it.k : Int), .string it.x, .int .i64 (it.l : Int), .slice p1 it.ps.length c1, .slice p2 it.ss.length c2, .slice p3 it.bd.length c3, .int .i64 pp, .int .i64 (it.sz : Int), .int .i64 (it.mrk : Int), .slice p4 it.ds.length c4] 36)).heap.size := by omega
    clear hcv hI hlt hkl he0 hbI hA hlow hsI cO
    go_wp2_with (first
     | (go_at_call 25; refine Calls.mono HOw.out ?_; rintro e w3 ⟨q1, e1, q2, e2, q3, e3, q4, e4, z1, z2, z3, rfl, hOP, hbo⟩; have hbi := (hbo.block wO.heap.size hbis).trans hnI; obtain ⟨a0, a1, a2, a3, a4, a5, a6, a7, a8, a9, af⟩ := tenF_at hbi; clear v0 v1 v2 v3 v4 v5 v6 v7 v8 v9 d0 d1 d2 d3 d4 d5 d6 d7 d8 d9))
    have hW4 : (((((((((((w3.setCell ⟨wO.heap.size, 0, none⟩ (.int .i64 (it.k : Int))).setCell ⟨wO.heap.size, 1, none⟩ (.string it.x)).setCell ⟨wO.heap.size, 2, none⟩ (.int .i64 (it.l : Int))).setCell ⟨wO.heap.size, 3, none⟩ (.slice q1 it.ps.length e1)).setCell ⟨wO.heap.size, 4, none⟩ (.slice q2 it.ss.length e2)).setCell ⟨wO.heap.size, 5, none⟩ (.slice q3 it.bd.length e3)).setCell ⟨wO.heap.size, 6, none⟩ (.int .i64 pp)).setCell ⟨wO.heap.size, 7, none⟩ (.int .i64 (it.sz : Int))).setCell ⟨wO.heap.size, 8, none⟩ (.int .i64 (it.mrk : Int))).setCell ⟨wO.heap.size, 9, none⟩ (.slice q4 it.ds.length e4)).setCell ⟨wO.heap.size, 2, none⟩ (.int .i64 255)).heap[wO.heap.size]? = some (.cells #[.int .i64 (it.k : Int), .string it.x, .int .i64 255, .slice q1 it.ps.length e1, .slice q2 it.ss.length e2, .slice q3 it.bd.length e3, .int .i64 pp, .int .i64 (it.sz : Int), .int .i64 (it.mrk : Int), .slice q4 it.ds.length e4] 36 (0, 0)) := by simp [World.setCell, Array.getElem?_modify, hbi]
    have hO4 : ∀ z, z ≠ wO.heap.size → (((((((((((w3.setCell ⟨wO.heap.size, 0, none⟩ (.int .i64 (it.k : Int))).setCell ⟨wO.heap.size, 1, none⟩ (.string it.x)).setCell ⟨wO.heap.size, 2, none⟩ (.int .i64 (it.l : Int))).setCell ⟨wO.heap.size, 3, none⟩ (.slice q1 it.ps.length e1)).setCell ⟨wO.heap.size, 4, none⟩ (.slice q2 it.ss.length e2)).setCell ⟨wO.heap.size, 5, none⟩ (.slice q3 it.bd.length e3)).setCell ⟨wO.heap.size, 6, none⟩ (.int .i64 pp)).setCell ⟨wO.heap.size, 7, none⟩ (.int .i64 (it.sz : Int))).setCell ⟨wO.heap.size, 8, none⟩ (.int .i64 (it.mrk : Int))).setCell ⟨wO.heap.size, 9, none⟩ (.slice q4 it.ds.length e4)).setCell ⟨wO.heap.size, 2, none⟩ (.int .i64 255)).heap[z]? = w3.heap[z]? := fun z hz => by simp [World.setCell, Array.getElem?_modify, Ne.symm hz]
    have hS4 : (((((((((((w3.setCell ⟨wO.heap.size, 0, none⟩ (.int .i64 (it.k : Int))).setCell ⟨wO.heap.size, 1, none⟩ (.string it.x)).setCell ⟨wO.heap.size, 2, none⟩ (.int .i64 (it.l : Int))).setCell ⟨wO.heap.size, 3, none⟩ (.slice q1 it.ps.length e1)).setCell ⟨wO.heap.size, 4, none⟩ (.slice q2 it.ss.length e2)).setCell ⟨wO.heap.size, 5, none⟩ (.slice q3 it.bd.length e3)).setCell ⟨wO.heap.size, 6, none⟩ (.int .i64 pp)).setCell ⟨wO.heap.size, 7, none⟩ (.int .i64 (it.sz : Int))).setCell ⟨wO.heap.size, 8, none⟩ (.int .i64 (it.mrk : Int))).setCell ⟨wO.heap.size, 9, none⟩ (.slice q4 it.ds.length e4)).setCell ⟨wO.heap.size, 2, none⟩ (.int .i64 255)).heap.size = w3.heap.size := by simp
    have hB4 : Below wO.heap.size wO (((((((((((w3.setCell ⟨wO.heap.size, 0, none⟩ (.int .i64 (it.k : Int))).setCell ⟨wO.heap.size, 1, none⟩ (.string it.x)).setCell ⟨wO.heap.size, 2, none⟩ (.int .i64 (it.l : Int))).setCell ⟨wO.heap.size, 3, none⟩ (.slice q1 it.ps.length e1)).setCell ⟨wO.heap.size, 4, none⟩ (.slice q2 it.ss.length e2)).setCell ⟨wO.heap.size, 5, none⟩ (.slice q3 it.bd.length e3)).setCell ⟨wO.heap.size, 6, none⟩ (.int .i64 pp)).setCell ⟨wO.heap.size, 7, none⟩ (.int .i64 (it.sz : Int))).setCell ⟨wO.heap.size, 8, none⟩ (.int .i64 (it.mrk : Int))).setCell ⟨wO.heap.size, 9, none⟩ (.slice q4 it.ds.length e4)).setCell ⟨wO.heap.size, 2, none⟩ (.int .i64 255)) := Below.setCell (Below.setCell (Below.setCell (Below.setCell (Below.setCell (Below.setCell (Below.setCell (Below.setCell (Below.setCell (Below.setCell (Below.setCell (HBI.out.1.trans (hbo.mono HBI.out.1.size)) (Nat.le_refl _) _) (Nat.le_refl _) _) (Nat.le_refl _) _) (Nat.le_refl _) _) (Nat.le_refl _) _) (Nat.le_refl _) _) (Nat.le_refl _) _) (Nat.le_refl _) _) (Nat.le_refl _) _) (Nat.le_refl _) _) (Nat.le_refl _) _
    clear a0 a1 a2 a3 a4 a5 a6 a7 a8 a9 af hbi
    generalize (((((((((((w3.setCell ⟨wO.heap.size, 0, none⟩ (.int .i64 (it.k : Int))).setCell ⟨wO.heap.size, 1, none⟩ (.string it.x)).setCell ⟨wO.heap.size, 2, none⟩ (.int .i64 (it.l : Int))).setCell ⟨wO.heap.size, 3, none⟩ (.slice q1 it.ps.length e1)).setCell ⟨wO.heap.size, 4, none⟩ (.slice q2 it.ss.length e2)).setCell ⟨wO.heap.size, 5, none⟩ (.slice q3 it.bd.length e3)).setCell ⟨wO.heap.size, 6, none⟩ (.int .i64 pp)).setCell ⟨wO.heap.size, 7, none⟩ (.int .i64 (it.sz : Int))).setCell ⟨wO.heap.size, 8, none⟩ (.int .i64 (it.mrk : Int))).setCell ⟨wO.heap.size, 9, none⟩ (.slice q4 it.ds.length e4)).setCell ⟨wO.heap.size, 2, none⟩ (.int .i64 255)) = W4 at *
    rw [HBI.out.2] at hOP
    have HPM0 := hid (show PmR it.ps (wO.heap.size + 1) z1 q1 W4 0 W4 from ⟨⟨_, PmK.start _, hOP.ps.kept (fun z hz => hO4 z (by omega))⟩, fun h => by
     obtain ⟨gp, cur, h1, h2⟩ := hOP.pb h
     obtain ⟨gp', h3, h4, _⟩ := hOP.ps.2 h
     rw [h1] at h3
     injection h3 with h3
     injection h3 with h3
     subst h3
     exact ⟨gp, cur, h1, h4.1, h4.2, (hO4 gp (by have := h4.1; omega)).trans h2⟩, Outs.refl _ _ _⟩)
    have HOP := hid hOP
    have HW4 := hid (And.intro hO4 (And.intro hS4 hB4))
    obtain ⟨_, _, _, t3, _⟩ := tenF_at hW4
    clear hOP hO4 hS4 hB4
    go_loopw [35] (fun i wr => RelPm it.ps (wO.heap.size + 1) z1 q1 W4 i wr) (fun i _ => upN it.ps.length i)
    case atStart => exact ⟨0, Nat.zero_le _, rfl, HPM0.out⟩
    case round =>
     obtain ⟨j, hjl, rfl, hPR⟩ := hrel
     clear HPM0
     have hbb : wr.heap[wO.heap.size]? = some (.cells #[.int .i64 (it.k : Int), .string it.x, .int .i64 255, .slice q1 it.ps.length e1, .slice q2 it.ss.length e2, .slice q3 it.bd.length e3, .int .i64 pp, .int .i64 (it.sz : Int), .int .i64 (it.mrk : Int), .slice q4 it.ds.length e4] 36 (0, 0)) := (hPR.o.block _ (.inl (Nat.lt_succ_self _))).trans hW4
     obtain ⟨t0, t1, t2, t3', t4, t5, t6, t7, t8, t9, _⟩ := tenF_at hbb
     by_cases hlt2 : j < it.ps.length
     ·obtain ⟨gp, cur, hqq, g1, g2, g3⟩ := hPR.b (by omega)
      subst hqq
      obtain ⟨pr, hpr⟩ : ∃ x, it.ps[j]? = some x := ⟨_, List.getElem?_eq_getElem hlt2⟩
      obtain ⟨L, l1, l2⟩ := hPR.l
      obtain ⟨gp', l3, _, l4⟩ := l2.2 (by rw [l1.1]; omega)
      injection l3 with l3
      injection l3 with l3
      subst l3
      have y1 := l4 j pr (l1.at hpr) 1 (.int .i64 (pr.l : Int)) rfl
      have fz : ∀ o, wr.frozen? ⟨gp, o, none⟩ = false := fun o => by simp [World.frozen?, g3]
      have gj : (0 : Int) ≤ (j : Int) := by omega
      have gj1 : (j : Int) < (it.ps.length : Int) := by omega
      have hjb : j < 1099511627776 := by omega
      have HNx := hid (And.intro hlt2 (hPR.next hpr))
      clear hlt2 hjl hPR l1 l2 l4 hbb g3 hpr
      go_wp2
      go_roundw
      case rel => exact ⟨j + 1, HNx.out.1, by go_num, HNx.out.2⟩
      case measure => have := HNx.out.1; simp [upN, intOf]; omega
     ·obtain rfl : j = it.ps.length := by omega
      obtain ⟨n, hSA⟩ := HOP.out.bd
      have hza2 := HOP.out.a2
      have hza1 := HOP.out.a1
      have hSA2 : SlA (RdA n) z2 z3 wr it.bd q3 := hSA.kept (fun z c d => (hPR.o.block z (.inr (by omega))).trans (HW4.out.1 z (by omega))) (fun lo' hi' c d => RdA.kept n (fun z c2 d2 => (hPR.o.block z (.inr (by omega))).trans (HW4.out.1 z (by omega))))
      have HT := hid (top_any n it.bd q3 e3 wr z2 z3 hSA2)
      have HPR := hid hPR
      have HBB := hid hbb
      have HZ := hid (show wO.heap.size < z2 by omega)
      clear hlt2 hjl hSA hSA2 hPR t0 t1 t2 t3' t4 t6 t7 t8 t9
      go_wp2_with (first
       | (go_at_call 26; refine Calls.mono HT.out ?_; rintro e w6 ⟨rfl, hT6, o6⟩; have hb6 : Below wO.heap.size wO w6 := ⟨o6.os.trans (HPR.out.o.os.trans HW4.out.2.2.os), o6.tape.trans (HPR.out.o.tape.trans HW4.out.2.2.tape), o6.output.trans (HPR.out.o.output.trans HW4.out.2.2.output), (by rw [o6.size, HPR.out.o.size]; exact HW4.out.2.2.size), fun z hz => (o6.block z (.inl (by have := HZ.out; omega))).trans ((HPR.out.o.block z (.inl (by omega))).trans (HW4.out.2.2.block z hz))⟩; have hb7 := (o6.block wO.heap.size (.inl HZ.out)).trans HBB.out; obtain ⟨s0, s1, s2, s3, s4, s5, s6, s7, s8, s9, _⟩ := tenF_at hb7; obtain ⟨_, cO5, cO6, hbn, ⟨xs, ho5⟩, hnew, hone, hbase⟩ := ag_call HA.out HLN.out HcO.out hb6 (.int .i64 (it.k : Int)) (.string it.x) (.int .i64 255) (.slice q1 it.ps.length e1) (.slice q2 it.ss.length e2) (.slice q3 it.bd.length e3) (.int .i64 pp) (.int .i64 (it.sz : Int)) (.int .i64 (it.mrk : Int)) (.slice q4 it.ds.length e4) rfl rfl rfl rfl rfl rfl rfl rfl rfl rfl; have HR6 := hid (top_rdI (pp := pp) (e1 := e1) (e2 := e2) (e3 := e3) (e4 := e4) HOP.out rfl HW4.out.1 HW4.out.2.1 HPR.out hT6 o6); have HB6 := hid (And.intro hb6 hbn); clear hb7 hT6 o6)
       | (at_builtin; refine wpList_append_lies _ rfl (.tmp 48) (.tmp 50) 23 rfl (b3 + 1 + 1) 36 i0 _ 10 152 Tryz.underlying23 hi0 hz0 hz1 hz2 rfl (by decide) _ _ _ rfl ho5 ⟨w6.heap.size, 0, none⟩ 1 1 [.int .i64 (it.k : Int), .string it.x, .int .i64 255, .slice q1 it.ps.length e1, .slice q2 it.ss.length e2, .slice q3 it.bd.length e3, .int .i64 pp, .int .i64 (it.sz : Int), .int .i64 (it.mrk : Int), .slice q4 it.ds.length e4] rfl rfl hnew hone (by decide) hmax hby hbase _ rfl ?_; intro g6 cap6 w7 hown7 hgrow7 hat7 hlt7; obtain ⟨cO7, fO7⟩ := ag_grown HA.out HB6.out.1 HB6.out.2 hgrow7))
      go_roundw
      case rel =>
       refine ⟨k + 1, some ⟨g6, 0, none⟩, cap6, HL.out, by go_num, ?_⟩
       rw [HTk.out]
       have hnx := HA.out.next (e := (pp, topI it)) (c := [.int .i64 (it.k : Int), .string it.x, .int .i64 255, .slice q1 it.ps.length e1, .slice q2 it.ss.length e2, .slice q3 it.bd.length e3, .int .i64 pp, .int .i64 (it.sz : Int), .int .i64 (it.mrk : Int), .slice q4 it.ds.length e4]) HB6.out.1 HB6.out.2 HR6.out rfl (by rw [HLN.out]; exact ho5) (by rw [HLN.out]; exact hown7) hgrow7 hat7
       rw [HLN.out] at hnx
       exact hnx
      case measure => have := HL.out; simp [upN, intOf]; omega
   ·obtain rfl : k = l.length := by omega
    have hall : (l.map topE).take l.length = l.map topE := List.take_of_length_le (by rw [List.length_map]; exact Nat.le_refl _)
    rw [hall] at hA
    have hlen' : (l.map topE).length = l.length := List.length_map _
    have HRg := hid (hA.done (by rw [hlen']; omega))
    have HRf := hid (show RdF (fun z => z < b3) wO l (.agg #[.slice p l.length c]) from RdF.kept HR0.out (fun z hz => hlow z (Nat.lt_succ_of_lt hz)) (fun _ h => h))
    have yf := (World.cell?_of_block (a := ⟨b3, 0, none⟩) (hlow b3 (Nat.lt_succ_self _))).trans HY0.out
    have HBW := hid (show Below w.heap.size w wO from HB1.out.trans ⟨hA.stp.os, hA.stp.tape, hA.stp.output, hA.stp.size, fun z hz => hA.stp.block z (by have := hA.siz; have := HWB.out; omega) (by have := hA.siz; have := HWB.out; omega) (by simp)⟩)
    have yg : wO.cell? ⟨b3 + 1, 0, none⟩ = some (.slice q l.length cq) := cell_of_row _ _ 0 _ _ _ hA.blk
    have HPt := hid (show ∀ e ∈ l.map topE, e.2.ps.length ≤ 5 from fun e he => by
     obtain ⟨e', h1, rfl⟩ := List.mem_map.1 he
     show (e'.2.ps.map topP).length ≤ 5
     rw [List.length_map]
     exact HP.out e' h1)
    have HCt := hid (cw_topL HCw.out)
    have HTn := hid (fun (i : Nat) (e : Int × It) (h : l[i]? = some e) (hn : noL (evI l i) = []) => top_none h hn)
    have hbo : b3 + 1 < wO.heap.size := hoB
    clear hA hall hkl hlt hlow hoB HB1 HR0 HY0 HWB HP HCw HSm cO
    rw [← hlen'] at HRg
    generalize hl' : l.map topE = l' at *
    clear hl'
    have HLL := hid hlen'
    clear hlen'
    go_wp2
    go_loopw [57] (fun i wr => RelNU l.length wO i wr) (fun i _ => upN l.length i)
    case atStart => exact ⟨0, Nat.zero_le _, rfl, Below.refl _ _⟩
    case round =>
     generalize wr = wP at *
     obtain ⟨k, hkl, rfl, hbr⟩ := hrel
     have zg := cell_on hbr yg
     have zf := cell_on hbr yf
     have hsz := hbr.size
     by_cases hlt : k < l.length
     ·obtain ⟨e0, he0⟩ : ∃ e, l[k]? = some e := ⟨_, List.getElem?_eq_getElem hlt⟩
      obtain ⟨pp, it⟩ := e0
      obtain ⟨T, hT1, hT2⟩ := HWf.out k pp it he0
      have hkl' : k < l'.length := by rw [HLL.out]; exact hlt
      have HD := hid (FDiags_any l' q cq wP (fun z => z < wO.heap.size) (fun z hz => by show z < _; omega) (RdF.kept HRg.out (fun z hz => hbr.block z hz.2) (fun z hz => hz.2)) HPt.out k hkl' (fun p it h => HCt.out k p it h))
      rw [HLL.out] at HD
      have HLk := hid (fun (W : World) (h : Below wO.heap.size wO W) => rn_look l p c W (fun z => z < b3) (fun z hz => by have := h.size; show z < _; omega) (RdF.kept HRf.out (fun z hz => h.block z (by omega)) (fun _ h => h)) k pp it he0 T hT1 hT2 (HN.out k hlt))
      have hcnt : (noF (fvJ l' (flA l') k)).length ≤ 1099511627776 := by
       obtain ⟨e9, he9⟩ : ∃ e, l'[k]? = some e := ⟨_, List.getElem?_eq_getElem hkl'⟩
       obtain ⟨p9, it9⟩ := e9
       obtain ⟨T9, m9, h8, h9⟩ := HCt.out k p9 it9 he9
       have h7 : (noF (fvJ l' (flA l') k)).length ≤ 7 * T9.length := cnt_item (L := T9) HPt.out he9 ⟨m9, h8⟩
       omega
      have hemp : noL (evI l k) = [] → noF (fvJ l' (flA l') k) = [] := HTn.out k _ he0
      generalize noF (fvJ l' (flA l') k) = NJ at *
      have hnl : (noL (evI l k)).length ≤ 1099511627776 := Nat.le_trans (noL_le _) (Nat.le_of_lt (HN.out k hlt))
      generalize hev : noL (evI l k) = ev at *
      have HEV := hid hev
      have HEM := hid hemp
      have HCN := hid hcnt
      have HNL := hid hnl
      have HL := hid hlt
      have HBR := hid hbr
      have gk : (0 : Int) ≤ (k : Int) := by omega
      have gk1 : (k : Int) < (l.length : Int) := by omega
      clear hT1 hT2 he0 hlt hkl hev hemp hcnt hnl hkl' hbr
      go_wp2_with (first
       | (go_at_call 21; (refine Calls.mono HD.out ?_; rintro e w5 ⟨v5, rfl, hrow5, hb5⟩; obtain ⟨pd, cd, hvd, hSd⟩ := row_slat (c := fdC) (fun a => by rfl) HCN.out hrow5 (Below.refl _ _); subst hvd; have HB5 := hid (HBR.out.trans (hb5.mono HBR.out.size)); clear hrow5 hb5)))
      go_loopw [64] (fun i wr => RelNU NJ.length w5 i wr) (fun i _ => upN NJ.length i)
      case atStart => exact ⟨0, Nat.zero_le _, rfl, Below.refl _ _⟩
      case round =>
       obtain ⟨j, hjl, rfl, hbj⟩ := hrel
       have hB5j := HB5.out.trans (hbj.mono HB5.out.size)
       by_cases hlt2 : j < NJ.length
       ·obtain ⟨gd, rfl, hgd, hFd⟩ := hSd.2 (by omega)
        obtain ⟨t, ht⟩ : ∃ t, NJ[j]? = some t := ⟨_, List.getElem?_eq_getElem hlt2⟩
        have hcd : ∀ o, wr.cell? ⟨gd, o, none⟩ = w5.cell? ⟨gd, o, none⟩ := fun o => World.cell?_of_block (a := ⟨gd, o, none⟩) (hbj.block gd hgd)
        have x0 := (hcd _).trans (hFd j t ht 0 (.int .i64 (t.f : Int)) rfl)
        have x1 := (hcd _).trans (hFd j t ht 1 (.int .i64 (t.t : Int)) rfl)
        have x2 := (hcd _).trans (hFd j t ht 2 (.int .i64 9) rfl)
        have x3 := (hcd _).trans (hFd j t ht 3 (.string t.x) rfl)
        rw [Nat.add_zero] at x0
        have hba := (Below.refl wr.heap.size wr).alloc (Nat.le_refl _) (.cells #[.int .i64 (t.f : Int), .int .i64 (t.t : Int), .int .i64 9, .string t.x] 65)
        have hBa := hB5j.trans (hba.mono hB5j.size)
        have HS9 := hid (show (wr.alloc (.cells #[.int .i64 (t.f : Int), .int .i64 (t.t : Int), .int .i64 9, .string t.x] 65)).heap.size = wr.heap.size + 1 by simp)
        have HLk2 := hid (HLk.out _ hBa)
        have zf2 := cell_on hBa yf
        have hev0 : ev.length ≠ 0 := fun h => by
         have := HEM.out (List.eq_nil_of_length_eq_zero h)
         rw [this] at hlt2
         simp at hlt2
        have hdz0 : (ev.length : Int) ≠ 0 := by omega
        have hdz : ((ev.length : Int) == 0) = false := beq_eq_false_iff_ne.2 hdz0
        have hdz2 : decide ((ev.length : Int) = 0) = false := decide_eq_false hdz0
        clear hdz0
        have gj : (0 : Int) ≤ (j : Int) := by omega
        have gj1 : (j : Int) < (NJ.length : Int) := by omega
        have hjb : j < 1099511627776 := by have := HCN.out; omega
        have HL2 := hid hlt2
        have HBj := hid (And.intro hbj hba)
        clear hcd hFd ht hlt2 hjl hbj hba hB5j hBa hev0 zf
        go_wp2_with (first
         | (go_at_call 27; refine Calls.mono HLk2.out ?_; rintro e w8 ⟨rfl, ⟨D8, U8, hRS⟩, hb8⟩; obtain ⟨vd, vu, r1, r2, _⟩ := hRS.blk; rw [HEV.out] at r2; rw [HS9.out] at r1; obtain ⟨p8, c8, hv8, hS8⟩ := row_slat (c := dvC) (fun a => by rfl) HNL.out r2 (Below.refl _ _); subst hv8; have cc2 := cell_of_row _ _ 2 _ _ _ r1; clear r1 r2 hRS hS8))
        go_roundw
        case rel => exact ⟨j + 1, HL2.out, by go_num, by have e1 := HBj.out.1; have e2 := e1.trans (HBj.out.2.mono e1.size); exact e2.trans (hb8.mono (by have := e2.size; omega))⟩
        case measure => have := HL2.out; simp [upN, intOf]; omega
       ·obtain rfl : j = NJ.length := by omega
        clear hlt2 hjl
        go_wp2
        go_roundw
        case rel => exact ⟨k + 1, HL.out, by go_num, hB5j⟩
        case measure => have := HL.out; simp [upN, intOf]; omega
     ·obtain rfl : k = l.length := by omega
      clear hlt hkl
      go_wp2
      go_ret
      exact ⟨rfl, HBW.out.trans (hbr.mono HBW.out.size)⟩
 ·have g : ((flE s : Int) != 0) = true := by simp; omega
  generalize flE s = e5 at *
  go_enter Tryz.func5, Tryz.ntmps5
  go_wp2_with (first
   | (go_at_call 24; refine Calls.mono HAl.out ?_; rintro e w0 ⟨rfl, hb0⟩; have hV0 := hV.below hb0)
   | (go_at_call 10; refine Calls.mono (HFi.out _ hV0) ?_; rintro e w1 ⟨p, m, c, rfl, _, hb1⟩))
  go_ret
  exact ⟨rfl, (hb0.trans (hb1.mono hb0.size)).alloc (Nat.le_trans hb0.size hb1.size) _⟩
end Go.Proofs.YtdkpfnohdknldaaGreatDoor

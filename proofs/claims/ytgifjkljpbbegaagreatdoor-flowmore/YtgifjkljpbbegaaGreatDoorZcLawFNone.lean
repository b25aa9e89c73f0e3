/- Where nothing is secret nothing is told: the law FlowNone. -/
import Derived.Test.YtgifjkljpbbegaaGreatDoorZcLawAlive6
import Derived.Test.YtgifjkljpbbegaaGreatDoorZb30
namespace Go.Proofs.YtgifjkljpbbegaaGreatDoor
open Go.RowKit
set_option linter.unusedVariables false
attribute [local go_sem ↓] Go.wp_at_zero Go.wp_at_succ
/-- An item without tags. -/
def ItZ (it : It) : Prop := it.l = 0 ∧ (∀ p ∈ it.ps, p.l = 0) ∧ ∀ s ∈ it.bd, tgX s = false
theorem snd_none {l : List (Int × It)} (h : ∀ e ∈ l, ItZ e.2) : sndB l = true := by
  unfold sndB
  rw [List.all_eq_true]
  intro i hi
  have h2 : noF (fvJ l (flA l) i) = [] := none_all h i
  rw [h2]
  rfl
structure OneG (l : List (Int × It)) (b : Nat) (p : Option Addr) (c : Nat) (W : World) : Prop where
  y : W.cell? ⟨b, 0, none⟩ = some (.slice p l.length c)
  r : RdF (fun k => k < W.heap.size) W l (.agg #[.slice p l.length c])
theorem OneG.below {l : List (Int × It)} {b : Nat} {p : Option Addr} {c : Nat} {W W' : World} (h : OneG l b p c W) (hb : Below W.heap.size W W') : OneG l b p c W' := ⟨cell_onF hb h.y, RdF.kept h.r (fun k hk => hb.block k hk) (fun _ hk => Nat.lt_of_lt_of_le hk hb.size)⟩
def RelNo (l : List (Int × It)) (W : World) (i : Value) (wr : World) : Prop := ∃ k : Nat, k ≤ l.length ∧ i = .int .i64 (k : Int) ∧ (∀ (j : Nat) (e : Int × It), j < k → l[j]? = some e → ItZ e.2) ∧ Below W.heap.size W wr
def RelNp (ps : List Pm) (W : World) (i : Value) (wr : World) : Prop := ∃ k : Nat, k ≤ ps.length ∧ i = .int .i64 (k : Int) ∧ (∀ (j : Nat) (p : Pm), j < k → ps[j]? = some p → p.l = 0) ∧ Below W.heap.size W wr
theorem any_no {al : List Tr} (h : al.any tgX = false) : ∀ s ∈ al, tgX s = false := by
  intro s hs
  rw [List.any_eq_false] at h
  simpa using h s hs
set_option maxHeartbeats 8000000 in
set_option maxRecDepth 100000 in
theorem fnone_walk (s : ByteArray) (w : World) (hV : VarAt w) : Calls Tryz.prog 8 #[.string s] w fun e w' => e = .returned (.bool true) ∧ Below w.heap.size w w' := by
  have HAl := hid (alive6 w hV)
  have HFi := hid (fun w' hv => File_any s w' hv)
  have hE5 := flE_le5 s
  by_cases hE : flE s = 0
  · have hs4 := (flE_small hE).1
    have HP := hid (fil_ps s)
    have HW := hid (fil_cw s hs4)
    have hl30 := (flE_small hE).2
    rw [← fil_len] at hl30
    have HE := hid hE
    have hE0 : ((flE s : Nat) : Int) = 0 := by rw [hE]; rfl
    have HE0 := hid hE0
    clear hE hE0 hE5 hs4
    go_enter Tryz.func8, Tryz.ntmps8
    go_wp2_with (first
      | (go_at_call 30; refine Calls.mono HAl.out ?_; rintro e w0 ⟨rfl, hb0⟩; have hV0 := hV.below hb0)
      | (go_at_call 9; refine Calls.mono (HFi.out _ hV0) ?_; rintro e w1 ⟨p, m, c, rfl, hft, hb1⟩; rw [HE0.out]; have hR1 := hft.1 HE.out; clear hft; have hm := RdF.sizeQ hR1; subst hm))
    generalize fil s = l at *
    have hba := (Below.refl w1.heap.size w1).alloc (Nat.le_refl _) (.cells #[.slice p l.length c] 24)
    have hB0 := hb0.trans (hb1.mono hb0.size)
    have hB1 := hB0.trans (hba.mono hB0.size)
    have hO : OneG l w1.heap.size p c (w1.alloc (.cells #[.slice p l.length c] 24)) := ⟨one_new w1 _ _, RdF.kept hR1 (fun k hk => hba.block k hk.2) (fun k hk => Nat.lt_of_lt_of_le hk.2 hba.size)⟩
    clear hR1 hba hb0 hb1 HFi HE HE0 HAl hV0 hB0
    generalize w1.alloc (.cells #[.slice p l.length c] 24) = W2 at *
    generalize w1.heap.size = b3 at *
    have y0 := hO.y
    go_wp2
    go_loopw [21] (fun i wr => RelNo l W2 i wr) (fun i _ => upN l.length i)
    case atStart => exact ⟨0, Nat.zero_le _, rfl, fun j e h => by omega, Below.refl _ _⟩
    case round =>
      obtain ⟨k, hkl, rfl, hno, hbr⟩ := hrel
      have hOr := hO.below hbr
      have hBr := hB1.trans (hbr.mono hB1.size)
      by_cases hlt : k < l.length
      · obtain ⟨e0, he0⟩ : ∃ e, l[k]? = some e := ⟨_, List.getElem?_eq_getElem hlt⟩
        obtain ⟨pp, it⟩ := e0
        obtain ⟨g, vI, hq, hgo, hcv, hI⟩ := RdF.itemF hOr.r he0
        obtain ⟨p1, c1, p2, c2, p3, c3, p4, c4, rfl, hPs, _, ⟨nb, hBd⟩, _⟩ := hI
        subst hq
        have i0 := hcv.get 0 _ rfl
        have i1 := hcv.get 1 _ rfl
        have i2 := hcv.get 2 _ rfl
        have i3 := hcv.get 3 _ rfl
        have i4 := hcv.get 4 _ rfl
        have i5 := hcv.get 5 _ rfl
        have i6 := hcv.get 6 _ rfl
        have i7 := hcv.get 7 _ rfl
        have i8 := hcv.get 8 _ rfl
        have i9 := hcv.get 9 _ rfl
        rw [Nat.add_zero] at i0
        have gk : (0 : Int) ≤ (k : Int) := by omega
        have gk1 : (k : Int) < (l.length : Int) := by omega
        have hkb : k < 1099511627776 := by omega
        have hba := (Below.refl wr.heap.size wr).alloc (Nat.le_refl _) (.cells #[.int .i64 (it.k : Int), .string it.x, .int .i64 (it.l : Int), .slice p1 it.ps.length c1, .slice p2 it.ss.length c2, .slice p3 it.bd.length c3, .int .i64 pp, .int .i64 (it.sz : Int), .int .i64 (it.mrk : Int), .slice p4 it.ds.length c4] 50)
        have HTg := hid (tags6_any nb it.bd p3 c3 (wr.alloc (.cells #[.int .i64 (it.k : Int), .string it.x, .int .i64 (it.l : Int), .slice p1 it.ps.length c1, .slice p2 it.ss.length c2, .slice p3 it.bd.length c3, .int .i64 pp, .int .i64 (it.sz : Int), .int .i64 (it.mrk : Int), .slice p4 it.ds.length c4] 50)) (fun k => k < wr.heap.size) (fun k hk => Nat.lt_of_lt_of_le hk hba.size) (hBd.kept (fun k hk => hba.block k hk) (fun _ h => h) (RdS.kept nb (fun k hk => hba.block k hk) (fun _ h => h))))
        obtain ⟨_, _, _, t3, _, t5, _⟩ := tenF_at (heap_alloc_new wr (.cells #[.int .i64 (it.k : Int), .string it.x, .int .i64 (it.l : Int), .slice p1 it.ps.length c1, .slice p2 it.ss.length c2, .slice p3 it.bd.length c3, .int .i64 pp, .int .i64 (it.sz : Int), .int .i64 (it.mrk : Int), .slice p4 it.ds.length c4] 50))
        have HT3 := hid t3
        have HL := hid hlt
        have HE := hid he0
        have HNO := hid hno
        have hbra := hbr.trans (hba.mono hbr.size)
        have hBra := hBr.trans (hba.mono hBr.size)
        have HBA := hid (And.intro hbra (And.intro hBra hba))
        have HPs := hid hPs
        generalize htg : it.bd.any tgX = tb at *
        have HTB := hid htg
        clear hcv hPs hBd hlt hkl hno he0 hba hbra hBra htg
        by_cases hl0 : it.l = 0
        · have g0 : ((it.l : Int) != 0) = false := by rw [hl0]; rfl
          have HL0 := hid hl0
          clear hl0
          cases tb with
          | true =>
            go_wp2_with (first
              | (go_at_call 35; refine Calls.mono HTg.out ?_; rintro e w3 ⟨rfl, hb3⟩))
            go_ret
            exact ⟨rfl, HBA.out.2.1.trans (hb3.mono HBA.out.2.1.size)⟩
          | false =>
            go_wp2_with (first
              | (go_at_call 35; refine Calls.mono HTg.out ?_; rintro e w3 ⟨rfl, hb3⟩; have u3 := cell_onF hb3 HT3.out))
            have hB3 := HBA.out.2.1.trans (hb3.mono HBA.out.2.1.size)
            have hb23 := HBA.out.1.trans (hb3.mono HBA.out.1.size)
            have hP3 : SlAt (fun k => k < wr.heap.size) w3 3 pmC it.ps p1 := HPs.out.kept (fun k hk => (hb3.block k (Nat.lt_of_lt_of_le hk HBA.out.2.2.size)).trans (HBA.out.2.2.block k hk))
            have hsw : wr.heap.size ≤ w3.heap.size := Nat.le_trans HBA.out.2.2.size hb3.size
            clear HTg HT3
            go_loopw [36] (fun i wr => RelNp it.ps w3 i wr) (fun i _ => upN it.ps.length i)
            case atStart => exact ⟨0, Nat.zero_le _, rfl, fun j p h => by omega, Below.refl _ _⟩
            case round =>
              obtain ⟨j, hjl, rfl, hnp, hb4⟩ := hrel
              rename World => w4
              have hB4 := hB3.trans (hb4.mono hB3.size)
              by_cases hjt : j < it.ps.length
              · obtain ⟨gp, rfl, hgp, hF⟩ := hP3.2 (by omega)
                obtain ⟨pr, hpr⟩ : ∃ p, it.ps[j]? = some p := ⟨_, List.getElem?_eq_getElem hjt⟩
                have hcg : ∀ o, w4.cell? ⟨gp, o, none⟩ = w3.cell? ⟨gp, o, none⟩ := fun o => World.cell?_of_block (a := ⟨gp, o, none⟩) (hb4.block gp (Nat.lt_of_lt_of_le hgp hsw))
                have d0 := (hcg (j * 3 + 0)).trans (hF j pr hpr 0 (.string pr.x) rfl)
                have d1 := (hcg (j * 3 + 1)).trans (hF j pr hpr 1 (.int .i64 (pr.l : Int)) rfl)
                have d2 := (hcg (j * 3 + 2)).trans (hF j pr hpr 2 (.int .i64 (pr.a : Int)) rfl)
                rw [Nat.add_zero] at d0
                have gj : (0 : Int) ≤ (j : Int) := by omega
                have gj1 : (j : Int) < (it.ps.length : Int) := by omega
                have hjb : j < 1099511627776 := by have := hP3.1; omega
                have hbp := (Below.refl w4.heap.size w4).alloc (Nat.le_refl _) (.cells #[.string pr.x, .int .i64 (pr.l : Int), .int .i64 (pr.a : Int)] 76)
                have HJ := hid hjt
                have HPr := hid hpr
                have HNP := hid hnp
                clear hF hcg hpr hjt hjl hnp
                by_cases hp0 : pr.l = 0
                · have gp0 : ((pr.l : Int) != 0) = false := by rw [hp0]; rfl
                  have HP0 := hid hp0
                  clear hp0
                  go_wp2
                  go_roundw
                  case rel =>
                    refine ⟨j + 1, HJ.out, by go_num, fun i x hi hx => ?_, hb4.trans (hbp.mono hb4.size)⟩
                    rcases Nat.lt_or_ge i j with h | h
                    · exact HNP.out i x h hx
                    · obtain rfl : i = j := by omega
                      rw [HPr.out] at hx
                      injection hx with hx
                      rw [← hx]
                      exact HP0.out
                  case measure => have := HJ.out; simp [upN, intOf]; omega
                · have gp0 : ((pr.l : Int) != 0) = true := by simp; omega
                  clear hp0
                  go_wp2
                  go_ret
                  exact ⟨rfl, hB4.trans (hbp.mono hB4.size)⟩
              · obtain rfl : j = it.ps.length := by omega
                have hZ : ItZ it := ⟨HL0.out, fun p hp => by
                  obtain ⟨j, hj⟩ := List.mem_iff_getElem?.1 hp
                  exact hnp j p (List.getElem?_eq_some_iff.1 hj).1 hj, any_no HTB.out⟩
                have HZ := hid hZ
                clear hjt hjl hnp hZ
                go_wp2
                go_roundw
                case rel =>
                  refine ⟨k + 1, HL.out, by go_num, fun i x hi hx => ?_, hb23.trans (hb4.mono hb23.size)⟩
                  rcases Nat.lt_or_ge i k with h | h
                  · exact HNO.out i x h hx
                  · obtain rfl : i = k := by omega
                    rw [HE.out] at hx
                    injection hx with hx
                    rw [← hx]
                    exact HZ.out
                case measure => have := HL.out; simp [upN, intOf]; omega
        · have g0 : ((it.l : Int) != 0) = true := by simp; omega
          clear hl0
          go_wp2
          go_ret
          exact ⟨rfl, HBA.out.2.1⟩
      · obtain rfl : k = l.length := by omega
        have hS := snd_none (fun e he => by
          obtain ⟨j, hj⟩ := List.mem_iff_getElem?.1 he
          exact hno j e (List.getElem?_eq_some_iff.1 hj).1 hj)
        have HC := hid (Sound_any l p c wr _ (fun k hk => hk) hOr.r HP.out HW.out)
        rw [hS] at HC
        have z0 := hOr.y
        clear hlt hkl hno hS
        go_wp2_with (first
          | (go_at_call 29; refine Calls.mono HC.out ?_; rintro e w5 ⟨rfl, hb5⟩))
        go_ret
        exact ⟨rfl, hBr.trans (hb5.mono hBr.size)⟩
  · have g : ((flE s : Int) != 0) = true := by simp; omega
    generalize flE s = e5 at *
    go_enter Tryz.func8, Tryz.ntmps8
    go_wp2_with (first
      | (go_at_call 30; refine Calls.mono HAl.out ?_; rintro e w0 ⟨rfl, hb0⟩; have hV0 := hV.below hb0)
      | (go_at_call 9; refine Calls.mono (HFi.out _ hV0) ?_; rintro e w1 ⟨p, m, c, rfl, _, hb1⟩))
    go_ret
    have hB1 := hb0.trans (hb1.mono hb0.size)
    exact ⟨rfl, hB1.alloc hB1.size _⟩
end Go.Proofs.YtgifjkljpbbegaaGreatDoor

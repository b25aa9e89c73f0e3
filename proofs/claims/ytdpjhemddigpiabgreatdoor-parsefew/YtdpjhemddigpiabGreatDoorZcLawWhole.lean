/- All of it is there: the law ParseWhole. (Written by tools/gen_whole.py.) -/
import Derived.Test.YtdpjhemddigpiabGreatDoorZb13
import Derived.Test.YtdpjhemddigpiabGreatDoorZb14
namespace Go.Proofs.YtdpjhemddigpiabGreatDoor
open Go.RowKit
attribute [local go_sem ↓] Go.wp_at_zero Go.wp_at_succ
/-- A counter, and memory that is as it was. -/
def RelC2 (n : Nat) (W : World) (i : Value) (wr : World) : Prop := ∃ k : Nat, k ≤ n ∧ i = .int .i64 (k : Int) ∧ Below W.heap.size W wr
/-- What the walk needs to know of an item in memory. -/
theorem it_cells {ok : Nat → Prop} {w : World} {at_ : Int} {it : It} {g k : Nat} {v : Value} (hc : CellsV w g (k * 10) v) (hI : RdI ok w at_ it v) : ∃ p1 c1 p2 c2 p3 c3 p4 c4, w.cell? ⟨g, k * 10, none⟩ = some (.int .i64 (it.k : Int)) ∧ w.cell? ⟨g, k * 10 + 1, none⟩ = some (.string it.x) ∧ w.cell? ⟨g, k * 10 + 2, none⟩ = some (.int .i64 (it.l : Int)) ∧ w.cell? ⟨g, k * 10 + 3, none⟩ = some (.slice p1 it.ps.length c1) ∧ w.cell? ⟨g, k * 10 + 4, none⟩ = some (.slice p2 it.ss.length c2) ∧ w.cell? ⟨g, k * 10 + 5, none⟩ = some (.slice p3 it.bd.length c3) ∧ w.cell? ⟨g, k * 10 + 6, none⟩ = some (.int .i64 at_) ∧ w.cell? ⟨g, k * 10 + 7, none⟩ = some (.int .i64 (it.sz : Int)) ∧ w.cell? ⟨g, k * 10 + 8, none⟩ = some (.int .i64 (it.mrk : Int)) ∧ w.cell? ⟨g, k * 10 + 9, none⟩ = some (.slice p4 it.ds.length c4) ∧ SlAt ok w 3 pmC it.ps p1 ∧ SlAt ok w 2 rfC it.ss p2 ∧ (∃ h, SlT ok (RdS h ok w) w 15 it.bd p3) ∧ SlAt ok w 4 dgC it.ds p4 := by
  obtain ⟨p1, c1, p2, c2, p3, c3, p4, c4, rfl, h1, h2, h3, h4⟩ := hI
  have d0 := hc.get 0 _ rfl
  rw [Nat.add_zero] at d0
  exact ⟨p1, c1, p2, c2, p3, c3, p4, c4, d0, hc.get 1 _ rfl, hc.get 2 _ rfl, hc.get 3 _ rfl, hc.get 4 _ rfl, hc.get 5 _ rfl, hc.get 6 _ rfl, hc.get 7 _ rfl, hc.get 8 _ rfl, hc.get 9 _ rfl, h1, h2, h3, h4⟩
theorem itI_in (s : ByteArray) (k : Nat) : ∀ d ∈ (itI s k).ds, d.f ≤ d.t ∧ d.t ≤ (itI s k).sz := by
  rw [itI_tx]
  intro d hd
  have h := itm_in _ d hd
  have e : (itm (txI s k)).sz = (txI s k).size := by unfold itm; exact it_sz _ _
  rw [e]
  exact h
set_option maxHeartbeats 2000000 in
set_option maxRecDepth 100000 in
theorem whole_walk (s : ByteArray) (w : World) (hV : VarAt w) : Calls Tryz.prog 6 #[.string s] w fun e w' => e = .returned (.bool true) ∧ Below w.heap.size w w' := by
  go_enter Tryz.func6, Tryz.ntmps6
  by_cases hE : flE s = 0
  · have hE0 : ((flE s : Nat) : Int) = 0 := by omega
    have hS := flE_ok hE
    have hcl := cts_le s
    go_wp2_with (first
      | (go_at_call 17; refine (alive3 _ hV).mono ?_; rintro e w0 ⟨rfl, hb0⟩; have hV0 := hV.below hb0)
      | (go_at_call 9; refine (File_any s _ hV0).mono ?_; rintro e w1 ⟨p, m, c, rfl, hft, hb1⟩; rw [hE0]; obtain ⟨p', c', hv, _, hits⟩ := hft.1 hE; injection hv with hv; simp only [Array.mk.injEq, List.cons.injEq, Value.slice.injEq, and_true] at hv; obtain ⟨rfl, rfl, rfl⟩ := hv; rw [fil_len] at hits ⊢; clear hft))
    have hbw := hb0.trans (hb1.mono hb0.size)
    have hba := (Below.refl w1.heap.size w1).alloc (Nat.le_refl _) (.cells #[.slice p (cts s).length c] 26)
    have yF := cell_of_row _ _ 0 _ _ _ (heap_alloc_new w1 (.cells #[.slice p (cts s).length c] 26))
    simp only [List.getElem?_toArray, List.getElem?_cons_zero] at yF
    go_loopw [26] (fun i wr => RelC2 (cts s).length (w1.alloc (.cells #[.slice p (cts s).length c] 26)) i wr) (fun i _ => upN (cts s).length i)
    case atStart => exact ⟨0, Nat.zero_le _, rfl, Below.refl _ _⟩
    case round =>
      obtain ⟨k, hk, rfl, hbr⟩ := hrel
      obtain ⟨wo, hwo⟩ : ∃ x, x = wr := ⟨wr, rfl⟩
      subst hwo
      have hsz := hbr.size
      have hB := hba.trans (hbr.mono hba.size)
      have zF := cell_on hbr yF
      have zG := cell_alloc zF
      by_cases hlt : k < (cts s).length
      · obtain ⟨g, hpg, hg, hR⟩ := hits (by omega)
        subst hpg
        obtain ⟨v, hcv, hI⟩ := RdIs.at hR (hB.block g hg.2) (fun b hb => hB.block b hb.2) (fil_get s k hlt)
        obtain ⟨p1, c1, p2, c2, p3, c3, p4, c4, d0, d1, d2, d3, d4, d5, d6, d7, d8, d9, _, _, _, hds⟩ := it_cells hcv hI
        have hin := itI_in s k
        have hz := (itI_sz s k).1
        have hl1 := cn_lt s k hlt
        have hl2 := cn_le s (k + 1)
        have hnx : k + 1 < (cts s).length → wo.cell? ⟨g, (k + 1) * 10 + 6, none⟩ = some (.int .i64 (cn s (k + 1) : Int)) := fun h => (let ⟨v, h1, h2⟩ := RdIs.at hR (hB.block g hg.2) (fun b hb => hB.block b hb.2) (fil_get s (k + 1) h); let ⟨_, _, _, _, _, _, _, _, _, _, _, _, _, _, h6, _⟩ := it_cells h1 h2; h6)
        have hend : ¬ k + 1 < (cts s).length → cn s (k + 1) = s.size := fun h => cn_end s _ (by omega)
        have hgl : g < w1.heap.size := hg.2
        clear hcv hI hR hits
        generalize cn s (k + 1) = e at *
        generalize cn s k = a at *
        generalize itI s k = it at *
        have HIN : Hid (∀ d ∈ it.ds, d.f ≤ d.t ∧ d.t ≤ it.sz) := hin
        have HDS : Hid (SlAt (fun k => w0.heap.size ≤ k ∧ k < w1.heap.size) wo 4 dgC it.ds p4) := hds
        have hdl : it.ds.length ≤ 1099511627776 := hds.1
        have HR : Hid (Below (w1.alloc (.cells #[.slice (some ⟨g, 0, none⟩) (cts s).length c] 26)).heap.size (w1.alloc (.cells #[.slice (some ⟨g, 0, none⟩) (cts s).length c] 26)) wo) := hbr
        have HL : Hid (k < (cts s).length) := hlt
        have gk : (0 : Int) ≤ (k : Int) := by omega
        have gk1 : (k : Int) < ((cts s).length : Int) := by omega
        have gw1 : IntKind.i64.wrap ((k : Int) + 1) = (k : Int) + 1 := wrap_id _ (by omega) (by omega)
        have ga : ¬ (a : Int) < 0 := by omega
        have gz : ¬ (it.sz : Int) < 1 := by omega
        have ge : ¬ (e : Int) < 0 := by omega
        have gw2 : IntKind.i64.wrap ((e : Int) - (a : Int)) = (it.sz : Int) := by rw [wrap_id _ (by omega) (by omega)]; omega
        clear hin hds
        by_cases hk1 : k + 1 < (cts s).length
        · have hc6 := cell_alloc (hnx hk1)
          have gk2 : (k : Int) + 1 < ((cts s).length : Int) := by omega
          have gk3 : (0 : Int) ≤ (k : Int) + 1 := by omega
          clear hnx hend hz hl1 hl2 hk1 hlt hk hB hS hcl hE hE0 hV0 hV hg hgl
          go_wp2
          go_loopw [70] (fun i wq => RelC2 it.ds.length (wo.alloc (.cells #[.int .i64 (it.k : Int), .string it.x, .int .i64 (it.l : Int), .slice p1 it.ps.length c1, .slice p2 it.ss.length c2, .slice p3 it.bd.length c3, .int .i64 (a : Int), .int .i64 (it.sz : Int), .int .i64 (it.mrk : Int), .slice p4 it.ds.length c4] 36)) i wq) (fun i _ => upN it.ds.length i)
          case atStart => exact ⟨0, Nat.zero_le _, rfl, Below.refl _ _⟩
          case round =>
            obtain ⟨j, hj, rfl, hbj⟩ := hrel
            have hbi := (Below.refl wo.heap.size wo).alloc (Nat.le_refl _) (.cells #[.int .i64 (it.k : Int), .string it.x, .int .i64 (it.l : Int), .slice p1 it.ps.length c1, .slice p2 it.ss.length c2, .slice p3 it.bd.length c3, .int .i64 (a : Int), .int .i64 (it.sz : Int), .int .i64 (it.mrk : Int), .slice p4 it.ds.length c4] 36)
            have hBj := hbi.trans (hbj.mono hbi.size)
            obtain ⟨i0, i1, i2, i3, i4, i5, i6, i7, i8, i9, _⟩ := ten_at ((hbj.block wo.heap.size (by simp)).trans (heap_alloc_new wo _))
            by_cases hlj : j < it.ds.length
            · obtain ⟨gd, hpd, hgd, hfl⟩ := HDS.out.2 (by omega)
              subst hpd
              obtain ⟨d, hd⟩ : ∃ d, it.ds[j]? = some d := ⟨_, List.getElem?_eq_getElem hlj⟩
              have hdin := HIN.out d (List.mem_of_getElem? hd)
              have x0 := cell_on hBj (hfl j d hd 0 _ rfl)
              have x1 := cell_on hBj (hfl j d hd 1 _ rfl)
              have x2 := cell_on hBj (hfl j d hd 2 _ rfl)
              have x3 := cell_on hBj (hfl j d hd 3 _ rfl)
              rw [Nat.add_zero] at x0
              have gj : (0 : Int) ≤ (j : Int) := by omega
              have gj1 : (j : Int) < (it.ds.length : Int) := by omega
              have gf : ¬ (d.f : Int) < 0 := by omega
              have gt : ¬ (d.t : Int) < (d.f : Int) := by omega
              have gs : ¬ (d.t : Int) > (it.sz : Int) := by omega
              have HJ : Hid (j < it.ds.length) := hlj
              have i7' := cell_alloc i7
              clear hd hdin hlj hj
              go_wp2
              go_roundw
              case rel => exact ⟨j + 1, by have := HJ.out; omega, by go_num, hbj.alloc (by have := hbj.size; omega) _⟩
              case measure => have := HJ.out; simp [upN, intOf]; omega
            · obtain rfl : j = it.ds.length := by omega
              clear hlj hj
              go_wp2
              go_roundw
              case rel => exact ⟨k + 1, by have := HL.out; omega, by go_num, hbr.trans (hBj.mono hbr.size)⟩
              case measure => have := HL.out; simp [upN, intOf]; omega
        · have hes := hend hk1
          subst hes
          have gk2 : ¬ (k : Int) + 1 < ((cts s).length : Int) := by omega
          clear hnx hend hz hl1 hl2 hk1 hlt hk hB hS hcl hE hE0 hV0 hV hg hgl
          go_wp2
          go_loopw [70] (fun i wq => RelC2 it.ds.length (wo.alloc (.cells #[.int .i64 (it.k : Int), .string it.x, .int .i64 (it.l : Int), .slice p1 it.ps.length c1, .slice p2 it.ss.length c2, .slice p3 it.bd.length c3, .int .i64 (a : Int), .int .i64 (it.sz : Int), .int .i64 (it.mrk : Int), .slice p4 it.ds.length c4] 36)) i wq) (fun i _ => upN it.ds.length i)
          case atStart => exact ⟨0, Nat.zero_le _, rfl, Below.refl _ _⟩
          case round =>
            obtain ⟨j, hj, rfl, hbj⟩ := hrel
            have hbi := (Below.refl wo.heap.size wo).alloc (Nat.le_refl _) (.cells #[.int .i64 (it.k : Int), .string it.x, .int .i64 (it.l : Int), .slice p1 it.ps.length c1, .slice p2 it.ss.length c2, .slice p3 it.bd.length c3, .int .i64 (a : Int), .int .i64 (it.sz : Int), .int .i64 (it.mrk : Int), .slice p4 it.ds.length c4] 36)
            have hBj := hbi.trans (hbj.mono hbi.size)
            obtain ⟨i0, i1, i2, i3, i4, i5, i6, i7, i8, i9, _⟩ := ten_at ((hbj.block wo.heap.size (by simp)).trans (heap_alloc_new wo _))
            by_cases hlj : j < it.ds.length
            · obtain ⟨gd, hpd, hgd, hfl⟩ := HDS.out.2 (by omega)
              subst hpd
              obtain ⟨d, hd⟩ : ∃ d, it.ds[j]? = some d := ⟨_, List.getElem?_eq_getElem hlj⟩
              have hdin := HIN.out d (List.mem_of_getElem? hd)
              have x0 := cell_on hBj (hfl j d hd 0 _ rfl)
              have x1 := cell_on hBj (hfl j d hd 1 _ rfl)
              have x2 := cell_on hBj (hfl j d hd 2 _ rfl)
              have x3 := cell_on hBj (hfl j d hd 3 _ rfl)
              rw [Nat.add_zero] at x0
              have gj : (0 : Int) ≤ (j : Int) := by omega
              have gj1 : (j : Int) < (it.ds.length : Int) := by omega
              have gf : ¬ (d.f : Int) < 0 := by omega
              have gt : ¬ (d.t : Int) < (d.f : Int) := by omega
              have gs : ¬ (d.t : Int) > (it.sz : Int) := by omega
              have HJ : Hid (j < it.ds.length) := hlj
              have i7' := cell_alloc i7
              clear hd hdin hlj hj
              go_wp2
              go_roundw
              case rel => exact ⟨j + 1, by have := HJ.out; omega, by go_num, hbj.alloc (by have := hbj.size; omega) _⟩
              case measure => have := HJ.out; simp [upN, intOf]; omega
            · obtain rfl : j = it.ds.length := by omega
              clear hlj hj
              go_wp2
              go_roundw
              case rel => exact ⟨k + 1, by have := HL.out; omega, by go_num, hbr.trans (hBj.mono hbr.size)⟩
              case measure => have := HL.out; simp [upN, intOf]; omega
      · obtain rfl : k = (cts s).length := by omega
        clear hlt hk
        by_cases hn : (cts s).length = 0
        · have ht := cts_nil s (List.length_eq_zero_iff.1 hn)
          have g0 : ¬ ((cts s).length : Int) > 0 := by omega
          have g1 : ¬ 0 < (cts s).length := by omega
          have htl : (tks s).length = 0 := by rw [ht]; rfl
          clear hn ht
          go_wp2_with (first
            | (go_at_call 19; refine (refTokens_any s _ (by omega)).mono ?_; rintro e w6 ⟨v, rfl, hown, hb6⟩; obtain ⟨pt, ct, rfl⟩ := own_len hown; rw [htl]))
          go_ret
          exact ⟨rfl, (hbw.trans (hB.mono hbw.size)).trans (hb6.mono (hbw.trans (hB.mono hbw.size)).size)⟩
        · have g0 : ((cts s).length : Int) > 0 := by omega
          have g1 : 0 < (cts s).length := by omega
          clear hn
          go_wp2
          go_ret
          exact ⟨rfl, hbw.trans (hB.mono hbw.size)⟩
  · have hE0 : ¬ ((flE s : Nat) : Int) = 0 := by omega
    go_wp2_with (first
      | (go_at_call 17; refine (alive3 _ hV).mono ?_; rintro e w0 ⟨rfl, hb0⟩; have hV0 := hV.below hb0)
      | (go_at_call 9; refine (File_any s _ hV0).mono ?_; rintro e w1 ⟨p, m, c, rfl, hft, hb1⟩; have hv := hft.2 hE; injection hv with hv; simp only [Array.mk.injEq, List.cons.injEq, Value.slice.injEq, and_true] at hv; obtain ⟨rfl, rfl, rfl⟩ := hv; clear hft))
    go_ret
    exact ⟨rfl, (hb0.trans (hb1.mono hb0.size)).alloc (Nat.le_trans hb0.size hb1.size) _⟩
end Go.Proofs.YtdpjhemddigpiabGreatDoor

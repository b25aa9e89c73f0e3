/- Texts of this seat, one behind the other: FilCw, EffAlv, LawAlive5, FilCopy, EffLaw0, EffLaw1. -/
import Derived.Test.YtfioihehhlpgcaaGreatDoorZf24
import Derived.Test.YtfioihehhlpgcaaGreatDoorZf19
import Derived.Test.YtfioihehhlpgcaaGreatDoorZf41
import Derived.Test.YtfioihehhlpgcaaGreatDoorZf13
import Derived.Test.YtfioihehhlpgcaaGreatDoorZf38
import Derived.Test.YtfioihehhlpgcaaGreatDoorZb12
import Derived.Test.YtfioihehhlpgcaaGreatDoorZf40
import Derived.Test.YtfioihehhlpgcaaGreatDoorZf21
import Derived.Test.YtfioihehhlpgcaaGreatDoorZb11
namespace Go.Proofs.YtfioihehhlpgcaaGreatDoor
open Go.RowKit
set_option linter.unusedVariables false
theorem itI_cw (s : ByteArray) (j : Nat) : ∃ n, wfL (cwS (tks (txI s j)) n) (tks (txI s j)).length (itI s j).bd := by
  rw [itI_tx]
  exact itm_cw (txI s j)
theorem fil_cw (s : ByteArray) (hs : s.size ≤ 4000) : ∀ (i : Nat) (p : Int) (it : It), (fil s)[i]? = some (p, it) → ∃ T m, wfL (cwS T m) T.length it.bd ∧ T.length ≤ 1000000 := by
  intro i p it h
  obtain ⟨j, _, hj⟩ := fil_mem (List.mem_of_getElem? h)
  injection hj with _ h2
  have hn := itI_cw s j
  have hl := txI_len s j
  rw [← h2] at hn
  generalize tks (txI s j) = T at *
  obtain ⟨n, hn⟩ := hn
  exact ⟨T, n, hn, by omega⟩
theorem fil_ps (s : ByteArray) : ∀ e ∈ fil s, e.2.ps.length ≤ 5 := by
  intro e he
  obtain ⟨j, _, hj⟩ := fil_mem he
  rw [hj]
  exact (itI_wf s j).pn
theorem RdF.sizeQ {ok : Nat → Prop} {w : World} {l : List (Int × It)} {p : Option Addr} {m c : Nat} (h : RdF ok w l (.agg #[.slice p m c])) : m = l.length := by
  obtain ⟨q, c', h1, _⟩ := h
  injection h1 with h1
  have h1 : Value.slice p m c = Value.slice q l.length c' := by simpa using h1
  injection h1
end Go.Proofs.YtfioihehhlpgcaaGreatDoor
namespace Go.Proofs.YtfioihehhlpgcaaGreatDoor
open Go.RowKit Go.Sort
set_option linter.unusedVariables false
attribute [local go_sem ↓] Go.wp_at_zero Go.wp_at_succ
theorem fil_es (s : ByteArray) (hs : s.size ≤ 4000) : ∀ e ∈ fil s, (esI e.2).length ≤ 4000 := by
  intro e he
  obtain ⟨j, _, hj⟩ := fil_mem he
  have h2 : itI s j = e.2 := by rw [hj]
  have hn := itI_cw s j
  have hl := txI_len s j
  rw [h2] at hn
  generalize tks (txI s j) = T at *
  obtain ⟨n, hn⟩ := hn
  have := esI_cnt hn
  omega
theorem fil_dfs (s : ByteArray) (h : flE s = 0) (i : Int) : (dfs (fil s) (fil s).length (List.replicate (fil s).length false, []) i).2.length ≤ 120000 := by
  obtain ⟨h1, h2⟩ := flE_small h
  have h3 := rea_much (fil s) 4000 (fun e he => Nat.le_trans (snI_len e.2) (fil_es s h1 e he)) i
  rw [fil_len] at h3 ⊢
  omega
theorem risB_one {s : BL} (hs : s ≠ []) : risB [s] = [s] := by
  refine Inc.ext (risB_inc _).1 (List.pairwise_singleton _ _) (fun x => ?_)
  rw [(risB_inc _).2, List.mem_singleton]
  exact ⟨fun h => h.1, fun h => ⟨h, by rw [h]; exact hs⟩⟩
def alH : ByteArray := ⟨#[99, 104, 97, 110, 32, 99, 58, 32, 123, 125, 59, 10, 102, 110, 32, 102, 40, 41, 58, 32, 123, 125, 32, 115, 101, 110, 100, 115, 32, 99, 32, 123, 32, 115, 101, 110, 100, 32, 99, 32, 49, 59, 32, 125, 10, 102, 110, 32, 103, 40, 41, 58, 32, 123, 125, 32, 123, 32, 102, 40, 41, 59, 32, 125]⟩
def aE0 : It := ⟨1, ⟨#[99]⟩, 0, [], [], [], 12, 5, []⟩
def aE1 : It := ⟨2, ⟨#[102]⟩, 0, [], [⟨⟨#[99]⟩, 17⟩], [stMk 5 ⟨#[99]⟩ 26 0 false (exMk 1 ⟨#[]⟩ 1 [] 28 29) [] [] 21 30], 33, 3, []⟩
def aE2 : It := ⟨2, ⟨#[103]⟩, 0, [], [], [stMk 7 ⟨#[]⟩ 0 0 false (exMk 4 ⟨#[102]⟩ 0 [] 13 16) [] [] 13 17], 19, 3, []⟩
def lE5 : List (Int × It) := [(0, aE0), (12, aE1), (45, aE2)]
theorem alH_err : flE alH = 0 := by decide +kernel
theorem alH_fil : fil alH = lE5 := by kernel_rfl
theorem esI_aE1 : esI aE1 = [⟨true, ⟨#[99]⟩⟩] := by
  have h : esI aE1 = esB [stMk 5 ⟨#[99]⟩ 26 0 false (exMk 1 ⟨#[]⟩ 1 [] 28 29) [] [] 21 30] := rfl
  rw [h]
  show esY _ ++ [] = _
  rw [esY_mk, esX_mk]
  rfl
theorem esI_aE2 : esI aE2 = [⟨false, ⟨#[102]⟩⟩] := by
  have h : esI aE2 = esB [stMk 7 ⟨#[]⟩ 0 0 false (exMk 4 ⟨#[102]⟩ 0 [] 13 16) [] [] 13 17] := rfl
  rw [h]
  show esY _ ++ [] = _
  rw [esY_mk, esX_mk]
  rfl
theorem snI_aE1 : snI aE1 = [[99]] := by unfold snI; rw [esI_aE1]; exact risB_one (by decide)
theorem caI_aE1 : caI aE1 = [] := by unfold caI; rw [esI_aE1]; exact risB_nil
theorem snI_aE2 : snI aE2 = [] := by unfold snI; rw [esI_aE2]; exact risB_nil
theorem caI_aE2 : caI aE2 = [[102]] := by unfold caI; rw [esI_aE2]; exact risB_one (by decide)
theorem fnd_aE : fnd lE5 2 (bA [102]) = 1 := by decide +kernel
theorem rea_aE1 : reaL lE5 ((1 : Nat) : Int) = [[99]] := by
  refine Inc.ext (rea_inc _ _).1 (List.pairwise_singleton _ _) (fun x => ?_)
  rw [rea_step lE5 1 (12, aE1) rfl, snI_aE1, caI_aE1]
  constructor
  · rintro (h | ⟨n, k, h, _⟩)
    · exact h
    · cases h
  · exact fun h => .inl h
theorem rea_aE2 : reaL lE5 ((2 : Nat) : Int) = [[99]] := by
  refine Inc.ext (rea_inc _ _).1 (List.pairwise_singleton _ _) (fun x => ?_)
  rw [rea_step lE5 2 (45, aE2) rfl, snI_aE2, caI_aE2]
  constructor
  · rintro (h | ⟨n, k, h1, h2, h3⟩)
    · cases h
    · rw [List.mem_singleton] at h1
      subst h1
      rw [fnd_aE] at h2
      rw [← h2] at h3
      rw [← rea_aE1]
      exact h3
  · intro h
    exact .inr ⟨[102], 1, List.mem_singleton.2 rfl, fnd_aE, by rw [rea_aE1]; exact h⟩
theorem al5_bounds : (∀ e ∈ lE5, (esI e.2).length < 1099511627776) ∧ ∀ i : Int, (dfs lE5 lE5.length (List.replicate lE5.length false, []) i).2.length < 1099511627776 := by
  refine ⟨fun e he => ?_, fun i => ?_⟩
  · have := fil_es alH (by decide) e (by rw [alH_fil]; exact he)
    omega
  · have := fil_dfs alH alH_err i
    rw [alH_fil] at this
    omega
theorem al5_all (W : World) (p : Option Addr) (c : Nat) (ok : Nat → Prop) (hok : ∀ k, ok k → k < W.heap.size) (hR : RdF ok W lE5 (.agg #[.slice p 3 c])) :
    Calls Tryz.prog 11 #[.agg #[.slice p 3 c]] W fun e w' => ∃ g fc pv cv, e = .returned (.slice (some ⟨g, 0, none⟩) 3 fc) ∧ w'.cell? ⟨g, 2, none⟩ = some (.slice pv 1 cv) ∧ Below W.heap.size W w' := by
  refine (All_any lE5 p c W ok hok hR al5_bounds.1 (fun i _ => al5_bounds.2 (i : Int))).mono ?_
  rintro e w' ⟨g, fc, rfl, hA, hb⟩
  obtain ⟨v, D, h1, ⟨pv, cv, h2, _⟩, _⟩ := hA.2.2 2 (by decide)
  rw [rea_aE2] at h2
  subst h2
  exact ⟨g, fc, pv, cv, rfl, h1, hb⟩
theorem al5_own (W : World) (v : Value) (ok : Nat → Prop) (hok : ∀ k, ok k → k < W.heap.size) (hI : RdI ok W 45 aE2 v) :
    Calls Tryz.prog 12 #[v] W fun e w' => ∃ p q c d, e = .returned (.tuple #[.slice p 0 c, .slice q 1 d]) ∧ Below W.heap.size W w' := by
  refine (effOwn_any aE2 45 v W ok hok hI (by rw [esI_aE2]; decide)).mono ?_
  rintro e w' ⟨v1, v2, rfl, ⟨D1, ⟨p, c, h1, _⟩, _⟩, ⟨D2, ⟨q, d, h2, _⟩, _⟩, hb⟩
  rw [snI_aE2] at h1
  rw [caI_aE2] at h2
  subst h1 h2
  exact ⟨p, q, c, d, rfl, hb⟩
theorem al5_two (W : World) (p : Option Addr) (c : Nat) (ok : Nat → Prop) (hok : ∀ k, ok k → k < W.heap.size) (hR : RdF ok W lE5 (.agg #[.slice p 3 c])) :
    Calls Tryz.prog 16 #[.agg #[.slice p 3 c], .int .i64 2] W fun e w' => ∃ q d, e = .returned (.slice q 1 d) ∧ Below W.heap.size W w' := by
  refine (ediags_any lE5 p c W ok hok hR al5_bounds.1 2 45 aE2 rfl (al5_bounds.2 _)).mono ?_
  rintro e w' ⟨v, rfl, hrow, hb⟩
  obtain ⟨q, d, rfl⟩ := own_formD hrow
  have h : (edF aE2.ss (reaL lE5 ((2 : Nat) : Int))).length = 1 := by rw [rea_aE2]; rfl
  rw [h]
  exact ⟨q, d, rfl, hb⟩
theorem al5_one (W : World) (p : Option Addr) (c : Nat) (ok : Nat → Prop) (hok : ∀ k, ok k → k < W.heap.size) (hR : RdF ok W lE5 (.agg #[.slice p 3 c])) :
    Calls Tryz.prog 16 #[.agg #[.slice p 3 c], .int .i64 1] W fun e w' => ∃ q d, e = .returned (.slice q 0 d) ∧ Below W.heap.size W w' := by
  refine (ediags_any lE5 p c W ok hok hR al5_bounds.1 1 12 aE1 rfl (al5_bounds.2 _)).mono ?_
  rintro e w' ⟨v, rfl, hrow, hb⟩
  obtain ⟨q, d, rfl⟩ := own_formD hrow
  have h : (edF aE1.ss (reaL lE5 ((1 : Nat) : Int))).length = 0 := by
    rw [rea_aE1]
    have hs : saidR aE1.ss (bA [99]) = true := by decide +kernel
    show ([[99]].filter (fun s => !saidR aE1.ss (bA s))).length = 0
    rw [List.filter_cons, hs]
    rfl
  rw [h]
  exact ⟨q, d, rfl, hb⟩
end Go.Proofs.YtfioihehhlpgcaaGreatDoor
namespace Go.Proofs.YtfioihehhlpgcaaGreatDoor
open Go.RowKit Go.Sort
set_option linter.unusedVariables false
attribute [local go_sem ↓] Go.wp_at_zero Go.wp_at_succ
set_option maxHeartbeats 4000000 in
set_option maxRecDepth 100000 in
theorem alive5 (w : World) (hV : VarAt w) : Calls Tryz.prog 9 #[] w fun e w' => e = .returned (.bool true) ∧ Below w.heap.size w w' := by
  have hE : ((flE alH : Nat) : Int) = 0 := by rw [alH_err]; rfl
  have HFi := hid (File_any alH w hV)
  have HER := hid alH_err
  have HFL := hid alH_fil
  have HEE := hid hE
  have F2 : Hid (2 = 2) := rfl
  clear hE
  go_enter Tryz.func9, Tryz.ntmps9
  go_wp2_with (first
    | (go_at_call 10; refine Calls.mono HFi.out ?_; rintro e w1 ⟨p1, m1, c1, rfl, hft1, hb1⟩; rw [HEE.out]; have hR1 := hft1.1 HER.out; rw [HFL.out] at hR1; clear hft1; have hm1 : m1 = 3 := RdF.sizeQ hR1; subst hm1; have hba1 := (Below.refl w1.heap.size w1).alloc (Nat.le_refl _) (.cells #[.slice p1 3 c1] 25); have y1 := one_new w1 (.slice p1 3 c1) 25; have hB0 : Below w.heap.size w (w1.alloc (.cells #[.slice p1 3 c1] 25)) := hb1.trans (hba1.mono hb1.size); have hRF : RdF (fun k => k < (w1.alloc (.cells #[.slice p1 3 c1] 25)).heap.size) (w1.alloc (.cells #[.slice p1 3 c1] 25)) lE5 (.agg #[.slice p1 3 c1]) := RdF.kept hR1 (fun k hk => hba1.block k hk.2) (fun k hk => Nat.lt_of_lt_of_le hk.2 hba1.size); have HP := hid (And.intro hB0 hRF); clear hR1 hba1 hB0 hRF; have HAl := hid (al5_all _ p1 c1 _ (fun k hk => hk) HP.out.2))
    | (go_at_call 11; refine Calls.mono HAl.out ?_; rintro e w2 ⟨gA, fA, pA, cA, rfl, eA, hb2⟩; have y2 := cell_onF hb2 y1; have hRF2 := (RdF.kept HP.out.2 (ok' := fun k => k < w2.heap.size) (fun k hk => hb2.block k hk) (fun k hk => Nat.lt_of_lt_of_le hk hb2.size)); have HP2 := hid (And.intro (HP.out.1.trans (hb2.mono HP.out.1.size)) hRF2); obtain ⟨gI, vI, hqI, hgI, hcI, hI⟩ := RdF.itemF (l := lE5) (k := 2) hRF2 rfl; obtain ⟨b1, d1, b2, d2, b3, d3, b4, d4, hvI, hu1⟩ := id hI; subst hvI; subst hqI; clear hu1; have i0 := hcI.get 0 _ rfl; have i1 := hcI.get 1 _ rfl; have i2 := hcI.get 2 _ rfl; have i3 := hcI.get 3 _ rfl; have i4 := hcI.get 4 _ rfl; have i5 := hcI.get 5 _ rfl; have i6 := hcI.get 6 _ rfl; have i7 := hcI.get 7 _ rfl; have i8 := hcI.get 8 _ rfl; have i9 := hcI.get 9 _ rfl; have HOw := hid (al5_own w2 _ _ (fun k hk => hk) hI); clear hRF2 hI hcI y1)
    | (go_at_call 12; refine Calls.mono HOw.out ?_; rintro e w3 ⟨pO, qO, cO, dO, rfl, hb3⟩; have y3 := cell_onF hb3 y2; have eA3 := cell_onF hb3 eA; have hRF3 := (RdF.kept HP2.out.2 (ok' := fun k => k < w3.heap.size) (fun k hk => hb3.block k hk) (fun k hk => Nat.lt_of_lt_of_le hk hb3.size)); have HP3 := hid (And.intro (HP2.out.1.trans (hb3.mono HP2.out.1.size)) hRF3); clear hRF3 y2 eA; have HD2 := hid (al5_two _ _ c1 _ (fun k hk => hk) HP3.out.2))
    | (go_at_call 16; have ff := F2; clear ff F2; refine Calls.mono HD2.out ?_; rintro e w4 ⟨pD, cD, rfl, hb4⟩; have y4 := cell_onF hb4 y3; have hRF4 := (RdF.kept HP3.out.2 (ok' := fun k => k < w4.heap.size) (fun k hk => hb4.block k hk) (fun k hk => Nat.lt_of_lt_of_le hk hb4.size)); have HP4 := hid (And.intro (HP3.out.1.trans (hb4.mono HP3.out.1.size)) hRF4); clear hRF4; have HD1 := hid (al5_one _ _ c1 _ (fun k hk => hk) HP4.out.2))
    | (go_at_call 16; refine Calls.mono HD1.out ?_; rintro e w5 ⟨pE, cE, rfl, hb5⟩))
  go_ret
  exact ⟨rfl, HP4.out.1.trans (hb5.mono HP4.out.1.size)⟩
end Go.Proofs.YtfioihehhlpgcaaGreatDoor
namespace Go.Proofs.YtfioihehhlpgcaaGreatDoor
open Go.RowKit
set_option linter.unusedVariables false
structure OneG (l : List (Int × It)) (b : Nat) (p : Option Addr) (c : Nat) (W : World) : Prop where
  y : W.cell? ⟨b, 0, none⟩ = some (.slice p l.length c)
  r : RdF (fun k => k < W.heap.size) W l (.agg #[.slice p l.length c])
theorem OneG.below {l : List (Int × It)} {b : Nat} {p : Option Addr} {c : Nat} {W W' : World} (h : OneG l b p c W) (hb : Below W.heap.size W W') : OneG l b p c W' := ⟨cell_onF hb h.y, RdF.kept h.r (fun k hk => hb.block k hk) (fun _ hk => Nat.lt_of_lt_of_le hk hb.size)⟩
/-- Each cell of a list of items. -/
theorem item_cell {ok : Nat → Prop} {w : World} {l : List (Int × It)} {g : Nat} (h : RdIs ok w l g) (j : Nat) (hj : j < l.length * 10) : ∃ u, w.cell? ⟨g, j, none⟩ = some u ∧ u.oneCell' = true := by
  obtain ⟨e, he⟩ : ∃ e, l[j / 10]? = some e := ⟨_, List.getElem?_eq_getElem (by omega)⟩
  obtain ⟨v, hcv, hI⟩ := h (j / 10) e he
  obtain ⟨p1, c1, p2, c2, p3, c3, p4, c4, rfl, _⟩ := hI
  have hb : j % 10 < 10 := Nat.mod_lt _ (by decide)
  have key : ∀ (cs : Array Value), cs.size = 10 → cs.all (·.oneCell') = true → CellsV w g (j / 10 * 10) (.agg cs) → ∃ u, w.cell? ⟨g, j, none⟩ = some u ∧ u.oneCell' = true := by
    intro cs hs ha hc
    have hlt : j % 10 < cs.size := by omega
    have h1 := hc.get (j % 10) cs[j % 10] (Array.getElem?_eq_getElem hlt)
    rw [show j / 10 * 10 + j % 10 = j by omega] at h1
    exact ⟨_, h1, Array.all_eq_true.1 ha (j % 10) hlt⟩
  exact key _ rfl (by simp [Value.oneCell']) hcv
theorem item_cells {ok : Nat → Prop} {w : World} {l : List (Int × It)} {g : Nat} (h : RdIs ok w l g) : ∃ xs : List Value, xs.length = l.length * 10 ∧ (∀ (j : Nat) (u : Value), xs[j]? = some u → w.cell? ⟨g, j, none⟩ = some u) ∧ (∀ u ∈ xs, u.oneCell' = true) ∧ ∀ (j : Nat) (u : Value), j < l.length * 10 → w.cell? ⟨g, j, none⟩ = some u → xs[j]? = some u := by
  refine ⟨(List.range (l.length * 10)).map (fun j => (w.cell? ⟨g, j, none⟩).getD (.bool false)), by simp, fun j u hj => ?_, fun u hu => ?_, fun j u hj hu => ?_⟩
  · rw [List.getElem?_map] at hj
    obtain ⟨i, hi, rfl⟩ := Option.map_eq_some_iff.1 hj
    have hl := (List.getElem?_eq_some_iff.1 hi).1
    rw [List.length_range] at hl
    rw [List.getElem?_range hl] at hi
    injection hi with hi
    subst hi
    obtain ⟨v, hv, _⟩ := item_cell h j hl
    rw [hv]
    rfl
  · obtain ⟨i, hi, rfl⟩ := List.mem_map.1 hu
    obtain ⟨v, hv, h1⟩ := item_cell h i (List.mem_range.1 hi)
    rw [hv]
    exact h1
  · rw [List.getElem?_map, List.getElem?_range hj]
    simp [hu]
/-- The same items in another block. -/
theorem items_copy {ok ok' : Nat → Prop} {w w' : World} {l : List (Int × It)} {g g' : Nat} (h : RdIs ok w l g) (hc : ∀ (j : Nat) (u : Value), j < l.length * 10 → w.cell? ⟨g, j, none⟩ = some u → w'.cell? ⟨g', j, none⟩ = some u) (hw : ∀ k, ok k → w'.heap[k]? = w.heap[k]?) (ho : ∀ k, ok k → ok' k) : RdIs ok' w' l g' := by
  intro j e he
  obtain ⟨v, hcv, hI⟩ := h j e he
  have hj := (List.getElem?_eq_some_iff.1 he).1
  have hI2 := hI.kept hw ho
  obtain ⟨p1, c1, p2, c2, p3, c3, p4, c4, rfl, _⟩ := hI
  refine ⟨_, ⟨_, rfl, fun i u hi => ?_⟩, hI2⟩
  have hi10 : i < 10 := by
    have := (Array.getElem?_eq_some_iff.1 hi).1
    simpa using this
  exact hc (j * 10 + i) u (by omega) (hcv.get i u hi)
theorem own_emptyF (w : World) (T : TypeId) (st : Nat) : (w.alloc (.cells #[] T)).ownsRow w.heap.size T st (.slice (some ⟨w.heap.size, 0, none⟩) 0 0) 0 [] :=
  ⟨by simp, .inr ⟨w.heap.size, 0, #[], rfl, Nat.le_refl _, heap_alloc_new w _, Nat.le_refl _, by unfold maxLen; omega, by simp, by simp⟩⟩
theorem add0F (g j : Nat) : (⟨g, 0, none⟩ : Addr).add j = ⟨g, j, none⟩ := by simp only [Addr.add, Nat.zero_add]; split <;> simp_all
theorem RdF.isF {ok : Nat → Prop} {w : World} {l : List (Int × It)} {g c : Nat} (h : RdF ok w l (.agg #[.slice (some ⟨g, 0, none⟩) l.length c])) (h0 : 0 < l.length) : ok g ∧ RdIs ok w l g := by
  obtain ⟨q, d, hv, _, hits⟩ := h
  injection hv with hv
  have hv : Value.slice (some ⟨g, 0, none⟩) l.length c = Value.slice q l.length d := by simpa using hv
  injection hv with h1 _ _
  obtain ⟨g', e1, e2, e3⟩ := hits h0
  rw [e1] at h1
  injection h1 with h1
  injection h1 with h1
  subst h1
  exact ⟨e2, e3⟩
end Go.Proofs.YtfioihehhlpgcaaGreatDoor
namespace Go.Proofs.YtfioihehhlpgcaaGreatDoor
open Go.RowKit Go.Sort Go.WideMaps Go.Maps
set_option linter.unusedVariables false
attribute [local go_sem ↓] Go.wp_at_zero Go.wp_at_succ
theorem nmB_size {x : ByteArray} (h : nmB x = true) : x.size ≤ 12 := by
  unfold nmB wdB at h
  simp only [Bool.and_eq_true, decide_eq_true_eq] at h
  exact h.1.1.2
theorem tk0_size {L : List Tok} {x : ByteArray} {a : Nat} (h : x = noB ∨ tkn L x a) : x.size ≤ 12 := by
  rcases h with h | h
  · rw [h]; decide
  · exact nmB_size h.1
theorem all_flat {P : Nat → Tr → Prop} {F : Tr → List Nv} (h : ∀ c a, P c a → ∀ e ∈ F a, e.x.size ≤ 12) : ∀ (L : List Tr) (c : Nat), wfL P c L → ∀ e ∈ L.flatMap F, e.x.size ≤ 12 := by
  intro L
  induction L with
  | nil => intro c _ e he; simp at he
  | cons a r ih =>
    intro c hw e he
    obtain ⟨c1, c2, h1, h2, h3⟩ := hw
    rw [List.flatMap_cons, List.mem_append] at he
    rcases he with he | he
    · exact h c1 a h2 e he
    · exact ih c2 h3 e he
theorem esX_size (L : List Tok) (n : Nat) : ∀ (c : Nat) (a : Tr), wfE L n c a → ∀ e ∈ esX a, e.x.size ≤ 12 := by
  induction n with
  | zero => intro c e h; exact h.elim
  | succ n ih =>
    intro c a h e he
    obtain ⟨k, x, m, al, f, t, rfl, h⟩ := h
    rw [esX_mk] at he
    rcases h with ⟨h1, h2, h3, h4⟩ | ⟨h1, h2, h3, h4⟩ | ⟨h1, h2, h3⟩ | ⟨h1, h2, c', h3, h4⟩
    · rw [if_neg h2, if_neg h3] at he; cases he
    · rw [if_neg (by omega), if_neg (by omega)] at he; cases he
    · rw [if_pos h1] at he; exact all_flat ih al c h3 e he
    · rw [if_neg (by omega), if_pos h1] at he
      rcases List.mem_cons.1 he with he | he
      · rw [he]; exact tk0_size (.inr h2)
      · exact all_flat ih al c' h4 e he
theorem esY_size (L : List Tok) (n : Nat) : ∀ (c : Nat) (s : Tr), wfS L n c s → ∀ e ∈ esY s, e.x.size ≤ 12 := by
  induction n with
  | zero => intro c s h; exact h.elim
  | succ n ih =>
    intro c s h e he
    obtain ⟨k, x, a, lb, o, e0, th, el, f, t, ce, ct, cl, rfl, ⟨m, h0⟩, hth, hel, hx, _⟩ := h
    have h1 := esX_size L m ce e0 h0
    have hB : ∀ e ∈ esB th, e.x.size ≤ 12 := all_flat ih th ct hth
    have hC : ∀ e ∈ esB el, e.x.size ≤ 12 := all_flat ih el cl hel
    have hs : x.size ≤ 12 := tk0_size (L := L) (a := a) (by rcases hx with ⟨h, _⟩ | ⟨h, _⟩; exact .inl h; exact .inr h)
    rw [esY_mk] at he
    split at he
    · exact h1 e he
    · split at he
      · rcases List.mem_append.1 he with he | he
        · exact h1 e he
        · rw [List.mem_singleton.1 he]; exact hs
      · split at he
        · rcases List.mem_append.1 he with he | he
          · rcases List.mem_append.1 he with he | he
            · exact h1 e he
            · exact hB e he
          · exact hC e he
        · split at he
          · rcases List.mem_append.1 he with he | he
            · exact h1 e he
            · exact hB e he
          · cases he
theorem esI_size {L : List Tok} {it : It} (h : WfI L it) : ∀ e ∈ esI it, e.x.size ≤ 12 := by
  obtain ⟨n, hn⟩ := h.bd
  unfold esI
  split
  · exact all_flat (esY_size L n) _ _ hn
  · intro e he; cases he
theorem sn_size {it : It} (h : ∀ e ∈ esI it, e.x.size ≤ 12) {s : BL} (hs : s ∈ snI it ∨ s ∈ caI it) : (bA s).size ≤ 12 := by
  have key : ∀ (F : List Nv → List ByteArray), (∀ x ∈ F (esI it), ∃ e ∈ esI it, e.x = x) → s ∈ risB (bsL (F (esI it))) → (bA s).size ≤ 12 := by
    intro F hF h2
    have h3 := (((risB_inc _).2 s).1 h2).1
    unfold bsL at h3
    obtain ⟨x, hx, rfl⟩ := List.mem_map.1 h3
    obtain ⟨e, he, rfl⟩ := hF x hx
    rw [bA_of]
    exact h e he
  rcases hs with hs | hs
  · refine key sdN (fun x hx => ?_) hs
    unfold sdN at hx
    obtain ⟨e, he, rfl⟩ := List.mem_map.1 hx
    exact ⟨e, (List.mem_filter.1 he).1, rfl⟩
  · refine key clN (fun x hx => ?_) hs
    unfold clN at hx
    obtain ⟨e, he, rfl⟩ := List.mem_map.1 hx
    exact ⟨e, (List.mem_filter.1 he).1, rfl⟩
theorem fil_size (s : ByteArray) : ∀ e ∈ fil s, ∀ n ∈ esI e.2, n.x.size ≤ 12 := by
  intro e he
  obtain ⟨j, _, hj⟩ := fil_mem he
  have hw := itI_wf s j
  have h2 : itI s j = e.2 := by rw [hj]
  rw [h2] at hw
  exact esI_size hw
theorem rea_size {l : List (Int × It)} (h : ∀ e ∈ l, ∀ n ∈ esI e.2, n.x.size ≤ 12) (i : Nat) (hi : i < l.length) {s : BL} (hs : s ∈ reaL l (i : Int)) : (bA s).size ≤ 12 := by
  obtain ⟨h1, _⟩ := ((rea_inc l _).2 s).1 hs
  obtain ⟨j, e, _, h3, h4⟩ := (dfs_names l i hi s).1 h1
  exact sn_size (h e (List.mem_of_getElem? h3)) (.inl h4)
/-- An item that says so. -/
def ssI (it : It) (ss : List Rf) : It := { it with ss := ss }
theorem ss_get {l : List (Int × It)} {i : Nat} {p : Int} {it : It} {ss : List Rf} (h : l[i]? = some (p, it)) (j : Nat) : (l.set i (p, ssI it ss))[j]? = if j = i then some (p, ssI it ss) else l[j]? := by
  rw [List.getElem?_set]
  have := (List.getElem?_eq_some_iff.1 h).1
  by_cases hj : i = j
  · subst hj; simp [this]
  · rw [if_neg hj, if_neg (fun e => hj e.symm)]
theorem find_ss {α : Type} {f : α → Bool} : ∀ (l l' : List α), l.length = l'.length → (∀ (j : Nat) (a b : α), l[j]? = some a → l'[j]? = some b → f a = f b) → l.findIdx? f = l'.findIdx? f := by
  intro l
  induction l with
  | nil => intro l' h _; cases l' with | nil => rfl | cons _ _ => simp at h
  | cons a r ih =>
    intro l' h hf
    cases l' with
    | nil => simp at h
    | cons b q =>
      rw [List.findIdx?_cons, List.findIdx?_cons, hf 0 a b rfl rfl, ih q (by simpa using h) (fun j a b h1 h2 => hf (j + 1) a b h1 h2)]
theorem fnd_ss {l : List (Int × It)} {i : Nat} {p : Int} {it : It} {ss : List Rf} (h : l[i]? = some (p, it)) (kd : Int) (x : ByteArray) : fnd (l.set i (p, ssI it ss)) kd x = fnd l kd x := by
  have hf : (l.set i (p, ssI it ss)).findIdx? (fun e => isIt kd x e.2) = l.findIdx? (fun e => isIt kd x e.2) := by
    refine find_ss _ _ List.length_set (fun j a b h1 h2 => ?_)
    rw [ss_get h] at h1
    split at h1
    · rename_i hj
      subst hj
      rw [h] at h2
      injection h1 with h1
      injection h2 with h2
      rw [← h1, ← h2]
      rfl
    · rw [h1] at h2
      injection h2 with h2
      rw [h2]
  unfold fnd fidx
  rw [hf]
theorem dfs_ss {l : List (Int × It)} {i : Nat} {p : Int} {it : It} {ss : List Rf} (h : l[i]? = some (p, it)) (m : Nat) : ∀ (st : List Bool × List BL) (k : Int), dfs (l.set i (p, ssI it ss)) m st k = dfs l m st k := by
  induction m with
  | zero => intro st k; rfl
  | succ m ih =>
    intro st k
    have hF : (fun (st : List Bool × List BL) s => dfs (l.set i (p, ssI it ss)) m st (fnd (l.set i (p, ssI it ss)) 2 (bA s))) = fun st s => dfs l m st (fnd l 2 (bA s)) := by
      funext st s
      rw [ih, fnd_ss h]
    unfold dfs
    rw [List.length_set, hF, ss_get h]
    by_cases hk : k.toNat = i
    · rw [if_pos hk, hk, h]
      have e1 : snI (ssI it ss) = snI it := rfl
      have e2 : caI (ssI it ss) = caI it := rfl
      split
      · rfl
      · cases st.1[i]? with
        | none => rfl
        | some b =>
          cases b
          · simp only [e1, e2]
          · rfl
    · rw [if_neg hk]
theorem rea_ss {l : List (Int × It)} {i : Nat} {p : Int} {it : It} {ss : List Rf} (h : l[i]? = some (p, it)) (k : Int) : reaL (l.set i (p, ssI it ss)) k = reaL l k := by
  unfold reaL
  rw [List.length_set, dfs_ss h]
def rfB (s : BL) : Rf := ⟨bA s, 0⟩
theorem said_all (R : List BL) : edF (R.map rfB) R = [] := by
  unfold edF
  rw [List.filter_eq_nil_iff]
  intro s hs
  have : saidR (R.map rfB) (bA s) = true := List.any_eq_true.2 ⟨rfB s, List.mem_map.2 ⟨s, hs, rfl⟩, by unfold isRf rfB; simp⟩
  simp [this]
set_option maxHeartbeats 1000000 in
set_option maxRecDepth 100000 in
/-- A set that is nil has no names. -/
theorem rising_nil (w : World) : Calls Tryz.prog 15 #[.map none] w fun e w' => e = .returned (.slice none 0 0) ∧ Below w.heap.size w w' := by
  have hr := run_range_nilMap (P := Tryz.prog) w 40 9 4 Tryz.underlying40
  have hn := fun ty => run_next_nilMap (P := Tryz.prog) w ty 0 0 #[]
  go_enter Tryz.func15, Tryz.ntmps15
  go_wp2
  go_loopw [3] (fun v wr => v = .slice none 0 0 ∧ wr = w.alloc (.mapIter none 0 #[] 0)) (fun _ _ => 0)
  case atStart => exact ⟨rfl, rfl⟩
  case round =>
    obtain ⟨rfl, rfl⟩ := hrel
    go_wp2
    go_ret
    exact ⟨rfl, (Below.refl w.heap.size w).alloc (Nat.le_refl _) _⟩
/-- The same set, sorted, is the same list. -/
theorem rea_eq {l : List (Int × It)} {i : Nat} {e : Int × It} (he : l[i]? = some e) {R : List BL} (hR : Inc R) {ns : List BL} (hm : ∀ s, s ∈ R ↔ s ∈ ns) (hn : ∀ s, s ∈ ns ↔ s ∈ snI e.2 ∨ ∃ (n : BL) (k : Nat), n ∈ caI e.2 ∧ fnd l 2 (bA n) = (k : Int) ∧ s ∈ reaL l (k : Int)) : R = reaL l (i : Int) :=
  Inc.ext hR (rea_inc l _).1 (fun s => by rw [hm, hn, rea_step l i e he])
end Go.Proofs.YtfioihehhlpgcaaGreatDoor
namespace Go.Proofs.YtfioihehhlpgcaaGreatDoor
open Go.RowKit Go.Sort
set_option linter.unusedVariables false
attribute [local go_sem ↓] Go.wp_at_zero Go.wp_at_succ
def appE (P : Program) (ts : Array TypeId) (ty : TypeId) (vs : Array Value) (w : World) := (Builtin.append_ ts ty vs).run P w
theorem appE_hide (P : Program) (ρ : Operand → Value) (dst : Option Tmp) (xs : Array Operand) (ats : Array TypeId) (ty : TypeId) (pos : String) (after : Array Edge) (guard : Option (Nat × Bool)) (w : World) :
    (execOp ρ { dst, op := .call { callee := .builtin .append, args := xs, argTypes := ats }, type := ty, pos, after, guard }).run P w = (appE P ats ty (xs.map ρ) w).andThen fun v w' => .ok (.value v) w' := by
  show (do pure (Next.value (← Builtin.append_ ats ty (xs.map ρ))) : Sem Next).run P w = _
  simp only [Sem.run_bind, Sem.run_pure]
  rfl
def refC (s : BL) : List Value := [.string (bA s), .int .i64 0]
/-- What a copy is. -/
theorem copied {w7 w8 : World} {l : List (Int × It)} {g g6 cap6 : Nat} {xs : List Value} (hown : w8.ownsRow w7.heap.size 36 10 (.slice (some ⟨g6, 0, none⟩) (0 + l.length) cap6) (0 + l.length) ([] ++ xs)) (hgrow : (w7.alloc (.cells #[] 36)).grownBy w8 (Value.slice (some ⟨w7.heap.size, 0, none⟩) 0 0).ownBlock)
    (hx : ∀ (j : Nat) (u : Value), j < l.length * 10 → w7.cell? ⟨g, j, none⟩ = some u → xs[j]? = some u) :
    Below w7.heap.size w7 w8 ∧ w7.heap.size ≤ g6 ∧ g6 < w8.heap.size ∧ (∀ (j : Nat) (u : Value), j < l.length * 10 → w7.cell? ⟨g, j, none⟩ = some u → w8.cell? ⟨g6, j, none⟩ = some u) ∧ ∃ cur, w8.heap[g6]? = some (.cells cur 36 (0, 0)) := by
  have hb := (Below.refl w7.heap.size w7).alloc (Nat.le_refl _) (.cells #[] 36)
  refine ⟨hb.grown hgrow hb.size (fun j hj => by cases hj; exact Nat.le_refl _), (hown.lt g6 rfl).1, (hown.lt g6 rfl).2, fun j u hj hu => ?_, ?_⟩
  · have h := hown.cells (g := g6) rfl j u (by rw [List.nil_append]; exact hx j u hj hu)
    rwa [add0F] at h
  · obtain ⟨_, ⟨h0, _⟩ | ⟨g', cap', cur, hv, _, hg', _⟩⟩ := hown
    · cases h0
    · injection hv with hv
      injection hv with hv
      injection hv with hv
      subst hv
      exact ⟨cur, hg'⟩
/-- One of them says to what it sends. -/
theorem said_rd {w7 w8 wr W : World} {l : List (Int × It)} {k g g6 cap6 : Nat} {pp : Int} {it : It} {cur : Array Value} {t : TypeId} {v : Value} {R : List BL} (hRI : RdIs (fun z => z < w7.heap.size) w7 l g) (he : l[k]? = some (pp, it)) (hb : Below w7.heap.size w7 w8) (hcl : ∀ (j : Nat) (u : Value), j < l.length * 10 → w7.cell? ⟨g, j, none⟩ = some u → w8.cell? ⟨g6, j, none⟩ = some u)
    (hh : w8.heap[g6]? = some (.cells cur t (0, 0))) (hg6 : w7.heap.size ≤ g6) (hr : wr.heap[g6]? = some (.cells (cur.setIfInBounds (k * 10 + 4) v) t (0, 0))) (hkeep : ∀ z, z < w7.heap.size → wr.heap[z]? = w7.heap[z]?) (hsz : w7.heap.size ≤ wr.heap.size) (hown : wr.ownsRow W.heap.size 45 2 v R.length (R.flatMap refC)) (hlR : R.length ≤ 1099511627776) (hlen : l.length ≤ 1099511627776) :
    RdF (fun z => z < wr.heap.size) wr (l.set k (pp, ssI it (R.map rfB))) (.agg #[.slice (some ⟨g6, 0, none⟩) (l.set k (pp, ssI it (R.map rfB))).length cap6]) := by
  have hg6s : g6 < wr.heap.size := (Array.getElem?_eq_some_iff.1 hr).1
  have hother : ∀ o, o ≠ k * 10 + 4 → wr.cell? ⟨g6, o, none⟩ = w8.cell? ⟨g6, o, none⟩ := fun o ho => by
    rw [cell_of_row _ _ o _ _ _ hr, cell_of_row _ _ o _ _ _ hh, Array.getElem?_setIfInBounds_ne (fun e => ho e.symm)]
  refine ⟨_, _, rfl, by rw [List.length_set]; exact hlen, fun _ => ⟨g6, rfl, hg6s, ?_⟩⟩
  intro j e hj
  rw [ss_get he] at hj
  by_cases hjk : j = k
  · rw [if_pos hjk] at hj
    injection hj with hj
    subst hj
    subst hjk
    have hjl := (List.getElem?_eq_some_iff.1 he).1
    obtain ⟨vI, hcv, hI⟩ := hRI j _ he
    have hI2 := RdI.kept (w' := wr) (ok' := fun z => z < wr.heap.size) hI hkeep (fun z hz => Nat.lt_of_lt_of_le hz hsz)
    obtain ⟨p1, c1, p2, c2, p3, c3, p4, c4, rfl, r1, r2, r3, r4⟩ := hI2
    have hex : w8.cell? ⟨g6, j * 10 + 4, none⟩ = some (.slice p2 it.ss.length c2) := hcl (j * 10 + 4) _ (by omega) (hcv.get 4 _ rfl)
    have hsame : wr.cell? ⟨g6, j * 10 + 4, none⟩ = some v := by
      rw [cell_of_row _ _ _ _ _ _ hh] at hex
      rw [cell_of_row _ _ _ _ _ _ hr, Array.getElem?_setIfInBounds_self_of_lt (Array.getElem?_eq_some_iff.1 hex).1]
    have hRr : R.flatMap refC = (R.map rfB).flatMap rfC := by
      rw [List.flatMap_map]
      rfl
    have hRl : R.length = (R.map rfB).length := by rw [List.length_map]
    rw [hRr, hRl] at hown
    obtain ⟨pv, cv, hv, hits⟩ := row_read (c := rfC) (fun a => rfl) hown
    subst hv
    refine ⟨.agg #[.int .i64 (it.k : Int), .string it.x, .int .i64 (it.l : Int), .slice p1 it.ps.length c1, .slice pv (R.map rfB).length cv, .slice p3 it.bd.length c3, .int .i64 pp, .int .i64 (it.sz : Int), .int .i64 (it.mrk : Int), .slice p4 it.ds.length c4], ⟨_, rfl, fun i u hu => ?_⟩, ⟨p1, c1, pv, cv, p3, c3, p4, c4, rfl, r1, ⟨by show (R.map rfB).length ≤ _; rw [List.length_map]; exact hlR, fun h0 => ?_⟩, r3, r4⟩⟩
    · by_cases h2 : i = 4
      · subst h2
        have : u = .slice pv (R.map rfB).length cv := by simpa using hu.symm
        rw [this]
        exact hsame
      · have hi10 : i < 10 := by
          have := (Array.getElem?_eq_some_iff.1 hu).1
          simpa using this
        rw [hother (j * 10 + i) (by omega)]
        refine hcl (j * 10 + i) u (by omega) (hcv.get i u ?_)
        rcases i with _ | _ | _ | _ | _ | i
        · exact hu
        · exact hu
        · exact hu
        · exact hu
        · exact absurd rfl h2
        · exact hu
    · obtain ⟨g', e1, e2, e3⟩ := hits h0
      exact ⟨g', e1, e2.2, e3⟩
  · rw [if_neg hjk] at hj
    have hjl := (List.getElem?_eq_some_iff.1 hj).1
    obtain ⟨vI, hcv, hI⟩ := hRI j e hj
    have hI2 := RdI.kept (w' := wr) (ok' := fun z => z < wr.heap.size) hI hkeep (fun z hz => Nat.lt_of_lt_of_le hz hsz)
    obtain ⟨p1, c1, p2, c2, p3, c3, p4, c4, rfl, _⟩ := hI
    refine ⟨_, ⟨_, rfl, fun i u hu => ?_⟩, hI2⟩
    have hi10 : i < 10 := by
      have := (Array.getElem?_eq_some_iff.1 hu).1
      simpa using this
    rw [hother (j * 10 + i) (by omega)]
    exact hcl (j * 10 + i) u (by omega) (hcv.get i u hu)
/-- So far the first names are said. -/
def RelG5 (R : List BL) (g6 o : Nat) (cur : Array Value) (W : World) (i : Value) (wr : World) : Prop := ∃ (t : Nat) (v : Value), t ≤ R.length ∧ i = .int .i64 (t : Int) ∧ wr.heap[g6]? = some (.cells (cur.setIfInBounds o v) 36 (0, 0)) ∧ wr.ownsRow W.heap.size 45 2 v t ((R.take t).flatMap refC) ∧ W.grownBy wr (some g6)
theorem g5_next {R : List BL} {g6 o t gR capR : Nat} {cur : Array Value} {W wr wz : World} {v : Value} {s : BL} {ob : Obj} (hg6 : g6 < W.heap.size) (ht : t < R.length) (hs : R[t]? = some s) (hh : wr.heap[g6]? = some (.cells (cur.setIfInBounds o v) 36 (0, 0))) (hown : wr.ownsRow W.heap.size 45 2 v t ((R.take t).flatMap refC)) (hg : W.grownBy wr (some g6))
    (hownz : wz.ownsRow W.heap.size 45 2 (.slice (some ⟨gR, 0, none⟩) (t + 1) capR) (t + 1) ((R.take t).flatMap refC ++ refC s)) (hgz : ((wr.alloc ob).drew).grownBy wz v.ownBlock) :
    RelG5 R g6 o cur W (.int .i64 ((t + 1 : Nat) : Int)) (wz.setCell ⟨g6, o, none⟩ (.slice (some ⟨gR, 0, none⟩) (t + 1) capR)) := by
  have hsz := hg.size
  have hne : some g6 ≠ v.ownBlock := fun e => by have := (hown.lt g6 e.symm).1; omega
  have hD : ((wr.alloc ob).drew).heap[g6]? = wr.heap[g6]? := Below.heap_alloc wr ob g6 (by omega)
  have hz6 : wz.heap[g6]? = some (.cells (cur.setIfInBounds o v) 36 (0, 0)) := (hgz.block g6 (show g6 < (wr.alloc ob).heap.size by have := ((Below.refl wr.heap.size wr).alloc (Nat.le_refl _) ob).size; omega) hne).trans (hD.trans hh)
  have hba := (Below.refl wr.heap.size wr).alloc (Nat.le_refl _) ob
  refine ⟨t + 1, .slice (some ⟨gR, 0, none⟩) (t + 1) capR, ht, rfl, ?_, ?_, ?_⟩
  · rw [heap_setCell_same _ _ _ _ _ _ hz6]
    simp
  · rw [List.take_add_one, hs, List.flatMap_append]
    refine ownsRow_setCell_other (by simpa using hownz) (fun e => ?_) _
    have h1 : gR = g6 := Option.some.inj e
    have := (hownz.lt gR rfl).1
    omega
  · refine ⟨hgz.os.trans (hba.os.trans hg.os), hgz.tape.trans (hba.tape.trans hg.tape), hgz.output.trans (hba.output.trans hg.output), ?_, fun z hz hne2 => ?_⟩
    · have := hgz.size
      have := hba.size
      have e : ((wr.alloc ob).drew).heap.size = (wr.alloc ob).heap.size := rfl
      simp
      omega
    · have hzg : z ≠ g6 := fun e => hne2 (by rw [e])
      have hzo : some z ≠ v.ownBlock := fun e => by have := (hown.lt z e.symm).1; omega
      exact (Below.heap_setCell _ _ _ z hzg).trans ((hgz.block z (show z < (wr.alloc ob).heap.size by have := hba.size; omega) hzo).trans ((hba.block z (by omega)).trans (hg.block z hz hne2)))
/-- With such an item nothing is wrong. -/
theorem least_diags {l : List (Int × It)} {k g6 cap6 : Nat} {pp : Int} {it : It} {R : List BL} {w : World} {ok : Nat → Prop} (he : l[k]? = some (pp, it)) (hR : reaL (l.set k (pp, ssI it (R.map rfB))) (k : Int) = R) (hnE : ∀ e ∈ l, (esI e.2).length < 1099511627776) (hn : ∀ i : Int, (dfs l l.length (List.replicate l.length false, []) i).2.length < 1099511627776) (hok : ∀ z, ok z → z < w.heap.size) (hRd : RdF ok w (l.set k (pp, ssI it (R.map rfB))) (.agg #[.slice (some ⟨g6, 0, none⟩) (l.set k (pp, ssI it (R.map rfB))).length cap6])) :
    Calls Tryz.prog 16 #[.agg #[.slice (some ⟨g6, 0, none⟩) l.length cap6], .int .i64 (k : Int)] w fun e w' => ∃ q d, e = .returned (.slice q 0 d) ∧ Below w.heap.size w w' := by
  have hget : (l.set k (pp, ssI it (R.map rfB)))[k]? = some (pp, ssI it (R.map rfB)) := by rw [ss_get he, if_pos rfl]
  have h1 : ∀ e ∈ l.set k (pp, ssI it (R.map rfB)), (esI e.2).length < 1099511627776 := fun e h => by
    rcases List.mem_or_eq_of_mem_set h with h | h
    · exact hnE e h
    · rw [h]
      exact (show (esI it).length < 1099511627776 from hnE (pp, it) (List.mem_of_getElem? he))
  have h := ediags_any (l.set k (pp, ssI it (R.map rfB))) _ cap6 w ok hok hRd h1 k pp (ssI it (R.map rfB)) hget (by rw [List.length_set, dfs_ss he]; exact hn (k : Int))
  rw [List.length_set] at h
  refine h.mono ?_
  rintro e w' ⟨v, rfl, hrow, hb⟩
  have e1 : (edF (ssI it (R.map rfB)).ss (reaL (l.set k (pp, ssI it (R.map rfB))) (k : Int))).length = 0 := by rw [hR]; show (edF (R.map rfB) R).length = 0; rw [said_all]; rfl
  obtain ⟨q, d, rfl⟩ := own_formD hrow
  rw [e1]
  exact ⟨q, d, rfl, hb⟩
end Go.Proofs.YtfioihehhlpgcaaGreatDoor

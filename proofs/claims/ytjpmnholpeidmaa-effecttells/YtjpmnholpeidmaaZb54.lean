/- Texts of this seat, one behind the other: EtOwn, EtQu, EtRea, EtLen. -/
import Derived.Test.YtjpmnholpeidmaaZb53
import Derived.Test.YtjpmnholpeidmaaZb39
import Derived.Test.YtjpmnholpeidmaaZb52
import Derived.Test.YtjpmnholpeidmaaZb02
import Derived.Test.YtjpmnholpeidmaaZb40
namespace Go.Proofs.Ytjpmnholpeidmaa
open Go.RowKit Go.Sort Go.WideMaps Go.Maps
set_option linter.unusedVariables false
attribute [local go_sem ↓] Go.wp_at_zero Go.wp_at_succ
/-- What is called has a name. -/
theorem esX_ne (L : List Tok) (n : Nat) : ∀ (c : Nat) (e : Tr), zE L n c e → ∀ v ∈ esX e, v.x ≠ noB := by
  induction n with
  | zero => intro c e h; exact h.elim
  | succ n ih =>
    intro c e h v hv
    obtain ⟨k, x, m, al, f, t, rfl, _, _, h⟩ := h
    have hall : ∀ c', wfL (zE L n) c' al → ∀ v ∈ al.flatMap esX, v.x ≠ noB := fun c' hw v hv => by
      obtain ⟨a, ha, hv⟩ := List.mem_flatMap.1 hv
      obtain ⟨j, hj⟩ := List.getElem?_of_mem ha
      obtain ⟨c2, _, hz⟩ := wfL_nth al c' j a hw hj
      exact ih c2 a hz v hv
    rw [esX_mk] at hv
    rcases h with ⟨h1, _, h2⟩ | ⟨h1, _, h2, _⟩ | ⟨h1, _, _, h3⟩ | ⟨h1, ht, c', _, h4⟩
    · rw [if_neg (by omega), if_neg (by omega)] at hv; cases hv
    · rw [if_neg (by omega), if_neg (by omega)] at hv; cases hv
    · rw [if_pos h1] at hv; exact hall _ h3 v hv
    · rw [if_neg (by omega), if_pos h1] at hv
      rcases List.mem_cons.1 hv with h5 | h5
      · rw [h5]; exact tkn_ne ht
      · exact hall _ h4 v h5
theorem esY_ne (L : List Tok) (n : Nat) : ∀ (c : Nat) (s : Tr), zS L n c s → ∀ v ∈ esY s, v.s = false → v.x ≠ noB := by
  induction n with
  | zero => intro c s h; exact h.elim
  | succ n ih =>
    intro c s h v hv hs
    obtain ⟨k, x, a, lb, o, e, th, el, f, t, ce, ct, cl, rfl, _, _, _, ⟨m, hz⟩, hth, hel, _⟩ := h
    have hX : v ∈ esX e → v.x ≠ noB := fun h => esX_ne L m ce e hz v h
    have hall : ∀ l c', wfL (zS L n) c' l → v ∈ esB l → v.x ≠ noB := fun l c' hw hv => by
      obtain ⟨a, ha, hv⟩ := List.mem_flatMap.1 hv
      obtain ⟨j, hj⟩ := List.getElem?_of_mem ha
      obtain ⟨c2, _, hz⟩ := wfL_nth l c' j a hw hj
      exact ih c2 a hz v hv hs
    rw [esY_mk] at hv
    split at hv
    · exact hX hv
    · split at hv
      · rcases List.mem_append.1 hv with h | h
        · exact hX h
        · rw [List.mem_singleton.1 h] at hs; cases hs
      · split at hv
        · rcases List.mem_append.1 hv with h | h
          · rcases List.mem_append.1 h with h | h
            · exact hX h
            · exact hall _ _ hth h
          · exact hall _ _ hel h
        · split at hv
          · rcases List.mem_append.1 hv with h | h
            · exact hX h
            · exact hall _ _ hth h
          · cases hv
theorem bsL_ne {x : ByteArray} (h : x ≠ noB) : x.data.toList ≠ [] := fun e => h (by rw [← bA_of x, e]; rfl)
theorem clG_ne {L : List Tok} {m c : Nat} {l : List Tr} (h : wfL (zS L m) c l) : ∀ s ∈ clG (esB l), s ≠ [] := by
  intro s hs
  unfold clG bsL clN at hs
  rw [List.map_map] at hs
  obtain ⟨v, hv, rfl⟩ := List.mem_map.1 hs
  obtain ⟨hv, hvs⟩ := List.mem_filter.1 hv
  obtain ⟨a, ha, hv⟩ := List.mem_flatMap.1 hv
  obtain ⟨j, hj⟩ := List.getElem?_of_mem ha
  obtain ⟨c2, _, hz⟩ := wfL_nth l c j a h hj
  exact bsL_ne (esY_ne L m c2 a hz v hv (by simpa using hvs))
theorem esI_of {L : List Tok} {sz k lb mk : Nat} {it : It} (h : ItQ L sz it.k it.x it.l it.ps it.ss it.bd it.mrk) : esI it = esB it.bd := by
  unfold esI
  by_cases hk : it.k = 2
  · rw [if_pos hk]
  · rw [if_neg hk, (h.no hk).2.2]; rfl
theorem snI_iff {L : List Tok} {sz : Nat} {it : It} (h : ItQ L sz it.k it.x it.l it.ps it.ss it.bd it.mrk) {R : List BL} (hi : Inc R) (hm : ∀ s : BL, s ∈ R ↔ s ∈ (snG (esB it.bd)).reverse ++ []) : R = snI it := by
  refine Inc.ext hi (risB_inc _).1 (fun s => ?_)
  show s ∈ R ↔ s ∈ risB (bsL (sdN (esI it)))
  rw [hm, (risB_inc _).2, esI_of (k := 0) (lb := 0) (mk := 0) h, List.append_nil, List.mem_reverse]
  unfold snG
  rw [List.mem_filter]
  cases s <;> simp
theorem caI_iff {L : List Tok} {sz : Nat} {it : It} (h : ItQ L sz it.k it.x it.l it.ps it.ss it.bd it.mrk) {R : List BL} (hi : Inc R) (hm : ∀ s : BL, s ∈ R ↔ s ∈ (clG (esB it.bd)).reverse ++ []) : R = caI it := by
  refine Inc.ext hi (risB_inc _).1 (fun s => ?_)
  show s ∈ R ↔ s ∈ risB (bsL (clN (esI it)))
  rw [hm, (risB_inc _).2, esI_of (k := 0) (lb := 0) (mk := 0) h, List.append_nil, List.mem_reverse]
  obtain ⟨m, hw⟩ := h.wf
  exact ⟨fun hs => ⟨hs, clG_ne hw s hs⟩, fun hs => hs.1⟩
theorem G2.low {bs bc B : Nat} {w w' : World} (h : G2 bs bc w w') (hB : B ≤ w.heap.size) (h1 : B ≤ bs) (h2 : B ≤ bc) : Below B w w' := ⟨h.os, h.tape, h.output, h.size, fun k hk => h.block k (by omega) (by omega) (by omega)⟩
theorem StrAt.belowQ {w w' : World} {D : Option Nat} {ss : List BL} {v : Value} (h : StrAt w D ss v) (hb : Below w.heap.size w w') : StrAt w' D ss v := by
  obtain ⟨p, cap, e, h1, h2⟩ := h
  refine ⟨p, cap, e, h1, fun hl => ?_⟩
  obtain ⟨g, o, e1, e2, e3, e4⟩ := h2 hl
  exact ⟨g, o, e1, e2, Nat.lt_of_lt_of_le e3 hb.size, fun j s hj => (World.cell?_of_block (a := ⟨g, o + j, none⟩) (hb.block g e3)).trans (e4 j s hj)⟩
theorem wn_made (w : World) : WnAt (w.alloc (.map #[] 0)) w.heap.size [] := ⟨0, Nat.le_refl _, World.ownsMap_made _ _ _ _⟩
set_option maxHeartbeats 2000000 in
set_option maxRecDepth 100000 in
theorem eOwn_ref {L : List Tok} {sz : Nat} (hs40 : sz ≤ 1099511627776) (it : It) (at_ : Int) (v : Value) (w : World) (ok : Nat → Prop) (hok : ∀ k, ok k → k < w.heap.size) (hI : RdI ok w at_ it v) (hQ : ItQ L sz it.k it.x it.l it.ps it.ss it.bd it.mrk) (hsz : ∀ t ∈ L, t.a + t.x.size ≤ sz) (hn : (esI it).length < 1099511627776) :
    Calls Try.prog 8 #[v] w fun e w' => ∃ v1 v2 D1 D2, e = .returned (.tuple #[v1, v2]) ∧ StrAt w' D1 (snI it) v1 ∧ StrAt w' D2 (caI it) v2 ∧ Below w.heap.size w w' ∧ (∀ k, some k = D1 → w.heap.size ≤ k) ∧ ∀ k, some k = D2 → w.heap.size ≤ k := by
  have hmm := @run_makeMap Try.prog
  have hes := esI_of (k := 0) (lb := 0) (mk := 0) hQ
  rw [hes] at hn
  obtain ⟨m, hwf⟩ := hQ.wf
  have HQ := hid hQ
  obtain ⟨p1, c1, p2, c2, p3, c3, p4, c4, rfl, _, _, ⟨nb, hB⟩, _⟩ := hI
  generalize hO : (Obj.cells #[.int .i64 (it.k : Int), .string it.x, .int .i64 (it.l : Int), .slice p1 it.ps.length c1, .slice p2 it.ss.length c2, .slice p3 it.bd.length c3, .int .i64 at_, .int .i64 (it.sz : Int), .int .i64 (it.mrk : Int), .slice p4 it.ds.length c4] 35) = O
  have e1 : (w.alloc O).heap.size = w.heap.size + 1 := by simp
  have e2 : ((w.alloc O).alloc (.map #[] 0)).heap.size = w.heap.size + 1 + 1 := by simp
  have hb1 := (Below.refl w.heap.size w).alloc (Nat.le_refl _) O
  have hb2 := hb1.alloc (by simp) (.map #[] 0)
  have hb3 := hb2.alloc (by simp; omega) (.map #[] 0)
  have hm1 : WnAt (((w.alloc O).alloc (.map #[] 0)).alloc (.map #[] 0)) (w.heap.size + 1) [] := by
    have h := (wn_made (w.alloc O)).belowQ ((Below.refl _ _).alloc (Nat.le_refl _) (.map #[] 0))
    rw [e1] at h
    exact h
  have hm2 : WnAt (((w.alloc O).alloc (.map #[] 0)).alloc (.map #[] 0)) (w.heap.size + 1 + 1) [] := by
    have h := wn_made ((w.alloc O).alloc (.map #[] 0))
    rw [e2] at h
    exact h
  have hbk := (Below.heap_alloc ((w.alloc O).alloc (.map #[] 0)) (.map #[] 0) w.heap.size (by simp; omega)).trans ((Below.heap_alloc (w.alloc O) (.map #[] 0) w.heap.size (by simp)).trans (heap_alloc_new w O))
  have hBB : SlT (okM (w.heap.size + 1) (w.heap.size + 1 + 1) (((w.alloc O).alloc (.map #[] 0)).alloc (.map #[] 0))) (RdS nb (okM (w.heap.size + 1) (w.heap.size + 1 + 1) (((w.alloc O).alloc (.map #[] 0)).alloc (.map #[] 0))) (((w.alloc O).alloc (.map #[] 0)).alloc (.map #[] 0))) (((w.alloc O).alloc (.map #[] 0)).alloc (.map #[] 0)) 15 it.bd p3 := by
    have k1 : ∀ k, ok k → (((w.alloc O).alloc (.map #[] 0)).alloc (.map #[] 0)).heap[k]? = w.heap[k]? := fun k hk => hb3.block k (hok k hk)
    have k2 : ∀ k, ok k → okM (w.heap.size + 1) (w.heap.size + 1 + 1) (((w.alloc O).alloc (.map #[] 0)).alloc (.map #[] 0)) k := fun k hk => ⟨by have := hok k hk; simp; omega, by have := hok k hk; omega, by have := hok k hk; omega⟩
    exact hB.kept k1 k2 (RdS.kept nb k1 k2)
  have e3 : (((w.alloc O).alloc (.map #[] 0)).alloc (.map #[] 0)).heap.size = w.heap.size + 3 := by simp
  rw [← hO] at hbk
  have x5 := cell_of_row _ _ 5 _ _ _ hbk
  rw [hO] at x5
  simp only [List.getElem?_toArray, List.getElem?_cons_succ, List.getElem?_cons_zero] at x5
  clear hbk hB hes e1 e2
  have F1 : Hid (1 = 1) := rfl
  have HM := hid (And.intro hm1 hm2)
  have HW := hid hwf
  have HB := hid hBB
  have HN := hid hn
  have hne : w.heap.size + 1 ≠ w.heap.size + 1 + 1 := by omega
  clear hm1 hm2 hwf hBB hn hQ
  go_enter Try.func8, Try.ntmps8
  go_wp2_with (first
    | (go_at_call 24; refine (gather_ref (L := L) (sz := sz) (bs := w.heap.size + 1) (bc := w.heap.size + 1 + 1) hs40 nb m _ it.bd _ _ [] [] _ HW.out hsz HB.out HM.out.1 HM.out.2 hne (by have := HN.out; simpa using this) (by have := HN.out; simpa using this)).mono ?_; rintro e5 w5 ⟨rfl, hms, hmc, hg⟩; have hlow := hb3.trans (hg.low (B := w.heap.size) (by rw [e3]; omega) (by omega) (by omega)); have hHM := hid (And.intro hms hmc); clear hms hmc hg)
    | (go_at_call 25; have f_ := F1; clear f_ F1; refine (rising_ref _ (w.heap.size + 1) _ hHM.out.1 (by have := HN.out; have := snG_len (esB it.bd); simp only [List.length_append, List.length_reverse, List.length_nil]; omega)).mono ?_; rintro e6 w6 ⟨v1, R1, D1, rfl, hst1, hinc1, hmem1, hb6, hf1⟩; have hmc6 := hid (hHM.out.2.belowQ hb6))
    | (go_at_call 25; refine (rising_ref _ (w.heap.size + 1 + 1) _ hmc6.out (by have := HN.out; have := clG_len (esB it.bd); simp only [List.length_append, List.length_reverse, List.length_nil]; omega)).mono ?_; rintro e7 w7 ⟨v2, R2, D2, rfl, hst2, hinc2, hmem2, hb7, hf2⟩))
  have r1 := snI_iff HQ.out hinc1 hmem1
  have r2 := caI_iff HQ.out hinc2 hmem2
  subst r1 r2
  have hs5 := hlow.size
  exact bodyPost_ret (v := .tuple #[v1, v2]) (by simp [results, Try.results8, go_sem]) rfl ⟨v1, v2, D1, D2, rfl, hst1.belowQ hb7, hst2, (hlow.trans (hb6.mono hs5)).trans (hb7.mono (Nat.le_trans hs5 hb6.size)), fun k hk => Nat.le_trans hs5 (hf1 k hk), fun k hk => Nat.le_trans (Nat.le_trans hs5 hb6.size) (hf2 k hk)⟩
end Go.Proofs.Ytjpmnholpeidmaa

namespace Go.Proofs.Ytjpmnholpeidmaa
open Go.RowKit Go.Sort Go.WideMaps Go.Maps
set_option linter.unusedVariables false
def inD : List Nat → DataW Unit
  | [] => .map []
  | k :: r => (inD r).put (.int .i64 (k : Int)) (.lit (.bool true))
theorem inD_map (l : List Nat) : IsMap (inD l) := by
  induction l with
  | nil => exact isMap_empty
  | cons e r ih => exact ih.put _ _
theorem inK_lit (k : Nat) : WideAt.IsKeyLit (Lit.int .i64 (k : Int)) := by first | trivial | simp [WideAt.IsKeyLit]
theorem inD_at (l : List Nat) (k : Nat) : (inD l).atKey (.int .i64 (k : Int)) (.lit (.bool false)) = .lit (.bool (decide (k ∈ l))) := by
  induction l with
  | nil => rfl
  | cons e r ih =>
    unfold inD
    by_cases h : k = e
    · subst h
      rw [atKey_put_same (inD_map r) (inK_lit k)]
      simp
    · rw [atKey_put_other (fun e2 => h (by injection e2 with _ e3; omega)), ih]
      simp [h]
/-- A set of numbers, as a map. -/
def InAt (w : World) (b : Nat) (l : List Nat) : Prop := ∃ n, n ≤ l.length ∧ w.ownsMap Try.prog 3 (plainElem (H := Unit) Try.prog 4) b n (inD l)
theorem InAt.kept {w w' : World} {b : Nat} {l : List Nat} (h : InAt w b l) (hg : w'.heap[b]? = w.heap[b]?) : InAt w' b l := by
  obtain ⟨n, hn, es, clock, h1, h2⟩ := h
  exact ⟨n, hn, es, clock, hg.trans h1, h2⟩
theorem InAt.lt {w : World} {b : Nat} {l : List Nat} (h : InAt w b l) : b < w.heap.size := by
  obtain ⟨n, _, hown⟩ := h
  exact hown.lt
theorem in_made (w : World) : InAt (w.alloc (.map #[] 0)) w.heap.size [] := ⟨0, Nat.le_refl _, World.ownsMap_made _ _ _ _⟩
theorem zeroBoE (w : World) : (zeroValue 4).run Try.prog w = .ok (.bool false) w := by kernel_rfl
theorem kIntE : Keyed Try.prog 3 := int_keyed Try.underlying3
theorem keyIntE (k : Nat) (hk : k < 9223372036854775808) : keyOf Try.prog 3 (.int .i64 (k : Int)) = some (.int .i64 (k : Int)) := keyOf_int_mk Try.underlying3 (WalkArith.wf_i64 (by omega))
theorem in_look {w : World} {b : Nat} {l : List Nat} (h : InAt w b l) (k : Nat) (hk : k < 9223372036854775808) : (Instr.lookup 57 (.map (some b)) (.int .i64 (k : Int)) false).run Try.prog w = .ok (.bool (decide (k ∈ l))) w := by
  obtain ⟨n, _, hown⟩ := h
  obtain ⟨v, ps, hrun, hv⟩ := World.ownsMap.lookup hown kIntE Try.underlying57 (zeroBoE w) (plainElem_bool Try.underlying4 false) (keyIntE k hk)
  rw [inD_at] at hv
  rw [hrun]
  have hb := Try.underlying4
  cases v <;> simp [plainElem, hb] at hv
  rw [hv.1]
theorem in_put {w : World} {b : Nat} {l : List Nat} (h : InAt w b l) (hn : l.length < 1099511627776) (k : Nat) (hk : k < 9223372036854775808) : ∃ w', (Instr.mapUpdate 57 (.map (some b)) (.int .i64 (k : Int)) (.bool true)).run Try.prog w = .ok () w' ∧ InAt w' b (k :: l) ∧ w.grownBy w' (some b) := by
  obtain ⟨n, hnn, hown⟩ := h
  obtain ⟨w', h1, h2, h3⟩ := World.ownsMap.update hown kIntE Try.underlying57 (by unfold maxLen; omega) (keyIntE k hk) (plainElem_bool Try.underlying4 true)
  exact ⟨w', h1, ⟨n + 1, by simp; omega, h2⟩, h3⟩
/-- A list of numbers that may begin anywhere in its block. -/
def QuAt (w : World) (g : Nat) (T : List Nat) (v : Value) : Prop := ∃ o cap, v = .slice (some ⟨g, o, none⟩) T.length cap ∧ T.length ≤ cap ∧ g < w.heap.size ∧ (∀ j x : Nat, T[j]? = some x → w.cell? ⟨g, o + j, none⟩ = some (.int .i64 (x : Int))) ∧ ∀ j : Nat, T.length ≤ j → j < cap → (w.cell? ⟨g, o + j, none⟩).isSome = true ∧ w.frozen? ⟨g, o + j, none⟩ = false
theorem QuAt.kept {w w' : World} {g : Nat} {T : List Nat} {v : Value} (h : QuAt w g T v) (hs : w.heap.size ≤ w'.heap.size) (hg : w'.heap[g]? = w.heap[g]?) : QuAt w' g T v := by
  obtain ⟨o, cap, e, h1, h2, h3, h4⟩ := h
  refine ⟨o, cap, e, h1, Nat.lt_of_lt_of_le h2 hs, fun j x hj => (World.cell?_of_block (a := ⟨g, o + j, none⟩) hg).trans (h3 j x hj), fun j hj hc => ?_⟩
  obtain ⟨h5, h6⟩ := h4 j hj hc
  exact ⟨by rw [World.cell?_of_block (a := ⟨g, o + j, none⟩) hg]; exact h5, (World.frozen?_of_block (a := ⟨g, o + j, none⟩) hg).trans h6⟩
theorem qu_push {w : World} {g : Nat} {T : List Nat} {v : Value} (h : QuAt w g T v) (hn : T.length + 1 ≤ 1099511627776) (x : Nat) (ad : Addr) (c : Nat) (hx : w.cell? ad = some (.int .i64 (x : Int))) (had : ad.spot = none) :
    ∃ v' w' g', (Builtin.append_ #[46, 46] 46 #[v, .slice (some ad) 1 c]).run Try.prog w = .ok v' w' ∧ QuAt w' g' (T ++ [x]) v' ∧ (g' = g ∨ w.heap.size ≤ g') ∧ G2 g g w w' := by
  obtain ⟨i0, hi0, hz0, hz1, hz2⟩ := info_parts Try.infoInt
  obtain ⟨o, cap, rfl, h1, h2, h3, h4⟩ := h
  have hnews : ∀ j u, [Value.int .i64 (x : Int)][j]? = some u → w.cell? (ad.add j) = some u := by
    intro j u hj
    cases j with
    | zero =>
      have e : ad.add 0 = ad := by cases ad with | mk b o s => cases had; rfl
      rw [e, hx]
      simpa using hj
    | succ j => simp at hj
  by_cases hr : T.length + 1 ≤ cap
  · obtain ⟨hs, hf⟩ := h4 T.length (Nat.le_refl _) (by omega)
    have hrun := run_append_room_cells (P := Try.prog) w 46 46 3 i0 Try.underlying46 hi0 g o T.length cap ad 1 c [.int .i64 (x : Int)] (by rw [hz1]; rfl) hnews (by simp [Value.oneCell']) hr
      (fun j hj => by rw [show j = 0 by simpa using hj, hz1, Nat.mul_one, Nat.add_zero]; exact hs)
      (fun j hj => by rw [show j = 0 by simpa using hj, hz1, Nat.mul_one, Nat.add_zero]; exact hf)
    rw [hz1, Nat.mul_one] at hrun
    have hset : w.setCells g (o + T.length) [.int .i64 (x : Int)] = w.setCell ⟨g, o + T.length, none⟩ (.int .i64 (x : Int)) := rfl
    rw [hset] at hrun
    have hother : ∀ p, p ≠ o + T.length → (w.setCell ⟨g, o + T.length, none⟩ (.int .i64 (x : Int))).cell? ⟨g, p, none⟩ = w.cell? ⟨g, p, none⟩ := fun p hp => by
      have := World.cell?_setCells_out g [.int .i64 (x : Int)] (o + T.length) w ⟨g, p, none⟩ (fun _ _ => by show p < o + T.length ∨ o + T.length + 1 ≤ p; omega)
      exact this
    have hin : (w.setCell ⟨g, o + T.length, none⟩ (.int .i64 (x : Int))).cell? ⟨g, o + T.length, none⟩ = some (.int .i64 (x : Int)) := by
      have := World.cell?_setCells_in g [.int .i64 (x : Int)] (o + T.length) w (fun j hj => by rw [show j = 0 by simpa using hj]; exact hs) 0 (by simp)
      rw [Nat.add_zero] at this
      exact this
    have hfr : ∀ p, (w.setCell ⟨g, o + T.length, none⟩ (.int .i64 (x : Int))).frozen? ⟨g, p, none⟩ = w.frozen? ⟨g, p, none⟩ := fun p => World.frozen?_setCells g [.int .i64 (x : Int)] (o + T.length) w ⟨g, p, none⟩
    refine ⟨_, _, g, hrun, ⟨o, cap, by simp, by simp; omega, by simpa using h2, fun j y hj => ?_, fun j hj hc => ?_⟩, .inl rfl, ⟨rfl, rfl, rfl, by simp, fun k _ hk _ => Below.heap_setCell w _ _ k hk⟩⟩
    · by_cases hjl : j < T.length
      · rw [List.getElem?_append_left hjl] at hj
        rw [hother _ (by omega)]
        exact h3 j y hj
      · have hjl2 : j = T.length := by have := (List.getElem?_eq_some_iff.1 hj).1; simp at this; omega
        subst hjl2
        rw [List.getElem?_append_right (Nat.le_refl _)] at hj
        have : x = y := by simpa using hj
        rw [← this]
        exact hin
    · simp at hj
      rw [hother _ (by omega), hfr]
      exact h4 j (by omega) hc
  · obtain ⟨v', w', hrun, hown, hgr⟩ := run_append_arg_grows (P := Try.prog) w 46 46 3 i0 _ 1 8 Try.underlying46 hi0 hz0 hz1 hz2 rfl (by decide) ⟨g, o, none⟩ T.length cap (intC T) (by unfold intC; simp) (fun j u hj => by
        unfold intC at hj
        rw [List.getElem?_map] at hj
        obtain ⟨y, hy, rfl⟩ := Option.map_eq_some_iff.1 hj
        have e : (⟨g, o, none⟩ : Addr).add j = ⟨g, o + j, none⟩ := by simp only [Addr.add]; split <;> simp_all
        rw [e]
        exact h3 j y hy) ad 1 c [.int .i64 (x : Int)] rfl hnews (by omega) (by unfold maxLen; omega) (by omega)
    have hc := fun g hg => hown.cells (g := g) hg
    obtain ⟨_, ⟨_, h0⟩ | ⟨g', cap', cur, rfl, hb', hg', hcap', _, hcs, _⟩⟩ := hown
    · omega
    · have e : ∀ i, (⟨g', 0, none⟩ : Addr).add i = ⟨g', i, none⟩ := by intro i; simp only [Addr.add, Nat.zero_add]; split <;> simp_all
      refine ⟨_, _, g', hrun, ⟨0, cap', by simp, by simpa using hcap', (Array.getElem?_eq_some_iff.1 hg').1, fun j y hj => ?_, fun j hj hlt => ?_⟩, .inr hb', ⟨hgr.os, hgr.tape, hgr.output, hgr.size, fun k hk _ _ => hgr.block k hk (by simp)⟩⟩
      · have h5 := hc g' rfl j (.int .i64 (y : Int)) (by
          have e2 : intC T ++ [.int .i64 (x : Int)] = intC (T ++ [x]) := by unfold intC; simp
          rw [e2]
          unfold intC
          rw [List.getElem?_map, hj]; rfl)
        rw [e] at h5
        rw [Nat.zero_add]
        exact h5
      · rw [Nat.zero_add]
        refine ⟨?_, by simp [World.frozen?, hg']⟩
        rw [cell_of_row _ _ j _ _ _ hg']
        rw [Array.getElem?_eq_getElem (by rw [hcs]; omega)]
        rfl
theorem QuAt.head {w : World} {g x : Nat} {T : List Nat} {v : Value} (h : QuAt w g (x :: T) v) : ∃ o cap, v = .slice (some ⟨g, o, none⟩) (T.length + 1) cap ∧ T.length + 1 ≤ cap ∧ w.cell? ⟨g, o, none⟩ = some (.int .i64 (x : Int)) ∧ QuAt w g T (.slice (some ⟨g, o + 1, none⟩) T.length (cap - 1)) := by
  obtain ⟨o, cap, e, h1, h2, h3, h4⟩ := h
  simp only [List.length_cons] at e h1 h4
  refine ⟨o, cap, e, h1, by have := h3 0 x rfl; rwa [Nat.add_zero] at this, o + 1, cap - 1, rfl, by omega, h2, fun j y hj => ?_, fun j hj hc => ?_⟩
  · have := h3 (j + 1) y (by simpa using hj)
    rwa [show o + (j + 1) = o + 1 + j by omega] at this
  · have := h4 (j + 1) (by omega) (by omega)
    rwa [show o + (j + 1) = o + 1 + j by omega] at this
theorem QuAt.bare {w : World} {g o : Nat} {T : List Nat} {v : Value} (h : QuAt w g T v) (h0 : T.length = 0) : QuAt w g T (.slice (some ⟨g, o, none⟩) T.length 0) := by
  obtain ⟨_, _, _, _, h2, _, _⟩ := h
  exact ⟨o, 0, rfl, by omega, h2, fun j x hj => by have := (List.getElem?_eq_some_iff.1 hj).1; omega, fun j _ hj => by omega⟩
theorem qu_one {w : World} {i : Nat} : QuAt (w.alloc (.cells #[.int .i64 (i : Int)] 3)) w.heap.size [i] (.slice (some ⟨w.heap.size, 0, none⟩) 1 1) := by
  have h := heap_alloc_new w (.cells #[.int .i64 (i : Int)] 3)
  refine ⟨0, 1, rfl, Nat.le_refl _, by simp, fun j x hj => ?_, fun j hj hc => by simp at hj; omega⟩
  have hj0 : j = 0 := by have := (List.getElem?_eq_some_iff.1 hj).1; simpa using this
  subst hj0
  have hx : i = x := by simpa using hj
  rw [← hx]
  exact cell_of_row _ _ 0 _ _ _ h
end Go.Proofs.Ytjpmnholpeidmaa

namespace Go.Proofs.Ytjpmnholpeidmaa
open Go.RowKit
set_option linter.unusedVariables false
/-- Items that are no functions. -/
def nkF (l : List (Int × It)) (j : Nat) : Prop := ∀ e, l[j]? = some e → e.2.k ≠ 2
/-- To which items one of these names leads. -/
def edS (l : List (Int × It)) (ns : List BL) : List Nat := ns.flatMap fun s => if 0 ≤ fnd l 2 (bA s) then [(fnd l 2 (bA s)).toNat] else []
theorem edS_snoc (l : List (Int × It)) {ns : List BL} {j : Nat} {s : BL} (h : ns[j]? = some s) : edS l (ns.take (j + 1)) = edS l (ns.take j) ++ (if 0 ≤ fnd l 2 (bA s) then [(fnd l 2 (bA s)).toNat] else []) := by
  unfold edS
  rw [List.take_add_one, h, List.flatMap_append]
  simp
theorem edS_len (l : List (Int × It)) (ns : List BL) : (edS l ns).length ≤ ns.length := by
  unfold edS
  induction ns with
  | nil => exact Nat.le_refl _
  | cons a r ih =>
    rw [List.flatMap_cons, List.length_append, List.length_cons]
    split
    · rw [List.length_singleton]; omega
    · rw [List.length_nil]; omega
theorem edS_mem (l : List (Int × It)) (ns : List BL) (j : Nat) : j ∈ edS l ns ↔ ∃ s, s ∈ ns ∧ fnd l 2 (bA s) = (j : Int) := by
  unfold edS
  rw [List.mem_flatMap]
  constructor
  · rintro ⟨s, hs, hj⟩
    split at hj
    · rw [List.mem_singleton] at hj
      exact ⟨s, hs, by omega⟩
    · cases hj
  · rintro ⟨s, hs, hj⟩
    refine ⟨s, hs, ?_⟩
    rw [if_pos (by omega), List.mem_singleton, hj]
    rfl
/-- How many items are left. -/
def unH (l : List (Int × It)) (H : List Nat) : Nat := (List.range l.length).countP fun k => !decide (k ∈ H)
theorem un_less {R : List Nat} {H : List Nat} {k : Nat} (hk : k ∈ R) (hH : k ∉ H) : R.countP (fun j => !decide (j ∈ k :: H)) + 1 ≤ R.countP (fun j => !decide (j ∈ H)) := by
  induction R with
  | nil => cases hk
  | cons a r ih =>
    have hle : ∀ R : List Nat, R.countP (fun j => !decide (j ∈ k :: H)) ≤ R.countP (fun j => !decide (j ∈ H)) := fun R => List.countP_mono_left fun x _ hx => by
      simp at hx ⊢
      exact hx.2
    rw [List.countP_cons, List.countP_cons]
    by_cases ha : a = k
    · subst ha
      have := hle r
      rw [if_neg (by simp), if_pos (by simpa using hH)]
      omega
    · have hk2 : k ∈ r := by
        rcases List.mem_cons.1 hk with h | h
        · exact absurd h.symm ha
        · exact h
      have := ih hk2
      have e : (!decide (a ∈ k :: H)) = !decide (a ∈ H) := by
        congr 1
        exact decide_eq_decide.2 ⟨fun h => by rcases List.mem_cons.1 h with h | h; exact absurd h ha; exact h, fun h => List.mem_cons_of_mem _ h⟩
      rw [e]
      omega
theorem unH_less {l : List (Int × It)} {H : List Nat} {k : Nat} (hk : k < l.length) (hH : k ∉ H) : unH l (k :: H) + 1 ≤ unH l H := un_less (List.mem_range.2 hk) hH
theorem unH_nil (l : List (Int × It)) : unH l [] ≤ l.length := by
  unfold unH
  have := List.countP_le_length (p := fun k => !decide (k ∈ ([] : List Nat))) (l := List.range l.length)
  rwa [List.length_range] at this
/-- Where the walk over functions stands. -/
structure Bfs (l : List (Int × It)) (i : Nat) (H T : List Nat) (S : List BL) : Prop where
  hr : ∀ k ∈ H, Rch l i k ∧ k < l.length
  tr : ∀ k ∈ T, Rch l i k ∧ k < l.length
  sm : ∀ s, s ∈ S ↔ ∃ k e, k ∈ H ∧ l[k]? = some e ∧ s ∈ snI e.2
  cl : ∀ k ∈ H, ∀ j, Edg l k j → j ∈ H ∨ j ∈ T ∨ nkF l j
  ini : i ∈ H ∨ i ∈ T ∨ nkF l i
section
variable {l : List (Int × It)} {i k : Nat} {H T : List Nat} {S : List BL}
theorem Bfs.start (hi : i < l.length) : Bfs l i [] [i] [] :=
  ⟨fun _ h => (by cases h), fun k h => (by rw [List.mem_singleton.1 h]; exact ⟨Rch.refl l i, hi⟩), fun s => ⟨fun h => by (cases h), fun ⟨_, _, h, _⟩ => by (cases h)⟩, fun _ h => (by cases h), .inr (.inl (List.mem_singleton.2 rfl))⟩
theorem Bfs.skip (h : Bfs l i H (k :: T) S) (hk : k ∈ H ∨ nkF l k) : Bfs l i H T S := by
  have hmv : ∀ j, j ∈ H ∨ j ∈ k :: T ∨ nkF l j → j ∈ H ∨ j ∈ T ∨ nkF l j := by
    rintro j (h1 | h1 | h1)
    · exact .inl h1
    · rcases List.mem_cons.1 h1 with h2 | h2
      · subst h2
        rcases hk with h3 | h3
        · exact .inl h3
        · exact .inr (.inr h3)
      · exact .inr (.inl h2)
    · exact .inr (.inr h1)
  exact ⟨h.hr, fun j hj => h.tr j (List.mem_cons_of_mem _ hj), h.sm, fun q hq j hj => hmv j (h.cl q hq j hj), hmv i h.ini⟩
theorem rch_end {i j k : Nat} (h : Rch l i j) (h2 : Edg l j k) : Rch l i k := by
  obtain ⟨n, h⟩ := h
  induction n generalizing i with
  | zero => cases h; exact Rch.step l h2 (Rch.refl l k)
  | succ n ih =>
    obtain ⟨q, h3, h4⟩ := h
    exact Rch.step l h3 (ih h4)
theorem Bfs.visit (h : Bfs l i H (k :: T) S) {e : Int × It} (he : l[k]? = some e) : Bfs l i (k :: H) (T ++ edS l (caI e.2)) ((snI e.2).reverse ++ S) := by
  obtain ⟨hk1, hk2⟩ := h.tr k List.mem_cons_self
  have hed : ∀ j, j ∈ edS l (caI e.2) ↔ Edg l k j := fun j => by
    rw [edS_mem]
    constructor
    · rintro ⟨s, hs, hj⟩
      exact ⟨e, s, he, hs, hj, by have := fnd_lt l (bA s); omega⟩
    · rintro ⟨e', s, he', hs, hj, _⟩
      rw [he] at he'
      injection he' with he'
      subst he'
      exact ⟨s, hs, hj⟩
  have hmv : ∀ j, j ∈ H ∨ j ∈ k :: T ∨ nkF l j → j ∈ k :: H ∨ j ∈ T ++ edS l (caI e.2) ∨ nkF l j := by
    rintro j (h1 | h1 | h1)
    · exact .inl (List.mem_cons_of_mem _ h1)
    · rcases List.mem_cons.1 h1 with h2 | h2
      · rw [h2]; exact .inl List.mem_cons_self
      · exact .inr (.inl (List.mem_append.2 (.inl h2)))
    · exact .inr (.inr h1)
  refine ⟨fun j hj => ?_, fun j hj => ?_, fun s => ?_, fun q hq j hj => ?_, hmv i h.ini⟩
  · rcases List.mem_cons.1 hj with h1 | h1
    · rw [h1]; exact ⟨hk1, hk2⟩
    · exact h.hr j h1
  · rcases List.mem_append.1 hj with h1 | h1
    · exact h.tr j (List.mem_cons_of_mem _ h1)
    · have h2 := (hed j).1 h1
      exact ⟨rch_end hk1 h2, by obtain ⟨_, _, _, _, _, h5⟩ := h2; exact h5⟩
  · rw [List.mem_append, List.mem_reverse, h.sm s]
    constructor
    · rintro (h1 | ⟨q, e', h1, h2, h3⟩)
      · exact ⟨k, e, List.mem_cons_self, he, h1⟩
      · exact ⟨q, e', List.mem_cons_of_mem _ h1, h2, h3⟩
    · rintro ⟨q, e', h1, h2, h3⟩
      rcases List.mem_cons.1 h1 with h4 | h4
      · subst h4
        rw [he] at h2
        injection h2 with h2
        subst h2
        exact .inl h3
      · exact .inr ⟨q, e', h4, h2, h3⟩
  · rcases List.mem_cons.1 hq with h1 | h1
    · subst h1
      exact .inr (.inl (List.mem_append.2 (.inr ((hed j).2 hj))))
    · exact hmv j (h.cl q h1 j hj)
theorem nkF_es {j : Nat} {e : Int × It} (h : nkF l j) (he : l[j]? = some e) : snI e.2 = [] ∧ caI e.2 = [] := by
  have h0 : esI e.2 = [] := by unfold esI; rw [if_neg (h e he)]
  constructor
  · unfold snI; rw [h0]; exact risB_nil
  · unfold caI; rw [h0]; exact risB_nil
/-- At the end: just the names that are reached. -/
theorem Bfs.done (h : Bfs l i H [] S) (hi : i < l.length) {R : List BL} (hR : Inc R) (hm : ∀ s : BL, s ∈ R ↔ s ∈ S) : R = reaL l (i : Int) := by
  have hP : ∀ j, j ∈ H ∨ j ∈ ([] : List Nat) ∨ nkF l j → j ∈ H ∨ nkF l j := by
    rintro j (h1 | h1 | h1)
    · exact .inl h1
    · cases h1
    · exact .inr h1
  have hcl : ∀ n k, (k ∈ H ∨ nkF l k) → ∀ j, RchN l n k j → j ∈ H ∨ nkF l j := by
    intro n
    induction n with
    | zero => intro k hk j hj; cases hj; exact hk
    | succ n ih =>
      intro k hk j hj
      obtain ⟨q, h1, h2⟩ := hj
      refine ih q ?_ j h2
      rcases hk with hk | hk
      · exact hP q (h.cl k hk q h1)
      · obtain ⟨e, s, h3, h4, _⟩ := h1
        rw [(nkF_es hk h3).2] at h4
        cases h4
  refine Inc.ext hR (rea_inc l _).1 (fun s => ?_)
  rw [hm, (rea_inc l _).2, dfs_names l i hi, h.sm]
  constructor
  · rintro ⟨k, e, h1, h2, h3⟩
    exact ⟨⟨k, e, (h.hr k h1).1, h2, h3⟩, snI_ne h3⟩
  · rintro ⟨⟨j, e, ⟨n, h1⟩, h2, h3⟩, _⟩
    rcases hcl n i (hP i h.ini) j h1 with h4 | h4
    · exact ⟨j, e, h4, h2, h3⟩
    · rw [(nkF_es h4 h2).1] at h3
      cases h3
end
end Go.Proofs.Ytjpmnholpeidmaa

namespace Go.Proofs.Ytjpmnholpeidmaa
open Go.RowKit
set_option linter.unusedVariables false
theorem zY_len (L : List Tok) (n : Nat) : ∀ (c : Nat) (s : Tr), zS L n c s → (esY s).length ≤ c := by
  induction n with
  | zero => intro c s h; exact h.elim
  | succ n ih =>
    intro c s h
    obtain ⟨k, x, a, lb, o, e, th, el, f, t, ce, ct, cl, rfl, _, _, _, ⟨m, hz⟩, hth, hel, hn, _⟩ := h
    have hx := zE_len L m ce e hz
    have hB : (esB th).length ≤ ct := cnt_es ih th ct hth
    have hC : (esB el).length ≤ cl := cnt_es ih el cl hel
    have hn2 : ce + ct + cl ≤ c ∧ (k = 5 → ce + ct + cl + 1 ≤ c) := by
      rcases hn with ⟨_, h⟩ | ⟨_, h⟩
      · refine ⟨by omega, fun h5 => ?_⟩
        have := s5v
        rw [h5] at h
        omega
      · exact ⟨by omega, fun _ => h⟩
    rw [esY_mk]
    split
    · omega
    · split
      · have := hn2.2 (by omega); rw [List.length_append, List.length_singleton]; omega
      · split
        · rw [List.length_append, List.length_append]; omega
        · split
          · rw [List.length_append]; omega
          · exact Nat.zero_le _
theorem txI_le (t : ByteArray) (i : Nat) : (txI t i).size ≤ t.size := by
  have := cn_le t (i + 1)
  unfold txI
  rw [ext_size' _ _ _ (cn_le t (i + 1))]
  omega
theorem ItF.es {t : ByteArray} {i : Nat} {it : It} (h : ItF t i it) (ht : t.size ≤ 4000) : (esI it).length ≤ 4000 := by
  obtain ⟨m, hw⟩ := h.1.wf
  have h1 : (esB it.bd).length ≤ (tks (txI t i)).length := cnt_es (fun c s hs => zY_len _ m c s hs) _ _ hw
  have h2 := tks_len (txI t i)
  have h3 : (txI t i).size ≤ t.size := by have := cn_le t (i + 1); unfold txI; rw [ext_size' _ _ _ (cn_le t (i + 1))]; omega
  unfold esI
  split
  · omega
  · exact Nat.zero_le _
theorem risB_len (ss : List BL) : (risB ss).length ≤ ss.length := risB_le ss
theorem ItF.ca {t : ByteArray} {i : Nat} {it : It} (h : ItF t i it) (ht : t.size ≤ 4000) : (caI it).length ≤ 4000 ∧ (snI it).length ≤ 4000 := by
  have h1 := h.es ht
  exact ⟨Nat.le_trans (caI_len it) h1, Nat.le_trans (snI_len it) h1⟩
/-- Names are tokens: they are as short as the text. -/
theorem esX_sz {L : List Tok} {sz : Nat} (h : ∀ t ∈ L, t.a + t.x.size ≤ sz) (n : Nat) : ∀ (c : Nat) (e : Tr), zE L n c e → ∀ v ∈ esX e, v.x.size ≤ sz := by
  induction n with
  | zero => intro c e h; exact h.elim
  | succ n ih =>
    intro c e hz v hv
    obtain ⟨k, x, m, al, f, t, rfl, _, _, hz⟩ := hz
    have hall : ∀ c', wfL (zE L n) c' al → ∀ v ∈ al.flatMap esX, v.x.size ≤ sz := fun c' hw v hv => by
      obtain ⟨a, ha, hv⟩ := List.mem_flatMap.1 hv
      obtain ⟨j, hj⟩ := List.getElem?_of_mem ha
      obtain ⟨c2, _, hz⟩ := wfL_nth al c' j a hw hj
      exact ih c2 a hz v hv
    rw [esX_mk] at hv
    rcases hz with ⟨h1, _, h2⟩ | ⟨h1, _, h2, _⟩ | ⟨h1, _, _, h3⟩ | ⟨h1, ht, c', _, h4⟩
    · rw [if_neg (by omega), if_neg (by omega)] at hv; cases hv
    · rw [if_neg (by omega), if_neg (by omega)] at hv; cases hv
    · rw [if_pos h1] at hv; exact hall _ h3 v hv
    · rw [if_neg (by omega), if_pos h1] at hv
      rcases List.mem_cons.1 hv with h5 | h5
      · rw [h5]; exact tkn_sizeQ h ht
      · exact hall _ h4 v h5
theorem esY_sz {L : List Tok} {sz : Nat} (hL : ∀ t ∈ L, t.a + t.x.size ≤ sz) (n : Nat) : ∀ (c : Nat) (s : Tr), zS L n c s → ∀ v ∈ esY s, v.x.size ≤ sz := by
  induction n with
  | zero => intro c s h; exact h.elim
  | succ n ih =>
    intro c s h v hv
    obtain ⟨k, x, a, lb, o, e, th, el, f, t, ce, ct, cl, rfl, _, _, _, ⟨m, hz⟩, hth, hel, hn, _⟩ := h
    have hX : v ∈ esX e → v.x.size ≤ sz := fun h => esX_sz hL m ce e hz v h
    have hall : ∀ l c', wfL (zS L n) c' l → v ∈ esB l → v.x.size ≤ sz := fun l c' hw hv => by
      obtain ⟨a, ha, hv⟩ := List.mem_flatMap.1 hv
      obtain ⟨j, hj⟩ := List.getElem?_of_mem ha
      obtain ⟨c2, _, hz⟩ := wfL_nth l c' j a hw hj
      exact ih c2 a hz v hv
    have hxs : x.size ≤ sz := by
      rcases hn with ⟨h, _⟩ | ⟨h, _⟩
      · rw [h]; exact Nat.zero_le _
      · exact tkn_sizeQ hL h
    rw [esY_mk] at hv
    split at hv
    · exact hX hv
    · split at hv
      · rcases List.mem_append.1 hv with h | h
        · exact hX h
        · rw [List.mem_singleton.1 h]; exact hxs
      · split at hv
        · rcases List.mem_append.1 hv with h | h
          · rcases List.mem_append.1 h with h | h
            · exact hX h
            · exact hall _ _ hth h
          · exact hall _ _ hel h
        · split at hv
          · rcases List.mem_append.1 hv with h | h
            · exact hX h
            · exact hall _ _ hth h
          · cases hv
theorem ItF.sz {t : ByteArray} {i : Nat} {it : It} (h : ItF t i it) (ht : t.size ≤ 4000) : (∀ s ∈ snI it, (bA s).size ≤ 4000) ∧ ∀ s ∈ caI it, (bA s).size ≤ 4000 := by
  obtain ⟨m, hw⟩ := h.1.wf
  have hL : ∀ v ∈ esI it, v.x.size ≤ 4000 := fun v hv => by
    unfold esI at hv
    split at hv
    · obtain ⟨a, ha, hv⟩ := List.mem_flatMap.1 hv
      obtain ⟨j, hj⟩ := List.getElem?_of_mem ha
      obtain ⟨c2, _, hz⟩ := wfL_nth _ _ j a hw hj
      have h1 := esY_sz (fun tk hk => (tks_facts _ tk hk).1) m c2 a hz v hv
      have h2 := txI_le t i
      omega
    · cases hv
  have hb : ∀ l : List ByteArray, (∀ x ∈ l, x.size ≤ 4000) → ∀ s ∈ risB (bsL l), (bA s).size ≤ 4000 := fun l hl s hs => by
    obtain ⟨x, hx, rfl⟩ := List.mem_map.1 (((risB_inc _).2 s).1 hs).1
    rw [bA_of]
    exact hl x hx
  refine ⟨hb _ (fun x hx => ?_), hb _ (fun x hx => ?_)⟩
  · obtain ⟨v, hv, rfl⟩ := List.mem_map.1 hx
    exact hL v (List.mem_filter.1 hv).1
  · obtain ⟨v, hv, rfl⟩ := List.mem_map.1 hx
    exact hL v (List.mem_filter.1 hv).1
end Go.Proofs.Ytjpmnholpeidmaa


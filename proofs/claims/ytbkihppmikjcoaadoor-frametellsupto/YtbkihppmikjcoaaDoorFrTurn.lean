/- What is written is read. -/
import Derived.Test.YtbkihppmikjcoaaDoorFrJoin
namespace Go.Proofs.YtbkihppmikjcoaaDoor
open Go.RowKit
set_option linter.unusedVariables false
attribute [local go_sem ↓] Go.wp_at_zero Go.wp_at_succ
/-- Bytes as a text, whatever they are. -/
theorem conv_in {w : World} {v : Value} {l : List UInt8} (h : BytIn w v l) : (convert 23 9 v).run Tryd.prog w = .ok (.string (ba l)) w := by
  obtain ⟨p, c, rfl, _, hz, hh⟩ := h
  by_cases hl : l = []
  · subst hl
    cases p with
    | none => exact run_convert_bytes_nil w 23 5 Tryd.underlying23 Tryd.underlying5 _ _ 9 Tryd.underlying9
    | some ad =>
      have hld : (loadCells ad 0).run Tryd.prog w = .ok (([] : List Int).map (Value.int .u8)).toArray w := run_loadCells_list (P := Tryd.prog) w ad [] (fun j v hj => by simp at hj)
      show (convert 23 9 (.slice (some ad) 0 c)).run Tryd.prog w = _
      rw [run_convert_bytes_string w 23 9 5 _ 0 c Tryd.underlying23 Tryd.underlying5 Tryd.underlying9, run_bytesToString w _ 0 c [] hld]
      rfl
  · obtain ⟨g, o, rfl, _, hb⟩ := hh (List.length_pos_iff.2 hl)
    exact conv_byt w g o c l.length l rfl hb
/-- Bytes are not where a fault is. -/
theorem BytIn.fault {w : World} {v : Value} {l : List UInt8} (h : BytIn w v l) {n : Nat} {e k : Int} (hn : w.heap[n]? = some (.cells #[.int .i64 e, .int .i64 k] 30 (0, 0))) (e2 k2 : Int) :
    BytIn ((w.setCell ⟨n, 0, none⟩ (.int .i64 e2)).setCell ⟨n, 1, none⟩ (.int .i64 k2)) v l := by
  obtain ⟨p, c, rfl, h1, hz, hh⟩ := h
  refine ⟨p, c, rfl, h1, hz, fun hl => ?_⟩
  obtain ⟨g, o, rfl, hg, hb⟩ := hh hl
  refine ⟨g, o, rfl, by simpa using hg, hb.kept ?_⟩
  have hne : g ≠ n := by
    intro e3
    subst e3
    obtain ⟨b, hb0⟩ : ∃ b, l[0]? = some b := ⟨_, List.getElem?_eq_getElem hl⟩
    have := hb 0 b hb0
    rw [Nat.add_zero, cell_of_row _ _ o _ _ _ hn] at this
    match o, this with
    | 0, this => simp at this
    | 1, this => simp at this
    | o + 2, this => simp at this
  exact (Below.heap_setCell _ _ _ g hne).trans (Below.heap_setCell _ _ _ g hne)
set_option maxHeartbeats 2000000 in
set_option maxRecDepth 100000 in
theorem turns_any (w : World) (hL : Lw w) (vl vb : Value) (l : List Ak) (B : List UInt8) (hl : AksIn w vl l) (hb : BytIn w vb B) (hok : ∀ a ∈ l, a.ok) (ll : l.length ≤ 2000000) (lb : B.length ≤ 2000000) :
    Calls Tryd.prog 4 #[vl, vb] w fun ex w' => ex = .returned (.bool true) ∧ Below w.heap.size w w' := by
  have HLi := hid hl
  have HB := hid hb
  have h3 := hL.low
  have HAl := hid (alive_any w hL)
  have F1 : Hid (1 = 1) := rfl
  have F2 : Hid (1 = 1) := rfl
  have F3 : Hid (1 = 1) := rfl
  have F4 : Hid (1 = 1) := rfl
  have hvb : ∃ p c, vb = .slice p B.length c := by obtain ⟨p, c, e, _⟩ := hb; exact ⟨p, c, e⟩
  obtain ⟨pb, cb, rfl⟩ := hvb
  clear hl hb
  cases hfb : fb l with
  | inr ek =>
    obtain ⟨e1, k1⟩ := ek
    have hne := fb_ne hfb
    have hneb : (e1 == 0) = false := by simpa using hne
    have HFB := hid hfb
    clear hfb
    cases hpb : pr B with
    | inr ek =>
      obtain ⟨e2, k2⟩ := ek
      have hne2 := (pr_at hpb).2
      have hk2 := (pr_at hpb).1
      have hneb2 : (e2 != 0) = true := by simpa using hne2
      have HPB := hid hpb
      have gk : (0 : Int) ≤ (k2 : Int) := by omega
      have gk1 : (k2 : Int) < (B.length : Int) := by omega
      clear hpb
      go_enter Tryd.func4, Tryd.ntmps4
      go_wp2_with (first
        | (go_at_call 13; refine Calls.mono HAl.out ?_; rintro ex w1 ⟨rfl, hb1⟩; have HB1 := hid hb1; clear hb1)
        | (go_at_call 8; have ff := F1; clear ff F1; refine Calls.mono (bytes_any _ (by exact hL.below h3 HB1.out) vl l (by exact HLi.out.below HB1.out) hok (by omega)) ?_; rintro ex w2 ⟨r1, e, k, rfl, hb2, hP⟩; rw [HFB.out] at hP; obtain ⟨rfl, he, hk⟩ := hP; rw [he, hk]; clear he hk; unfold faV; have HB2 := hid ((HB1.out.trans (hb2.mono HB1.out.size)).alloc (Nat.le_trans HB1.out.size hb2.size) (faO e1 k1)); clear hb2)
        | (go_at_call 10; have ff := F2; clear ff F2; refine Calls.mono (parse_any _ (by exact hL.below h3 HB2.out) _ B (by exact HB.out.below HB2.out) (by omega)) ?_; rintro ex w5 ⟨r3, e, k, rfl, hb5, hP3⟩; rw [HPB.out] at hP3; obtain ⟨rfl, he, hk⟩ := hP3; rw [he, hk]; clear he hk; unfold faV; have HB3 := hid ((HB2.out.trans (hb5.mono HB2.out.size)).alloc (Nat.le_trans HB2.out.size hb5.size) (faO e2 k2)); clear hb5))
      go_ret
      exact ⟨ret_bool (by simp), HB3.out⟩
    | inl m =>
      have HPB := hid hpb
      have HMO := hid (fun a ha => ((pr_bytes hpb).2 a ha).2)
      have HFM : Hid (fb m = .inl B) := by
        show _ = _
        rw [fb_ok (fun a ha => ((pr_bytes hpb).2 a ha).1), (pr_bytes hpb).1]
      have hml := pr_len hpb
      clear hpb
      go_enter Tryd.func4, Tryd.ntmps4
      go_wp2_with (first
        | (go_at_call 13; refine Calls.mono HAl.out ?_; rintro ex w1 ⟨rfl, hb1⟩; have HB1 := hid hb1; clear hb1)
        | (go_at_call 8; have ff := F1; clear ff F1; refine Calls.mono (bytes_any _ (by exact hL.below h3 HB1.out) vl l (by exact HLi.out.below HB1.out) hok (by omega)) ?_; rintro ex w2 ⟨r1, e, k, rfl, hb2, hP⟩; rw [HFB.out] at hP; obtain ⟨rfl, he, hk⟩ := hP; rw [he, hk]; clear he hk; unfold faV; have HB2 := hid ((HB1.out.trans (hb2.mono HB1.out.size)).alloc (Nat.le_trans HB1.out.size hb2.size) (faO e1 k1)); clear hb2)
        | (go_at_call 10; have ff := F2; clear ff F2; refine Calls.mono (parse_any _ (by exact hL.below h3 HB2.out) _ B (by exact HB.out.below HB2.out) (by omega)) ?_; rintro ex w5 ⟨r3, e, k, rfl, hb5, hP3⟩; rw [HPB.out] at hP3; obtain ⟨he, hk, hin⟩ := hP3; rw [he, hk]; clear he hk; unfold faV; have HI3 := hid (hin.below ((Below.refl w5.heap.size w5).alloc (Nat.le_refl _) (faO 0 0))); have HB3 := hid ((HB2.out.trans (hb5.mono HB2.out.size)).alloc (Nat.le_trans HB2.out.size hb5.size) (faO 0 0)); have HN5 := hid (heap_alloc_new w5 (faO 0 0)); have HS5 := hid (Nat.le_trans HB2.out.size hb5.size); clear hb5 hin)
        | (go_at_call 8; have ff := F3; clear ff F3; refine Calls.mono (bytes_any _ (by exact hL.below h3 HB3.out) r3 m (by exact HI3.out) HMO.out (by omega)) ?_; rintro ex w6 ⟨r4, e, k, rfl, hb6, hP4⟩; rw [HFM.out] at hP4; obtain ⟨he, hk, hin⟩ := hP4; rw [he, hk]; clear he hk; unfold faV; have f6 := (hb6.block w5.heap.size (by simp)).trans HN5.out; obtain ⟨f0, f1, ff2⟩ := row2 f6; have hb06 := HB3.out.trans (hb6.mono HB3.out.size); have hcv := conv_in (hin.fault f6 0 0); have hcb := conv_in ((HB.out.below hb06).fault f6 0 0); have HB6 := hid ((hb06.setCell (p := ⟨w5.heap.size, 0, none⟩) HS5.out (.int .i64 0)).setCell (p := ⟨w5.heap.size, 1, none⟩) HS5.out (.int .i64 0)); clear hb6 hin f6 hb06))
      go_ret
      exact ⟨ret_bool (by simp), HB6.out⟩
  | inl X =>
    obtain ⟨hX1, hX2⟩ := fb_inl hfb
    have HFB := hid hfb
    have HPX : Hid (pr X = .inl l) := by
      show _ = _
      rw [hX1]
      exact pr_mk (fun a ha => ⟨hX2 a ha, hok a ha⟩)
    have hX : X.length ≤ 1099511627776 := by
      have := akBs_len (fun a ha => ⟨hX2 a ha, hok a ha⟩ : ∀ a ∈ l, akW a = 0 ∧ a.ok)
      rw [hX1]
      omega
    have HAG := hid (pr_args HPX.out)
    clear hfb hX1 hX2
    cases hpb : pr B with
    | inr ek =>
      obtain ⟨e2, k2⟩ := ek
      have hne2 := (pr_at hpb).2
      have hk2 := (pr_at hpb).1
      have hneb2 : (e2 != 0) = true := by simpa using hne2
      have HPB := hid hpb
      have gk : (0 : Int) ≤ (k2 : Int) := by omega
      have gk1 : (k2 : Int) < (B.length : Int) := by omega
      clear hpb
      go_enter Tryd.func4, Tryd.ntmps4
      go_wp2_with (first
        | (go_at_call 13; refine Calls.mono HAl.out ?_; rintro ex w1 ⟨rfl, hb1⟩; have HB1 := hid hb1; clear hb1)
        | (go_at_call 8; have ff := F1; clear ff F1; refine Calls.mono (bytes_any _ (by exact hL.below h3 HB1.out) vl l (by exact HLi.out.below HB1.out) hok (by omega)) ?_; rintro ex w2 ⟨r1, e, k, rfl, hb2, hP⟩; rw [HFB.out] at hP; obtain ⟨he, hk, hin⟩ := hP; rw [he, hk]; clear he hk; unfold faV; have HI2 := hid (hin.below ((Below.refl w2.heap.size w2).alloc (Nat.le_refl _) (faO 0 0))); have HA2 := hid ((HB1.out.trans (hb2.mono HB1.out.size)).alloc (Nat.le_trans HB1.out.size hb2.size) (faO 0 0)); clear hb2 hin)
        | (go_at_call 10; have ff := F4; clear ff F4; refine Calls.mono (parse_any _ (by exact hL.below h3 HA2.out) _ _ (by exact HI2.out) hX) ?_; rintro ex w3 ⟨r2, e, k, rfl, hb3, hP2⟩; rw [HPX.out] at hP2; obtain ⟨he, hk, hin⟩ := hP2; rw [he, hk]; clear he hk; unfold faV; have hA3 := (HA2.out.trans (hb3.mono HA2.out.size)).alloc (Nat.le_trans HA2.out.size hb3.size) (faO 0 0); have HS := hid (same_any _ r2 vl l l (hin.below ((Below.refl w3.heap.size w3).alloc (Nat.le_refl _) (faO 0 0))) (HLi.out.below hA3) (by omega) HAG.out); have HA3 := hid hA3; clear hb3 hin hA3)
        | (go_at_call 12; refine Calls.mono HS.out ?_; rintro ex w4 ⟨b, rfl, hb4, hiff⟩; obtain rfl : b = true := (by simpa using hiff); have HB2 := hid (HA3.out.trans (hb4.mono HA3.out.size)); clear hb4 hiff)
        | (go_at_call 10; have ff := F2; clear ff F2; refine Calls.mono (parse_any _ (by exact hL.below h3 HB2.out) _ B (by exact HB.out.below HB2.out) (by omega)) ?_; rintro ex w5 ⟨r3, e, k, rfl, hb5, hP3⟩; rw [HPB.out] at hP3; obtain ⟨rfl, he, hk⟩ := hP3; rw [he, hk]; clear he hk; unfold faV; have HB3 := hid ((HB2.out.trans (hb5.mono HB2.out.size)).alloc (Nat.le_trans HB2.out.size hb5.size) (faO e2 k2)); clear hb5))
      go_ret
      exact ⟨ret_bool (by simp), HB3.out⟩
    | inl m =>
      have HPB := hid hpb
      have HMO := hid (fun a ha => ((pr_bytes hpb).2 a ha).2)
      have HFM : Hid (fb m = .inl B) := by
        show _ = _
        rw [fb_ok (fun a ha => ((pr_bytes hpb).2 a ha).1), (pr_bytes hpb).1]
      have hml := pr_len hpb
      clear hpb
      go_enter Tryd.func4, Tryd.ntmps4
      go_wp2_with (first
        | (go_at_call 13; refine Calls.mono HAl.out ?_; rintro ex w1 ⟨rfl, hb1⟩; have HB1 := hid hb1; clear hb1)
        | (go_at_call 8; have ff := F1; clear ff F1; refine Calls.mono (bytes_any _ (by exact hL.below h3 HB1.out) vl l (by exact HLi.out.below HB1.out) hok (by omega)) ?_; rintro ex w2 ⟨r1, e, k, rfl, hb2, hP⟩; rw [HFB.out] at hP; obtain ⟨he, hk, hin⟩ := hP; rw [he, hk]; clear he hk; unfold faV; have HI2 := hid (hin.below ((Below.refl w2.heap.size w2).alloc (Nat.le_refl _) (faO 0 0))); have HA2 := hid ((HB1.out.trans (hb2.mono HB1.out.size)).alloc (Nat.le_trans HB1.out.size hb2.size) (faO 0 0)); clear hb2 hin)
        | (go_at_call 10; have ff := F4; clear ff F4; refine Calls.mono (parse_any _ (by exact hL.below h3 HA2.out) _ _ (by exact HI2.out) hX) ?_; rintro ex w3 ⟨r2, e, k, rfl, hb3, hP2⟩; rw [HPX.out] at hP2; obtain ⟨he, hk, hin⟩ := hP2; rw [he, hk]; clear he hk; unfold faV; have hA3 := (HA2.out.trans (hb3.mono HA2.out.size)).alloc (Nat.le_trans HA2.out.size hb3.size) (faO 0 0); have HS := hid (same_any _ r2 vl l l (hin.below ((Below.refl w3.heap.size w3).alloc (Nat.le_refl _) (faO 0 0))) (HLi.out.below hA3) (by omega) HAG.out); have HA3 := hid hA3; clear hb3 hin hA3)
        | (go_at_call 12; refine Calls.mono HS.out ?_; rintro ex w4 ⟨b, rfl, hb4, hiff⟩; obtain rfl : b = true := (by simpa using hiff); have HB2 := hid (HA3.out.trans (hb4.mono HA3.out.size)); clear hb4 hiff)
        | (go_at_call 10; have ff := F2; clear ff F2; refine Calls.mono (parse_any _ (by exact hL.below h3 HB2.out) _ B (by exact HB.out.below HB2.out) (by omega)) ?_; rintro ex w5 ⟨r3, e, k, rfl, hb5, hP3⟩; rw [HPB.out] at hP3; obtain ⟨he, hk, hin⟩ := hP3; rw [he, hk]; clear he hk; unfold faV; have HI3 := hid (hin.below ((Below.refl w5.heap.size w5).alloc (Nat.le_refl _) (faO 0 0))); have HB3 := hid ((HB2.out.trans (hb5.mono HB2.out.size)).alloc (Nat.le_trans HB2.out.size hb5.size) (faO 0 0)); have HN5 := hid (heap_alloc_new w5 (faO 0 0)); have HS5 := hid (Nat.le_trans HB2.out.size hb5.size); clear hb5 hin)
        | (go_at_call 8; have ff := F3; clear ff F3; refine Calls.mono (bytes_any _ (by exact hL.below h3 HB3.out) r3 m (by exact HI3.out) HMO.out (by omega)) ?_; rintro ex w6 ⟨r4, e, k, rfl, hb6, hP4⟩; rw [HFM.out] at hP4; obtain ⟨he, hk, hin⟩ := hP4; rw [he, hk]; clear he hk; unfold faV; have f6 := (hb6.block w5.heap.size (by simp)).trans HN5.out; obtain ⟨f0, f1, ff2⟩ := row2 f6; have hb06 := HB3.out.trans (hb6.mono HB3.out.size); have hcv := conv_in (hin.fault f6 0 0); have hcb := conv_in ((HB.out.below hb06).fault f6 0 0); have HB6 := hid ((hb06.setCell (p := ⟨w5.heap.size, 0, none⟩) HS5.out (.int .i64 0)).setCell (p := ⟨w5.heap.size, 1, none⟩) HS5.out (.int .i64 0)); clear hb6 hin f6 hb06))
      go_ret
      exact ⟨ret_bool (by simp), HB6.out⟩
end Go.Proofs.YtbkihppmikjcoaaDoor

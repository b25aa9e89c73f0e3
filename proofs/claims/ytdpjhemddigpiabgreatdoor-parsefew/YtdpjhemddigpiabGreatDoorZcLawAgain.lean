/- Read anew, or just what is new: the law ParseAgain. -/
import Derived.Test.YtdpjhemddigpiabGreatDoorZb13
import Derived.Test.YtdpjhemddigpiabGreatDoorZb15
namespace Go.Proofs.YtdpjhemddigpiabGreatDoor
open Go.RowKit
attribute [local go_sem ↓] Go.wp_at_zero Go.wp_at_succ
theorem cown : COwn := fun it at_ v w ok hok hsm hI => Own_any it at_ v w ok hok hsm hI
/-- Again, whatever comes of it. -/
theorem again_any (s t : ByteArray) (p : Option Addr) (m c : Nat) (w : World) (ok : Nat → Prop) (hok : ∀ k, ok k → k < w.heap.size) (hs : s.size ≤ 4000) (hf : RdF ok w (fil s) (.agg #[.slice p m c])) (hV : VarAt w) :
    Calls Tryz.prog 18 #[.agg #[.slice p m c], .string s, .string t] w fun e w' => ∃ q n d, e = .returned (.tuple #[.agg #[.slice q n d], .int .i64 ((if flE t = 0 then nwN s t (cts t).length else 0 : Nat) : Int), .int .i64 (flE t : Int)]) ∧ RdF (fun k => w.heap.size ≤ k ∧ k < w'.heap.size) w' (if flE t = 0 then fil t else []) (.agg #[.slice q n d]) ∧ Below w.heap.size w w' := by
  by_cases hE : flE t = 0
  · rw [if_pos hE, if_pos hE, hE]
    refine (again_ok s t _ w ok hok hs hf hV citem (fun _ => cown) hE).mono ?_
    rintro e w' ⟨v, rfl, hr, hb⟩
    obtain ⟨q, d, hv, _⟩ := id hr
    subst hv
    exact ⟨q, _, d, rfl, hr, hb⟩
  · rw [if_neg hE, if_neg hE]
    refine (again_no _ ⟨p, m, c, rfl⟩ s t w hE).mono ?_
    rintro e w' ⟨rfl, hb⟩
    exact ⟨none, 0, 0, rfl, ⟨none, 0, rfl, by simp, fun h => absurd h (by simp)⟩, hb⟩
theorem File_list (t : ByteArray) (w : World) (hV : VarAt w) :
    Calls Tryz.prog 9 #[.string t] w fun e w' => ∃ q n d, e = .returned (.tuple #[.agg #[.slice q n d], .int .i64 (flE t : Int)]) ∧ RdF (fun k => w.heap.size ≤ k ∧ k < w'.heap.size) w' (if flE t = 0 then fil t else []) (.agg #[.slice q n d]) ∧ Below w.heap.size w w' := by
  refine (File_any t w hV).mono ?_
  rintro e w' ⟨q, n, d, rfl, hft, hb⟩
  by_cases hE : flE t = 0
  · rw [if_pos hE]
    exact ⟨q, n, d, rfl, hft.1 hE, hb⟩
  · rw [if_neg hE]
    have hv := hft.2 hE
    injection hv with hv
    simp only [Array.mk.injEq, List.cons.injEq, Value.slice.injEq, and_true] at hv
    obtain ⟨rfl, rfl, rfl⟩ := hv
    exact ⟨none, 0, 0, rfl, ⟨none, 0, rfl, by simp, fun h => absurd h (by simp)⟩, hb⟩
theorem RdF.len {ok : Nat → Prop} {w : World} {l : List (Int × It)} {q : Option Addr} {n d : Nat} (h : RdF ok w l (.agg #[.slice q n d])) : n = l.length := by
  obtain ⟨p, cap, hv, _⟩ := h
  injection hv with hv
  simp only [Array.mk.injEq, List.cons.injEq, Value.slice.injEq, and_true] at hv
  exact hv.2.1
theorem RdF.later {A : Nat} {w1 w2 : World} {l : List (Int × It)} {v : Value} (h : RdF (fun k => A ≤ k ∧ k < w1.heap.size) w1 l v) (hb : Below w1.heap.size w1 w2) : RdF (fun k => k < w2.heap.size) w2 l v :=
  RdF.kept h (fun k hk => hb.block k hk.2) (fun _ hk => Nat.lt_of_lt_of_le hk.2 hb.size)
theorem flE_le (t : ByteArray) : flE t ≤ 5 := by unfold flE; split <;> (try split) <;> omega
set_option maxHeartbeats 2000000 in
set_option maxRecDepth 100000 in
theorem again_walk (s : ByteArray) (a b : Int) (x : ByteArray) (w : World) (hV : VarAt w) (hs47 : s.size ≤ 140737488355328) (hx47 : x.size ≤ 140737488355328) : Calls Tryz.prog 4 #[.string s, .agg #[.int .i64 a, .int .i64 b, .string x]] w fun e w' => e = .returned (.bool true) ∧ Below w.heap.size w w' := by
  have hb00 := (Below.refl w.heap.size w).alloc (Nat.le_refl _) (.cells #[.int .i64 a, .int .i64 b, .string x] 23)
  have hV00 := hV.below hb00
  have hX := heap_alloc_new w (.cells #[.int .i64 a, .int .i64 b, .string x] 23)
  have x0 := cell_of_row _ _ 0 _ _ _ hX
  have x1 := cell_of_row _ _ 1 _ _ _ hX
  have x2 := cell_of_row _ _ 2 _ _ _ hX
  simp only [List.getElem?_toArray, List.getElem?_cons_zero, List.getElem?_cons_succ] at x0 x1 x2
  clear hX
  have F1 : Hid (1 = 1) := rfl
  have F2 : Hid (1 = 1) := rfl
  have F3 : Hid (1 = 1) := rfl
  have F4 : Hid (1 = 1) := rfl
  have F5 : Hid (1 = 1) := rfl
  have F6 : Hid (1 = 1) := rfl
  go_enter Tryz.func4, Tryz.ntmps4
  by_cases hE : flE s = 0
  · have hS := (flE_ok hE).1
    have hE0 : ((flE s : Nat) : Int) = 0 := by omega
    by_cases hC : chN s a b x = 0
    · have hC0 : ((chN s a b x : Nat) : Int) = 0 := by omega
      have hself : nwN s s (cts s).length = 0 := nwN_same s _ (Nat.le_refl _)
      have hnle : (if flE (chS s a b x) = 0 then nwN s (chS s a b x) (cts (chS s a b x)).length else 0) ≤ (if flE (chS s a b x) = 0 then fil (chS s a b x) else []).length := by
        split
        · rw [fil_len]; exact nwN_le _ _ _
        · exact Nat.zero_le _
      have hag := again_any s (chS s a b x)
      have hfl := File_list (chS s a b x)
      have hle5 := flE_le (chS s a b x)
      generalize (if flE (chS s a b x) = 0 then nwN s (chS s a b x) (cts (chS s a b x)).length else 0) = nn at hag hnle
      generalize (if flE (chS s a b x) = 0 then fil (chS s a b x) else []) = lt at hag hnle hfl
      generalize flE (chS s a b x) = et at *
      have HG : Hid (∀ (p : Option Addr) (m c : Nat) (w : World) (ok : Nat → Prop), (∀ k, ok k → k < w.heap.size) → s.size ≤ 4000 → RdF ok w (fil s) (.agg #[.slice p m c]) → VarAt w → Calls Tryz.prog 18 #[.agg #[.slice p m c], .string s, .string (chS s a b x)] w fun e w' => ∃ q n d, e = .returned (.tuple #[.agg #[.slice q n d], .int .i64 (nn : Int), .int .i64 (et : Int)]) ∧ RdF (fun k => w.heap.size ≤ k ∧ k < w'.heap.size) w' lt (.agg #[.slice q n d]) ∧ Below w.heap.size w w') := hag
      have HF : Hid (∀ w, VarAt w → Calls Tryz.prog 9 #[.string (chS s a b x)] w fun e w' => ∃ q n d, e = .returned (.tuple #[.agg #[.slice q n d], .int .i64 (et : Int)]) ∧ RdF (fun k => w.heap.size ≤ k ∧ k < w'.heap.size) w' lt (.agg #[.slice q n d]) ∧ Below w.heap.size w w') := hfl
      have HA : Hid (∀ (p : Option Addr) (m c : Nat) (w : World) (ok : Nat → Prop), (∀ k, ok k → k < w.heap.size) → s.size ≤ 4000 → RdF ok w (fil s) (.agg #[.slice p m c]) → VarAt w → Calls Tryz.prog 18 #[.agg #[.slice p m c], .string s, .string s] w fun e w' => ∃ q n d, e = .returned (.tuple #[.agg #[.slice q n d], .int .i64 0, .int .i64 0]) ∧ RdF (fun k => w.heap.size ≤ k ∧ k < w'.heap.size) w' (fil s) (.agg #[.slice q n d]) ∧ Below w.heap.size w w') := fun p m c w ok hok hs hf hV => by
        have h := again_any s s p m c w ok hok hs hf hV
        rw [if_pos hE, if_pos hE, hE, hself] at h
        exact h
      have HS : Hid (s.size ≤ 4000) := hS
      have HN : Hid (nn ≤ lt.length) := hnle
      have HFS : Hid (flE s = 0) := hE
      clear hag hfl hself hnle hS hE hC
      go_wp2_with (first
        | (go_at_call 17; refine (alive3 _ hV00).mono ?_; rintro e w0 ⟨rfl, hb0⟩; have hV0 := hV00.below hb0; have y0 := cell_on hb0 x0; have y1 := cell_on hb0 x1; have y2 := cell_on hb0 x2; clear x0 x1 x2)
        | (go_at_call 9; have f := F1; clear f F1; refine (File_list s _ hV0).mono ?_; rintro e w1 ⟨p, m, c, rfl, hf1, hb1⟩; rw [hE0]; rw [if_pos HFS.out] at hf1; have hbA := (Below.refl w1.heap.size w1).alloc (Nat.le_refl _) (.cells #[.slice p m c] 26); have hb1A := hb1.trans (hbA.mono hb1.size); have hVA := (hV0.below hb1).below hbA; have z0 := cell_on hbA (cell_on hb1 y0); have z1 := cell_on hbA (cell_on hb1 y1); have z2 := cell_on hbA (cell_on hb1 y2); have cF := cell_of_row _ _ 0 _ _ _ (heap_alloc_new w1 (.cells #[.slice p m c] 26)); simp only [List.getElem?_toArray, List.getElem?_cons_zero] at cF; clear y0 y1 y2)
        | (go_at_call 16; refine (change_any s a b x _ hs47 hx47).mono ?_; rintro e w2 ⟨rfl, hb2⟩; rw [hC0]; have hB2 := hbA.trans (hb2.mono hbA.size); have cF2 := cell_on hb2 cF; have hV2 := hVA.below hb2; clear z0 z1 z2 cF)
        | (go_at_call 18; have f := F2; clear f F2; refine (HG.out p m c _ (fun k => k < w2.heap.size) (fun k hk => hk) HS.out (hf1.later hB2) hV2).mono ?_; rintro e w3 ⟨q3, n3, d3, rfl, hf3, hb3⟩; have hbB := (Below.refl w3.heap.size w3).alloc (Nat.le_refl _) (.cells #[.slice q3 n3 d3] 26); have hB3 := hB2.trans ((hb3.trans (hbB.mono hb3.size)).mono hB2.size); have cF3 := cell_on hbB (cell_on hb3 cF2); have cG3 := cell_of_row _ _ 0 _ _ _ (heap_alloc_new w3 (.cells #[.slice q3 n3 d3] 26)); simp only [List.getElem?_toArray, List.getElem?_cons_zero] at cG3; have hV3 := (hV2.below hb3).below hbB; clear cF2)
        | (go_at_call 9; have f := F3; clear f F3; refine (HF.out _ hV3).mono ?_; rintro e w4 ⟨q4, n4, d4, rfl, hf4, hb4⟩; have hbC := (Below.refl w4.heap.size w4).alloc (Nat.le_refl _) (.cells #[.slice q4 n4 d4] 26); have hB34 := hbB.trans ((hb4.trans (hbC.mono hb4.size)).mono hbB.size); have cF4 := cell_on hbC (cell_on hb4 cF3); have cG4 := cell_on hbC (cell_on hb4 cG3); have cH4 := cell_of_row _ _ 0 _ _ _ (heap_alloc_new w4 (.cells #[.slice q4 n4 d4] 26)); simp only [List.getElem?_toArray, List.getElem?_cons_zero] at cH4; have hV4 := (hV3.below hb4).below hbC; have hn4 := hf4.len; have g1 : ¬ (nn : Int) < 0 := (by omega); have g2 : ¬ (nn : Int) > (n4 : Int) := (by have := HN.out; omega); have HN4 : Hid (n4 = lt.length) := hn4; clear cF3 cG3 hn4)
        | (go_at_call 11; have f := F4; clear f F4; refine (sameFile_any lt _ _ _ (w4.alloc (.cells #[.slice q4 n4 d4] 26)).heap.size (Nat.le_refl _) (hf3.later hB34) (hf4.later hbC)).mono ?_; rintro e w5 ⟨rfl, hb5⟩; have cF5 := cell_on hb5 cF4; have cH5 := cell_on hb5 cH4; have hV5 := hV4.below hb5; have hB5 := hB3.trans ((hb4.trans ((hbC.trans (hb5.mono hbC.size)).mono hb4.size)).mono hB3.size); clear cF4 cG4 cH4)
        | (go_at_call 18; have f := F5; clear f F5; refine (HA.out p m c _ (fun k => k < w5.heap.size) (fun k hk => hk) HS.out (hf1.later hB5) hV5).mono ?_; rintro e w6 ⟨q6, n6, d6, rfl, hf6, hb6⟩; have hbD := (Below.refl w6.heap.size w6).alloc (Nat.le_refl _) (.cells #[.slice q6 n6 d6] 26); have cF6 := cell_on hbD (cell_on hb6 cF5); have cK6 := cell_of_row _ _ 0 _ _ _ (heap_alloc_new w6 (.cells #[.slice q6 n6 d6] 26)); simp only [List.getElem?_toArray, List.getElem?_cons_zero] at cK6; have hB6 := hB5.trans ((hb6.trans (hbD.mono hb6.size)).mono hB5.size); clear cF5)
        | (go_at_call 11; have f := F6; clear f F6; refine (sameFile_any (fil s) _ _ _ (w6.alloc (.cells #[.slice q6 n6 d6] 26)).heap.size (Nat.le_refl _) (hf6.later hbD) (hf1.later hB6)).mono ?_; rintro e w7 ⟨rfl, hb7⟩))
      go_ret
      exact ⟨rfl, ((hb00.trans (hb0.mono hb00.size)).trans (hb1.mono (Nat.le_trans hb00.size hb0.size))).trans ((hB6.trans (hb7.mono hB6.size)).mono (Nat.le_trans hb00.size (Nat.le_trans hb0.size hb1.size)))⟩
    · have hC0 : ¬ ((chN s a b x : Nat) : Int) = 0 := by omega
      have HFS : Hid (flE s = 0) := hE
      clear hE hC hS
      go_wp2_with (first
        | (go_at_call 17; refine (alive3 _ hV00).mono ?_; rintro e w0 ⟨rfl, hb0⟩; have hV0 := hV00.below hb0; have y0 := cell_on hb0 x0; have y1 := cell_on hb0 x1; have y2 := cell_on hb0 x2; clear x0 x1 x2)
        | (go_at_call 9; have f := F1; clear f F1; refine (File_list s _ hV0).mono ?_; rintro e w1 ⟨p, m, c, rfl, _, hb1⟩; rw [hE0]; have hbA := (Below.refl w1.heap.size w1).alloc (Nat.le_refl _) (.cells #[.slice p m c] 26); have z0 := cell_on hbA (cell_on hb1 y0); have z1 := cell_on hbA (cell_on hb1 y1); have z2 := cell_on hbA (cell_on hb1 y2); clear y0 y1 y2)
        | (go_at_call 16; refine (change_any s a b x _ hs47 hx47).mono ?_; rintro e w2 ⟨rfl, hb2⟩))
      go_ret
      exact ⟨rfl, ((hb00.trans (hb0.mono hb00.size)).trans (hb1.mono (Nat.le_trans hb00.size hb0.size))).trans ((hbA.trans (hb2.mono hbA.size)).mono (Nat.le_trans hb00.size (Nat.le_trans hb0.size hb1.size)))⟩
  · have hE0 : ¬ ((flE s : Nat) : Int) = 0 := by omega
    clear hE
    go_wp2_with (first
      | (go_at_call 17; refine (alive3 _ hV00).mono ?_; rintro e w0 ⟨rfl, hb0⟩; have hV0 := hV00.below hb0; have y0 := cell_on hb0 x0; have y1 := cell_on hb0 x1; have y2 := cell_on hb0 x2; clear x0 x1 x2)
      | (go_at_call 9; have f := F1; clear f F1; refine (File_list s _ hV0).mono ?_; rintro e w1 ⟨p, m, c, rfl, _, hb1⟩; have hbA := (Below.refl w1.heap.size w1).alloc (Nat.le_refl _) (.cells #[.slice p m c] 26); have z0 := cell_on hbA (cell_on hb1 y0); have z1 := cell_on hbA (cell_on hb1 y1); have z2 := cell_on hbA (cell_on hb1 y2); clear y0 y1 y2)
      | (go_at_call 16; refine (change_any s a b x _ hs47 hx47).mono ?_; rintro e w2 ⟨rfl, hb2⟩))
    go_ret
    exact ⟨rfl, ((hb00.trans (hb0.mono hb00.size)).trans (hb1.mono (Nat.le_trans hb00.size hb0.size))).trans ((hbA.trans (hb2.mono hbA.size)).mono (Nat.le_trans hb00.size (Nat.le_trans hb0.size hb1.size)))⟩
end Go.Proofs.YtdpjhemddigpiabGreatDoor

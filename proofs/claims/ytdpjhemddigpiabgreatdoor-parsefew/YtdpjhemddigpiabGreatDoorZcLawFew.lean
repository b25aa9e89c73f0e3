/- A small edit is a small step: the law ParseFew. (Written by tools/gen_few.py.) -/
import Derived.Test.YtdpjhemddigpiabGreatDoorZcLawAgain
import Derived.Test.YtdpjhemddigpiabGreatDoorZcLawWhole
import Derived.Test.YtdpjhemddigpiabGreatDoorZcFewMath2
namespace Go.Proofs.YtdpjhemddigpiabGreatDoor
open Go.RowKit
attribute [local go_sem ↓] Go.wp_at_zero Go.wp_at_succ
theorem RdF.hits {ok : Nat → Prop} {w : World} {l : List (Int × It)} {q : Option Addr} {n d : Nat} (h : RdF ok w l (.agg #[.slice q n d])) : 0 < l.length → ∃ g, q = some ⟨g, 0, none⟩ ∧ ok g ∧ RdIs ok w l g := by
  obtain ⟨p, cap, hv, _, hits⟩ := h
  injection hv with hv
  simp only [Array.mk.injEq, List.cons.injEq, Value.slice.injEq, and_true] at hv
  obtain ⟨rfl, _, _⟩ := hv
  exact hits
set_option maxHeartbeats 2000000 in
set_option maxRecDepth 100000 in
theorem few_walk (s : ByteArray) (a b : Int) (x : ByteArray) (w : World) (hV : VarAt w) (hs47 : s.size ≤ 140737488355328) (hx47 : x.size ≤ 140737488355328) : Calls Tryz.prog 5 #[.string s, .agg #[.int .i64 a, .int .i64 b, .string x]] w fun e w' => e = .returned (.bool true) ∧ Below w.heap.size w w' := by
  have hb00 := (Below.refl w.heap.size w).alloc (Nat.le_refl _) (.cells #[.int .i64 a, .int .i64 b, .string x] 23)
  have hV00 := hV.below hb00
  have hX := heap_alloc_new w (.cells #[.int .i64 a, .int .i64 b, .string x] 23)
  have x0 := cell_of_row _ _ 0 _ _ _ hX
  have x1 := cell_of_row _ _ 1 _ _ _ hX
  have x2 := cell_of_row _ _ 2 _ _ _ hX
  simp only [List.getElem?_toArray, List.getElem?_cons_zero, List.getElem?_cons_succ] at x0 x1 x2
  clear hX
  have F1 : Hid (1 = 1) := rfl
  have F2 : Hid (1 = 1) := rfl
  have F3 : Hid (1 = 1) := rfl
  have F4 : Hid (1 = 1) := rfl
  have F5 : Hid (1 = 1) := rfl
  have F6 : Hid (1 = 1) := rfl
  go_enter Tryz.func5, Tryz.ntmps5
  by_cases hE : flE s = 0
  · have hS := (flE_ok hE).1
    have hE0 : ((flE s : Nat) : Int) = 0 := by omega
    by_cases hC : chN s a b x = 0
    · have hC0 : ((chN s a b x : Nat) : Int) = 0 := by omega
      have hCk := chN_ok hC
      obtain ⟨t, hte⟩ : ∃ t, t = chS s a b x := ⟨_, rfl⟩
      have htx : t = s.extract 0 a.toNat ++ x ++ s.extract b.toNat s.size := by rw [hte]; unfold chS; rw [if_pos hC]
      have htz : t.size ≤ 4000 ∧ (t.size : Int) = s.size - (b - a) + x.size := by
        have e1 : (s.extract 0 a.toNat).size = a.toNat := by rw [ext_size' _ _ _ (by omega)]; omega
        have e2 : (s.extract b.toNat s.size).size = s.size - b.toNat := ext_size' _ _ _ (Nat.le_refl _)
        rw [htx, app_size, app_size, e1, e2]
        omega
      have HFew : Hid (∀ k, k < (cts s).length → (cts t).length = (cts s).length → (cn s k : Int) ≤ a → b - (cn s k : Int) ≤ ((itI s k).sz : Int) → (cn t k : Int) = (cn s k : Int) → ((itI t k).sz : Int) - ((itI s k).sz : Int) = (t.size : Int) - (s.size : Int) → nwN s t (cts t).length ≤ 1) := fun k hk hm h1 h2 h3 h4 => by
        have z1 := (itI_sz s k).1
        have z2 := (itI_sz t k).1
        have l1 := cn_lt s k hk
        have l2 := cn_lt t k (by omega)
        exact few (a := a.toNat) (b := b.toNat) (by omega) (by omega) htx hm hk (by omega) (by omega) (by omega) (by omega)
      have HS : Hid (s.size ≤ 4000) := hS
      have HFS : Hid (flE s = 0) := hE
      have HTZ : Hid (t.size ≤ 4000) := htz.1
      have hcls := cts_le s
      have hclt := cts_le t
      have hs30 := (flE_ok hE).2
      have gab : 0 ≤ a ∧ a ≤ b ∧ b ≤ s.size := ⟨hCk.1, hCk.2.1, hCk.2.2.1⟩
      have HTE : Hid (t = chS s a b x) := hte
      clear hE hC hS htx hCk hte
      by_cases hT : flE t = 0
      · have hT0 : ((flE t : Nat) : Int) = 0 := by omega
        by_cases hlen : (cts t).length = (cts s).length
        · have hag : ∀ (p : Option Addr) (m c : Nat) (w : World) (ok : Nat → Prop), (∀ k, ok k → k < w.heap.size) → RdF ok w (fil s) (.agg #[.slice p m c]) → VarAt w → Calls Tryz.prog 18 #[.agg #[.slice p m c], .string s, .string t] w fun e w' => ∃ q n d, e = .returned (.tuple #[.agg #[.slice q n d], .int .i64 (nwN s t (cts t).length : Int), .int .i64 0]) ∧ RdF (fun k => w.heap.size ≤ k ∧ k < w'.heap.size) w' (fil t) (.agg #[.slice q n d]) ∧ Below w.heap.size w w' := fun p m c w ok hok hf hV => by
            have h := again_any s t p m c w ok hok HS.out hf hV
            rw [if_pos hT, if_pos hT, hT] at h
            exact h
          generalize nwN s t (cts t).length = nn at hag HFew
          have HG : Hid (∀ (p : Option Addr) (m c : Nat) (w : World) (ok : Nat → Prop), (∀ k, ok k → k < w.heap.size) → RdF ok w (fil s) (.agg #[.slice p m c]) → VarAt w → Calls Tryz.prog 18 #[.agg #[.slice p m c], .string s, .string t] w fun e w' => ∃ q n d, e = .returned (.tuple #[.agg #[.slice q n d], .int .i64 (nn : Int), .int .i64 0]) ∧ RdF (fun k => w.heap.size ≤ k ∧ k < w'.heap.size) w' (fil t) (.agg #[.slice q n d]) ∧ Below w.heap.size w w') := hag
          clear hag
          have HTT : Hid (flE t = 0) := hT
          have HLE : Hid ((cts t).length = (cts s).length) := hlen
          clear hT hlen htz
          go_wp2_with (first
            | (go_at_call 17; refine (alive3 _ hV00).mono ?_; rintro e w0 ⟨rfl, hb0⟩; have hV0 := hV00.below hb0; have y0 := cell_on hb0 x0; have y1 := cell_on hb0 x1; have y2 := cell_on hb0 x2; clear x0 x1 x2)
            | (go_at_call 9; have f := F1; clear f F1; refine (File_list s _ hV0).mono ?_; rintro e w1 ⟨p, m, c, rfl, hf1, hb1⟩; rw [hE0]; rw [if_pos HFS.out] at hf1; have hbA := (Below.refl w1.heap.size w1).alloc (Nat.le_refl _) (.cells #[.slice p m c] 26); have hb1A := hb1.trans (hbA.mono hb1.size); have hVA := (hV0.below hb1).below hbA; have z0 := cell_on hbA (cell_on hb1 y0); have z1 := cell_on hbA (cell_on hb1 y1); have z2 := cell_on hbA (cell_on hb1 y2); have cF := cell_of_row _ _ 0 _ _ _ (heap_alloc_new w1 (.cells #[.slice p m c] 26)); simp only [List.getElem?_toArray, List.getElem?_cons_zero] at cF; clear y0 y1 y2)
            | (go_at_call 16; refine (change_any s a b x _ hs47 hx47).mono ?_; rintro e w2 ⟨rfl, hb2⟩; rw [hC0, ← HTE.out]; have hB2 := hbA.trans (hb2.mono hbA.size); have cF2 := cell_on hb2 cF; have v0 := cell_on hb2 z0; have v1 := cell_on hb2 z1; have hV2 := hVA.below hb2; clear z0 z1 z2 cF)
            | (go_at_call 18; have f := F2; clear f F2; refine (HG.out p m c _ (fun k => k < w2.heap.size) (fun k hk => hk) (hf1.later hB2) hV2).mono ?_; rintro e w3 ⟨q3, n3, d3, rfl, hf3, hb3⟩; have hn3 := hf3.len; rw [fil_len, HLE.out] at hn3; have hm1 := hf1.len; rw [fil_len] at hm1; subst hn3 hm1; have hbB := (Below.refl w3.heap.size w3).alloc (Nat.le_refl _) (.cells #[.slice q3 (cts s).length d3] 26); have hB3 := hB2.trans ((hb3.trans (hbB.mono hb3.size)).mono hB2.size); have cF3 := cell_on hbB (cell_on hb3 cF2); have u0 := cell_on hbB (cell_on hb3 v0); have u1 := cell_on hbB (cell_on hb3 v1); have cG3 := cell_of_row _ _ 0 _ _ _ (heap_alloc_new w3 (.cells #[.slice q3 (cts s).length d3] 26)); simp only [List.getElem?_toArray, List.getElem?_cons_zero] at cG3; clear cF2 v0 v1))
          have hh1 := hf1.hits
          have hh3 := hf3.hits
          rw [fil_len] at hh1 hh3
          go_loopw [54] (fun i wr => RelC2 (cts s).length (w3.alloc (.cells #[.slice q3 (cts s).length d3] 26)) i wr) (fun i _ => upN (cts s).length i)
          case atStart => exact ⟨0, Nat.zero_le _, rfl, Below.refl _ _⟩
          case round =>
            obtain ⟨k, hk, rfl, hbr⟩ := hrel
            have hS := hB3.trans (hbr.mono hB3.size)
            have hT3 := hbB.trans (hbr.mono hbB.size)
            have hEnd := ((hb00.trans (hb0.mono hb00.size)).trans (hb1.mono (Nat.le_trans hb00.size hb0.size))).trans (hS.mono (Nat.le_trans hb00.size (Nat.le_trans hb0.size hb1.size)))
            by_cases hlt : k < (cts s).length
            · obtain ⟨g, hpg, hg, hR⟩ := hh1 (by omega)
              obtain ⟨g3, hpg3, hg3, hR3⟩ := hh3 (by rw [HLE.out]; omega)
              subst hpg hpg3
              obtain ⟨v, hcv, hI⟩ := RdIs.at hR (hS.block g hg.2) (fun b hb => hS.block b hb.2) (fil_get s k hlt)
              obtain ⟨v3, hcv3, hI3⟩ := RdIs.at hR3 (hT3.block g3 hg3.2) (fun b hb => hT3.block b hb.2) (fil_get t k (by rw [HLE.out]; exact hlt))
              obtain ⟨p1, c1, p2, c2, p3, c3, p4, c4, d0, d1, d2, d3', d4, d5, d6, d7, d8, d9, _, _, _, _⟩ := it_cells hcv hI
              obtain ⟨_, _, _, _, _, _, _, _, _, _, _, _, _, _, e6, e7, _, _, _, _, _, _⟩ := it_cells hcv3 hI3
              have y6 := cell_alloc e6
              have y7 := cell_alloc e7
              have zF := cell_on hbr cF3
              have zG := cell_on hbr cG3
              have zG' := cell_alloc zG
              have r0 := cell_on hbr u0
              have r1 := cell_on hbr u1
              have r0' := cell_alloc r0
              have r1' := cell_alloc r1
              have hz1 := (itI_sz s k).1
              have hl2 := cn_le s (k + 1)
              have hl3 := cn_le s k
              have hz3 := (itI_sz t k).1
              have hl4 := cn_le t (k + 1)
              have hfew := HFew.out k hlt HLE.out
              have hsz4 := HS.out
              have htz4 := HTZ.out
              have gzs : ¬ ((itI s k).sz : Int) > (s.size : Int) := by omega
              have gA : (cn s k : Int) ≤ s.size := by omega
              have gZ2 : ((itI t k).sz : Int) ≤ 4000 := by omega
              clear hz1 hl2 hz3 hl4 hcv hI hcv3 hI3 hR hR3 hh1 hh3
              generalize cn s k = A at *
              generalize cn t k = A2 at *
              generalize itI s k = it at *
              generalize itI t k = it2 at *
              have HL : Hid (k < (cts s).length) := hlt
              have gk : (0 : Int) ≤ (k : Int) := by omega
              have gk1 : (k : Int) < ((cts s).length : Int) := by omega
              have ga : ¬ (A : Int) < 0 := by omega
              have gz : ¬ (it.sz : Int) < 0 := by omega
              have gz2 : ¬ (it2.sz : Int) < 0 := by omega
              have gw1 : IntKind.i64.wrap (b - (A : Int)) = b - (A : Int) := wrap_id _ (by omega) (by omega)
              have gw2 : IntKind.i64.wrap ((it2.sz : Int) - (it.sz : Int)) = (it2.sz : Int) - (it.sz : Int) := wrap_id _ (by omega) (by omega)
              have gw3 : IntKind.i64.wrap ((t.size : Int) - (s.size : Int)) = (t.size : Int) - (s.size : Int) := wrap_id _ (by omega) (by omega)
              have HF : Hid ((A : Int) ≤ a → b - (A : Int) ≤ (it.sz : Int) → (A2 : Int) = (A : Int) → (it2.sz : Int) - (it.sz : Int) = (t.size : Int) - (s.size : Int) → nn ≤ 1) := hfew
              have hkb : k < 1099511627776 := by omega
              clear hfew hk hlt hs30 hcls hclt HTE hE0 hC0 hT0
              by_cases h1 : (A : Int) ≤ a
              · by_cases h2 : b - (A : Int) ≤ (it.sz : Int)
                · by_cases h3 : (A2 : Int) = (A : Int)
                  · have g3' : ((A2 : Int) == (A : Int)) = true := by simpa using h3
                    by_cases h4 : (it2.sz : Int) - (it.sz : Int) = (t.size : Int) - (s.size : Int)
                    · have g4 : ((it2.sz : Int) - (it.sz : Int) == (t.size : Int) - (s.size : Int)) = true := by simpa using h4
                      have gn : (nn : Int) ≤ 1 := by have := HF.out h1 h2 h3 h4; omega
                      clear h3 h4 HF
                      go_wp2
                      go_quiet (fail)
                      go_wp2
                      go_ret
                      exact ⟨rfl, below_drewN (hEnd.alloc hEnd.size _) _⟩
                    · have g4 : ((it2.sz : Int) - (it.sz : Int) == (t.size : Int) - (s.size : Int)) = false := by simpa using h4
                      clear h3 h4 HF
                      go_wp2
                      go_quiet (fail)
                      go_wp2
                      go_roundw
                      case rel => exact ⟨k + 1, by have := HL.out; omega, by go_num, below_drewN (hbr.alloc hbr.size _) _⟩
                      case measure => have := HL.out; simp [upN, intOf]; omega
                  · have g3' : ((A2 : Int) == (A : Int)) = false := by simpa using h3
                    clear h3 HF
                    go_wp2
                    go_quiet (fail)
                    go_wp2
                    go_roundw
                    case rel => exact ⟨k + 1, by have := HL.out; omega, by go_num, below_drewN (hbr.alloc hbr.size _) _⟩
                    case measure => have := HL.out; simp [upN, intOf]; omega
                · have g2' : decide (b - (A : Int) ≤ (it.sz : Int)) = false := by simpa using h2
                  clear HF
                  go_wp2
                  go_quiet (fail)
                  go_wp2
                  go_roundw
                  case rel => exact ⟨k + 1, by have := HL.out; omega, by go_num, below_drewN (hbr.alloc hbr.size _) _⟩
                  case measure => have := HL.out; simp [upN, intOf]; omega
              · have g1' : decide ((A : Int) ≤ a) = false := by simpa using h1
                clear HF
                go_wp2
                go_quiet (fail)
                go_wp2
                go_roundw
                case rel => exact ⟨k + 1, by have := HL.out; omega, by go_num, below_drewN (hbr.alloc hbr.size _) _⟩
                case measure => have := HL.out; simp [upN, intOf]; omega
            · obtain rfl : k = (cts s).length := by omega
              clear hlt hk
              go_wp2
              go_ret
              exact ⟨rfl, hEnd⟩
        · have hlen2 : ¬ ((cts t).length : Int) = ((cts s).length : Int) := by omega
          have hag : ∀ (p : Option Addr) (m c : Nat) (w : World) (ok : Nat → Prop), (∀ k, ok k → k < w.heap.size) → RdF ok w (fil s) (.agg #[.slice p m c]) → VarAt w → Calls Tryz.prog 18 #[.agg #[.slice p m c], .string s, .string t] w fun e w' => ∃ q n d, e = .returned (.tuple #[.agg #[.slice q n d], .int .i64 (nwN s t (cts t).length : Int), .int .i64 0]) ∧ RdF (fun k => w.heap.size ≤ k ∧ k < w'.heap.size) w' (fil t) (.agg #[.slice q n d]) ∧ Below w.heap.size w w' := fun p m c w ok hok hf hV => by
            have h := again_any s t p m c w ok hok HS.out hf hV
            rw [if_pos hT, if_pos hT, hT] at h
            exact h
          clear hT hlen htz HFew
          generalize nwN s t (cts t).length = nn at *
          have HG : Hid (∀ (p : Option Addr) (m c : Nat) (w : World) (ok : Nat → Prop), (∀ k, ok k → k < w.heap.size) → RdF ok w (fil s) (.agg #[.slice p m c]) → VarAt w → Calls Tryz.prog 18 #[.agg #[.slice p m c], .string s, .string t] w fun e w' => ∃ q n d, e = .returned (.tuple #[.agg #[.slice q n d], .int .i64 (nn : Int), .int .i64 0]) ∧ RdF (fun k => w.heap.size ≤ k ∧ k < w'.heap.size) w' (fil t) (.agg #[.slice q n d]) ∧ Below w.heap.size w w') := hag
          clear hag
          have gne : (((cts t).length : Int) == ((cts s).length : Int)) = false := by simpa using hlen2
          go_wp2_with (first
            | (go_at_call 17; refine (alive3 _ hV00).mono ?_; rintro e w0 ⟨rfl, hb0⟩; have hV0 := hV00.below hb0; have y0 := cell_on hb0 x0; have y1 := cell_on hb0 x1; have y2 := cell_on hb0 x2; clear x0 x1 x2)
            | (go_at_call 9; have f := F1; clear f F1; refine (File_list s _ hV0).mono ?_; rintro e w1 ⟨p, m, c, rfl, hf1, hb1⟩; rw [hE0]; rw [if_pos HFS.out] at hf1; have hbA := (Below.refl w1.heap.size w1).alloc (Nat.le_refl _) (.cells #[.slice p m c] 26); have hb1A := hb1.trans (hbA.mono hb1.size); have hVA := (hV0.below hb1).below hbA; have z0 := cell_on hbA (cell_on hb1 y0); have z1 := cell_on hbA (cell_on hb1 y1); have z2 := cell_on hbA (cell_on hb1 y2); have cF := cell_of_row _ _ 0 _ _ _ (heap_alloc_new w1 (.cells #[.slice p m c] 26)); simp only [List.getElem?_toArray, List.getElem?_cons_zero] at cF; clear y0 y1 y2)
            | (go_at_call 16; refine (change_any s a b x _ hs47 hx47).mono ?_; rintro e w2 ⟨rfl, hb2⟩; rw [hC0, ← HTE.out]; have hB2 := hbA.trans (hb2.mono hbA.size); have cF2 := cell_on hb2 cF; have v0 := cell_on hb2 z0; have v1 := cell_on hb2 z1; have hV2 := hVA.below hb2; clear z0 z1 z2 cF)
            | (go_at_call 18; have f := F2; clear f F2; refine (HG.out p m c _ (fun k => k < w2.heap.size) (fun k hk => hk) (hf1.later hB2) hV2).mono ?_; rintro e w3 ⟨q3, n3, d3, rfl, hf3, hb3⟩; have hn3 := hf3.len; rw [fil_len] at hn3; have hm1 := hf1.len; rw [fil_len] at hm1; subst hn3 hm1; have hbB := (Below.refl w3.heap.size w3).alloc (Nat.le_refl _) (.cells #[.slice q3 (cts t).length d3] 26); have hB3 := hB2.trans ((hb3.trans (hbB.mono hb3.size)).mono hB2.size); have cF3 := cell_on hbB (cell_on hb3 cF2); have u0 := cell_on hbB (cell_on hb3 v0); have u1 := cell_on hbB (cell_on hb3 v1); have cG3 := cell_of_row _ _ 0 _ _ _ (heap_alloc_new w3 (.cells #[.slice q3 (cts t).length d3] 26)); simp only [List.getElem?_toArray, List.getElem?_cons_zero] at cG3; clear cF2 v0 v1))
          go_ret
          exact ⟨rfl, ((hb00.trans (hb0.mono hb00.size)).trans (hb1.mono (Nat.le_trans hb00.size hb0.size))).trans (hB3.mono (Nat.le_trans hb00.size (Nat.le_trans hb0.size hb1.size)))⟩
      · have hT0 : ¬ ((flE t : Nat) : Int) = 0 := by omega
        have hag : ∀ (p : Option Addr) (m c : Nat) (w : World) (ok : Nat → Prop), (∀ k, ok k → k < w.heap.size) → RdF ok w (fil s) (.agg #[.slice p m c]) → VarAt w → Calls Tryz.prog 18 #[.agg #[.slice p m c], .string s, .string t] w fun e w' => ∃ q n d, e = .returned (.tuple #[.agg #[.slice q n d], .int .i64 0, .int .i64 (flE t : Int)]) ∧ RdF (fun k => w.heap.size ≤ k ∧ k < w'.heap.size) w' [] (.agg #[.slice q n d]) ∧ Below w.heap.size w w' := fun p m c w ok hok hf hV => by
          have h := again_any s t p m c w ok hok HS.out hf hV
          rw [if_neg hT, if_neg hT] at h
          exact h
        clear hT htz HFew
        generalize flE t = et at *
        have HG : Hid (∀ (p : Option Addr) (m c : Nat) (w : World) (ok : Nat → Prop), (∀ k, ok k → k < w.heap.size) → RdF ok w (fil s) (.agg #[.slice p m c]) → VarAt w → Calls Tryz.prog 18 #[.agg #[.slice p m c], .string s, .string t] w fun e w' => ∃ q n d, e = .returned (.tuple #[.agg #[.slice q n d], .int .i64 0, .int .i64 (et : Int)]) ∧ RdF (fun k => w.heap.size ≤ k ∧ k < w'.heap.size) w' [] (.agg #[.slice q n d]) ∧ Below w.heap.size w w') := hag
        clear hag
        go_wp2_with (first
          | (go_at_call 17; refine (alive3 _ hV00).mono ?_; rintro e w0 ⟨rfl, hb0⟩; have hV0 := hV00.below hb0; have y0 := cell_on hb0 x0; have y1 := cell_on hb0 x1; have y2 := cell_on hb0 x2; clear x0 x1 x2)
          | (go_at_call 9; have f := F1; clear f F1; refine (File_list s _ hV0).mono ?_; rintro e w1 ⟨p, m, c, rfl, hf1, hb1⟩; rw [hE0]; rw [if_pos HFS.out] at hf1; have hbA := (Below.refl w1.heap.size w1).alloc (Nat.le_refl _) (.cells #[.slice p m c] 26); have hb1A := hb1.trans (hbA.mono hb1.size); have hVA := (hV0.below hb1).below hbA; have z0 := cell_on hbA (cell_on hb1 y0); have z1 := cell_on hbA (cell_on hb1 y1); have z2 := cell_on hbA (cell_on hb1 y2); have cF := cell_of_row _ _ 0 _ _ _ (heap_alloc_new w1 (.cells #[.slice p m c] 26)); simp only [List.getElem?_toArray, List.getElem?_cons_zero] at cF; clear y0 y1 y2)
          | (go_at_call 16; refine (change_any s a b x _ hs47 hx47).mono ?_; rintro e w2 ⟨rfl, hb2⟩; rw [hC0, ← HTE.out]; have hB2 := hbA.trans (hb2.mono hbA.size); have cF2 := cell_on hb2 cF; have v0 := cell_on hb2 z0; have v1 := cell_on hb2 z1; have hV2 := hVA.below hb2; clear z0 z1 z2 cF)
          | (go_at_call 18; have f := F2; clear f F2; refine (HG.out p m c _ (fun k => k < w2.heap.size) (fun k hk => hk) (hf1.later hB2) hV2).mono ?_; rintro e w3 ⟨q3, n3, d3, rfl, hf3, hb3⟩;  have hbB := (Below.refl w3.heap.size w3).alloc (Nat.le_refl _) (.cells #[.slice q3 n3 d3] 26); have hB3 := hB2.trans ((hb3.trans (hbB.mono hb3.size)).mono hB2.size); have cF3 := cell_on hbB (cell_on hb3 cF2); have u0 := cell_on hbB (cell_on hb3 v0); have u1 := cell_on hbB (cell_on hb3 v1); have cG3 := cell_of_row _ _ 0 _ _ _ (heap_alloc_new w3 (.cells #[.slice q3 n3 d3] 26)); simp only [List.getElem?_toArray, List.getElem?_cons_zero] at cG3; clear cF2 v0 v1))
        go_ret
        exact ⟨rfl, ((hb00.trans (hb0.mono hb00.size)).trans (hb1.mono (Nat.le_trans hb00.size hb0.size))).trans (hB3.mono (Nat.le_trans hb00.size (Nat.le_trans hb0.size hb1.size)))⟩
    · have hC0 : ¬ ((chN s a b x : Nat) : Int) = 0 := by omega
      have HFS : Hid (flE s = 0) := hE
      clear hE hC hS
      go_wp2_with (first
        | (go_at_call 17; refine (alive3 _ hV00).mono ?_; rintro e w0 ⟨rfl, hb0⟩; have hV0 := hV00.below hb0; have y0 := cell_on hb0 x0; have y1 := cell_on hb0 x1; have y2 := cell_on hb0 x2; clear x0 x1 x2)
        | (go_at_call 9; have f := F1; clear f F1; refine (File_list s _ hV0).mono ?_; rintro e w1 ⟨p, m, c, rfl, _, hb1⟩; rw [hE0]; have hbA := (Below.refl w1.heap.size w1).alloc (Nat.le_refl _) (.cells #[.slice p m c] 26); have z0 := cell_on hbA (cell_on hb1 y0); have z1 := cell_on hbA (cell_on hb1 y1); have z2 := cell_on hbA (cell_on hb1 y2); clear y0 y1 y2)
        | (go_at_call 16; refine (change_any s a b x _ hs47 hx47).mono ?_; rintro e w2 ⟨rfl, hb2⟩))
      go_ret
      exact ⟨rfl, ((hb00.trans (hb0.mono hb00.size)).trans (hb1.mono (Nat.le_trans hb00.size hb0.size))).trans ((hbA.trans (hb2.mono hbA.size)).mono (Nat.le_trans hb00.size (Nat.le_trans hb0.size hb1.size)))⟩
  · have hE0 : ¬ ((flE s : Nat) : Int) = 0 := by omega
    clear hE
    go_wp2_with (first
      | (go_at_call 17; refine (alive3 _ hV00).mono ?_; rintro e w0 ⟨rfl, hb0⟩; have hV0 := hV00.below hb0; have y0 := cell_on hb0 x0; have y1 := cell_on hb0 x1; have y2 := cell_on hb0 x2; clear x0 x1 x2)
      | (go_at_call 9; have f := F1; clear f F1; refine (File_list s _ hV0).mono ?_; rintro e w1 ⟨p, m, c, rfl, _, hb1⟩; have hbA := (Below.refl w1.heap.size w1).alloc (Nat.le_refl _) (.cells #[.slice p m c] 26); have z0 := cell_on hbA (cell_on hb1 y0); have z1 := cell_on hbA (cell_on hb1 y1); have z2 := cell_on hbA (cell_on hb1 y2); clear y0 y1 y2)
      | (go_at_call 16; refine (change_any s a b x _ hs47 hx47).mono ?_; rintro e w2 ⟨rfl, hb2⟩))
    go_ret
    exact ⟨rfl, ((hb00.trans (hb0.mono hb00.size)).trans (hb1.mono (Nat.le_trans hb00.size hb0.size))).trans ((hbA.trans (hb2.mono hbA.size)).mono (Nat.le_trans hb00.size (Nat.le_trans hb0.size hb1.size)))⟩
end Go.Proofs.YtdpjhemddigpiabGreatDoor

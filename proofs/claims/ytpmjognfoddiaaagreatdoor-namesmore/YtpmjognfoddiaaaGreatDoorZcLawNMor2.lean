/- The law NamesMore: its two loops over uses. -/
import Derived.Test.YtpmjognfoddiaaaGreatDoorZcLawNMore
namespace Go.Proofs.YtpmjognfoddiaaaGreatDoor
open Go.RowKit
attribute [local go_sem ↓] Go.wp_at_zero Go.wp_at_succ
set_option maxHeartbeats 4000000 in
set_option maxRecDepth 100000 in
theorem nmore_walk (s t : ByteArray) (w : World) (hV : VarAt w) (hs47 : s.size ≤ 140737488355328) (ht47 : t.size ≤ 140737488355328) : Calls Tryz.prog 5 #[.string s, .string t] w fun e w' => e = .returned (.bool true) ∧ Below w.heap.size w w' := by
  have HAl := hid (alive4 w hV)
  have HFi := hid (fun w' hv => File_any s w' hv)
  have HFj := hid (fun w' hv => File_any (jn s t) w' hv)
  have HJ := hid (jn_eq s t)
  have hE5 := flE_le5 s
  have hE6 := flE_le5 (jn s t)
  have F1 : Hid (1 = 1) := rfl
  by_cases hE : flE s = 0
  · by_cases hE2 : flE (jn s t) = 0
    · have hmore := more s t
      have HU1 := hid (fun (W : World) (fv : Value) (ok : Nat → Prop) (hok : ∀ k, ok k → k < W.heap.size) (hR : RdF ok W (fil s) fv) => Uses_any (fil s) fv W ok hok hR (fil_sends s) (fil_n s hE) (fil_m s hE))
      have HU2 := hid (fun (W : World) (fv : Value) (ok : Nat → Prop) (hok : ∀ k, ok k → k < W.heap.size) (hR : RdF ok W (fil (jn s t)) fv) => Uses_any (fil (jn s t)) fv W ok hok hR (fil_sends (jn s t)) (fil_n (jn s t) hE2) (fil_m (jn s t) hE2))
      have hlu1 := fil_m s hE (fil s).length (Nat.le_refl _)
      have hlu2 := fil_m (jn s t) hE2 (fil (jn s t)).length (Nat.le_refl _)
      have hnm : (fil s).length ≤ (fil (jn s t)).length := by
        rw [fil_len, fil_len]
        obtain ⟨X, hX, _⟩ := cts_more s t
        rw [hX, List.length_append]; omega
      have hl30 : (fil s).length ≤ 30 := by rw [fil_len]; exact (flE_small hE).2
      have hE0 : ((flE s : Nat) : Int) = 0 := by rw [hE]; rfl
      have hE20 : ((flE (jn s t) : Nat) : Int) = 0 := by rw [hE2]; rfl
      have HT1 := hid (fun (a b : World) (v : Value) (h : FileTold a b s v) => h.1 hE)
      have HT2 := hid (fun (a b : World) (v : Value) (h : FileTold a b (jn s t) v) => h.1 hE2)
      have HE := hid hE0
      have HE2 := hid hE20
      have hQ : (∀ j, j < (fil s).length → ∀ e e' : Int × It, (fil s)[j]? = some e → (fil (jn s t))[j]? = some e' → e'.2.sz ≤ e.2.sz + 1) → ∀ u ∈ usE (fil s) (fil s).length, u ∈ usE (fil (jn s t)) (fil (jn s t)).length := by
        intro h
        refine hmore (fun i hi => ?_)
        have g1 := fil_get s i hi
        have g2 := fil_get (jn s t) i (cn_more s t i hi).1
        have h3 := fun e e' => h i (by rw [fil_len]; exact hi) e e'
        rw [g1, g2] at h3
        generalize itI s i = a at *
        generalize itI (jn s t) i = b at *
        exact h3 _ _ rfl rfl
      have hszl := fil_sz s (flE_small hE).1
      have hsz : ((s.size + 1 + t.size : Nat) : Int) ≤ 9223372036854775807 := by omega
      clear hE hE2 hE5 hE6 hE0 hE20 hmore
      generalize usE (fil s) (fil s).length = us at *
      generalize usE (fil (jn s t)) (fil (jn s t)).length = vs at *
      generalize fil s = l at *
      generalize fil (jn s t) = l' at *
      have HQ := hid hQ
      clear hQ
      have gnm : decide ((l'.length : Int) < (l.length : Int)) = false := by simp; omega
      have gnm2 : decide (l'.length < l.length) = false := by simp; omega
      have HNM := hid hnm
      clear hnm
      have F2 : Hid (1 = 1) := rfl
      go_enter Tryz.func5, Tryz.ntmps5
      go_wp2_with (first
        | (go_at_call 16; refine Calls.mono HAl.out ?_; rintro e w0 ⟨rfl, hb0⟩; have hV0 := hV.below hb0)
        | (go_at_call 7; have ff := F1; clear ff F1; refine Calls.mono (HFi.out _ hV0) ?_; rintro e w1 ⟨p1, m1, c1, rfl, hft1, hb1⟩; rw [HE.out]; have hR1 := HT1.out _ _ _ hft1; have hm1 := RdF.count hR1; subst hm1; clear hft1; have hba1 := (Below.refl w1.heap.size w1).alloc (Nat.le_refl _) (.cells #[.slice p1 l.length c1] 24); have y5 := cell_of_row _ _ 0 _ _ _ (heap_alloc_new w1 (.cells #[.slice p1 l.length c1] 24)); simp only [List.getElem?_toArray, List.getElem?_cons_zero] at y5; have hV1 := (hV0.below hb1).below hba1)
        | (go_at_call 7; rw [HJ.out]; refine Calls.mono (HFj.out _ hV1) ?_; rintro e w2 ⟨p2, m2, c2, rfl, hft2, hb2⟩; rw [HE2.out]; have hR2 := HT2.out _ _ _ hft2; have hm2 := RdF.count hR2; subst hm2; clear hft2; have hba2 := (Below.refl w2.heap.size w2).alloc (Nat.le_refl _) (.cells #[.slice p2 l'.length c2] 24); have y7 := cell_of_row _ _ 0 _ _ _ (heap_alloc_new w2 (.cells #[.slice p2 l'.length c2] 24)); simp only [List.getElem?_toArray, List.getElem?_cons_zero] at y7; have z5 := cell_alloc (cell_on hb2 y5) (.cells #[.slice p2 l'.length c2] 24)))
      have hB1 := hb0.trans (hb1.mono hb0.size)
      have hB2 := hB1.trans (hba1.mono hB1.size)
      have hB3 := hB2.trans (hb2.mono hB2.size)
      have hB4 := hB3.trans (hba2.mono hB3.size)
      have hTW : Two l l' w1.heap.size w2.heap.size p1 p2 c1 c2 (w2.alloc (.cells #[.slice p2 l'.length c2] 24)) := ⟨z5, y7, RdF.kept hR1 (fun k hk => ((hba2.block k (Nat.lt_of_lt_of_le hk.2 (Nat.le_trans hba1.size hb2.size))).trans (hb2.block k (Nat.lt_of_lt_of_le hk.2 hba1.size))).trans (hba1.block k hk.2)) (fun _ hk => Nat.lt_of_lt_of_le hk.2 (Nat.le_trans hba1.size (Nat.le_trans hb2.size hba2.size))), RdF.kept hR2 (fun k hk => hba2.block k hk.2) (fun _ hk => Nat.lt_of_lt_of_le hk.2 hba2.size)⟩
      clear hR1 hR2 y5 y7 z5 hb0 hb1 hb2 hba1 hba2 hB1 hB2 hB3 hV0 hV1
      generalize w2.alloc (.cells #[.slice p2 l'.length c2] 24) = W2 at *
      generalize w1.heap.size = b5 at *
      generalize w2.heap.size = b7 at *
      go_loopw [50] (fun i wr => RelM1 l.length (fun j => ∀ e e' : Int × It, l[j]? = some e → l'[j]? = some e' → e'.2.sz ≤ e.2.sz + 1) W2 i wr) (fun i _ => upN l.length i)
      case atStart => exact ⟨0, Nat.zero_le _, rfl, fun j h => by omega, Below.refl _ _⟩
      case round =>
        obtain ⟨k, hkl, rfl, hno, hbr⟩ := hrel
        have hTr := hTW.below hbr
        have hBr := hB4.trans (hbr.mono hB4.size)
        have y5 := hTr.y5
        have y7 := hTr.y7
        by_cases hlt : k < l.length
        · obtain ⟨e, he⟩ : ∃ e, l[k]? = some e := ⟨_, List.getElem?_eq_getElem hlt⟩
          have hk' : k < l'.length := Nat.lt_of_lt_of_le hlt HNM.out
          obtain ⟨e', he'⟩ : ∃ e', l'[k]? = some e' := ⟨_, List.getElem?_eq_getElem hk'⟩
          obtain ⟨g1, rfl, d0, d7⟩ := RdF.item hTr.r5 he
          obtain ⟨g2, rfl, f0, f7⟩ := RdF.item hTr.r7 he'
          have hse := hszl k e he
          have gk : (0 : Int) ≤ (k : Int) := by omega
          have gk1 : (k : Int) < (l.length : Int) := by omega
          have gk2 : (k : Int) < (l'.length : Int) := by omega
          have hkb : k < 1099511627776 := by omega
          have HL := hid hlt
          have HNO := hid hno
          have HE1 := hid he
          have HE1' := hid he'
          generalize hz : e.2.sz = z at *
          generalize hz' : e'.2.sz = z' at *
          generalize e.2.k = kk at *
          generalize e'.2.k = kk' at *
          have HZ := hid (And.intro hz hz')
          have gw : IntKind.i64.wrap ((z : Int) + 1) = (z : Int) + 1 := wrap_id _ (by omega) (by omega)
          clear hz hz' hlt hkl hno he he' hszl hk'
          by_cases h1 : (z' : Int) > (z : Int) + 1
          · clear hse
            go_wp2
            go_quiet (fail)
            go_wp2
            go_ret
            exact ⟨rfl, below_drewN hBr _⟩
          · have h1' : z' ≤ z + 1 := by omega
            have HZ1 := hid h1'
            clear h1'
            by_cases h2 : (kk' : Int) = (kk : Int)
            · have g2' : ((kk' : Int) != (kk : Int)) = false := by simp [h2]
              clear h2 hse
              go_wp2
              go_quiet (fail)
              go_wp2
              go_roundw
              case rel =>
                refine ⟨k + 1, HL.out, by go_num, fun j hj x x' hx hx' => ?_, below_drewN hbr _⟩
                rcases Nat.lt_or_ge j k with h | h
                · exact HNO.out j h x x' hx hx'
                · obtain rfl : j = k := by omega
                  rw [HE1.out] at hx
                  rw [HE1'.out] at hx'
                  injection hx with hx
                  injection hx' with hx'
                  rw [← hx, ← hx', HZ.out.1, HZ.out.2]
                  exact HZ1.out
              case measure => have := HL.out; simp [upN, intOf]; omega
            · have g2' : ((kk' : Int) != (kk : Int)) = true := by simpa using h2
              clear h2 hse
              go_wp2
              go_quiet (fail)
              go_wp2
              go_ret
              exact ⟨rfl, below_drewN hBr _⟩
        · obtain rfl : k = l.length := by omega
          have HIN := hid (HQ.out (fun j hj e e' h h' => hno j hj e e' h h'))
          clear HQ hlt hkl hno hszl
          have hTd : Two l l' b5 b7 p1 p2 c1 c2 wr.drew := hTr.below (Below.drew (Below.refl wr.heap.size wr))
          have HC1 := hid (HU1.out wr.drew _ _ (fun k hk => hk) hTd.r5)
          go_wp2
          go_region_held3 (fun w' => w'.cell? ⟨b5, 0, none⟩ = some (.slice p1 l.length c1) ∧ w'.cell? ⟨b7, 0, none⟩ = some (.slice p2 l'.length c2)) (first | go_keep | (with_reducible exact ⟨x5, x7⟩) | (with_reducible exact ⟨v5, v7⟩))
            (first
              | (go_at_call 13; have ff := F2; clear ff F2; refine Calls.mono HC1.out ?_; rintro e w3 ⟨v, rfl, hrow1, hb3⟩; have hT3 := hTd.below hb3; have v5 := hT3.y5; have v7 := hT3.y7; obtain ⟨pu, cu, hv, hits1⟩ := row_read (fun a => by rw [uvC_eq]; rfl) hrow1; subst hv; clear hrow1; have HC2 := hid (HU2.out w3 _ _ (fun k hk => hk) hT3.r7))
              | (go_at_call 13; refine Calls.mono HC2.out ?_; rintro e w4 ⟨v, rfl, hrow2, hb4⟩; have hT4 := hT3.below hb4; have x5 := hT4.y5; have x7 := hT4.y7; obtain ⟨pv, cv, hv, hits2⟩ := row_read (fun a => by rw [uvC_eq]; rfl) hrow2; subst hv; clear hrow2))
          have hW4 := (Below.drew (Below.refl wr.heap.size wr)).trans (hb3.trans (hb4.mono hb3.size))
          have hB5 := hBr.trans (hW4.mono hBr.size)
          clear v5 v7 x5 x7 hT3 hT4 hTd HU1 HU2 HAl HFi HFj HT1 HT2 HE HE2 hTW hTr y5 y7 HJ
          have hin1 : ∀ k u, us[k]? = some u → ∃ j : Nat, vs[j]? = some u := fun k u h => List.mem_iff_getElem?.1 (HIN.out u (List.mem_of_getElem? h))
          have HIN1 := hid hin1
          have hits3 : 0 < us.length → ∃ g, pu = some ⟨g, 0, none⟩ ∧ g < w4.heap.size ∧ FlAt w4 g 3 uvC us := fun h => by
            obtain ⟨g, e1, e2, e3⟩ := hits1 h
            exact ⟨g, e1, Nat.lt_of_lt_of_le e2.2 hb4.size, fun j t hj i u hi => (World.cell?_of_block (a := ⟨g, j * 3 + i, none⟩) (hb4.block g e2.2)).trans (e3 j t hj i u hi)⟩
          clear hin1 HIN hits1 hb3 hb4 hW4
          go_wp2
          go_loopw [89] (fun i wr => RelNU us.length w4 i wr) (fun i _ => upN us.length i)
          case atStart => exact ⟨0, Nat.zero_le _, rfl, Below.refl _ _⟩
          case round =>
            obtain ⟨k, hkl, rfl, hb6⟩ := hrel
            rename World => w6
            have hB6 := hB5.trans (hb6.mono hB5.size)
            by_cases hlt : k < us.length
            · obtain ⟨g, hpg, hg, hF⟩ := hits3 (by omega)
              subst hpg
              obtain ⟨u, hu⟩ : ∃ u, us[k]? = some u := ⟨_, List.getElem?_eq_getElem hlt⟩
              have hcg : ∀ o, w6.cell? ⟨g, o, none⟩ = w4.cell? ⟨g, o, none⟩ := fun o => World.cell?_of_block (a := ⟨g, o, none⟩) (hb6.block g hg)
              have d0 := (hcg (k * 3 + 0)).trans (hF k u hu 0 (.int .i64 (frU u)) rfl)
              have d1 := (hcg (k * 3 + 1)).trans (hF k u hu 1 (.int .i64 (toU u)) rfl)
              have d2 := (hcg (k * 3 + 2)).trans (hF k u hu 2 (.int .i64 u.2.d) rfl)
              rw [Nat.add_zero] at d0
              have gk : (0 : Int) ≤ (k : Int) := by omega
              have gk1 : (k : Int) < (us.length : Int) := by omega
              have hkb : k < 1099511627776 := by omega
              have HL := hid hlt
              have HJ0 := hid (HIN1.out k u hu)
              have hba6 := hb6.alloc hb6.size (.cells #[.int .i64 (frU u), .int .i64 (toU u), .int .i64 u.2.d] 39)
              obtain ⟨q0, q1, q2, _⟩ := three_at (heap_alloc_new w6 (.cells #[.int .i64 (frU u), .int .i64 (toU u), .int .i64 u.2.d] 39))
              have hz6 : (w6.alloc (.cells #[.int .i64 (frU u), .int .i64 (toU u), .int .i64 u.2.d] 39)).heap.size = w6.heap.size + 1 := by simp
              clear hits3 hF hcg hu hlt hkl
              go_wp2
              generalize w6.alloc (.cells #[.int .i64 (frU u), .int .i64 (toU u), .int .i64 u.2.d] 39) = W6 at *
              go_loopw [14, 95] (fun th i wr => RelM3 vs u W6 th i wr) (fun _ i _ => upN vs.length i)
              case atStart => exact ⟨0, false, Nat.zero_le _, rfl, rfl, fun j h => by omega, Below.refl _ _⟩
              case round =>
                obtain ⟨j, b, hjl, rfl, rfl, hnj, hb7⟩ := hrel
                rename World => w7
                have q0 := cell_on hb7 q0
                have q1 := cell_on hb7 q1
                have q2 := cell_on hb7 q2
                have hb47 := hba6.trans (hb7.mono hba6.size)
                by_cases hlj : j < vs.length
                · obtain ⟨g', hpg, hg', hF⟩ := hits2 (by omega)
                  subst hpg
                  obtain ⟨v, hv⟩ : ∃ v, vs[j]? = some v := ⟨_, List.getElem?_eq_getElem hlj⟩
                  have hcg : ∀ o, w7.cell? ⟨g', o, none⟩ = w4.cell? ⟨g', o, none⟩ := fun o => World.cell?_of_block (a := ⟨g', o, none⟩) (hb47.block g' hg'.2)
                  have f0 := (hcg (j * 3 + 0)).trans (hF j v hv 0 (.int .i64 (frU v)) rfl)
                  have f1 := (hcg (j * 3 + 1)).trans (hF j v hv 1 (.int .i64 (toU v)) rfl)
                  have f2 := (hcg (j * 3 + 2)).trans (hF j v hv 2 (.int .i64 v.2.d) rfl)
                  rw [Nat.add_zero] at f0
                  have gj : (0 : Int) ≤ (j : Int) := by omega
                  have gj1 : (j : Int) < (vs.length : Int) := by omega
                  have hjb : j < 1099511627776 := by omega
                  have HLJ := hid hlj
                  have HV := hid hv
                  have HNJ := hid hnj
                  have x0 := cell_alloc q0
                  have x1 := cell_alloc q1
                  have x2 := cell_alloc q2
                  clear hits2 hF hcg hv hlj hjl hnj
                  cases b
                  · have hEQ : v = u → frU u = frU v ∧ toU u = toU v ∧ u.2.d = v.2.d := fun h => by rw [h]; exact ⟨rfl, rfl, rfl⟩
                    generalize frU u = F at *
                    generalize toU u = T at *
                    generalize u.2.d = E at *
                    generalize frU v = F' at *
                    generalize toU v = T' at *
                    generalize v.2.d = E' at *
                    have HEQ := hid hEQ
                    clear hEQ
                    by_cases e1 : F = F'
                    · by_cases e2 : T = T'
                      · by_cases e3 : E = E'
                        · skip
                          subst e1 e2 e3
                          go_wp2
                          go_roundw
                          case rel => exact ⟨j + 1, true, HLJ.out, by go_num, rfl, fun _ _ _ => rfl, hb7.alloc hb7.size _⟩
                          case measure => have := HLJ.out; simp [upN, intOf]; omega
                        · have g3 : (E == E') = false := by simpa using e3
                          subst e1 e2
                          go_wp2
                          go_roundw
                          case rel =>
                            refine ⟨j + 1, false, HLJ.out, by go_num, rfl, fun i hi hx => ?_, hb7.alloc hb7.size _⟩
                            rcases Nat.lt_or_ge i j with h | h
                            · exact HNJ.out i h hx
                            · obtain rfl : i = j := by omega
                              rw [HV.out] at hx
                              injection hx with hx
                              exact absurd (HEQ.out hx) (by simp [e3])
                          case measure => have := HLJ.out; simp [upN, intOf]; omega
                      · have g2 : (T == T') = false := by simpa using e2
                        subst e1
                        go_wp2
                        go_roundw
                        case rel =>
                          refine ⟨j + 1, false, HLJ.out, by go_num, rfl, fun i hi hx => ?_, hb7.alloc hb7.size _⟩
                          rcases Nat.lt_or_ge i j with h | h
                          · exact HNJ.out i h hx
                          · obtain rfl : i = j := by omega
                            rw [HV.out] at hx
                            injection hx with hx
                            exact absurd (HEQ.out hx) (by simp [e2])
                        case measure => have := HLJ.out; simp [upN, intOf]; omega
                    · have g1 : (F == F') = false := by simpa using e1
                      go_wp2
                      go_roundw
                      case rel =>
                        refine ⟨j + 1, false, HLJ.out, by go_num, rfl, fun i hi hx => ?_, hb7.alloc hb7.size _⟩
                        rcases Nat.lt_or_ge i j with h | h
                        · exact HNJ.out i h hx
                        · obtain rfl : i = j := by omega
                          rw [HV.out] at hx
                          injection hx with hx
                          exact absurd (HEQ.out hx) (by simp [e1])
                      case measure => have := HLJ.out; simp [upN, intOf]; omega
                  · go_wp2
                    go_roundw
                    case rel => exact ⟨j + 1, true, HLJ.out, by go_num, rfl, fun _ _ _ => rfl, hb7.alloc hb7.size _⟩
                    case measure => have := HLJ.out; simp [upN, intOf]; omega
                · obtain rfl : j = vs.length := by omega
                  obtain ⟨j0, hj0⟩ := HJ0.out
                  obtain rfl : b = true := hnj j0 (List.getElem?_eq_some_iff.1 hj0).1 hj0
                  clear hlj hjl hnj hj0
                  go_wp2
                  go_roundw
                  case rel => exact ⟨k + 1, HL.out, by go_num, hb47⟩
                  case measure => have := HL.out; simp [upN, intOf]; omega
            · obtain rfl : k = us.length := by omega
              clear hlt hkl
              go_wp2
              go_ret
              exact ⟨rfl, hB6⟩
    · have g2 : ((flE (jn s t) : Int) != 0) = true := by simp; omega
      have g1 : ((flE s : Int) != 0) = false := by rw [hE]; rfl
      generalize flE s = e5 at *
      generalize flE (jn s t) = e6 at *
      go_enter Tryz.func5, Tryz.ntmps5
      go_wp2_with (first
        | (go_at_call 16; refine Calls.mono HAl.out ?_; rintro e w0 ⟨rfl, hb0⟩; have hV0 := hV.below hb0)
        | (go_at_call 7; have ff := F1; clear ff F1; refine Calls.mono (HFi.out _ hV0) ?_; rintro e w1 ⟨p1, m1, c1, rfl, _, hb1⟩; have hba1 := (Below.refl w1.heap.size w1).alloc (Nat.le_refl _) (.cells #[.slice p1 m1 c1] 24); have hV1 := (hV0.below hb1).below hba1)
        | (go_at_call 7; rw [HJ.out]; refine Calls.mono (HFj.out _ hV1) ?_; rintro e w2 ⟨p2, m2, c2, rfl, _, hb2⟩))
      go_ret
      have hB1 := hb0.trans (hb1.mono hb0.size)
      have hB2 := hB1.trans (hba1.mono hB1.size)
      have hB3 := hB2.trans (hb2.mono hB2.size)
      exact ⟨rfl, hB3.alloc hB3.size _⟩
  · have g1 : ((flE s : Int) != 0) = true := by simp; omega
    generalize flE s = e5 at *
    generalize flE (jn s t) = e6 at *
    go_enter Tryz.func5, Tryz.ntmps5
    go_wp2_with (first
      | (go_at_call 16; refine Calls.mono HAl.out ?_; rintro e w0 ⟨rfl, hb0⟩; have hV0 := hV.below hb0)
      | (go_at_call 7; have ff := F1; clear ff F1; refine Calls.mono (HFi.out _ hV0) ?_; rintro e w1 ⟨p1, m1, c1, rfl, _, hb1⟩; have hba1 := (Below.refl w1.heap.size w1).alloc (Nat.le_refl _) (.cells #[.slice p1 m1 c1] 24); have hV1 := (hV0.below hb1).below hba1)
      | (go_at_call 7; rw [HJ.out]; refine Calls.mono (HFj.out _ hV1) ?_; rintro e w2 ⟨p2, m2, c2, rfl, _, hb2⟩))
    go_ret
    have hB1 := hb0.trans (hb1.mono hb0.size)
    have hB2 := hB1.trans (hba1.mono hB1.size)
    have hB3 := hB2.trans (hb2.mono hB2.size)
    exact ⟨rfl, hB3.alloc hB3.size _⟩
end Go.Proofs.YtpmjognfoddiaaaGreatDoor

/- What names mean, and what is wrong with them, is told as the document says: the law NamesTells. -/
import Derived.Test.YtgifjkljpbbegaaGreatDoorZb23
namespace Go.Proofs.YtgifjkljpbbegaaGreatDoor
open Go.RowKit
set_option linter.unusedVariables false
attribute [local go_sem ↓] Go.wp_at_zero Go.wp_at_succ
theorem RdF.size {ok : Nat → Prop} {w : World} {l : List (Int × It)} {p : Option Addr} {m c : Nat} (h : RdF ok w l (.agg #[.slice p m c])) : m = l.length := by
  obtain ⟨q, c', h1, _⟩ := h
  injection h1 with h1
  have h1 : Value.slice p m c = Value.slice q l.length c' := by simpa using h1
  injection h1
theorem fil_wf (s : ByteArray) (hs : s.size ≤ 4000) : ∀ (i : Nat) (p : Int) (it : It), (fil s)[i]? = some (p, it) → ∃ T, WfI T it ∧ T.length ≤ 1000000 := by
  intro i p it h
  obtain ⟨j, _, hj⟩ := fil_mem (List.mem_of_getElem? h)
  injection hj with _ h2
  rw [h2]
  exact ⟨_, itI_wf s j, by have := txI_len s j; omega⟩
/-- A row, read where it was kept. -/
theorem row_slat {α : Type} {c : α → List Value} {us : List α} {w w' : World} {base st : Nat} {TE : TypeId} {v : Value} (hc : ∀ a, (c a).length = st) (hl : us.length ≤ 1099511627776) (h : w.ownsRow base TE st v us.length (us.flatMap c)) (hb : Below w.heap.size w w') : ∃ p cap, v = .slice p us.length cap ∧ SlAt (fun k => k < w.heap.size) w' st c us p := by
  obtain ⟨p, cap, rfl, h2⟩ := row_read hc h
  refine ⟨p, cap, rfl, hl, fun h0 => ?_⟩
  obtain ⟨g, e1, e2, e3⟩ := h2 h0
  exact ⟨g, e1, e2.2, fun j t hj i u hi => (World.cell?_of_block (a := ⟨g, j * st + i, none⟩) (hb.block g e2.2)).trans (e3 j t hj i u hi)⟩
def RelN3 (us : List (Int × Ev)) (at_ : Int) (W : World) (i : Value) (wr : World) : Prop := ∃ k : Nat, k ≤ us.length ∧ i = .int .i64 (k : Int) ∧ (∀ j u, j < k → us[j]? = some u → inU at_ u = false) ∧ Below W.heap.size W wr
theorem atR_hit {us : List (Int × Ev)} {at_ : Int} {u : Int × Ev} {a b d : Int} {o : Bool} (h : us.find? (inU at_) = some u) (hr : atR us at_ = .tuple #[.agg #[.int .i64 a, .int .i64 b, .int .i64 d], .bool o]) : a = frU u ∧ b = toU u ∧ d = u.2.d ∧ o = true := by
  unfold atR at hr
  rw [h] at hr
  simp at hr
  obtain ⟨⟨h1, h2, h3⟩, h4⟩ := hr
  exact ⟨h1.symm, h2.symm, h3.symm, h4⟩
theorem atR_miss {us : List (Int × Ev)} {at_ : Int} {a b d : Int} {o : Bool} (h : us.find? (inU at_) = none) (hr : atR us at_ = .tuple #[.agg #[.int .i64 a, .int .i64 b, .int .i64 d], .bool o]) : a = 0 ∧ b = 0 ∧ d = 0 ∧ o = false := by
  unfold atR at hr
  rw [h] at hr
  simp at hr
  obtain ⟨⟨h1, h2, h3⟩, h4⟩ := hr
  exact ⟨h1.symm, h2.symm, h3.symm, h4⟩
theorem atR_form (us : List (Int × Ev)) (at_ : Int) : ∃ a b d o, atR us at_ = .tuple #[.agg #[.int .i64 a, .int .i64 b, .int .i64 d], .bool o] := by
  unfold atR
  split
  · exact ⟨_, _, _, _, rfl⟩
  · exact ⟨_, _, _, _, rfl⟩
/-- A file at a variable's block. -/
structure OneF (l : List (Int × It)) (b : Nat) (p : Option Addr) (c : Nat) (W : World) : Prop where
  y : W.cell? ⟨b, 0, none⟩ = some (.slice p l.length c)
  r : RdF (fun k => k < W.heap.size) W l (.agg #[.slice p l.length c])
theorem OneF.below {l : List (Int × It)} {b : Nat} {p : Option Addr} {c : Nat} {W W' : World} (h : OneF l b p c W) (hb : Below W.heap.size W W') : OneF l b p c W' := ⟨cell_on hb h.y, RdF.kept h.r (fun k hk => hb.block k hk) (fun _ hk => Nat.lt_of_lt_of_le hk hb.size)⟩
set_option maxHeartbeats 8000000 in
set_option maxRecDepth 100000 in
theorem ntells_walk (s : ByteArray) (kd : Int) (nm : ByteArray) (at_ : Int) (w : World) (hV : VarAt w) : Calls Tryz.prog 3 #[.string s, .int .i64 kd, .string nm, .int .i64 at_] w fun e w' => e = .returned (.bool true) ∧ Below w.heap.size w w' := by
  have HFi := hid (File_any s w hV)
  have hE5 := flE_le5 s
  by_cases hE : flE s = 0
  · have hs4 := (flE_small hE).1
    have HWf := hid (fil_wf s hs4)
    have HSd := hid (fil_sends s)
    have HN := hid (fil_n s hE)
    have HMm := hid (fil_m s hE)
    have HE := hid hE
    have hE0 : ((flE s : Nat) : Int) = 0 := by rw [hE]; rfl
    have HE0 := hid hE0
    have hlen := flE_small hE
    rw [← fil_len] at hlen
    have hl30 := hlen.2
    clear hE hE0 hE5 hs4 hlen
    go_enter Tryz.func3, Tryz.ntmps3
    go_wp2_with (first
      | (go_at_call 9; refine Calls.mono HFi.out ?_; rintro e w1 ⟨p, m, c, rfl, hft, hb1⟩; rw [HE0.out]; have hR1 := hft.1 HE.out; clear hft; have hm := RdF.size hR1; subst hm))
    generalize fil s = l at *
    have hba := (Below.refl w1.heap.size w1).alloc (Nat.le_refl _) (.cells #[.slice p l.length c] 24)
    have hB1 := hb1.trans (hba.mono hb1.size)
    have hO : OneF l w1.heap.size p c (w1.alloc (.cells #[.slice p l.length c] 24)) := ⟨cell_of_row _ _ 0 _ _ _ (heap_alloc_new w1 _), RdF.kept hR1 (fun k hk => hba.block k hk.2) (fun k hk => Nat.lt_of_lt_of_le hk.2 hba.size)⟩
    clear hR1 hba hb1 HFi HE HE0
    generalize w1.alloc (.cells #[.slice p l.length c] 24) = W2 at *
    generalize w1.heap.size = b9 at *
    generalize hfd : fnd l kd nm = fd
    have HFd := hid hfd
    clear hfd
    have hOd : OneF l b9 p c W2.drew := hO.below (Below.drew (Below.refl W2.heap.size W2))
    have HC1 := hid (Find_any l _ kd nm W2.drew _ (fun k hk => hk) hOd.r)
    have y9 := hO.y
    go_region_held3 (fun w' => w'.cell? ⟨b9, 0, none⟩ = some (.slice p l.length c)) (first | go_keep | (with_reducible exact v9) | (with_reducible exact x9))
      (first
        | (go_at_call 10; refine Calls.mono HC1.out ?_; rintro e w3 ⟨rfl, hb3⟩; rw [HFd.out]; have hO3 := hOd.below hb3; have v9 := hO3.y; have HC2 := hid (rn_find l _ kd nm w3 _ (fun k hk => hk) hO3.r))
        | (go_at_call 11; refine Calls.mono HC2.out ?_; rintro e w4 ⟨rfl, hb4⟩; rw [HFd.out]; have hO4 := hO3.below hb4; have x9 := hO4.y))
    have hW4 := (Below.drew (Below.refl W2.heap.size W2)).trans (hb3.trans (hb4.mono hb3.size))
    have hB4 := hB1.trans (hW4.mono hB1.size)
    clear v9 y9 hO3 hOd hO hb3 hb4 hW4 hB1 HFd
    go_wp2
    go_loopw [38] (fun i wr => RelNU l.length w4 i wr) (fun i _ => upN l.length i)
    case atStart => exact ⟨0, Nat.zero_le _, rfl, Below.refl _ _⟩
    case round =>
      obtain ⟨k, hkl, rfl, hbr⟩ := hrel
      have hOr := hO4.below hbr
      have y9 := hOr.y
      have hBr := hB4.trans (hbr.mono hB4.size)
      have hOd : OneF l b9 p c wr.drew := hOr.below (Below.drew (Below.refl wr.heap.size wr))
      clear x9
      by_cases hlt : k < l.length
      · obtain ⟨e0, he0⟩ : ∃ e, l[k]? = some e := ⟨_, List.getElem?_eq_getElem hlt⟩
        obtain ⟨pp, it⟩ := e0
        obtain ⟨T, hT1, hT2⟩ := HWf.out k pp it he0
        have HC1 := hid (Diags_any l _ wr.drew _ (fun k hk => hk) hOd.r k hlt HSd.out (HN.out k hlt))
        have HCL := hid (fun (W : World) (h : OneF l b9 p c W) => rn_look l p c W _ (fun k hk => hk) h.r k pp it he0 T hT1 hT2 (HN.out k hlt))
        have hnl : (noL (evI l k)).length ≤ 1099511627776 := Nat.le_trans (noL_le _) (Nat.le_of_lt (HN.out k hlt))
        generalize hev : noL (evI l k) = ev at *
        have HEV := hid hev
        have HNL := hid hnl
        have HL := hid hlt
        have gk : (0 : Int) ≤ (k : Int) := by omega
        have gk1 : (k : Int) < (l.length : Int) := by omega
        clear hT1 hT2 he0 hlt hkl hev hnl
        go_wp2
        go_region_with
          (first
            | (go_at_call 13; refine Calls.mono HC1.out ?_; rintro e w5 ⟨v1, rfl, hrow1, hb5⟩; have hO5 := hOd.below hb5; have v9 := hO5.y; have HC2 := hid (HCL.out w5 hO5))
            | (go_at_call 14; refine Calls.mono HC2.out ?_; rintro e w6 ⟨rfl, ⟨D, U, hRS⟩, hb6⟩; have hO6 := hO5.below hb6; have x9 := hO6.y; obtain ⟨vd, vu, q1, q2, _⟩ := hRS.blk; rw [HEV.out] at q2; have c2 : w6.cell? ⟨w5.heap.size + 1, 2, none⟩ = some vd := cell_of_row _ _ 2 _ _ _ q1; obtain ⟨p1, cc1, hv1, hS1⟩ := row_slat (fun a => by rfl) HNL.out hrow1 hb6; obtain ⟨p2, cc2, hv2, hS2⟩ := row_slat (fun a => by rfl) HNL.out q2 (Below.refl _ _); subst hv1; subst hv2; have HC3 := hid (sameDv_any ev p1 p2 cc1 cc2 _ _ w6 hS1 hS2); clear hrow1 q1 q2 hS1 hS2 hRS)
            | (go_at_call 12; refine Calls.mono HC3.out ?_; rintro e w7 ⟨rfl, m7, hw7⟩; subst hw7; have t9 := (hO6.below (below_drewN (Below.refl w6.heap.size w6) m7)).y))
        all_goals (go_wp2; go_roundw)
        all_goals (first
          | (simp [upN, intOf]; have := HL.out; omega)
          | (exact ⟨k + 1, HL.out, by go_num, hbr.trans ((below_drewN ((Below.drew (Below.refl wr.heap.size wr)).trans (hb5.trans (hb6.mono hb5.size))) m7).mono hbr.size)⟩))
      · obtain rfl : k = l.length := by omega
        clear hlt hkl
        have hlu := HMm.out l.length (Nat.le_refl _)
        have HC1 := hid (Uses_any l _ wr.drew _ (fun k hk => hk) hOd.r HSd.out HN.out HMm.out)
        have HCU := hid (fun (W : World) (h : OneF l b9 p c W) => rn_uses l p c W _ (fun k hk => hk) h.r HWf.out HN.out HMm.out)
        have HCA := hid (fun (W : World) (h : OneF l b9 p c W) => At_any l _ W _ (fun k hk => hk) h.r HSd.out HN.out HMm.out at_)
        generalize usE l l.length = us at *
        obtain ⟨ra, rb, rd, ro, hra⟩ := atR_form us at_
        rw [hra] at HCA
        have HRA := hid hra
        clear hra HWf HN HMm HSd
        go_wp2
        go_region_held3 (fun w' => w'.cell? ⟨b9, 0, none⟩ = some (.slice p l.length c)) (first | go_keep | (with_reducible exact v9) | (with_reducible exact x9))
          (first
            | (go_at_call 15; refine Calls.mono HC1.out ?_; rintro e w5 ⟨va, rfl, hrow1, hb5⟩; have hO5 := hOd.below hb5; have v9 := hO5.y; have HC2 := hid (HCU.out w5 hO5))
            | (go_at_call 16; refine Calls.mono HC2.out ?_; rintro e w6 ⟨vb, rfl, hrow2, hb6⟩; have hO6 := hO5.below hb6; have x9 := hO6.y; obtain ⟨p1, cc1, hv1, hS1⟩ := row_slat (fun a => by rw [uvC_eq]; rfl) hlu hrow1 hb6; obtain ⟨p2, cc2, hv2, hS2⟩ := row_slat (fun a => by rw [uvC_eq]; rfl) hlu hrow2 (Below.refl _ _); subst hv1; subst hv2; clear hrow1 hrow2))
        have hW6 := (Below.drew (Below.refl wr.heap.size wr)).trans (hb5.trans (hb6.mono hb5.size))
        have hB6 := hBr.trans (hW6.mono hBr.size)
        have hS1 : SlAt (fun k => k < w6.heap.size) w6 3 uvC us p1 := hS1.wide (fun k hk => Nat.lt_of_lt_of_le hk hb6.size)
        clear v9 x9 y9 hO5 hOd hOr hO4 hb5 hb6 hW6 hBr hB4 hbr
        go_wp2
        go_loopw [64] (fun i wr => RelNU us.length w6 i wr) (fun i _ => upN us.length i)
        case atStart => exact ⟨0, Nat.zero_le _, rfl, Below.refl _ _⟩
        case round =>
          obtain ⟨k, hkl, rfl, hb7⟩ := hrel
          rename World => w7
          have hO7 := hO6.below hb7
          have y9 := hO7.y
          have hB7 := hB6.trans (hb7.mono hB6.size)
          by_cases hlt : k < us.length
          · obtain ⟨g1, rfl, hg1, hF1⟩ := hS1.2 (by omega)
            obtain ⟨g2, rfl, hg2, hF2⟩ := hS2.2 (by omega)
            obtain ⟨u, hu⟩ : ∃ u, us[k]? = some u := ⟨_, List.getElem?_eq_getElem hlt⟩
            have hc1 : ∀ o, w7.cell? ⟨g1, o, none⟩ = w6.cell? ⟨g1, o, none⟩ := fun o => World.cell?_of_block (a := ⟨g1, o, none⟩) (hb7.block g1 hg1)
            have hc2 : ∀ o, w7.cell? ⟨g2, o, none⟩ = w6.cell? ⟨g2, o, none⟩ := fun o => World.cell?_of_block (a := ⟨g2, o, none⟩) (hb7.block g2 hg2)
            have d0 := (hc1 (k * 3 + 0)).trans (hF1 k u hu 0 (.int .i64 (frU u)) rfl)
            have d1 := (hc1 (k * 3 + 1)).trans (hF1 k u hu 1 (.int .i64 (toU u)) rfl)
            have d2 := (hc1 (k * 3 + 2)).trans (hF1 k u hu 2 (.int .i64 u.2.d) rfl)
            have f0 := (hc2 (k * 3 + 0)).trans (hF2 k u hu 0 (.int .i64 (frU u)) rfl)
            have f1 := (hc2 (k * 3 + 1)).trans (hF2 k u hu 1 (.int .i64 (toU u)) rfl)
            have f2 := (hc2 (k * 3 + 2)).trans (hF2 k u hu 2 (.int .i64 u.2.d) rfl)
            rw [Nat.add_zero] at d0 f0
            have gk : (0 : Int) ≤ (k : Int) := by omega
            have gk1 : (k : Int) < (us.length : Int) := by omega
            have hkb : k < 1099511627776 := by omega
            have HL := hid hlt
            generalize frU u = F0 at *
            generalize toU u = T0 at *
            generalize u.2.d = D0 at *
            clear hF1 hF2 hc1 hc2 hu hlt hkl y9
            go_wp2
            go_quiet (fail)
            go_wp2
            go_roundw
            case rel => exact ⟨k + 1, HL.out, by go_num, below_drewN hb7 _⟩
            case measure => have := HL.out; simp [upN, intOf]; omega
          · obtain rfl : k = us.length := by omega
            have HC3 := hid (HCA.out w7 hO7)
            have hS3 : SlAt (fun k => k < w7.heap.size) w7 3 uvC us p2 := (hS2.kept (fun k hk => hb7.block k hk)).wide (fun k hk => Nat.lt_of_lt_of_le hk hb7.size)
            clear hlt hkl hS1 hS2 HCU HC1 HC2
            go_wp2_with (first
              | (go_at_call 17; refine Calls.mono HC3.out ?_; rintro e w8 ⟨rfl, hb8⟩))
            have hba := (Below.refl w8.heap.size w8).alloc (Nat.le_refl _) (.cells #[.int .i64 ra, .int .i64 rb, .int .i64 rd] 39)
            have hnw := heap_alloc_new w8 (.cells #[.int .i64 ra, .int .i64 rb, .int .i64 rd] 39)
            have hsz8 : w8.heap.size < (w8.alloc (.cells #[.int .i64 ra, .int .i64 rb, .int .i64 rd] 39)).heap.size := by simp
            have hB8 := hB7.trans (hb8.mono hB7.size)
            have hB9 := hB8.trans (hba.mono hB8.size)
            have hS4 : SlAt (fun k => k < (w8.alloc (.cells #[.int .i64 ra, .int .i64 rb, .int .i64 rd] 39)).heap.size) (w8.alloc (.cells #[.int .i64 ra, .int .i64 rb, .int .i64 rd] 39)) 3 uvC us p2 := (hS3.kept (fun k hk => (hba.block k (Nat.lt_of_lt_of_le hk hb8.size)).trans (hb8.block k hk))).wide (fun k hk => Nat.lt_of_lt_of_le hk (Nat.le_trans hb8.size hba.size))
            clear hS3 hba hB8 hB7 hb8 hb7 hO7 hO6 hB6 y9
            generalize w8.alloc (.cells #[.int .i64 ra, .int .i64 rb, .int .i64 rd] 39) = W9 at *
            generalize w8.heap.size = bu at *
            go_loopw [85] (fun i wr => RelN3 us at_ W9 i wr) (fun i _ => upN us.length i)
            case atStart => exact ⟨0, Nat.zero_le _, rfl, fun j u h => by omega, Below.refl _ _⟩
            case round =>
              obtain ⟨k, hkl, rfl, hno, hbx⟩ := hrel
              rename World => wx
              have hBx := hB9.trans (hbx.mono hB9.size)
              obtain ⟨m0, m1, m2, _⟩ := three_at ((hbx.block bu hsz8).trans hnw)
              by_cases hlt : k < us.length
              · obtain ⟨g2, rfl, hg2, hF2⟩ := hS4.2 (by omega)
                obtain ⟨u, hu⟩ : ∃ u, us[k]? = some u := ⟨_, List.getElem?_eq_getElem hlt⟩
                have hc2 : ∀ o, wx.cell? ⟨g2, o, none⟩ = W9.cell? ⟨g2, o, none⟩ := fun o => World.cell?_of_block (a := ⟨g2, o, none⟩) (hbx.block g2 hg2)
                have f0 := (hc2 (k * 3 + 0)).trans (hF2 k u hu 0 (.int .i64 (frU u)) rfl)
                have f1 := (hc2 (k * 3 + 1)).trans (hF2 k u hu 1 (.int .i64 (toU u)) rfl)
                have f2 := (hc2 (k * 3 + 2)).trans (hF2 k u hu 2 (.int .i64 u.2.d) rfl)
                rw [Nat.add_zero] at f0
                have gk : (0 : Int) ≤ (k : Int) := by omega
                have gk1 : (k : Int) < (us.length : Int) := by omega
                have hkb : k < 1099511627776 := by omega
                have HL := hid hlt
                have HE := hid hu
                have HNO := hid hno
                have hinU : inU at_ u = (decide (frU u ≤ at_) && decide (at_ < toU u)) := rfl
                have n0 := cell_alloc m0
                have n1 := cell_alloc m1
                have n2 := cell_alloc m2
                clear hF2 hc2 hu hno hlt hkl m0 m1 m2
                by_cases h1 : frU u ≤ at_
                · by_cases h2 : at_ < toU u
                  · have hit : inU at_ u = true := by rw [hinU]; simp [h1, h2]
                    obtain ⟨ea, eb, ed, eo⟩ := atR_hit (find_hit HNO.out HE.out hit) HRA.out
                    subst ea eb ed eo
                    generalize frU u = F0 at *
                    generalize toU u = T0 at *
                    generalize u.2.d = D0 at *
                    clear hit hinU
                    go_wp2
                    go_ret
                    exact ⟨rfl, hBx.alloc hBx.size _⟩
                  · have hit : inU at_ u = false := by rw [hinU]; simp [h2]
                    have HIT := hid hit
                    generalize frU u = F0 at *
                    generalize toU u = T0 at *
                    generalize u.2.d = D0 at *
                    clear hit hinU
                    go_wp2
                    go_roundw
                    case rel =>
                      refine ⟨k + 1, HL.out, by go_num, fun j f hj hf => ?_, hbx.alloc hbx.size _⟩
                      rcases Nat.lt_or_ge j k with h | h
                      · exact HNO.out j f h hf
                      · obtain rfl : j = k := by omega
                        rw [HE.out] at hf
                        injection hf with hf
                        rw [← hf]
                        exact HIT.out
                    case measure => have := HL.out; simp [upN, intOf]; omega
                · have hit : inU at_ u = false := by rw [hinU]; simp [h1]
                  have HIT := hid hit
                  generalize frU u = F0 at *
                  generalize toU u = T0 at *
                  generalize u.2.d = D0 at *
                  clear hit hinU
                  go_wp2
                  go_roundw
                  case rel =>
                    refine ⟨k + 1, HL.out, by go_num, fun j f hj hf => ?_, hbx.alloc hbx.size _⟩
                    rcases Nat.lt_or_ge j k with h | h
                    · exact HNO.out j f h hf
                    · obtain rfl : j = k := by omega
                      rw [HE.out] at hf
                      injection hf with hf
                      rw [← hf]
                      exact HIT.out
                  case measure => have := HL.out; simp [upN, intOf]; omega
              · obtain rfl : k = us.length := by omega
                obtain ⟨ea, eb, ed, eo⟩ := atR_miss (find_miss hno) HRA.out
                subst ea eb ed eo
                clear hlt hkl hno
                go_wp2
                go_ret
                exact ⟨rfl, hBx⟩
  · have g : ((flE s : Int) != 0) = true := by simp; omega
    generalize flE s = e5 at *
    go_enter Tryz.func3, Tryz.ntmps3
    go_wp2_with (first
      | (go_at_call 9; refine Calls.mono HFi.out ?_; rintro e w1 ⟨p, m, c, rfl, _, hb1⟩))
    go_ret
    exact ⟨rfl, hb1.alloc hb1.size _⟩
end Go.Proofs.YtgifjkljpbbegaaGreatDoor

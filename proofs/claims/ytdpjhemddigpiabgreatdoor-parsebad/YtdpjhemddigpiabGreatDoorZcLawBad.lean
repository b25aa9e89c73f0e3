/- What is no token is told: the law ParseBad. -/
import Derived.Test.YtdpjhemddigpiabGreatDoorZcLawWhole
namespace Go.Proofs.YtdpjhemddigpiabGreatDoor
open Go.RowKit
attribute [local go_sem ↓] Go.wp_at_zero Go.wp_at_succ
theorem refTok_read (s : ByteArray) (w : World) (hs : s.size ≤ 1099511627776) :
    Calls Tryz.prog 19 #[.string s] w fun e w' => ∃ p cap, e = .returned (.slice p (tks s).length cap) ∧ (0 < (tks s).length → ∃ g, p = some ⟨g, 0, none⟩ ∧ g < w'.heap.size ∧ TokAt w' g 0 (tks s)) ∧ Below w.heap.size w w' := by
  refine (refTokens_any s w hs).mono ?_
  rintro e w' ⟨v, rfl, hown, hb⟩
  by_cases hn : 0 < (tks s).length
  · obtain ⟨g, cap, rfl, h1, h2, h3, h4⟩ := own_toks hown hn
    exact ⟨_, cap, rfl, fun _ => ⟨g, rfl, h2, h4⟩, hb⟩
  · obtain ⟨p, cap, rfl⟩ := own_len hown
    exact ⟨p, cap, rfl, fun h => absurd h hn, hb⟩
theorem itField9 (u0 u1 u2 u3 u4 u5 u6 u7 u8 u9 : Value) (w : World) : (Instr.field 36 (.agg #[u0, u1, u2, u3, u4, u5, u6, u7, u8, u9]) 9).run Tryz.prog w = .ok u9 w := by kernel_rfl
set_option maxHeartbeats 2000000 in
set_option maxRecDepth 100000 in
theorem bad_walk (s : ByteArray) (n : Int) (w : World) (hV : VarAt w) : Calls Tryz.prog 7 #[.string s, .int .i64 n] w fun e w' => e = .returned (.bool true) ∧ Below w.heap.size w w' := by
  go_enter Tryz.func7, Tryz.ntmps7
  by_cases h4 : (s.size : Int) > 4000
  · go_wp2_with (first
      | (go_at_call 17; refine (alive3 _ hV).mono ?_; rintro e w0 ⟨rfl, hb0⟩))
    go_ret
    exact ⟨rfl, hb0⟩
  · have hs : s.size ≤ 4000 := by omega
    have HG : Hid ((itm s).ds.length = 0 → ∀ t ∈ tks s, t.k ≠ 4) := fun h => itm_good s (List.length_eq_zero_iff.1 h)
    have HS : Hid ((itm s).ds.length = 0 → ∀ (m : Nat) (t : Tok), (tks s)[m]? = some t → 0 < (itm (s.extract 0 t.a)).ds.length) := fun h m t ht => List.length_pos_iff.2 (itm_short s m t (List.length_eq_zero_iff.1 h) ht)
    have htl := tks_len s
    have hI5 : ∀ w', VarAt w' → Calls Tryz.prog 12 #[.string s, .int .i64 0] w' fun e w'' => ∃ v, e = .returned v ∧ RdI (fun j => w'.heap.size ≤ j ∧ j < w''.heap.size) w'' 0 (itm s) v ∧ Below w'.heap.size w' w'' := fun w' hv => citem s 0 w' (by omega) hv
    obtain ⟨it, hit⟩ : ∃ x, x = itm s := ⟨_, rfl⟩
    rw [← hit] at HG HS hI5
    clear hit
    go_wp2_with (first
      | (go_at_call 17; refine (alive3 _ hV).mono ?_; rintro e w0 ⟨rfl, hb0⟩; have hV0 := hV.below hb0)
      | (go_at_call 12; refine (hI5 _ hV0).mono ?_; rintro e w1 ⟨v, rfl, hR1, hb1⟩; obtain ⟨p1, c1, p2, c2, p3, c3, p4, c4, hv, _⟩ := hR1; subst hv; have hba := (Below.refl w1.heap.size w1).alloc (Nat.le_refl _) (.cells #[.int .i64 (it.k : Int), .string it.x, .int .i64 (it.l : Int), .slice p1 it.ps.length c1, .slice p2 it.ss.length c2, .slice p3 it.bd.length c3, .int .i64 0, .int .i64 (it.sz : Int), .int .i64 (it.mrk : Int), .slice p4 it.ds.length c4] 36); obtain ⟨_, _, _, _, _, _, _, _, _, y9, _⟩ := ten_at (heap_alloc_new w1 (.cells #[.int .i64 (it.k : Int), .string it.x, .int .i64 (it.l : Int), .slice p1 it.ps.length c1, .slice p2 it.ss.length c2, .slice p3 it.bd.length c3, .int .i64 0, .int .i64 (it.sz : Int), .int .i64 (it.mrk : Int), .slice p4 it.ds.length c4] 36)))
      | (go_at_call 19; refine (refTok_read s _ (by omega)).mono ?_; rintro e w2 ⟨pt, ct, rfl, htok, hb2⟩; have z9 := cell_on hb2 y9; clear y9))
    have hb01 := hb0.trans (hb1.mono hb0.size)
    have hb02 := hb01.trans (hba.mono hb01.size)
    have hbw := hb02.trans (hb2.mono hb02.size)
    go_loopw [19] (fun i wr => RelC2 (tks s).length w2 i wr) (fun i _ => upN (tks s).length i)
    case atStart => exact ⟨0, Nat.zero_le _, rfl, Below.refl _ _⟩
    case round =>
      obtain ⟨k, hk, rfl, hbr⟩ := hrel
      have r9 := cell_on hbr z9
      by_cases hlt : k < (tks s).length
      · obtain ⟨g, hpg, hg, htk⟩ := htok (by omega)
        subst hpg
        obtain ⟨t, ht⟩ : ∃ t, (tks s)[k]? = some t := ⟨_, List.getElem?_eq_getElem hlt⟩
        have ⟨t0, t1, t2⟩ := htk.below hbr hg k t ht
        rw [Nat.zero_add] at t0 t1 t2
        have gk : (0 : Int) ≤ (k : Int) := by omega
        have gk1 : (k : Int) < ((tks s).length : Int) := by omega
        have HL : Hid (k < (tks s).length) := hlt
        have q9 := cell_alloc r9
        have hno : t.k = 4 → it.ds.length ≠ 0 := fun e h => HG.out h t (List.mem_of_getElem? ht) e
        clear htok htk ht hlt hk
        by_cases h44 : t.k = 4
        · have g4 : ((t.k : Int) == 4) = true := by rw [h44]; rfl
          have g5 : ((it.ds.length : Int) == 0) = false := by have := hno h44; simp; intro h; exact this (by rw [h]; rfl)
          clear h44 hno
          go_wp2
          go_roundw
          case rel => exact ⟨k + 1, by have := HL.out; omega, by go_num, hbr.alloc hbr.size _⟩
          case measure => have := HL.out; simp [upN, intOf]; omega
        · have g4 : ((t.k : Int) == 4) = false := by simp; omega
          clear h44 hno
          go_wp2
          go_roundw
          case rel => exact ⟨k + 1, by have := HL.out; omega, by go_num, hbr.alloc hbr.size _⟩
          case measure => have := HL.out; simp [upN, intOf]; omega
      · obtain rfl : k = (tks s).length := by omega
        have hB := hbw.trans (hbr.mono hbw.size)
        clear hlt hk
        by_cases hd : 0 < it.ds.length
        · have g1 : (it.ds.length : Int) > 0 := by omega
          go_wp2_with (first
            | (go_at_call 19; refine (refTok_read s _ (by omega)).mono ?_; rintro e w6 ⟨p6, c6, rfl, _, hb6⟩; have z6 := cell_on hb6 r9))
          go_ret
          exact ⟨rfl, hB.trans (hb6.mono hB.size)⟩
        · have g1 : ¬ (it.ds.length : Int) > 0 := by omega
          have hd0 : it.ds.length = 0 := by omega
          by_cases hn0 : n < 0
          · go_wp2_with (first
              | (go_at_call 19; refine (refTok_read s _ (by omega)).mono ?_; rintro e w6 ⟨p6, c6, rfl, _, hb6⟩; have z6 := cell_on hb6 r9))
            go_ret
            exact ⟨rfl, hB.trans (hb6.mono hB.size)⟩
          · obtain ⟨m, rfl⟩ : ∃ m : Nat, n = (m : Int) := ⟨n.toNat, by omega⟩
            by_cases hm : m < (tks s).length
            · obtain ⟨t, ht⟩ : ∃ t, (tks s)[m]? = some t := ⟨_, List.getElem?_eq_getElem hm⟩
              have hpos := HS.out hd0 m t ht
              have hta := tks_in s t (List.mem_of_getElem? ht)
              have hI6 : ∀ w', VarAt w' → Calls Tryz.prog 12 #[.string (s.extract 0 t.a), .int .i64 0] w' fun e w'' => ∃ v, e = .returned v ∧ RdI (fun j => w'.heap.size ≤ j ∧ j < w''.heap.size) w'' 0 (itm (s.extract 0 t.a)) v ∧ Below w'.heap.size w' w'' := fun w' hv => citem _ 0 w' (by rw [ext_size' _ _ _ (by omega)]; omega) hv
              obtain ⟨it2, hit2⟩ : ∃ x, x = itm (s.extract 0 t.a) := ⟨_, rfl⟩
              rw [← hit2] at hpos hI6
              clear hit2
              have hV1 : VarAt wr := ((hV0.below hb1).below hba |>.below hb2).below hbr
              have gm : (0 : Int) ≤ (m : Int) := by omega
              have gm1 : (m : Int) < ((tks s).length : Int) := by omega
              have gm2 : ¬ (m : Int) ≥ ((tks s).length : Int) := by omega
              have ga : (0 : Int) ≤ (t.a : Int) := by omega
              have ga1 : (t.a : Int) ≤ (s.size : Int) := by omega
              have gp : (it2.ds.length : Int) > 0 := by omega
              have HT : Hid ((tks s)[m]? = some t) := ht
              have HM : Hid (m < (tks s).length) := hm
              clear ht hm hta
              go_wp2_with (first
                | (go_at_call 19; refine (refTok_read s _ (by omega)).mono ?_; rintro e w6 ⟨p6, c6, rfl, htok6, hb6⟩; have z6 := cell_on hb6 r9; obtain ⟨g6, hp6, hg6, htk6⟩ := htok6 (by have := HM.out; omega); subst hp6; have ⟨t0, t1, t2⟩ := htk6 m t HT.out; rw [Nat.zero_add] at t0 t1 t2; have hV6 := hV1.below hb6; clear htk6 htok6)
                | (go_at_call 12; refine (hI6 _ hV6).mono ?_; rintro e w7 ⟨v, rfl, hR7, hb7⟩; obtain ⟨q1, b1, q2, b2, q3, b3, q4, b4, hv, _⟩ := hR7; subst hv; have hfd := fun w2 => itField9 (.int .i64 (it2.k : Int)) (.string it2.x) (.int .i64 (it2.l : Int)) (.slice q1 it2.ps.length b1) (.slice q2 it2.ss.length b2) (.slice q3 it2.bd.length b3) (.int .i64 0) (.int .i64 (it2.sz : Int)) (.int .i64 (it2.mrk : Int)) (.slice q4 it2.ds.length b4) w2))
              go_ret
              exact ⟨rfl, (hB.trans (hb6.mono hB.size)).trans (hb7.mono (hB.trans (hb6.mono hB.size)).size)⟩
            · have gm2 : (m : Int) ≥ ((tks s).length : Int) := by omega
              go_wp2_with (first
                | (go_at_call 19; refine (refTok_read s _ (by omega)).mono ?_; rintro e w6 ⟨p6, c6, rfl, _, hb6⟩; have z6 := cell_on hb6 r9))
              go_ret
              exact ⟨rfl, hB.trans (hb6.mono hB.size)⟩
end Go.Proofs.YtdpjhemddigpiabGreatDoor

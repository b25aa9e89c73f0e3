/- The document's bytes as questions. -/
import Derived.Test.YtbkihppmikjcoaaDoorFrUnm
namespace Go.Proofs.YtbkihppmikjcoaaDoor
open Go.RowKit
set_option linter.unusedVariables false
attribute [local go_sem ↓] Go.wp_at_zero Go.wp_at_succ
set_option maxHeartbeats 4000000 in
set_option maxRecDepth 100000 in
theorem unframe_any (w : World) (hL : Lw w) (v : Value) (B : List UInt8) (hv : BytIn w v B) (hbig : B.length ≤ 100000000) (hB0 : B ≠ []) :
    Calls Tryd.prog 11 #[v] w fun ex w' => ∃ r e k, ex = .returned (.tuple #[r, faV e k]) ∧ Below w.heap.size w w' ∧ ParseB w.heap.size (pr B) r e k w' := by
  obtain ⟨p, c, rfl, hcap, _, hp⟩ := hv
  have hmf : ∀ (fn : Go.Fn) (first cap : Array Value) (w : World), (Instr.makeFunc fn first cap).run Tryd.prog w = .ok (.func fn first cap) w := fun _ _ _ _ => rfl
  obtain ⟨g, o, rfl, hgl, hbyt⟩ := hp (List.length_pos_iff.2 hB0)
  obtain ⟨X, hX⟩ : ∃ X, pr B = X := ⟨_, rfl⟩
  rw [hX]
  have h3 := hL.low
  have HX0 : Hid (X = preP [] 0 (pr (B.drop 0))) := by
    show _ = _
    rw [List.drop_zero, hX]
    cases X with
    | inl m => rfl
    | inr p => simp [preP]
  have hb1 := ((Below.refl w.heap.size w).alloc (Nat.le_refl _) (.cells #[.int .i64 0, .int .i64 0] 30)).alloc (by simp) (.cells #[.int .i64 0] 3)
  have hn0 := (Below.heap_alloc (w.alloc (.cells #[.int .i64 0, .int .i64 0] 30)) (.cells #[.int .i64 0] 3) w.heap.size (by simp)).trans (heap_alloc_new w _)
  have hn1 := heap_alloc_new (w.alloc (.cells #[.int .i64 0, .int .i64 0] 30)) (.cells #[.int .i64 0] 3)
  rw [show (w.alloc (.cells #[.int .i64 0, .int .i64 0] 30)).heap.size = w.heap.size + 1 by simp] at hn1
  have HB := hid hb1
  have HN0 := hid hn0
  have HN1 := hid hn1
  have HBy := hid hbyt
  clear hb1 hn0 hn1 hX hbyt hp
  go_enter Tryd.func11, Tryd.ntmps11
  go_wp2
  go_loopw [4, 5] (fun v pt wr => RelUn w.heap.size g o c B w X v pt wr) (fun _ pt wr => match pt with | .pointer (some ad) => (match wr.cell? ad with | some (.int _ n) => B.length - n.toNat | _ => 0) | _ => 0)
  case atStart => exact ⟨[], 0, w.heap.size + 1, Nat.zero_le _, Nat.le_refl _, rfl, by omega, HN1.out, ⟨World.ownsRow_nil _ _ _ _, fun p hp => by cases hp⟩, HB.out, HN0.out, HX0.out⟩
  case round =>
    obtain ⟨L, a, bp, hal, hLa, rfl, hnb, hbp, hO, hB1, hF, hX1⟩ := hrel
    have c0 : wr.cell? ⟨bp, 0, none⟩ = some (.int .i64 (a : Int)) := cell_of_row _ _ 0 _ _ _ hbp
    by_cases hlt : a < B.length
    · have HO := hid hO
      have HB1 := hid hB1
      have HF := hid hF
      have HX1 := hid hX1
      have HLt := hid hlt
      have HLa := hid hLa
      have HBP := hid hbp
      have ca := cell_alloc c0
      have hR0 : rl 6 (B.drop a) = mapL [] (rl (6 - 0) (B.drop a)) := by
        rw [Nat.sub_zero]
        cases rl 6 (B.drop a) with
        | none => rfl
        | some p => rfl
      obtain ⟨R, hR⟩ : ∃ R, R = rl 6 (B.drop a) := ⟨_, rfl⟩
      have HR := hid hR
      have HR0 : Hid (R = mapL [] (rl (6 - 0) (B.drop a))) := hR.trans hR0
      have hba := (Below.refl wr.heap.size wr).alloc (Nat.le_refl _) (.cells #[.int .i64 0, .int .i64 0, .int .i64 0, .int .i64 0, .int .i64 0, .int .i64 0] 46)
      have HA0 := hid (heap_alloc_new wr (.cells #[.int .i64 0, .int .i64 0, .int .i64 0, .int .i64 0, .int .i64 0, .int .i64 0] 46))
      have HO1 := hid (HO.out.kept hba)
      have HBW := hid (HB1.out.trans (hba.mono HB1.out.size))
      have HF1 := hid ((hba.block w.heap.size (Array.getElem?_eq_some_iff.1 HF.out).1).trans HF.out)
      have HBP1 := hid ((hba.block bp (Array.getElem?_eq_some_iff.1 HBP.out).1).trans HBP.out)
      have HbpA := hid (Array.getElem?_eq_some_iff.1 HBP.out).1
      have HnA := hid HB1.out.size
      have HM0 : Hid (B.length - a = (match wr.cell? ⟨bp, 0, none⟩ with | some (.int _ n) => B.length - n.toNat | _ => 0)) := by show _ = _; rw [c0]; rfl
      clear hO hB1 hF hX1 hlt hLa hbp hR hR0 hba HO HB1 HF HBP
      go_wp2
      rw [show decide (a < B.length) = true from decide_eq_true HLt.out]
      generalize wr.alloc (.cells #[.int .i64 0, .int .i64 0, .int .i64 0, .int .i64 0, .int .i64 0, .int .i64 0] 46) = W1 at *
      generalize wr.heap.size = A at *
      go_loopw [8, 9, 22] (fun k ok i w2 => RelH W1 A B R k ok i w2) (fun _ _ i _ => upN 6 i)
      case atStart => exact ⟨0, by omega, rfl, Ch.refl _ _, .inl ⟨[], a, rfl, rfl, hal, rfl, HA0.out, HR0.out⟩⟩
      case round =>
        obtain ⟨j, hj6, rfl, hC, hcase⟩ := hrel
        by_cases hj : j < 6
        · have gj : (0 : Int) ≤ (j : Int) := by omega
          have gj1 : (j : Int) < 6 := by omega
          rcases hcase with ⟨ns, a1, rfl, hns, ha1, rfl, hA1, hR1⟩ | ⟨k', cs, rfl, rfl, hA1, hcs, hR1⟩
          · have hkg : ∀ k, k < w.heap.size → wr.heap[k]? = w.heap[k]? := fun k hk => (hC.block k (by have := HBW.out.size; omega) (by simp; have := HnA.out; omega)).trans (HBW.out.block k hk)
            have hL1 : Lw wr := hL.kept (Nat.le_trans HBW.out.size hC.size) (fun k hk => hkg k (by omega))
            have HNm := fun e => hid (num_any wr hL1 B g o c hcap (by omega) (Nat.lt_of_lt_of_le hgl (Nat.le_trans HBW.out.size hC.size)) (HBy.out.kept (hkg g hgl)) a1 ha1 e)
            have cj : wr.cell? ⟨A, j, none⟩ = some (.int .i64 0) := by
              rw [cell_of_row _ _ j _ _ _ hA1]
              simp [row, hns, show 0 < 6 - j by omega]
            have fj : wr.frozen? ⟨A, j, none⟩ = false := by simp [World.frozen?, hA1]
            have HC := hid hC
            have HNS := hid hns
            have HA1 := hid hA1
            have HR1 := hid hR1
            have HJ := hid hj
            by_cases h5 : j = 5
            · subst h5
              have HN := HNm 10
              have hN := HN.out
              rw [show (((10 : UInt8).toNat : Nat) : Int) = 10 from rfl] at hN
              have HN := hid hN
              clear hN HNm hC hA1 hR1 hns hkg hj hj6 ha1
              cases hrn : rn 10 (B.drop a1) with
              | none =>
                have HRn : Hid (rn (if 6 - 5 - 1 = 0 then 10 else 32) (B.drop a1) = none) := by show _ = _; rw [if_pos (by omega)]; exact hrn
                have HN2 : Hid (_ ∧ _) := ⟨HN.out, hrn⟩
                clear hrn HN
                go_wp2_with (first
                  | (go_at_call 18; refine Calls.mono HN2.out.1 ?_; rintro ex w3 ⟨n, k, ok, rfl, hb3, hP⟩; rw [HN2.out.2] at hP; obtain rfl : ok = false := hP; have HB3 := hid hb3; have x3 := (World.cell?_of_block (a := ⟨A, 5, none⟩) (hb3.block A (Array.getElem?_eq_some_iff.1 HA1.out).1)).trans cj; have f3 := (World.frozen?_of_block (a := ⟨A, 5, none⟩) (hb3.block A (Array.getElem?_eq_some_iff.1 HA1.out).1)).trans fj; clear hb3))
                go_roundw
                case rel => first | exact rh_fail HJ.out HC.out HB3.out HNS.out HA1.out HR1.out HRn.out | (refine ⟨_, _, _, _, _, _, _, _, _, _, _, _, _, _, _, _, _, _, _, _, _, ?_, rfl⟩; exact rh_fail HJ.out HC.out HB3.out HNS.out HA1.out HR1.out HRn.out)
                case measure => simp [upN, intOf]
              | some nt =>
                obtain ⟨n0, t⟩ := nt
                have HRn : Hid (rn (if 6 - 5 - 1 = 0 then 10 else 32) (B.drop a1) = some (n0, t)) := by show _ = _; rw [if_pos (by omega)]; exact hrn
                have HN2 : Hid (_ ∧ _) := ⟨HN.out, hrn⟩
                clear hrn HN
                go_wp2_with (first
                  | (go_at_call 18; refine Calls.mono HN2.out.1 ?_; rintro ex w3 ⟨n, k, ok, rfl, hb3, hP⟩; rw [HN2.out.2] at hP; obtain ⟨rfl, rfl, rfl⟩ := hP; have HB3 := hid hb3; have x3 := (World.cell?_of_block (a := ⟨A, 5, none⟩) (hb3.block A (Array.getElem?_eq_some_iff.1 HA1.out).1)).trans cj; have f3 := (World.frozen?_of_block (a := ⟨A, 5, none⟩) (hb3.block A (Array.getElem?_eq_some_iff.1 HA1.out).1)).trans fj; clear hb3))
                go_roundw
                case rel => first | exact rh_step HJ.out HC.out HB3.out HNS.out HA1.out HR1.out HRn.out | (refine ⟨_, _, _, _, _, _, _, _, _, _, _, _, _, _, _, _, _, _, _, _, _, ?_, rfl⟩; exact rh_step HJ.out HC.out HB3.out HNS.out HA1.out HR1.out HRn.out)
                case measure => simp [upN, intOf]
            · have hke : ((j : Int) == 5) = false := by rw [beq_eq_false_iff_ne]; omega
              have HN := HNm 32
              have hN := HN.out
              rw [show (((32 : UInt8).toNat : Nat) : Int) = 32 from rfl] at hN
              have HN := hid hN
              clear hN HNm hC hA1 hR1 hns hkg hj hj6 ha1
              cases hrn : rn 32 (B.drop a1) with
              | none =>
                have HRn : Hid (rn (if 6 - j - 1 = 0 then 10 else 32) (B.drop a1) = none) := by show _ = _; rw [if_neg (by omega)]; exact hrn
                have HN2 : Hid (_ ∧ _) := ⟨HN.out, hrn⟩
                clear hrn HN
                go_wp2_with (first
                  | (go_at_call 18; refine Calls.mono HN2.out.1 ?_; rintro ex w3 ⟨n, k, ok, rfl, hb3, hP⟩; rw [HN2.out.2] at hP; obtain rfl : ok = false := hP; have HB3 := hid hb3; have x3 := (World.cell?_of_block (a := ⟨A, j, none⟩) (hb3.block A (Array.getElem?_eq_some_iff.1 HA1.out).1)).trans cj; have f3 := (World.frozen?_of_block (a := ⟨A, j, none⟩) (hb3.block A (Array.getElem?_eq_some_iff.1 HA1.out).1)).trans fj; clear hb3))
                go_roundw
                case rel => first | exact rh_fail HJ.out HC.out HB3.out HNS.out HA1.out HR1.out HRn.out | (refine ⟨_, _, _, _, _, _, _, _, _, _, _, _, _, _, _, _, _, _, _, _, _, ?_, rfl⟩; exact rh_fail HJ.out HC.out HB3.out HNS.out HA1.out HR1.out HRn.out)
                case measure => have := HJ.out; simp [upN, intOf]; omega
              | some nt =>
                obtain ⟨n0, t⟩ := nt
                have HRn : Hid (rn (if 6 - j - 1 = 0 then 10 else 32) (B.drop a1) = some (n0, t)) := by show _ = _; rw [if_neg (by omega)]; exact hrn
                have HN2 : Hid (_ ∧ _) := ⟨HN.out, hrn⟩
                clear hrn HN
                go_wp2_with (first
                  | (go_at_call 18; refine Calls.mono HN2.out.1 ?_; rintro ex w3 ⟨n, k, ok, rfl, hb3, hP⟩; rw [HN2.out.2] at hP; obtain ⟨rfl, rfl, rfl⟩ := hP; have HB3 := hid hb3; have x3 := (World.cell?_of_block (a := ⟨A, j, none⟩) (hb3.block A (Array.getElem?_eq_some_iff.1 HA1.out).1)).trans cj; have f3 := (World.frozen?_of_block (a := ⟨A, j, none⟩) (hb3.block A (Array.getElem?_eq_some_iff.1 HA1.out).1)).trans fj; clear hb3))
                go_roundw
                case rel => first | exact rh_step HJ.out HC.out HB3.out HNS.out HA1.out HR1.out HRn.out | (refine ⟨_, _, _, _, _, _, _, _, _, _, _, _, _, _, _, _, _, _, _, _, _, ?_, rfl⟩; exact rh_step HJ.out HC.out HB3.out HNS.out HA1.out HR1.out HRn.out)
                case measure => have := HJ.out; simp [upN, intOf]; omega
          · have HC := hid hC
            have HA1 := hid hA1
            have HR1 := hid hR1
            have HCS := hid hcs
            have HJ := hid hj
            clear hC hA1 hR1 hcs hj hj6
            by_cases h5 : j = 5
            · subst h5
              go_wp2
              go_roundw
              case rel => exact ⟨5 + 1, HJ.out, by go_num, HC.out, .inr ⟨k', cs, rfl, rfl, HA1.out, HCS.out, HR1.out⟩⟩
              case measure => simp [upN, intOf]
            · have hke : ((j : Int) == 5) = false := by rw [beq_eq_false_iff_ne]; omega
              go_wp2
              go_roundw
              case rel => exact ⟨j + 1, HJ.out, by go_num, HC.out, .inr ⟨k', cs, rfl, rfl, HA1.out, HCS.out, HR1.out⟩⟩
              case measure => have := HJ.out; simp [upN, intOf]; omega
        · obtain rfl : j = 6 := by omega
          have HbpW := hid ((hC.block bp (Array.getElem?_eq_some_iff.1 HBP1.out).1 (by have := HbpA.out; simp; omega)).trans HBP1.out)
          have HFW := hid ((hC.block w.heap.size (Array.getElem?_eq_some_iff.1 HF1.out).1 (by have := HnA.out; have := HbpA.out; simp; omega)).trans HF1.out)
          have HBw := hid (below_ch HBW.out HnA.out hC)
          clear hj hj6
          rcases hcase with ⟨ns, a1, rfl, hns, ha1, rfl, hA1, hR1⟩ | ⟨k', cs, rfl, rfl, hA1, hcs, hR1⟩
          · obtain ⟨q0, q1, q2, q3, m, s, rfl⟩ : ∃ q0 q1 q2 q3 m s, ns = [q0, q1, q2, q3, m, s] := by
              match ns, hns with
              | [q0, q1, q2, q3, m, s], _ => exact ⟨q0, q1, q2, q3, m, s, rfl⟩
            have hA6 : wr.heap[A]? = some (.cells #[.int .i64 q0, .int .i64 q1, .int .i64 q2, .int .i64 q3, .int .i64 m, .int .i64 s] 46 (0, 0)) := by simpa [row] using hA1
            have hrl : rl 6 (B.drop a) = some ([q0, q1, q2, q3, m, s], B.drop a1) := by rw [← HR.out, hR1]; rfl
            have HAK : Hid (akR (B.drop a) = akT q0 q1 q2 q3 m s (B.drop a1)) := by show _ = _; unfold akR; rw [hrl]
            have HI := hid (rl_some hrl).2.2
            have HA6 := hid hA6
            have HOw := hid (HO1.out.grow (gr_of_ch hC) (Nat.le_of_lt HbpA.out) (HO1.out.not HA0.out (by decide)))
            have HA1 := hid ha1
            obtain ⟨a60, a61, a62, a63, a64, a65, a6f⟩ := row6 hA6
            clear hC hA1 hR1 hrl hA6 hns ha1
            by_cases hm : m < 0
            · have HX2 : Hid (X = .inr (2, a)) := un_none HX1.out HLt.out (by rw [HAK.out]; unfold akT; rw [if_pos (.inl hm)])
              obtain ⟨f0, f1, ff⟩ := row2 HFW.out
              go_wp2_with (first
                | (go_at_call 17; refine Calls.mono (bad_any _ 2 a bp HbpW.out) ?_; rintro ex w3 ⟨rfl, hb3⟩; have f3 := (hb3.block w.heap.size (Array.getElem?_eq_some_iff.1 HFW.out).1).trans HFW.out; obtain ⟨f30, f31, f3f⟩ := row2 f3; have F3 := hid f3; have HB3 := hid hb3; clear f3 hb3))
              obtain ⟨z0, z1⟩ := fin2 F3.out (.int .i64 2) (.int .i64 (a : Int))
              have hb9 := ((HBw.out.trans (HB3.out.mono HBw.out.size)).setCell (p := ⟨w.heap.size, 0, none⟩) (Nat.le_refl _) (.int .i64 2)).setCell (p := ⟨w.heap.size, 1, none⟩) (Nat.le_refl _) (.int .i64 (a : Int))
              generalize (w3.setCell ⟨w.heap.size, 0, none⟩ (.int .i64 2)).setCell ⟨w.heap.size, 1, none⟩ (.int .i64 (a : Int)) = w9 at *
              exact bodyPost_ret (v := .tuple #[.slice none 0 0, faV 2 (a : Int)]) (by simp [results, Tryd.results11, go_sem, z0, z1, faV]) rfl ⟨_, _, _, rfl, hb9, by rw [HX2.out]; exact ⟨rfl, rfl, rfl⟩⟩
            · by_cases hs : s < 0
              · have HX2 : Hid (X = .inr (2, a)) := un_none HX1.out HLt.out (by rw [HAK.out]; unfold akT; rw [if_pos (.inr hs)])
                obtain ⟨f0, f1, ff⟩ := row2 HFW.out
                go_wp2_with (first
                  | (go_at_call 17; refine Calls.mono (bad_any _ 2 a bp HbpW.out) ?_; rintro ex w3 ⟨rfl, hb3⟩; have f3 := (hb3.block w.heap.size (Array.getElem?_eq_some_iff.1 HFW.out).1).trans HFW.out; obtain ⟨f30, f31, f3f⟩ := row2 f3; have F3 := hid f3; have HB3 := hid hb3; clear f3 hb3))
                obtain ⟨z0, z1⟩ := fin2 F3.out (.int .i64 2) (.int .i64 (a : Int))
                have hb9 := ((HBw.out.trans (HB3.out.mono HBw.out.size)).setCell (p := ⟨w.heap.size, 0, none⟩) (Nat.le_refl _) (.int .i64 2)).setCell (p := ⟨w.heap.size, 1, none⟩) (Nat.le_refl _) (.int .i64 (a : Int))
                generalize (w3.setCell ⟨w.heap.size, 0, none⟩ (.int .i64 2)).setCell ⟨w.heap.size, 1, none⟩ (.int .i64 (a : Int)) = w9 at *
                exact bodyPost_ret (v := .tuple #[.slice none 0 0, faV 2 (a : Int)]) (by simp [results, Tryd.results11, go_sem, z0, z1, faV]) rfl ⟨_, _, _, rfl, hb9, by rw [HX2.out]; exact ⟨rfl, rfl, rfl⟩⟩
              · have hdw := (Below.refl wr.heap.size wr).alloc (Nat.le_refl _) (.cells #[.int .i64 q0, .int .i64 q1, .int .i64 q2, .int .i64 q3, .string ⟨#[]⟩, .slice none 0 0] 26)
                have HB3 := hid (HBw.out.trans (hdw.mono HBw.out.size))
                have HF3 := hid ((hdw.block _ (Array.getElem?_eq_some_iff.1 HFW.out).1).trans HFW.out)
                have HBP3 := hid ((hdw.block _ (Array.getElem?_eq_some_iff.1 HbpW.out).1).trans HbpW.out)
                have HA3 := hid ((hdw.block _ (Array.getElem?_eq_some_iff.1 HA6.out).1).trans HA6.out)
                have HX3 := hid (heap_alloc_new wr (.cells #[.int .i64 q0, .int .i64 q1, .int .i64 q2, .int .i64 q3, .string ⟨#[]⟩, .slice none 0 0] 26))
                have HO3 := hid (HOw.out.kept hdw)
                have HOl : Hid (∀ k, u4.ownBlock = some k → k < wr.heap.size) := fun k e => (HOw.out.own.lt k e).2
                have HXs : Hid ((wr.alloc (.cells #[.int .i64 q0, .int .i64 q1, .int .i64 q2, .int .i64 q3, .string ⟨#[]⟩, .slice none 0 0] 26)).heap.size = wr.heap.size + 1) := by show _ = _; simp
                have HnX := hid HBw.out.size
                have HAX := hid (Array.getElem?_eq_some_iff.1 HA6.out).1
                obtain ⟨mm, hmm⟩ : ∃ mm, mm = min m.toNat 6 := ⟨_, rfl⟩
                obtain ⟨R3, hR3⟩ : ∃ R3, R3 = ra mm (B.drop a1) := ⟨_, rfl⟩
                have HR30 : Hid (R3 = mapL [] (ra (mm - 0) (B.drop a1))) := by
                  show _ = _
                  rw [hR3, Nat.sub_zero]
                  cases ra mm (B.drop a1) with
                  | none => rfl
                  | some p => rfl
                have HAKT : Hid (akR (B.drop a) = akS q0 q1 q2 q3 s R3) := by show _ = _; rw [HAK.out, akT_pos hm hs, ← hmm, ← hR3]
                clear hdw hR3
                go_wp2
                clear HbpW HFW HBw HA6 HOw a60 a61 a62 a63 a64 a65 a6f
                generalize wr.alloc (.cells #[.int .i64 q0, .int .i64 q1, .int .i64 q2, .int .i64 q3, .string ⟨#[]⟩, .slice none 0 0] 26) = W3 at *
                generalize wr.heap.size = Xb at *
                obtain ⟨i0, hi0, hz0, hz1, hz2⟩ := info_parts Tryd.infoInt2
                go_loopw [8, 9, 13] (fun k ok i w4 => RelC W3 Xb B mm q0 q1 q2 q3 R3 k ok i w4) (fun _ _ i _ => upN mm i)
                case atStart => exact ⟨0, Nat.zero_le _, rfl, ⟨rfl, rfl, rfl, Nat.le_refl _, fun _ _ _ => rfl⟩, .inl ⟨[], a1, _, rfl, rfl, HA1.out, rfl, HX3.out, World.ownsRow_nil _ _ _ _, HR30.out⟩⟩
                case round =>
                  obtain ⟨j, hjm, rfl, hG, hcase⟩ := hrel
                  have HB4 := hid (gr_below HB3.out HnX.out hG)
                  have HF4 := hid (gr_at hG (by have := HnA.out; have := HAX.out; omega) HF3.out)
                  have HBP4 := hid (gr_at hG (by have := HbpA.out; have := HAX.out; omega) HBP3.out)
                  have HA4 := hid (gr_at hG (by have := HAX.out; omega) HA3.out)
                  have HG := hid hG
                  obtain ⟨a60, a61, a62, a63, a64, a65, a6f⟩ := row6 HA4.out
                  clear hG
                  rcases hcase with ⟨ns, a2, v, rfl, hns, ha2, rfl, hX4, hO4, hR4⟩ | ⟨k', rfl, rfl, hR4⟩
                  · by_cases hj : j < mm
                    · have gj : (0 : Int) ≤ (j : Int) := by omega
                      have gj1 : (j : Int) < m := by omega
                      have gj6 : (j : Int) < 6 := by omega
                      have hL4 : Lw wr := hL.kept HB4.out.size (fun k hk => HB4.out.block k (by omega))
                      have hN := num_any wr hL4 B g o c hcap (by omega) (Nat.lt_of_lt_of_le hgl HB4.out.size) (HBy.out.kept (HB4.out.block g hgl)) a2 ha2 10
                      rw [show (((10 : UInt8).toNat : Nat) : Int) = 10 from rfl] at hN
                      have hmax : j + 1 ≤ maxLen := by unfold maxLen; omega
                      have hbyt : (j + 1) * 8 ≤ 140737488355328 := by omega
                      have hsz : Xb + 1 ≤ wr.heap.size := by have := HG.out.size; have := HXs.out; omega
                      have HX4 := hid hX4
                      have HO4 := hid hO4
                      have HR4 := hid hR4
                      have HNS := hid hns
                      have HJ := hid hj
                      have HSZ := hid hsz
                      cases hrn : rn 10 (B.drop a2) with
                      | none =>
                        have HRn := hid hrn
                        have HN2 : Hid (_ ∧ _) := ⟨hN, hrn⟩
                        clear hrn hN hX4 hO4 hR4 hns hj ha2 hjm hsz
                        go_wp2_with (first
                          | (go_at_call 18; refine Calls.mono HN2.out.1 ?_; rintro ex w5 ⟨n, k2, ok, rfl, hb5, hP⟩; rw [HN2.out.2] at hP; obtain rfl : ok = false := hP; have x5 := (hb5.block Xb (Array.getElem?_eq_some_iff.1 HX4.out).1).trans HX4.out; obtain ⟨x50, x51, x52, x53, x54, x55, x5f⟩ := row6 x5; have HB5 := hid hb5; have HOW := hid (World.ownsRow.alloc (own_below HO4.out hb5) (.cells #[.int .i64 n] 3)); have HN5 := hid (World.news_of_block (heap_alloc_new w5 (.cells #[.int .i64 n] 3))); clear hb5 x5)
                          | (at_builtin; refine wpList_append_lies _ rfl (.tmp 85) (.tmp 87) 24 rfl (Xb + 1) 3 i0 _ 1 8 Tryd.underlying24 hi0 hz0 hz1 hz2 rfl (by decide) _ _ _ rfl HOW.out ⟨w5.heap.size, 0, none⟩ 1 1 [.int .i64 n] rfl rfl HN5.out (by intro u hu; simp at hu; subst hu; rfl) (by decide) hmax hbyt (by have := HSZ.out; have := HB5.out.size; simp; omega) _ rfl ?_; intro g6 cap6 w6 hown6 hgrow6 hat6 hlt6; have x6 := gr_old HX4.out (Nat.le_refl _) HB5.out HO4.out hgrow6; obtain ⟨x60, x61, x62, x63, x64, x65, x6f⟩ := row6 x6; have HO6 := hid hown6; have HG6 := hid hgrow6; clear hown6 hgrow6 hat6 hlt6 x6))
                        go_roundw
                        case rel => exact rc_fail HJ.out HXs.out HG.out HB5.out HO4.out HG6.out HR4.out HRn.out
                        case measure => have := HJ.out; simp [upN, intOf]; omega
                      | some nt =>
                        obtain ⟨n0, t⟩ := nt
                        have HRn := hid hrn
                        have HN2 : Hid (_ ∧ _) := ⟨hN, hrn⟩
                        clear hrn hN hX4 hO4 hR4 hns hj ha2 hjm hsz
                        go_wp2_with (first
                          | (go_at_call 18; refine Calls.mono HN2.out.1 ?_; rintro ex w5 ⟨n, k2, ok, rfl, hb5, hP⟩; rw [HN2.out.2] at hP; obtain ⟨rfl, rfl, rfl⟩ := hP; have x5 := (hb5.block Xb (Array.getElem?_eq_some_iff.1 HX4.out).1).trans HX4.out; obtain ⟨x50, x51, x52, x53, x54, x55, x5f⟩ := row6 x5; have HB5 := hid hb5; have HOW := hid (World.ownsRow.alloc (own_below HO4.out hb5) (.cells #[.int .i64 n] 3)); have HN5 := hid (World.news_of_block (heap_alloc_new w5 (.cells #[.int .i64 n] 3))); clear hb5 x5)
                          | (at_builtin; refine wpList_append_lies _ rfl (.tmp 85) (.tmp 87) 24 rfl (Xb + 1) 3 i0 _ 1 8 Tryd.underlying24 hi0 hz0 hz1 hz2 rfl (by decide) _ _ _ rfl HOW.out ⟨w5.heap.size, 0, none⟩ 1 1 [.int .i64 n] rfl rfl HN5.out (by intro u hu; simp at hu; subst hu; rfl) (by decide) hmax hbyt (by have := HSZ.out; have := HB5.out.size; simp; omega) _ rfl ?_; intro g6 cap6 w6 hown6 hgrow6 hat6 hlt6; have x6 := gr_old HX4.out (Nat.le_refl _) HB5.out HO4.out hgrow6; obtain ⟨x60, x61, x62, x63, x64, x65, x6f⟩ := row6 x6; have HO6 := hid hown6; have HG6 := hid hgrow6; clear hown6 hgrow6 hat6 hlt6 x6))
                        go_roundw
                        case rel => exact rc_step HJ.out HXs.out HG.out HB5.out HNS.out HX4.out HO4.out HG6.out HO6.out HR4.out HRn.out
                        case measure => have := HJ.out; simp [upN, intOf]; omega
                    · obtain rfl : j = mm := by omega
                      have hR5 : R3 = some (ns, B.drop a2) := by rw [hR4, Nat.sub_self]; simp [mapL, ra]
                      obtain ⟨p, cq, rfl, harg⟩ := own_args hO4 hns
                      have HARG := hid harg
                      have HX4 := hid hX4
                      have HR6 : Hid (akR (B.drop a) = if ((B.drop a2).length : Int) < s then none else some (⟨q0, q1, q2, q3, (B.drop a2).take s.toNat, ns⟩, (B.drop a2).drop s.toNat)) := by show _ = _; rw [HAKT.out, hR5]; rfl
                      have hdl : (B.drop a2).length = B.length - a2 := List.length_drop
                      have HNS := hid hns
                      have HA2 := hid ha2
                      clear hO4 hR4 hX4 harg hR5 hns
                      have gw : IntKind.i64.wrap ((B.length : Int) - (a2 : Int)) = (B.length : Int) - (a2 : Int) := wrap_id _ (by omega) (by omega)
                      have gj : (0 : Int) ≤ (j : Int) := by omega
                      have gj1 : ¬ ((j : Int) < m ∧ (j : Int) < 6) := by omega
                      by_cases hsl : (B.length : Int) - (a2 : Int) < s
                      · have HX2 : Hid (X = .inr (2, a)) := un_none HX1.out HLt.out (by rw [HR6.out, if_pos (by omega)])
                        have gs : s > (B.length : Int) - (a2 : Int) := hsl
                        clear hdl hmm hjm hj
                        by_cases g1 : (j : Int) < m
                        · have g2 : ¬ (j : Int) < 6 := fun h => gj1 ⟨g1, h⟩
                          clear gj1
                          obtain ⟨f0, f1, ff⟩ := row2 HF4.out
                          go_wp2_with (first
                            | (go_at_call 17; refine Calls.mono (bad_any _ 2 a bp HBP4.out) ?_; rintro ex w3 ⟨rfl, hb3⟩; have f3 := (hb3.block w.heap.size (Array.getElem?_eq_some_iff.1 HF4.out).1).trans HF4.out; obtain ⟨f30, f31, f3f⟩ := row2 f3; have F3 := hid f3; have HB3 := hid hb3; clear f3 hb3))
                          obtain ⟨z0, z1⟩ := fin2 F3.out (.int .i64 2) (.int .i64 (a : Int))
                          have hb9 := ((HB4.out.trans (HB3.out.mono HB4.out.size)).setCell (p := ⟨w.heap.size, 0, none⟩) (Nat.le_refl _) (.int .i64 2)).setCell (p := ⟨w.heap.size, 1, none⟩) (Nat.le_refl _) (.int .i64 (a : Int))
                          generalize (w3.setCell ⟨w.heap.size, 0, none⟩ (.int .i64 2)).setCell ⟨w.heap.size, 1, none⟩ (.int .i64 (a : Int)) = w9 at *
                          exact bodyPost_ret (v := .tuple #[.slice none 0 0, faV 2 (a : Int)]) (by simp [results, Tryd.results11, go_sem, z0, z1, faV]) rfl ⟨_, _, _, rfl, hb9, by rw [HX2.out]; exact ⟨rfl, rfl, rfl⟩⟩
                        · clear gj1
                          obtain ⟨f0, f1, ff⟩ := row2 HF4.out
                          go_wp2_with (first
                            | (go_at_call 17; refine Calls.mono (bad_any _ 2 a bp HBP4.out) ?_; rintro ex w3 ⟨rfl, hb3⟩; have f3 := (hb3.block w.heap.size (Array.getElem?_eq_some_iff.1 HF4.out).1).trans HF4.out; obtain ⟨f30, f31, f3f⟩ := row2 f3; have F3 := hid f3; have HB3 := hid hb3; clear f3 hb3))
                          obtain ⟨z0, z1⟩ := fin2 F3.out (.int .i64 2) (.int .i64 (a : Int))
                          have hb9 := ((HB4.out.trans (HB3.out.mono HB4.out.size)).setCell (p := ⟨w.heap.size, 0, none⟩) (Nat.le_refl _) (.int .i64 2)).setCell (p := ⟨w.heap.size, 1, none⟩) (Nat.le_refl _) (.int .i64 (a : Int))
                          generalize (w3.setCell ⟨w.heap.size, 0, none⟩ (.int .i64 2)).setCell ⟨w.heap.size, 1, none⟩ (.int .i64 (a : Int)) = w9 at *
                          exact bodyPost_ret (v := .tuple #[.slice none 0 0, faV 2 (a : Int)]) (by simp [results, Tryd.results11, go_sem, z0, z1, faV]) rfl ⟨_, _, _, rfl, hb9, by rw [HX2.out]; exact ⟨rfl, rfl, rfl⟩⟩
                      · obtain ⟨sn, rfl⟩ : ∃ sn : Nat, s = (sn : Int) := ⟨s.toNat, by omega⟩
                        have hle : a2 + sn ≤ B.length := by omega
                        have hByt := HBy.out.kept (HB4.out.block g hgl)
                        obtain ⟨o1, ho1, hY1⟩ : ∃ o1, (if c = a2 then some (⟨g, o, none⟩ : Addr) else some ⟨g, o + a2, none⟩) = some ⟨g, o1, none⟩ ∧ Byt wr g o1 ((B.drop a2).take sn) := by
                          by_cases hc : c = a2
                          · refine ⟨o, by rw [if_pos hc], fun i b hb => ?_⟩
                            rw [List.drop_eq_nil_of_le (by omega)] at hb
                            simp at hb
                          · exact ⟨o + a2, by rw [if_neg hc], (hByt.drop a2).take sn⟩
                        have HR7 : Hid (akR (B.drop a) = some (⟨q0, q1, q2, q3, (B.drop a2).take sn, ns⟩, B.drop (a2 + sn))) := by show _ = _; rw [HR6.out, if_neg (by omega)]; simp [List.drop_drop]
                        obtain ⟨N, hN⟩ : ∃ N, N = a2 + sn := ⟨_, rfl⟩
                        have hYl : ((B.drop a2).take sn).length = N - a2 := by rw [List.length_take]; omega
                        have hcv := conv_byt wr g o1 (c - a2) (N - a2) _ hYl hY1
                        have gN : (a2 : Int) + (sn : Int) = (N : Int) := by omega
                        have gw2 : IntKind.i64.wrap ((a2 : Int) + (sn : Int)) = (N : Int) := by rw [gN]; exact wrap_id _ (by omega) (by omega)
                        have gs : (sn : Int) ≤ (B.length : Int) - (a2 : Int) := by omega
                        have gb : (N : Int) ≤ (c : Int) := by omega
                        have gd : (a2 : Int) ≤ (N : Int) := by omega
                        have gl : (N : Int) ≤ (B.length : Int) := by omega
                        obtain ⟨x40, x41, x42, x43, x44, x45, x4f⟩ := row6 HX4.out
                        have HNL := hid hle
                        have HN := hid hN
                        clear HR6 hN hle hdl hmm hjm hj hs hByt hY1 hsl
                        generalize (B.drop a2).take sn = Y at *
                        have hns : ns.length = j := HNS.out
                        clear HNS
                        subst hns
                        obtain ⟨e, he⟩ : ∃ e, akW ⟨q0, q1, q2, q3, Y, ns⟩ = e := ⟨_, rfl⟩
                        have HWA : Hid (∀ W, Calls Tryd.prog 7 #[.agg #[.int .i64 q0, .int .i64 q1, .int .i64 q2, .int .i64 q3, .string (ba Y), .slice p ns.length cq]] W fun ex w' => ex = .returned (.int .i64 e) ∧ Below W.heap.size W w') := fun W => by rw [← he]; exact wrongAsk_any ⟨q0, q1, q2, q3, Y, ns⟩ p cq W
                        have HE := hid he
                        have HbX := hid (Nat.lt_trans HbpA.out HAX.out)
                        have HBS := hid (HB4.out.setCell (p := ⟨Xb, 4, none⟩) HnX.out (.string (ba Y)))
                        clear he
                        have HFS := hid (set_at (b := Xb) (i := 4) (u := .string (ba Y)) HF4.out (by have := HnA.out; have := HAX.out; omega))
                        have HBPS := hid (set_at (b := Xb) (i := 4) (u := .string (ba Y)) HBP4.out (Nat.ne_of_lt HbX.out))
                        have HAS := hid (set_at (b := Xb) (i := 4) (u := .string (ba Y)) HA4.out (Nat.ne_of_lt HAX.out))
                        have HXS : Hid ((wr.setCell ⟨Xb, 4, none⟩ (.string (ba Y))).heap[Xb]? = some (.cells #[.int .i64 q0, .int .i64 q1, .int .i64 q2, .int .i64 q3, .string (ba Y), .slice p ns.length cq] 26 (0, 0))) := heap_put HX4.out _
                        have hown : u4.ownBlock ≠ some Xb := fun h => Nat.lt_irrefl _ (HOl.out _ h)
                        have HOS := hid ((HO3.out.grow HG.out (Nat.le_of_lt HbX.out) hown).set (i := 4) (u := .string (ba Y)) (Nat.le_of_lt HbX.out) hown)
                        have HARS : Hid (0 < ns.length → ∃ g cs, p = some ⟨g, 0, none⟩ ∧ bp < g ∧ (wr.setCell ⟨Xb, 4, none⟩ (.string (ba Y))).heap[g]? = some (.cells cs 3 (0, 0)) ∧ ∀ (i : Nat) (m : Int), ns[i]? = some m → cs[i]? = some (Value.int .i64 m)) := fun hl => by
                          obtain ⟨g1, cs, e1, e2, e3, e4⟩ := HARG.out hl
                          exact ⟨g1, cs, e1, by have := HbX.out; omega, set_at e3 (by omega), e4⟩
                        have hmax : L.length + 1 ≤ maxLen := by have := HLa.out; have := HLt.out; unfold maxLen; omega
                        have hbyt : (L.length + 1) * 72 ≤ 140737488355328 := by have := HLa.out; have := HLt.out; omega
                        obtain ⟨i1, hi1, hy0, hy1, hy2⟩ := info_parts Tryd.infoAk
                        clear hown
                        by_cases g1 : (ns.length : Int) < m
                        · have g2 : ¬ (ns.length : Int) < 6 := fun h => gj1 ⟨g1, h⟩
                          clear gj1
                          by_cases he0 : e = 0
                          · subst he0
                            go_wp2_with (first
                              | (go_at_call 7; refine Calls.mono (HWA.out _) ?_; rintro ex w5 ⟨rfl, hb5⟩; have F5 := hid ((hb5.block _ (Array.getElem?_eq_some_iff.1 HFS.out).1).trans HFS.out); have P5 := hid ((hb5.block _ (Array.getElem?_eq_some_iff.1 HBPS.out).1).trans HBPS.out); have A5 := hid ((hb5.block _ (Array.getElem?_eq_some_iff.1 HAS.out).1).trans HAS.out); have x5 := (hb5.block _ (Array.getElem?_eq_some_iff.1 HXS.out).1).trans HXS.out; obtain ⟨x50, x51, x52, x53, x54, x55, x5f⟩ := row6 x5; have HO5 := hid (HOS.out.kept hb5); have HAR5 : Hid (0 < ns.length → ∃ g cs, p = some ⟨g, 0, none⟩ ∧ bp < g ∧ w5.heap[g]? = some (.cells cs 3 (0, 0)) ∧ ∀ (i : Nat) (m : Int), ns[i]? = some m → cs[i]? = some (Value.int .i64 m)) := (fun hl => by obtain ⟨g1, cs, e1, e2, e3, e4⟩ := HARS.out hl; exact ⟨g1, cs, e1, e2, (hb5.block g1 (Array.getElem?_eq_some_iff.1 e3).1).trans e3, e4⟩); have HB5 := hid (HBS.out.trans (hb5.mono HBS.out.size)); have HOW := hid (World.ownsRow.alloc HO5.out.own (.cells #[.int .i64 q0, .int .i64 q1, .int .i64 q2, .int .i64 q3, .string (ba Y), .slice p ns.length cq] 26)); have HN5 := hid (World.news_of_block (heap_alloc_new w5 (.cells #[.int .i64 q0, .int .i64 q1, .int .i64 q2, .int .i64 q3, .string (ba Y), .slice p ns.length cq] 26))); clear hb5 x5)
                              | (at_builtin; refine wpList_append_lies _ rfl (.tmp 123) (.tmp 125) 22 rfl w.heap.size 26 i1 _ 6 72 Tryd.underlying22 hi1 hy0 hy1 hy2 rfl (by decide) _ _ _ rfl HOW.out ⟨w5.heap.size, 0, none⟩ 1 1 (akC ⟨q0, q1, q2, q3, Y, ns⟩ p cq) rfl rfl HN5.out (by intro u hu; simp [akC] at hu; rcases hu with rfl | rfl | rfl | rfl | rfl | rfl <;> rfl) (by decide) hmax hbyt (by have := HB5.out.size; simp; omega) _ rfl ?_; intro g6 cap6 w6 hown6 hgrow6 hat6 hlt6; have p6 := un_keep HO5.out hgrow6 P5.out (by decide); have A6 := un_keep HO5.out hgrow6 A5.out (by decide); obtain ⟨a70, a71, a72, a73, a74, a75, a7f⟩ := row6 A6; have p60 := cell_of_row _ _ 0 _ _ _ p6; have p6f : ∀ o, w6.frozen? ⟨bp, o, none⟩ = false := (fun o => by simp [World.frozen?, p6]); have HO6 := hid hown6; have HG6 := hid hgrow6; clear hown6 hgrow6 hat6 hlt6 p6 A6))
                            have HU := un_step (N := N) (g := g) (o := o) (c := c) HB5.out HB5.out.size F5.out HO5.out hnb P5.out HAR5.out HO6.out HG6.out HLa.out HLt.out HX1.out (by rw [HR7.out, HN.out]) HE.out (by have := HNL.out; have := HN.out; omega)
                            refine ⟨HU.1, ?_⟩
                            refine Nat.lt_of_le_of_lt (m := B.length - N) (Nat.le_of_eq (by dsimp only; rw [HU.2.2]; simp)) (Nat.lt_of_lt_of_le (m := B.length - a) (by have := HU.2.1; have := HNL.out; have := HN.out; omega) (Nat.le_of_eq HM0.out))
                          · have HX2 : Hid (X = .inr (e, a)) := by
                              show _ = _
                              rw [← HE.out]
                              exact un_wrong HX1.out HLt.out HR7.out (fun h => he0 (HE.out ▸ h))
                            have gne : (e != 0) = true := by simpa using he0
                            go_wp2_with (first
                              | (go_at_call 7; refine Calls.mono (HWA.out _) ?_; rintro ex w5 ⟨rfl, hb5⟩; have F5 := hid ((hb5.block _ (Array.getElem?_eq_some_iff.1 HFS.out).1).trans HFS.out); have P5 := hid ((hb5.block _ (Array.getElem?_eq_some_iff.1 HBPS.out).1).trans HBPS.out); have HB5 := hid (HBS.out.trans (hb5.mono HBS.out.size)); clear hb5)
                              | (go_at_call 17; refine Calls.mono (bad_any _ e a bp P5.out) ?_; rintro ex w3 ⟨rfl, hb3⟩; have f3 := (hb3.block w.heap.size (Array.getElem?_eq_some_iff.1 F5.out).1).trans F5.out; obtain ⟨f30, f31, f3f⟩ := row2 f3; have F3 := hid f3; have HB3 := hid hb3; clear f3 hb3))
                            obtain ⟨z0, z1⟩ := fin2 F3.out (.int .i64 e) (.int .i64 (a : Int))
                            have hb9 := ((HB5.out.trans (HB3.out.mono HB5.out.size)).setCell (p := ⟨w.heap.size, 0, none⟩) (Nat.le_refl _) (.int .i64 e)).setCell (p := ⟨w.heap.size, 1, none⟩) (Nat.le_refl _) (.int .i64 (a : Int))
                            generalize (w3.setCell ⟨w.heap.size, 0, none⟩ (.int .i64 e)).setCell ⟨w.heap.size, 1, none⟩ (.int .i64 (a : Int)) = w9 at *
                            exact bodyPost_ret (v := .tuple #[.slice none 0 0, faV e (a : Int)]) (by simp [results, Tryd.results11, go_sem, z0, z1, faV]) rfl ⟨_, _, _, rfl, hb9, by rw [HX2.out]; exact ⟨rfl, rfl, rfl⟩⟩
                        · clear gj1
                          by_cases he0 : e = 0
                          · subst he0
                            go_wp2_with (first
                              | (go_at_call 7; refine Calls.mono (HWA.out _) ?_; rintro ex w5 ⟨rfl, hb5⟩; have F5 := hid ((hb5.block _ (Array.getElem?_eq_some_iff.1 HFS.out).1).trans HFS.out); have P5 := hid ((hb5.block _ (Array.getElem?_eq_some_iff.1 HBPS.out).1).trans HBPS.out); have A5 := hid ((hb5.block _ (Array.getElem?_eq_some_iff.1 HAS.out).1).trans HAS.out); have x5 := (hb5.block _ (Array.getElem?_eq_some_iff.1 HXS.out).1).trans HXS.out; obtain ⟨x50, x51, x52, x53, x54, x55, x5f⟩ := row6 x5; have HO5 := hid (HOS.out.kept hb5); have HAR5 : Hid (0 < ns.length → ∃ g cs, p = some ⟨g, 0, none⟩ ∧ bp < g ∧ w5.heap[g]? = some (.cells cs 3 (0, 0)) ∧ ∀ (i : Nat) (m : Int), ns[i]? = some m → cs[i]? = some (Value.int .i64 m)) := (fun hl => by obtain ⟨g1, cs, e1, e2, e3, e4⟩ := HARS.out hl; exact ⟨g1, cs, e1, e2, (hb5.block g1 (Array.getElem?_eq_some_iff.1 e3).1).trans e3, e4⟩); have HB5 := hid (HBS.out.trans (hb5.mono HBS.out.size)); have HOW := hid (World.ownsRow.alloc HO5.out.own (.cells #[.int .i64 q0, .int .i64 q1, .int .i64 q2, .int .i64 q3, .string (ba Y), .slice p ns.length cq] 26)); have HN5 := hid (World.news_of_block (heap_alloc_new w5 (.cells #[.int .i64 q0, .int .i64 q1, .int .i64 q2, .int .i64 q3, .string (ba Y), .slice p ns.length cq] 26))); clear hb5 x5)
                              | (at_builtin; refine wpList_append_lies _ rfl (.tmp 123) (.tmp 125) 22 rfl w.heap.size 26 i1 _ 6 72 Tryd.underlying22 hi1 hy0 hy1 hy2 rfl (by decide) _ _ _ rfl HOW.out ⟨w5.heap.size, 0, none⟩ 1 1 (akC ⟨q0, q1, q2, q3, Y, ns⟩ p cq) rfl rfl HN5.out (by intro u hu; simp [akC] at hu; rcases hu with rfl | rfl | rfl | rfl | rfl | rfl <;> rfl) (by decide) hmax hbyt (by have := HB5.out.size; simp; omega) _ rfl ?_; intro g6 cap6 w6 hown6 hgrow6 hat6 hlt6; have p6 := un_keep HO5.out hgrow6 P5.out (by decide); have A6 := un_keep HO5.out hgrow6 A5.out (by decide); obtain ⟨a70, a71, a72, a73, a74, a75, a7f⟩ := row6 A6; have p60 := cell_of_row _ _ 0 _ _ _ p6; have p6f : ∀ o, w6.frozen? ⟨bp, o, none⟩ = false := (fun o => by simp [World.frozen?, p6]); have HO6 := hid hown6; have HG6 := hid hgrow6; clear hown6 hgrow6 hat6 hlt6 p6 A6))
                            have HU := un_step (N := N) (g := g) (o := o) (c := c) HB5.out HB5.out.size F5.out HO5.out hnb P5.out HAR5.out HO6.out HG6.out HLa.out HLt.out HX1.out (by rw [HR7.out, HN.out]) HE.out (by have := HNL.out; have := HN.out; omega)
                            refine ⟨HU.1, ?_⟩
                            refine Nat.lt_of_le_of_lt (m := B.length - N) (Nat.le_of_eq (by dsimp only; rw [HU.2.2]; simp)) (Nat.lt_of_lt_of_le (m := B.length - a) (by have := HU.2.1; have := HNL.out; have := HN.out; omega) (Nat.le_of_eq HM0.out))
                          · have HX2 : Hid (X = .inr (e, a)) := by
                              show _ = _
                              rw [← HE.out]
                              exact un_wrong HX1.out HLt.out HR7.out (fun h => he0 (HE.out ▸ h))
                            have gne : (e != 0) = true := by simpa using he0
                            go_wp2_with (first
                              | (go_at_call 7; refine Calls.mono (HWA.out _) ?_; rintro ex w5 ⟨rfl, hb5⟩; have F5 := hid ((hb5.block _ (Array.getElem?_eq_some_iff.1 HFS.out).1).trans HFS.out); have P5 := hid ((hb5.block _ (Array.getElem?_eq_some_iff.1 HBPS.out).1).trans HBPS.out); have HB5 := hid (HBS.out.trans (hb5.mono HBS.out.size)); clear hb5)
                              | (go_at_call 17; refine Calls.mono (bad_any _ e a bp P5.out) ?_; rintro ex w3 ⟨rfl, hb3⟩; have f3 := (hb3.block w.heap.size (Array.getElem?_eq_some_iff.1 F5.out).1).trans F5.out; obtain ⟨f30, f31, f3f⟩ := row2 f3; have F3 := hid f3; have HB3 := hid hb3; clear f3 hb3))
                            obtain ⟨z0, z1⟩ := fin2 F3.out (.int .i64 e) (.int .i64 (a : Int))
                            have hb9 := ((HB5.out.trans (HB3.out.mono HB5.out.size)).setCell (p := ⟨w.heap.size, 0, none⟩) (Nat.le_refl _) (.int .i64 e)).setCell (p := ⟨w.heap.size, 1, none⟩) (Nat.le_refl _) (.int .i64 (a : Int))
                            generalize (w3.setCell ⟨w.heap.size, 0, none⟩ (.int .i64 e)).setCell ⟨w.heap.size, 1, none⟩ (.int .i64 (a : Int)) = w9 at *
                            exact bodyPost_ret (v := .tuple #[.slice none 0 0, faV e (a : Int)]) (by simp [results, Tryd.results11, go_sem, z0, z1, faV]) rfl ⟨_, _, _, rfl, hb9, by rw [HX2.out]; exact ⟨rfl, rfl, rfl⟩⟩
                  · have HX2 : Hid (X = .inr (2, a)) := un_none HX1.out HLt.out (by rw [HAKT.out, hR4]; rfl)
                    have gj : (0 : Int) ≤ (j : Int) := by omega
                    clear hR4 hmm hjm
                    by_cases g1 : (j : Int) < m
                    · by_cases g2 : (j : Int) < 6
                      · skip
                        obtain ⟨f0, f1, ff⟩ := row2 HF4.out
                        go_wp2_with (first
                          | (go_at_call 17; refine Calls.mono (bad_any _ 2 a bp HBP4.out) ?_; rintro ex w3 ⟨rfl, hb3⟩; have f3 := (hb3.block w.heap.size (Array.getElem?_eq_some_iff.1 HF4.out).1).trans HF4.out; obtain ⟨f30, f31, f3f⟩ := row2 f3; have F3 := hid f3; have HB3 := hid hb3; clear f3 hb3))
                        obtain ⟨z0, z1⟩ := fin2 F3.out (.int .i64 2) (.int .i64 (a : Int))
                        have hb9 := ((HB4.out.trans (HB3.out.mono HB4.out.size)).setCell (p := ⟨w.heap.size, 0, none⟩) (Nat.le_refl _) (.int .i64 2)).setCell (p := ⟨w.heap.size, 1, none⟩) (Nat.le_refl _) (.int .i64 (a : Int))
                        generalize (w3.setCell ⟨w.heap.size, 0, none⟩ (.int .i64 2)).setCell ⟨w.heap.size, 1, none⟩ (.int .i64 (a : Int)) = w9 at *
                        exact bodyPost_ret (v := .tuple #[.slice none 0 0, faV 2 (a : Int)]) (by simp [results, Tryd.results11, go_sem, z0, z1, faV]) rfl ⟨_, _, _, rfl, hb9, by rw [HX2.out]; exact ⟨rfl, rfl, rfl⟩⟩
                      · skip
                        obtain ⟨f0, f1, ff⟩ := row2 HF4.out
                        go_wp2_with (first
                          | (go_at_call 17; refine Calls.mono (bad_any _ 2 a bp HBP4.out) ?_; rintro ex w3 ⟨rfl, hb3⟩; have f3 := (hb3.block w.heap.size (Array.getElem?_eq_some_iff.1 HF4.out).1).trans HF4.out; obtain ⟨f30, f31, f3f⟩ := row2 f3; have F3 := hid f3; have HB3 := hid hb3; clear f3 hb3))
                        obtain ⟨z0, z1⟩ := fin2 F3.out (.int .i64 2) (.int .i64 (a : Int))
                        have hb9 := ((HB4.out.trans (HB3.out.mono HB4.out.size)).setCell (p := ⟨w.heap.size, 0, none⟩) (Nat.le_refl _) (.int .i64 2)).setCell (p := ⟨w.heap.size, 1, none⟩) (Nat.le_refl _) (.int .i64 (a : Int))
                        generalize (w3.setCell ⟨w.heap.size, 0, none⟩ (.int .i64 2)).setCell ⟨w.heap.size, 1, none⟩ (.int .i64 (a : Int)) = w9 at *
                        exact bodyPost_ret (v := .tuple #[.slice none 0 0, faV 2 (a : Int)]) (by simp [results, Tryd.results11, go_sem, z0, z1, faV]) rfl ⟨_, _, _, rfl, hb9, by rw [HX2.out]; exact ⟨rfl, rfl, rfl⟩⟩
                    · skip
                      obtain ⟨f0, f1, ff⟩ := row2 HF4.out
                      go_wp2_with (first
                        | (go_at_call 17; refine Calls.mono (bad_any _ 2 a bp HBP4.out) ?_; rintro ex w3 ⟨rfl, hb3⟩; have f3 := (hb3.block w.heap.size (Array.getElem?_eq_some_iff.1 HF4.out).1).trans HF4.out; obtain ⟨f30, f31, f3f⟩ := row2 f3; have F3 := hid f3; have HB3 := hid hb3; clear f3 hb3))
                      obtain ⟨z0, z1⟩ := fin2 F3.out (.int .i64 2) (.int .i64 (a : Int))
                      have hb9 := ((HB4.out.trans (HB3.out.mono HB4.out.size)).setCell (p := ⟨w.heap.size, 0, none⟩) (Nat.le_refl _) (.int .i64 2)).setCell (p := ⟨w.heap.size, 1, none⟩) (Nat.le_refl _) (.int .i64 (a : Int))
                      generalize (w3.setCell ⟨w.heap.size, 0, none⟩ (.int .i64 2)).setCell ⟨w.heap.size, 1, none⟩ (.int .i64 (a : Int)) = w9 at *
                      exact bodyPost_ret (v := .tuple #[.slice none 0 0, faV 2 (a : Int)]) (by simp [results, Tryd.results11, go_sem, z0, z1, faV]) rfl ⟨_, _, _, rfl, hb9, by rw [HX2.out]; exact ⟨rfl, rfl, rfl⟩⟩
          · have HX2 : Hid (X = .inr (2, a)) := un_none HX1.out HLt.out (akR_head (HR.out ▸ hR1))
            obtain ⟨f0, f1, ff⟩ := row2 HFW.out
            clear hC hA1 hcs hR1
            go_wp2_with (first
              | (go_at_call 17; refine Calls.mono (bad_any _ 2 a bp HbpW.out) ?_; rintro ex w3 ⟨rfl, hb3⟩; have f3 := (hb3.block w.heap.size (Array.getElem?_eq_some_iff.1 HFW.out).1).trans HFW.out; obtain ⟨f30, f31, f3f⟩ := row2 f3; have F3 := hid f3; have HB3 := hid hb3; clear f3 hb3))
            obtain ⟨z0, z1⟩ := fin2 F3.out (.int .i64 2) (.int .i64 (a : Int))
            have hb9 := ((HBw.out.trans (HB3.out.mono HBw.out.size)).setCell (p := ⟨w.heap.size, 0, none⟩) (Nat.le_refl _) (.int .i64 2)).setCell (p := ⟨w.heap.size, 1, none⟩) (Nat.le_refl _) (.int .i64 (a : Int))
            generalize (w3.setCell ⟨w.heap.size, 0, none⟩ (.int .i64 2)).setCell ⟨w.heap.size, 1, none⟩ (.int .i64 (a : Int)) = w9 at *
            exact bodyPost_ret (v := .tuple #[.slice none 0 0, faV 2 (a : Int)]) (by simp [results, Tryd.results11, go_sem, z0, z1, faV]) rfl ⟨_, _, _, rfl, hb9, by rw [HX2.out]; exact ⟨rfl, rfl, rfl⟩⟩
    · obtain rfl : a = B.length := by omega
      have HX2 : Hid (X = .inl (L.map (·.1))) := by
        show _ = _
        rw [hX1, List.drop_length, pr_nil]
        simp [preP]
      obtain ⟨d0, d1, df⟩ := row2 hF
      have HF := hid hF
      have HO := hid hO
      have HB1 := hid hB1
      clear hO hB1 hF hX1 hlt hLa hal hbp
      go_wp2
      obtain ⟨z0, z1⟩ := fin2 HF.out (.int .i64 0) (.int .i64 0)
      have hb9 := (HB1.out.setCell (p := ⟨w.heap.size, 0, none⟩) (Nat.le_refl _) (.int .i64 0)).setCell (p := ⟨w.heap.size, 1, none⟩) (Nat.le_refl _) (.int .i64 0)
      have hO9 := HO.out.but HF.out (w' := (wr.setCell ⟨w.heap.size, 0, none⟩ (.int .i64 0)).setCell ⟨w.heap.size, 1, none⟩ (.int .i64 0)) ⟨rfl, rfl, rfl, by simp, fun k _ hk => (Below.heap_setCell _ _ _ k (fun e => hk (by rw [e]))).trans (Below.heap_setCell _ _ _ k (fun e => hk (by rw [e])))⟩
      generalize (wr.setCell ⟨w.heap.size, 0, none⟩ (.int .i64 0)).setCell ⟨w.heap.size, 1, none⟩ (.int .i64 0) = w9 at *
      exact bodyPost_ret (v := .tuple #[_, faV 0 0]) (by simp [results, Tryd.results11, go_sem, z0, z1, faV]; rfl) rfl ⟨_, _, _, rfl, hb9, by rw [HX2.out]; exact ⟨rfl, rfl, hO9.inB⟩⟩
end Go.Proofs.YtbkihppmikjcoaaDoor

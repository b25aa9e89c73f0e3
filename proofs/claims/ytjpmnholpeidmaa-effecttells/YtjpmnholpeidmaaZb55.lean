/- Texts of this seat, one behind the other: EtReach, EtFx. -/
import Derived.Test.YtjpmnholpeidmaaZb54
import Derived.Test.YtjpmnholpeidmaaZb21
import Derived.Deep.LoopGhost
import Derived.Deep.CutBlock
import Derived.Test.YtjpmnholpeidmaaZb41
namespace Go.Proofs.Ytjpmnholpeidmaa
open Go.RowKit Go.Sort Go.WideMaps Go.Maps
set_option linter.unusedVariables false
attribute [local go_sem ↓] Go.wp_at_zero Go.wp_at_succ
attribute [local go_sem ↓] app_hide app_hide3
/-- Where the walk stands: what is had, what is left, what is sent to. -/
def RelRe (l : List (Int × It)) (i B : Nat) (W : World) (gk : Nat) (v : Value) (wr : World) : Prop :=
  ∃ (H T : List Nat) (S : List BL) (g : Nat), Bfs l i H T S ∧ unH l H * 4001 + T.length ≤ gk ∧ gk ≤ 200000 ∧ H.length + unH l H ≤ 30 ∧ S.length + unH l H * 4001 ≤ 200000 ∧ InAt wr (B + 1) H ∧ WnAt wr (B + 1 + 1) S ∧ QuAt wr g T v ∧ B + 3 ≤ g ∧ Below (B + 1) W wr
/-- The names of one function are put in. -/
def RelRn (bs : Nat) (W : World) (R S : List BL) (j : Value) (wr : World) : Prop := ∃ k : Nat, k ≤ R.length ∧ j = .int .i64 (k : Int) ∧ WnAt wr bs ((R.take k).reverse ++ S) ∧ G2 bs bs W wr
/-- What one function calls is put behind. -/
def RelRc (l : List (Int × It)) (g : Nat) (W : World) (R : List BL) (T : List Nat) (j v : Value) (wr : World) : Prop := ∃ (k g' : Nat), k ≤ R.length ∧ j = .int .i64 (k : Int) ∧ QuAt wr g' (T ++ edS l (R.take k)) v ∧ (g' = g ∨ W.heap.size ≤ g') ∧ G2 g g W wr
theorem QuAt.form {w : World} {g : Nat} {T : List Nat} {v : Value} (h : QuAt w g T v) : ∃ o cap n, v = .slice (some ⟨g, o, none⟩) n cap := by
  obtain ⟨o, cap, e, _⟩ := h
  exact ⟨o, cap, _, e⟩
theorem sn_take {R : List BL} {j : Nat} {s : BL} (h : R[j]? = some s) (S : List BL) : (R.take (j + 1)).reverse ++ S = s :: ((R.take j).reverse ++ S) := by
  rw [List.take_add_one, h]
  simp
theorem StrAt.at {w w' : World} {D : Option Nat} {R : List BL} {v : Value} (h : StrAt w D R v) : ∃ p c, v = .slice p R.length c ∧ (0 < R.length → ∃ g o, p = some ⟨g, o, none⟩ ∧ some g = D ∧ g < w.heap.size ∧ ∀ j s, R[j]? = some s → w.cell? ⟨g, o + j, none⟩ = some (.string (bA s))) := by
  obtain ⟨p, c, e, _, h2⟩ := h
  exact ⟨p, c, e, h2⟩
set_option maxHeartbeats 4000000 in
set_option maxRecDepth 100000 in
theorem reach_ref (t : ByteArray) (l : List (Int × It)) (fv : Value) (w : World) (ok : Nat → Prop) (hok : ∀ k, ok k → k < w.heap.size) (hR : RdF ok w l fv) (hF : FlF t l) (ht : t.size ≤ 4000) (h30 : l.length ≤ 30) (i : Nat) (hi : i < l.length) :
    Calls Try.prog 10 #[fv, .int .i64 (i : Int)] w fun e w' => ∃ v D, e = .returned v ∧ StrAt w' D (reaL l (i : Int)) v ∧ (∀ k, some k = D → w.heap.size ≤ k) ∧ Below w.heap.size w w' := by
  have hmm := @run_makeMap Try.prog
  obtain ⟨q, c, rfl, hlen, hits⟩ := id hR
  obtain ⟨gq, rfl, hgq, hIs⟩ := hits (by omega)
  have HR := hid hR
  clear hR
  have hb1 := (Below.refl w.heap.size w).alloc (Nat.le_refl _) (.cells #[.slice (some ⟨gq, 0, none⟩) l.length c] 24)
  have hF0 := heap_alloc_new w (.cells #[.slice (some ⟨gq, 0, none⟩) l.length c] 24)
  have e1 : (w.alloc (.cells #[.slice (some ⟨gq, 0, none⟩) l.length c] 24)).heap.size = w.heap.size + 1 := by simp
  generalize hW : w.alloc (.cells #[.slice (some ⟨gq, 0, none⟩) l.length c] 24) = W at *
  have e2 : (W.alloc (.map #[] 0)).heap.size = w.heap.size + 1 + 1 := by simp [e1]
  have e3 : ((W.alloc (.map #[] 0)).alloc (.map #[] 0)).heap.size = w.heap.size + 1 + 1 + 1 := by simp [e1]
  have b2 : Below (w.heap.size + 1) W (((W.alloc (.map #[] 0)).alloc (.map #[] 0)).alloc (.cells #[.int .i64 (i : Int)] 3)) := by
    have h := ((Below.refl W.heap.size W).alloc (Nat.le_refl _) (.map #[] 0)).alloc (by simp) (.map #[] 0) |>.alloc (by simp; omega) (.cells #[.int .i64 (i : Int)] 3)
    rwa [e1] at h
  have m1 : InAt (((W.alloc (.map #[] 0)).alloc (.map #[] 0)).alloc (.cells #[.int .i64 (i : Int)] 3)) (w.heap.size + 1) [] := by
    have h := ((in_made W).kept (Below.heap_alloc (W.alloc (.map #[] 0)) (.map #[] 0) W.heap.size (by simp))).kept (Below.heap_alloc ((W.alloc (.map #[] 0)).alloc (.map #[] 0)) (.cells #[.int .i64 (i : Int)] 3) W.heap.size (by simp; omega))
    rwa [e1] at h
  have m2 : WnAt (((W.alloc (.map #[] 0)).alloc (.map #[] 0)).alloc (.cells #[.int .i64 (i : Int)] 3)) (w.heap.size + 1 + 1) [] := by
    have h := (wn_made (W.alloc (.map #[] 0))).kept (Below.heap_alloc ((W.alloc (.map #[] 0)).alloc (.map #[] 0)) (.cells #[.int .i64 (i : Int)] 3) _ (by simp))
    rwa [e2] at h
  have m3 : QuAt (((W.alloc (.map #[] 0)).alloc (.map #[] 0)).alloc (.cells #[.int .i64 (i : Int)] 3)) (w.heap.size + 1 + 1 + 1) [i] (.slice (some ⟨w.heap.size + 1 + 1 + 1, 0, none⟩) 1 1) := by
    have h := qu_one (w := (W.alloc (.map #[] 0)).alloc (.map #[] 0)) (i := i)
    rwa [e3] at h
  have hun := unH_nil l
  have HST := hid (show RelRe l i w.heap.size W (l.length * 4001 + 1) (.slice (some ⟨w.heap.size + 1 + 1 + 1, 0, none⟩) 1 1) (((W.alloc (.map #[] 0)).alloc (.map #[] 0)).alloc (.cells #[.int .i64 (i : Int)] 3)) from
    ⟨[], [i], [], w.heap.size + 1 + 1 + 1, Bfs.start hi, by simp; omega, by omega, by simp; omega, by simp; omega, m1, m2, m3, by omega, b2⟩)
  clear m1 m2 m3 b2 hun e2 e3
  go_enter Try.func10, Try.ntmps10
  go_wp2
  go_loopg [7] (l.length * 4001 + 1) (fun gk v wr => RelRe l i w.heap.size W gk v wr)
  case atStart => exact HST.out
  case round =>
    clear HST
    obtain ⟨H, T, S, g, hB, hg1, hg2, hg3, hg4, hH, hS, hQ, hgB, hbl⟩ := hrel
    cases T with
    | nil =>
      obtain ⟨o, cap, hv, _⟩ := hQ
      subst hv
      go_wp2_with (first
        | (go_at_call 25; refine (rising_ref S (w.heap.size + 1 + 1) _ hS (by omega)).mono ?_; rintro e w6 ⟨vR, R, DR, rfl, hst, hinc, hmem, hb6, hfr⟩))
      go_ret
      have hRR := hB.done hi hinc hmem
      rw [hRR] at hst
      have hz := hbl.size
      exact ⟨vR, DR, rfl, hst, fun k hk => by have := hfr k hk; omega, (hb1.trans (hbl.mono (by omega))).trans (hb6.mono (by omega))⟩
    | cons k T =>
      obtain ⟨o, cap, hv, hcap, hck, hq⟩ := hQ.head
      subst hv
      obtain ⟨hrk, hkl⟩ := hB.tr k List.mem_cons_self
      have hlk := in_look hH k (by omega)
      have hkk : ∀ j, ok j → wr.heap[j]? = w.heap[j]? := fun j hj => (hbl.block j (by have := hok j hj; omega)).trans (hb1.block j (hok j hj))
      have hFw := (hbl.block w.heap.size (by omega)).trans hF0
      have hzr := hbl.size
      have x0 := cell_of_row _ _ 0 _ _ _ hFw
      simp only [List.getElem?_toArray, List.getElem?_cons_zero] at x0
      have hTl : T.length + 1 + unH l H * 4001 ≤ gk := by simp at hg1; omega
      go_upto_region 5 with (fail)
      go_cut [7] from 20 to 75 (fun v' wx => QuAt wx g T v' ∧ wx = wr)
      case first =>
        clear hlk
        go_wp2
        all_goals go_meet
        all_goals first
          | exact ⟨hq, rfl⟩
          | exact ⟨hq.bare (by omega), rfl⟩
      case rest =>
      obtain ⟨hq2, hwc⟩ := hcut
      clear hq
      subst hwc
      by_cases hkH : k ∈ H
      · rw [decide_eq_true hkH] at hlk
        have HB := hid (hB.skip (.inl hkH))
        clear hB hg1 hkH
        go_wp2
        go_roundg (gk - 1)
        case measure => omega
        case rel => exact ⟨H, T, S, g, HB.out, by omega, by omega, hg3, hg4, hH, hS, hq2, hgB, hbl⟩
      · rw [decide_eq_false hkH] at hlk
        obtain ⟨⟨pp, it⟩, hit⟩ : ∃ e, l[k]? = some e := ⟨_, List.getElem?_eq_getElem hkl⟩
        obtain ⟨vI, hcv, hI⟩ := RdIs.at hIs (hkk gq hgq) hkk hit
        obtain ⟨p1, c1, p2, c2, p3, c3, p4, c4, rfl, _⟩ := id hI
        have d0 := hcv.get 0 _ rfl
        rw [Nat.add_zero] at d0
        have gk0 : (0 : Int) ≤ (k : Int) := by omega
        have gk1 : (k : Int) < (l.length : Int) := by omega
        have hkb : k < 1099511627776 := by omega
        by_cases hk2 : it.k = 2
        · have g2 : ((it.k : Int) == 2) = true := by rw [hk2]; rfl
          obtain ⟨w2, hrun, hH2, hgr2⟩ := in_put hH (by omega) k (by omega)
          have hG2 := G2.put hgr2
          have hS2 := hS.kept (hG2.block _ hS.lt (by omega) (by omega))
          have hglt : g < wc.heap.size := by obtain ⟨_, _, _, _, h, _⟩ := hq2; exact h
          have hQ2 := hq2.kept hG2.size (hG2.block g hglt (by omega) (by omega))
          have hblk : ∀ j, j < w.heap.size + 1 → w2.heap[j]? = wc.heap[j]? := fun j hj => hG2.block j (by omega) (by omega) (by omega)
          have hkk2 : ∀ j, ok j → w2.heap[j]? = w.heap[j]? := fun j hj => (hblk j (by have := hok j hj; omega)).trans (hkk j hj)
          obtain ⟨vI2, hcv2, hI2⟩ := RdIs.at hIs (hkk2 gq hgq) hkk2 hit
          obtain ⟨q1, b1, q2, b2, q3, b3, q4, b4, rfl, _⟩ := id hI2
          have f0 := hcv2.get 0 _ rfl
          have f1 := hcv2.get 1 _ rfl
          have f2 := hcv2.get 2 _ rfl
          have f3 := hcv2.get 3 _ rfl
          have f4 := hcv2.get 4 _ rfl
          have f5 := hcv2.get 5 _ rfl
          have f6 := hcv2.get 6 _ rfl
          have f7 := hcv2.get 7 _ rfl
          have f8 := hcv2.get 8 _ rfl
          have f9 := hcv2.get 9 _ rfl
          rw [Nat.add_zero] at f0
          have xw := (World.cell?_of_block (a := ⟨w.heap.size, 0, none⟩) (hblk w.heap.size (by omega))).trans x0
          have hFk := hF k _ hit
          have hFk' := hFk
          have hen : (esI it).length ≤ 4000 := hFk.2.es ht
          have hca : (caI it).length ≤ 4000 ∧ (snI it).length ≤ 4000 := hFk.2.ca ht
          have hunl := unH_less hkl hkH
          have hz2 := hG2.size
          have HC := hid (eOwn_ref (L := tks (txI t k)) (sz := (txI t k).size) (by have := txI_le t k; omega) it pp _ w2 ok (fun j hj => by have := hok j hj; omega) hI2 hFk.2.1 (fun tk h => (tks_facts _ tk h).1) (by omega))
          have HV := hid (show Bfs l i (k :: H) (T ++ edS l (caI it)) ((snI it).reverse ++ S) from hB.visit hit)
          have HQ2 := hid hQ2
          have HS2 := hid hS2
          have HH2 := hid hH2
          have HG2 := hid hG2
          clear hB hg1 hkH hit hcv hI hcv2 hI2 hFk hen hQ2 hS2 hH2 hgr2 hH hS hq2 hblk
          have HSZ := hid (show (∀ s ∈ snI it, (bA s).size ≤ 4000) ∧ ∀ s ∈ caI it, (bA s).size ≤ 4000 from hFk'.2.sz ht)
          generalize hsn : snI it = Rs at *
          generalize hcn : caI it = Rc at *
          have HCA := hid hca
          have HUN := hid (And.intro hunl hTl)
          have HKK := hid hkk2
          clear hsn hcn hca hFk' hunl hTl hkk hkk2 hFw hrk hk2
          go_upto_region 9 with (first
            | (go_at_call 8; refine Calls.mono HC.out ?_; rintro e w3 ⟨v1, v2, D1, D2, rfl, hs1, hs2, hb3, hf1, hf2⟩; obtain ⟨s1p, s1c, hv1, hs1i⟩ := hs1.at (w' := w3); subst hv1; obtain ⟨s2p, s2c, hv2, hs2i⟩ := hs2.at (w' := w3); subst hv2)
            | fail)
          have hbS : w.heap.size + 1 + 1 < w2.heap.size := by have := HS2.out.lt; omega
          have hgl2 : g < w2.heap.size := by obtain ⟨_, _, _, _, h, _⟩ := HQ2.out; exact h
          have hz3 := hb3.size
          have hS3 := HS2.out.kept (hb3.block _ hbS)
          have HQ3 := hid (HQ2.out.kept hz3 (hb3.block _ hgl2))
          have HH3 := hid (HH2.out.kept (hb3.block _ HH2.out.lt))
          have HST := hid (show RelRn (w.heap.size + 1 + 1) w3 Rs S (.int .i64 0) w3 from ⟨0, Nat.zero_le _, rfl, by simpa using hS3, G2.refl _ _ _⟩)
          have xw3 := (World.cell?_of_block (a := ⟨w.heap.size, 0, none⟩) (hb3.block w.heap.size (by omega))).trans xw
          clear hS3 f0 f1 f2 f3 f4 f5 f6 f7 f8 f9 d0
          go_wp2
          go_loopw [53] (fun j wx_ => RelRn (w.heap.size + 1 + 1) w3 Rs S j wx_) (fun j _ => upN Rs.length j)
          case atStart => exact HST.out
          case round =>
            clear HST
            obtain ⟨j, hj, rfl, hm, hg⟩ := hrel
            have hzr4 := hg.size
            by_cases hlt : j < Rs.length
            · obtain ⟨g1, o1, rfl, hgD, hg1l, hce⟩ := hs1i (by omega)
              obtain ⟨s, hs⟩ : ∃ s, Rs[j]? = some s := ⟨_, List.getElem?_eq_getElem hlt⟩
              have hg1n := hf1 g1 hgD
              have a0 := (World.cell?_of_block (a := ⟨g1, o1 + j, none⟩) (hg.block g1 hg1l (by omega) (by omega))).trans (hce j s hs)
              have hsz := HSZ.out.1 s (List.mem_of_getElem? hs)
              have hlm : ((Rs.take j).reverse ++ S).length < 1099511627776 := by have := HCA.out.2; simp only [List.length_append, List.length_reverse, List.length_take]; omega
              obtain ⟨w5, hrun5, hm5, hg5⟩ := wn_put hm hlm (bA s) (by unfold maxLen; omega)
              have HM5 := hid (show WnAt w5 (w.heap.size + 1 + 1) ((Rs.take (j + 1)).reverse ++ S) from by rw [sn_take hs]; exact hm5)
              have HG5 := hid (hg.trans (G2.put hg5))
              have HL := hid hlt
              have gj : (0 : Int) ≤ (j : Int) := by omega
              have gj1 : (j : Int) < (Rs.length : Int) := by omega
              have hjb : j < 1099511627776 := by have := HCA.out.2; omega
              clear hce hs hlt hj hm hg hm5 hg5 hlm hgD
              go_wp2
              go_roundw
              case rel => exact ⟨j + 1, HL.out, by go_num, HM5.out, HG5.out⟩
              case measure => have := HL.out; simp [upN, Go.RowKit.intOf]; omega
            · obtain rfl : j = Rs.length := by omega
              rw [List.take_length] at hm
              have HM4 := hid hm
              have HG4 := hid hg
              have HQ4 := hid (HQ3.out.kept hg.size (hg.block g (by omega) (by omega) (by omega)))
              have hne1 : w.heap.size + 1 ≠ w.heap.size + 1 + 1 := by omega
              have HH4 := hid (HH3.out.kept (hg.block (w.heap.size + 1) HH3.out.lt hne1 hne1))
              have xw4 := (World.cell?_of_block (a := ⟨w.heap.size, 0, none⟩) (hg.block w.heap.size (by omega) (by omega) (by omega))).trans xw3
              clear hlt hj hm hg
              generalize wr = w4 at *
              have hz4 := HG4.out.size
              have HST2 := hid (show RelRc l g w4 Rc T (.int .i64 0) u7 w4 from ⟨0, g, Nat.zero_le _, rfl, by simpa [edS] using HQ4.out, .inl rfl, G2.refl _ _ _⟩)
              go_wp2
              go_loopw [62, 7] (fun j v wx_ => RelRc l g w4 Rc T j v wx_) (fun j _ _ => upN Rc.length j)
              case atStart => exact HST2.out
              case round =>
                clear HST2
                obtain ⟨j, g', hj, rfl, hq, hg', hG⟩ := hrel
                obtain ⟨ov, cv, nv, hv⟩ := hq.form
                subst hv
                have hzr5 := hG.size
                have hTT : (T ++ edS l (Rc.take j)).length + 1 ≤ 1099511627776 := by
                  have h1 := edS_len l (Rc.take j)
                  have h2 := HUN.out.2
                  have h3 := HCA.out.1
                  rw [List.length_take] at h1
                  rw [List.length_append]
                  omega
                by_cases hlt : j < Rc.length
                · obtain ⟨g2, o2, rfl, hgD, hg2l, hce⟩ := hs2i (by omega)
                  obtain ⟨s, hs⟩ : ∃ s, Rc[j]? = some s := ⟨_, List.getElem?_eq_getElem hlt⟩
                  have hg2n := hf2 g2 hgD
                  have a0 := (World.cell?_of_block (a := ⟨g2, o2 + j, none⟩) ((hG.block g2 (by omega) (by omega) (by omega)).trans (HG4.out.block g2 hg2l (by omega) (by omega)))).trans (hce j s hs)
                  have xwr := (World.cell?_of_block (a := ⟨w.heap.size, 0, none⟩) (hG.block w.heap.size (by omega) (by omega) (by omega))).trans xw4
                  have hRr : RdF ok wr l (.agg #[.slice (some ⟨gq, 0, none⟩) l.length c]) := RdF.kept HR.out (fun k hk => by
                    have h1 := hok k hk
                    exact (hG.block k (by omega) (by omega) (by omega)).trans ((HG4.out.block k (by omega) (by omega) (by omega)).trans ((hb3.block k (by omega)).trans (HKK.out k hk)))) (fun _ h => h)
                  have HFd := hid (rn_find l _ 2 (bA s) wr ok (fun k hk => by have := hok k hk; omega) hRr)
                  have HSn := hid (edS_snoc l hs)
                  have HL := hid hlt
                  have gj : (0 : Int) ≤ (j : Int) := by omega
                  have gj1 : (j : Int) < (Rc.length : Int) := by omega
                  have hjb : j < 1099511627776 := by have := HCA.out.1; omega
                  have HQ5 := hid hq
                  have HG5 := hid hG
                  have HTT := hid hTT
                  have hg'l : g' < wr.heap.size := by obtain ⟨_, _, _, _, h, _⟩ := hq; exact h
                  rcases fnd_cases l 2 (bA s) with hr | ⟨r, hr, hrl⟩
                  · rw [hr] at HFd HSn
                    clear hce hs hlt hj hq hG hgD hRr hr hTT
                    go_wp2_with (first
                      | (go_at_call 26; refine Calls.mono HFd.out ?_; rintro e w5 ⟨rfl, hb5⟩))
                    go_roundw
                    case rel => exact ⟨j + 1, g', HL.out, by go_num, by rw [HSn.out, if_neg (by decide), List.append_nil]; exact HQ5.out.kept hb5.size (hb5.block g' hg'l), hg', HG5.out.trans (G2.below hb5)⟩
                    case measure => have := HL.out; simp [upN, Go.RowKit.intOf]; omega
                  · rw [hr] at HFd HSn
                    clear hce hs hlt hj hq hG hgD hRr hr hTT
                    go_wp2_with (first
                      | (go_at_call 26; refine Calls.mono HFd.out ?_; rintro e w5 ⟨rfl, hb5⟩; have hq5 := HQ5.out.kept (w' := w5.alloc (.cells #[.int .i64 (r : Int)] 3)) (by have := hb5.size; simp; omega) ((Below.heap_alloc w5 _ g' (by have := hb5.size; omega)).trans (hb5.block g' hg'l)); obtain ⟨v6, w6, g6, hrun6, hq6, hg6, hG6⟩ := qu_push hq5 HTT.out r ⟨w5.heap.size, 0, none⟩ 1 (cell_of_row _ _ 0 _ _ _ (heap_alloc_new w5 _)) rfl; have hA6 : appR Try.prog #[46, 46] 46 #[.slice (some ⟨g', ov, none⟩) nv cv, .slice (some ⟨w5.heap.size, 0, none⟩) 1 1] (w5.alloc (.cells #[.int .i64 (r : Int)] 3)) = _ := hrun6; have HN6 := hid (And.intro hq6 (And.intro hg6 hG6)); have HB5 := hid hb5; clear hq5 hq6 hg6 hG6 hrun6))
                    go_roundw
                    case rel =>
                      obtain ⟨hq6, hg6, hG6⟩ := HN6.out
                      have hz5 := HB5.out.size
                      have hmid := HG5.out.trans (G2.below (HB5.out.alloc hz5 (.cells #[.int .i64 (r : Int)] 3)))
                      have hGw : G2 g g w4 w6 := ⟨hG6.os.trans hmid.os, hG6.tape.trans hmid.tape, hG6.output.trans hmid.output, Nat.le_trans hmid.size hG6.size, fun q hq h1 h2 => (hG6.block q (Nat.lt_of_lt_of_le hq hmid.size) (by rcases hg' with h | h <;> omega) (by rcases hg' with h | h <;> omega)).trans (hmid.block q hq h1 h2)⟩
                      have hg7 : g6 = g ∨ w4.heap.size ≤ g6 := by
                        rcases hg6 with h | h
                        · rw [h]; exact hg'
                        · exact .inr (Nat.le_trans hmid.size h)
                      exact ⟨j + 1, g6, HL.out, by go_num, by rw [HSn.out, if_pos (by omega), ← List.append_assoc]; exact hq6, hg7, hGw⟩
                    case measure => have := HL.out; simp [upN, Go.RowKit.intOf]; omega
                · obtain rfl : j = Rc.length := by omega
                  rw [List.take_length] at hq
                  go_wp2
                  go_roundg (unH l (k :: H) * 4001 + (T ++ edS l Rc).length)
                  case measure =>
                    have h1 := HUN.out
                    have h2 := edS_len l Rc
                    have h3 := HCA.out.1
                    rw [List.length_append]
                    omega
                  case rel =>
                    have h1 := HUN.out
                    have h2 := edS_len l Rc
                    have h3 := HCA.out
                    refine ⟨k :: H, T ++ edS l Rc, Rs.reverse ++ S, g', HV.out, Nat.le_refl _, by rw [List.length_append]; omega, by simp only [List.length_cons]; omega, by simp only [List.length_append, List.length_reverse]; omega, HH4.out.kept (hG.block (w.heap.size + 1) HH4.out.lt (by omega) (by omega)), HM4.out.kept (hG.block _ HM4.out.lt (by omega) (by omega)), hq, by rcases hg' with h | h <;> omega, ?_⟩
                    have b1 := hbl.trans (HG2.out.low (B := w.heap.size + 1) (by omega) (by omega) (by omega))
                    have b2 := b1.trans (hb3.mono (by omega))
                    have b3 := b2.trans (HG4.out.low (B := w.heap.size + 1) (by omega) (by omega) (by omega))
                    exact b3.trans (hG.low (by omega) (by omega) (by omega))
        · have g2 : ((it.k : Int) == 2) = false := by simp; omega
          have HB := hid (hB.skip (.inr (fun e he => by rw [hit] at he; injection he with he; rw [← he]; exact hk2)))
          clear hB hg1 hkH hit hk2 hcv hI
          go_wp2
          go_roundg (gk - 1)
          case measure => omega
          case rel => exact ⟨H, T, S, g, HB.out, by omega, by omega, hg3, hg4, hH, hS, hq2, hgB, hbl⟩
end Go.Proofs.Ytjpmnholpeidmaa

namespace Go.Proofs.Ytjpmnholpeidmaa
open Go.RowKit Go.Sort
set_option linter.unusedVariables false
attribute [local go_sem ↓] Go.wp_at_zero Go.wp_at_succ
/-- Whether one of the first k says so. -/
def RelSdQ (ss : List Rf) (nm : ByteArray) (W : World) (b i : Value) (wr : World) : Prop := ∃ k : Nat, k ≤ ss.length ∧ i = .int .i64 (k : Int) ∧ b = .bool ((ss.take k).any (isRf nm)) ∧ Below W.heap.size W wr
theorem any_snoc {ss : List Rf} {nm : ByteArray} {k : Nat} {r : Rf} (h : ss[k]? = some r) : (ss.take (k + 1)).any (isRf nm) = ((ss.take k).any (isRf nm) || isRf nm r) := by
  rw [List.take_add_one, h, List.any_append]
  simp
set_option maxHeartbeats 4000000 in
set_option maxRecDepth 100000 in
theorem effects_ref (t : ByteArray) (l : List (Int × It)) (fv : Value) (w : World) (ok : Nat → Prop) (hok : ∀ k, ok k → k < w.heap.size) (hR : RdF ok w l fv) (hF : FlF t l) (ht : t.size ≤ 4000) (h30 : l.length ≤ 30) (i : Nat) (pp : Int) (it : It) (hit : l[i]? = some (pp, it)) :
    Calls Try.prog 13 #[fv, .int .i64 (i : Int)] w fun e w' => ∃ v, e = .returned v ∧ w'.ownsRow w.heap.size 60 4 v (edF it.ss (reaL l (i : Int))).length ((edF it.ss (reaL l (i : Int))).flatMap edC) ∧ Below w.heap.size w w' := by
  have hil := (List.getElem?_eq_some_iff.1 hit).1
  have hcs := (hF i _ hit).2.1.hss.1
  obtain ⟨i0, hi0, hz0, hz1, hz2⟩ := info_parts Try.infoDg
  obtain ⟨q, c, rfl, hlen, _⟩ := id hR
  have hb1 := (Below.refl w.heap.size w).alloc (Nat.le_refl _) (.cells #[.slice q l.length c] 24)
  have y0 := one_new w (.slice q l.length c) 24
  have hRW : RdF (fun k => k < w.heap.size) (w.alloc (.cells #[.slice q l.length c] 24)) l (.agg #[.slice q l.length c]) := RdF.kept hR (fun k hk => hb1.block k (hok k hk)) (fun k hk => hok k hk)
  have e1 : (w.alloc (.cells #[.slice q l.length c] 24)).heap.size = w.heap.size + 1 := by simp
  have HC := hid (reach_ref t l _ (w.alloc (.cells #[.slice q l.length c] 24)) (fun k => k < w.heap.size) (fun k hk => by omega) hRW hF ht h30 i hil)
  have hrl : (reaL l (i : Int)).length ≤ 200000 := by
    refine Nat.le_trans (risB_le _) (Nat.le_trans (rea_much l 4000 (fun e he => ?_) (i : Int)) (by omega))
    obtain ⟨j, hj⟩ := List.mem_iff_getElem?.1 he
    exact ((hF j e hj).2.ca ht).2
  generalize reaL l (i : Int) = R at *
  obtain ⟨g, vI, hq, hgo, hcv, hI⟩ := RdF.itemF hRW hit
  obtain ⟨p1, c1, p2, c2, p3, c3, p4, c4, rfl, hu1, hSs, hu2⟩ := hI
  clear hu1 hu2
  subst hq
  have i4 := hcv.get 4 _ rfl
  have HB1 := hid hb1
  have HRL := hid hrl
  have gi : (0 : Int) ≤ (i : Int) := by omega
  have gi1 : (i : Int) < (l.length : Int) := by omega
  have hib : i < 1099511627776 := by omega
  have HSs := hid hSs
  have HCS := hid hcs
  clear hR hok hb1 hRW hcv hSs hit hrl hF hcs
  go_enter Try.func13, Try.ntmps13
  go_wp2_with (first
    | (go_at_call 10; refine Calls.mono HC.out ?_; rintro e w2 ⟨v2, D2, rfl, hS2, hD2, hb2⟩; have HN2 := hid hS2; obtain ⟨p2', c2', hv2, _⟩ := id hS2; subst hv2; clear hS2))
  generalize w.alloc (.cells #[.slice (some ⟨g, 0, none⟩) l.length c] 24) = W1 at *
  have hsz2 := hb2.size
  go_loopw [5, 15] (fun v j wr => RelEd it.ss R w2 v j wr) (fun _ j _ => upN R.length j)
  case atStart => exact ⟨0, Nat.zero_le _, rfl, World.ownsRow_nil _ _ _ _, Below.refl _ _⟩
  case round =>
    obtain ⟨k, hkl, rfl, hown, hbr⟩ := hrel
    have hS2 := HN2.out
    have z0 := (World.cell?_of_block (a := ⟨w.heap.size, 0, none⟩) ((hbr.block w.heap.size (by omega)).trans (hb2.block w.heap.size (by omega)))).trans y0
    have z4 := (World.cell?_of_block (a := ⟨g, i * 10 + 4, none⟩) ((hbr.block g (by omega)).trans (hb2.block g (by omega)))).trans i4
    obtain ⟨pv, cv, hv⟩ := own_formD hown
    subst hv
    by_cases hlt : k < R.length
    · obtain ⟨s, hs⟩ : ∃ s, R[k]? = some s := ⟨_, List.getElem?_eq_getElem hlt⟩
      obtain ⟨p', cap', e', _, h2⟩ := hS2
      injection e' with e5 _ e6
      subst e5 e6
      obtain ⟨g2, o2, e7, e8, e9, e10⟩ := h2 (by omega)
      subst e7
      have a0 : wr.cell? ⟨g2, o2 + k, none⟩ = some (.string (bA s)) := (World.cell?_of_block (a := ⟨g2, o2 + k, none⟩) (hbr.block g2 e9)).trans (e10 k s hs)
      have gk : (0 : Int) ≤ (k : Int) := by omega
      have gk1 : (k : Int) < (R.length : Int) := by omega
      have hkb : k < 1099511627776 := by have := HRL.out; omega
      have hszr := hbr.size
      have hSr := HSs.out.kept (w' := wr) (fun k hk => (hbr.block k (by omega)).trans (hb2.block k (by omega)))
      have HL := hid hlt
      have HO := hid (And.intro hown hbr)
      have HLE := hid (edF_le it.ss R k)
      have HSr := hid hSr
      have HE0 := hid (fun h : saidR it.ss (bA s) = false => edF_no hs h)
      have HE1 := hid (fun h : saidR it.ss (bA s) = true => edF_yes hs h)
      clear hs e8 e9 e10 h2 hD2 hown hlt hkl hSr hbr
      go_wp2
      generalize wr = w3 at *
      go_loopw [8, 26] (fun b j wx_ => RelSdQ it.ss (bA s) w3 b j wx_) (fun _ j _ => upN it.ss.length j)
      case atStart => exact ⟨0, Nat.zero_le _, rfl, rfl, Below.refl _ _⟩
      case round =>
        obtain ⟨m, hm, rfl, rfl, hbx⟩ := hrel
        have hszx := hbx.size
        have hm5 := HCS.out
        by_cases hlt2 : m < it.ss.length
        · obtain ⟨g3, rfl, hok3, t3⟩ := HSr.out.2 (by omega)
          obtain ⟨r, hr⟩ : ∃ r, it.ss[m]? = some r := ⟨_, List.getElem?_eq_getElem hlt2⟩
          have d0 := (World.cell?_of_block (a := ⟨g3, m * 2 + 0, none⟩) (hbx.block g3 (by omega))).trans (t3 m r hr 0 _ rfl)
          have d1 := (World.cell?_of_block (a := ⟨g3, m * 2 + 1, none⟩) (hbx.block g3 (by omega))).trans (t3 m r hr 1 _ rfl)
          rw [Nat.add_zero] at d0
          have gm : (0 : Int) ≤ (m : Int) := by omega
          have gm1 : (m : Int) < (it.ss.length : Int) := by omega
          have hmb : m < 1099511627776 := by omega
          have hbz := hbx.alloc hszx (.cells #[.string r.x, .int .i64 (r.a : Int)] 62)
          have HA := hid (any_snoc (nm := bA s) hr)
          have HZ := hid hbz
          have HL2 := hid hlt2
          clear t3 hr hbz hlt2 hm
          cases hsd : (it.ss.take m).any (isRf (bA s))
          · have HSD := hid hsd
            clear hsd
            by_cases hx : r.x = bA s
            · have g5 : (r.x.toList == (bA s).toList) = true := (Lib.bytes_beq_iff _ _).2 hx
              have HXX := hid hx
              clear hx
              go_wp2
              go_roundw
              case rel => exact ⟨m + 1, HL2.out, by go_num, by rw [HA.out, HSD.out]; simp [isRf, HXX.out], HZ.out⟩
              case measure => have := HL2.out; simp [upN, Go.RowKit.intOf]; omega
            · have g5 : (r.x.toList == (bA s).toList) = false := (Lib.bytes_beq_false_iff _ _).2 hx
              have HXX := hid hx
              clear hx
              go_wp2
              go_roundw
              case rel => exact ⟨m + 1, HL2.out, by go_num, by rw [HA.out, HSD.out]; simp [isRf, HXX.out], HZ.out⟩
              case measure => have := HL2.out; simp [upN, Go.RowKit.intOf]; omega
          · have HSD := hid hsd
            clear hsd
            go_wp2
            go_roundw
            case rel => exact ⟨m + 1, HL2.out, by go_num, by rw [HA.out, HSD.out]; rfl, HZ.out⟩
            case measure => have := HL2.out; simp [upN, Go.RowKit.intOf]; omega
        · obtain rfl : m = it.ss.length := by omega
          rw [List.take_length]
          have e5 : it.ss.any (isRf (bA s)) = saidR it.ss (bA s) := rfl
          rw [e5]
          clear e5 hlt2 hm
          have hbw := HO.out.2.trans (hbx.mono hszr)
          have hO5 := own_kept HO.out.1 (fun z e => hbx.block z (HO.out.1.lt z e).2)
          cases hsd : saidR it.ss (bA s)
          · have HE := hid (HE0.out hsd)
            have HNW := hid (World.news_of_block (heap_alloc_new wr (.cells #[.int .i64 0, .int .i64 0, .int .i64 10, .string (bA s)] 60)))
            have HO5 := hid (hO5.alloc (.cells #[.int .i64 0, .int .i64 0, .int .i64 10, .string (bA s)] 60))
            have hz5 : w2.heap.size ≤ (wr.alloc (.cells #[.int .i64 0, .int .i64 0, .int .i64 10, .string (bA s)] 60)).heap.size := by simp; omega
            have hmax : (edF it.ss (R.take k)).length + 1 ≤ maxLen := by have := HLE.out; have := HRL.out; unfold maxLen; omega
            have hbyt : ((edF it.ss (R.take k)).length + 1) * 40 ≤ 140737488355328 := by have := HLE.out; have := HRL.out; omega
            have HBW := hid hbw
            clear hsd hO5 hbx hbw
            go_wp2_with (first
              | (at_builtin; refine wpList_append_lies _ rfl (.tmp 40) (.tmp 43) 33 rfl w2.heap.size 60 i0 _ 4 40 Try.underlying33 hi0 hz0 hz1 hz2 rfl (by decide) _ _ _ rfl HO5.out ⟨wr.heap.size, 0, none⟩ 1 1 [.int .i64 0, .int .i64 0, .int .i64 10, .string (bA s)] rfl rfl HNW.out (by intro u hu; simp at hu; rcases hu with rfl | rfl | rfl <;> rfl) (by decide) hmax hbyt hz5 _ rfl ?_; intro g6 cap6 w6 hown6 hgrow6 hat6 hlt6))
            go_roundw
            case rel =>
              refine ⟨k + 1, HL.out, by go_num, ?_, ?_⟩
              · rw [HE.out, List.length_append, List.flatMap_append]
                simpa [edC] using hown6
              · exact (HBW.out.alloc HBW.out.size _).grown hgrow6 hz5 (fun z e => (HO5.out.lt z e).1)
            case measure => have := HL.out; simp [upN, Go.RowKit.intOf]; omega
          · have HE := hid (HE1.out hsd)
            have HBW := hid (And.intro hO5 hbw)
            clear hsd hO5 hbx hbw
            go_wp2
            go_roundw
            case rel => exact ⟨k + 1, HL.out, by go_num, by rw [HE.out]; exact HBW.out.1, HBW.out.2⟩
            case measure => have := HL.out; simp [upN, Go.RowKit.intOf]; omega
    · obtain rfl : k = R.length := by omega
      have HO := hid (And.intro hown hbr)
      rw [List.take_length] at HO ⊢
      clear hlt hkl hown hS2 hD2
      go_wp2
      go_ret
      exact ⟨_, rfl, own_low HO.out.1 (by omega), HB1.out.trans ((hb2.mono (by omega)).trans (HO.out.2.mono (by omega)))⟩
end Go.Proofs.Ytjpmnholpeidmaa


/- What is read lies in blocks of its own. -/
import Derived.Test.YtbkihppmikjcoaaDoorFrParse
namespace Go.Proofs.YtbkihppmikjcoaaDoor
open Go.RowKit
set_option linter.unusedVariables false
attribute [local go_sem ↓] Go.wp_at_zero Go.wp_at_succ
/-- Questions in memory, none of it below block n. -/
def AksB (n : Nat) (w : World) (v : Value) (l : List Ak) : Prop := ∃ p c, v = .slice p l.length c ∧ (p = none → c = 0) ∧ (0 < l.length → ∃ g o, p = some ⟨g, o, none⟩ ∧ n ≤ g ∧ g < w.heap.size ∧
  ∀ j a, l[j]? = some a → ∃ p c, (∀ i u, (akC a p c)[i]? = some u → w.cell? ⟨g, o + j * 6 + i, none⟩ = some u) ∧ (0 < a.args.length → ∃ g o, p = some ⟨g, o, none⟩ ∧ n ≤ g ∧ g < w.heap.size ∧ Nums w g o a.args))
theorem AksB.in_ {n : Nat} {w : World} {v : Value} {l : List Ak} (h : AksB n w v l) : AksIn w v l := by
  obtain ⟨p, c, rfl, hz, hh⟩ := h
  refine ⟨p, c, rfl, hz, fun hl => ?_⟩
  obtain ⟨g, o, rfl, _, hg, hk⟩ := hh hl
  refine ⟨g, o, rfl, hg, fun j a hj => ?_⟩
  obtain ⟨p, c, h1, h2⟩ := hk j a hj
  refine ⟨p, c, h1, fun hl => ?_⟩
  obtain ⟨g, o, rfl, _, hg, h3⟩ := h2 hl
  exact ⟨g, o, rfl, hg, h3⟩
theorem AksB.kept {n : Nat} {w w' : World} {v : Value} {l : List Ak} (h : AksB n w v l) (hs : w.heap.size ≤ w'.heap.size) (hb : ∀ k, n ≤ k → k < w.heap.size → w'.heap[k]? = w.heap[k]?) : AksB n w' v l := by
  obtain ⟨p, c, rfl, hz, hh⟩ := h
  refine ⟨p, c, rfl, hz, fun hl => ?_⟩
  obtain ⟨g, o, rfl, hn, hg, hk⟩ := hh hl
  refine ⟨g, o, rfl, hn, Nat.lt_of_lt_of_le hg hs, fun j a hj => ?_⟩
  obtain ⟨p, c, h1, h2⟩ := hk j a hj
  refine ⟨p, c, fun i u hu => (World.cell?_of_block (a := ⟨g, o + j * 6 + i, none⟩) (hb g hn hg)).trans (h1 i u hu), fun hl => ?_⟩
  obtain ⟨g, o, rfl, hn, hg, h3⟩ := h2 hl
  exact ⟨g, o, rfl, hn, Nat.lt_of_lt_of_le hg hs, h3.kept (hb g hn hg)⟩
theorem OwnAk.inB {base : Nat} {w : World} {v : Value} {L : List (Ak × Nat)} (h : OwnAk base w v L) : AksB base w v (L.map (·.1)) := by
  obtain ⟨h1, h2⟩ := h
  by_cases hn : 0 < L.length
  · obtain ⟨g, cap, hv⟩ : ∃ g cap, v = .slice (some ⟨g, 0, none⟩) L.length cap := by
      obtain ⟨_, ⟨_, h0⟩ | ⟨g, cap, cur, hv, _⟩⟩ := h1
      · omega
      · exact ⟨g, cap, hv⟩
    subst hv
    refine ⟨some ⟨g, 0, none⟩, cap, by rw [List.length_map], nofun, fun _ => ⟨g, 0, rfl, (h1.lt g rfl).1, (h1.lt g rfl).2, fun j a hj => ?_⟩⟩
    rw [List.getElem?_map] at hj
    cases hp : L[j]? with
    | none => rw [hp] at hj; cases hj
    | some p =>
      rw [hp] at hj
      simp at hj
      subst hj
      refine ⟨some ⟨p.2, 0, none⟩, p.1.args.length, fun i u hu => ?_, fun _ => ⟨p.2, 0, rfl, (h2 p (List.mem_of_getElem? hp)).1, (Array.getElem?_eq_some_iff.1 (h2 p (List.mem_of_getElem? hp)).2).1, row_cell (h2 p (List.mem_of_getElem? hp)).2⟩⟩
      have := h1.cells (g := g) rfl _ _ (akL_at L j p hp i u hu)
      rw [show (⟨g, 0, none⟩ : Addr).add (j * 6 + i) = ⟨g, 0 + (j * 6 + i), none⟩ by unfold Addr.add; split <;> simp_all, ← Nat.add_assoc] at this
      exact this
  · have hL : L = [] := List.length_eq_zero_iff.1 (by omega)
    subst hL
    obtain ⟨_, ⟨hv, h0⟩ | ⟨g, cap, cur, hv, _⟩⟩ := h1
    · exact ⟨none, 0, hv, fun _ => rfl, fun h => absurd h (by simp)⟩
    · exact ⟨some ⟨g, 0, none⟩, cap, hv, nofun, fun h => absurd h (by simp)⟩
def ParseB (n : Nat) (x : List Ak ⊕ (Int × Nat)) (r : Value) (e k : Int) (w' : World) : Prop :=
  match x with
  | .inl m => e = 0 ∧ k = 0 ∧ AksB n w' r m
  | .inr (e', k') => r = .slice none 0 0 ∧ e = e' ∧ k = (k' : Int)
set_option maxHeartbeats 1000000 in
set_option maxRecDepth 100000 in
theorem parse_up_nil (w : World) (p : Option Addr) (c : Nat) :
    Calls Tryd.prog 10 #[.slice p 0 c] w fun ex w' => ∃ r e k, ex = .returned (.tuple #[r, faV e k]) ∧ Below w.heap.size w w' ∧ ParseB w.heap.size (.inl []) r e k w' := by
  have hb1 := ((Below.refl w.heap.size w).alloc (Nat.le_refl _) (.cells #[.int .i64 0, .int .i64 0] 30)).alloc (by simp) (.cells #[.slice p 0 c, .int .i64 0] 42)
  have hn1 := heap_alloc_new (w.alloc (.cells #[.int .i64 0, .int .i64 0] 30)) (.cells #[.slice p 0 c, .int .i64 0] 42)
  have hn0 := (Below.heap_alloc (w.alloc (.cells #[.int .i64 0, .int .i64 0] 30)) (.cells #[.slice p 0 c, .int .i64 0] 42) w.heap.size (by simp)).trans (heap_alloc_new w _)
  rw [show (w.alloc (.cells #[.int .i64 0, .int .i64 0] 30)).heap.size = w.heap.size + 1 by simp] at hn1
  have HB := hid hb1
  have HN0 := hid hn0
  have HN1 := hid hn1
  clear hb1 hn1 hn0
  go_enter Tryd.func10, Tryd.ntmps10
  go_wp2
  go_loopw [4] (fun v wr => v = .slice none 0 0 ∧ Below w.heap.size w wr ∧ wr.cell? ⟨w.heap.size + 1, 1, none⟩ = some (.int .i64 0) ∧ wr.heap[w.heap.size]? = some (.cells #[.int .i64 0, .int .i64 0] 30 (0, 0))) (fun _ _ => 0)
  case atStart => exact ⟨rfl, HB.out, cell_of_row _ _ 1 _ _ _ HN1.out, HN0.out⟩
  case round =>
    obtain ⟨rfl, hb1, c1, c2⟩ := hrel
    obtain ⟨d0, d1, df⟩ := row2 c2
    have C2 := hid c2
    have HB2 := hid hb1
    clear c2 hb1
    go_wp2
    obtain ⟨z0, z1⟩ := fin2 C2.out (.int .i64 0) (.int .i64 0)
    have hb9 := (HB2.out.setCell (p := ⟨w.heap.size, 0, none⟩) (Nat.le_refl _) (.int .i64 0)).setCell (p := ⟨w.heap.size, 1, none⟩) (Nat.le_refl _) (.int .i64 0)
    generalize (wr.setCell ⟨w.heap.size, 0, none⟩ (.int .i64 0)).setCell ⟨w.heap.size, 1, none⟩ (.int .i64 0) = w9 at *
    exact bodyPost_ret (v := .tuple #[.slice none 0 0, faV 0 0]) (by simp [results, Tryd.results10, go_sem, z0, z1, faV]) rfl ⟨_, 0, 0, rfl, hb9, rfl, rfl, none, 0, rfl, fun _ => rfl, fun h => absurd h (by simp)⟩
set_option maxHeartbeats 2000000 in
set_option maxRecDepth 100000 in
theorem parse_up (w : World) (hL : Lw w) (v : Value) (B : List UInt8) (hv : BytIn w v B) (hbig : B.length ≤ 1099511627776) :
    Calls Tryd.prog 10 #[v] w fun ex w' => ∃ r e k, ex = .returned (.tuple #[r, faV e k]) ∧ Below w.heap.size w w' ∧ ParseB w.heap.size (pr B) r e k w' := by
  obtain ⟨p, c, rfl, hcap, _, hp⟩ := hv
  by_cases hB : B = []
  · subst hB
    rw [pr_nil]
    exact parse_up_nil w p c
  obtain ⟨g, o, rfl, hgl, hbyt⟩ := hp (List.length_pos_iff.2 hB)
  obtain ⟨i0, hi0, hz0, hz1, hz2⟩ := info_parts Tryd.infoAk
  obtain ⟨X, hX⟩ : ∃ X, pr B = X := ⟨_, rfl⟩
  rw [hX]
  have hb1 := ((Below.refl w.heap.size w).alloc (Nat.le_refl _) (.cells #[.int .i64 0, .int .i64 0] 30)).alloc (by simp) (.cells #[.slice (some ⟨g, o, none⟩) B.length c, .int .i64 0] 42)
  have hn1 := heap_alloc_new (w.alloc (.cells #[.int .i64 0, .int .i64 0] 30)) (.cells #[.slice (some ⟨g, o, none⟩) B.length c, .int .i64 0] 42)
  have hn0 := (Below.heap_alloc (w.alloc (.cells #[.int .i64 0, .int .i64 0] 30)) (.cells #[.slice (some ⟨g, o, none⟩) B.length c, .int .i64 0] 42) w.heap.size (by simp)).trans (heap_alloc_new w _)
  rw [show (w.alloc (.cells #[.int .i64 0, .int .i64 0] 30)).heap.size = w.heap.size + 1 by simp] at hn1
  have h3 := hL.low
  have HR0 := hid (show Rd (w.heap.size + 1) _ g o c B 0 from ⟨hn1, Nat.zero_le _, hcap, hbig, by omega, Nat.lt_of_lt_of_le hgl hb1.size, by omega, hbyt.kept (hb1.block g hgl), hL.below h3 hb1⟩)
  have HB := hid hb1
  have HN0 := hid hn0
  have HX0 : Hid (X = preP [] 0 (pr (B.drop 0))) := by
    show _ = _
    rw [List.drop_zero, hX]
    cases X with
    | inl m => rfl
    | inr p => simp [preP]
  have HBs := hid hB
  clear hb1 hn1 hn0 hX hbyt hcap hp hB
  go_enter Tryd.func10, Tryd.ntmps10
  go_wp2
  go_loopw [4] (fun v wr => RelPa w.heap.size g o c B w X v wr) (fun _ wr => meaP (w.heap.size + 1) B.length wr)
  case atStart => exact ⟨[], 0, HR0.out, ⟨World.ownsRow_nil _ _ _ _, fun p hp => by cases hp⟩, HB.out, HN0.out, Nat.le_refl _, HX0.out⟩
  case round =>
    obtain ⟨L, a, hR1, hO, hB1, hF, hLa, hX1⟩ := hrel
    have c1 : wr.cell? ⟨w.heap.size + 1, 1, none⟩ = some (.int .i64 (a : Int)) := cell_of_row _ _ 1 _ _ _ hR1.blk
    have hale := hR1.le
    by_cases hlt : a < B.length
    · have HA := hid (ask_any hR1)
      have HBl := hid hR1.blk
      have HM := hid (meaP_at hR1)
      cases hak : akR (B.drop a) with
      | none => 
        have HX2 : Hid (X = .inr (2, a)) := by
          show _ = _
          rw [hX1, pr_none (fun e => by have := congrArg List.length e; rw [List.length_drop] at this; simp at this; omega) hak]
          rfl
        have HA : Hid (_ ∧ _) := ⟨HA.out, hak⟩
        have HF := hid hF
        have HB1 := hid hB1
        clear hak hR1 hO hB1 hF hX1
        go_wp2_with (first
          | (go_at_call 16; refine Calls.mono HA.out.1 ?_; rintro ex w2 ⟨u0, u1, u2, u3, u4, u5, ok, rfl, on2, hC2, hP2⟩; rw [HA.out.2] at hP2; obtain rfl : ok = false := hP2; have s0 := fun a m W => run_store Tryd.prog W a u0 m (on2 0 u0 rfl); have s1 := fun a m W => run_store Tryd.prog W a u1 m (on2 1 u1 rfl); have s2 := fun a m W => run_store Tryd.prog W a u2 m (on2 2 u2 rfl); have s3 := fun a m W => run_store Tryd.prog W a u3 m (on2 3 u3 rfl); have s4 := fun a m W => run_store Tryd.prog W a u4 m (on2 4 u4 rfl); have s5 := fun a m W => run_store Tryd.prog W a u5 m (on2 5 u5 rfl); have f2 := (hC2.block w.heap.size (Array.getElem?_eq_some_iff.1 HF.out).1 (by simp)).trans HF.out; obtain ⟨f20, f21, f2f⟩ := row2 f2; have F2 := hid f2; have HC2 := hid hC2; have g20 := cell_alloc f20; have g21 := cell_alloc f21; have gf := frozen_alloc f2; clear on2 hC2 f2))
        have hb2 : Below w.heap.size w w2 := ⟨HC2.out.os.trans HB1.out.os, HC2.out.tape.trans HB1.out.tape, HC2.out.output.trans HB1.out.output, Nat.le_trans HB1.out.size HC2.out.size, fun k hk => (HC2.out.block k (by have := HB1.out.size; omega) (by simp; omega)).trans (HB1.out.block k hk)⟩
        have hb3 := hb2.alloc hb2.size (.cells #[u0, u1, u2, u3, u4, u5] 26)
        have f3 := (Below.heap_alloc w2 (.cells #[u0, u1, u2, u3, u4, u5] 26) w.heap.size (Array.getElem?_eq_some_iff.1 F2.out).1).trans F2.out
        obtain ⟨z0, z1⟩ := fin2 f3 (.int .i64 2) (.int .i64 (a : Int))
        have hb9 := (hb3.setCell (p := ⟨w.heap.size, 0, none⟩) (Nat.le_refl _) (.int .i64 2)).setCell (p := ⟨w.heap.size, 1, none⟩) (Nat.le_refl _) (.int .i64 (a : Int))
        generalize ((w2.alloc (.cells #[u0, u1, u2, u3, u4, u5] 26)).setCell ⟨w.heap.size, 0, none⟩ (.int .i64 2)).setCell ⟨w.heap.size, 1, none⟩ (.int .i64 (a : Int)) = w9 at *
        exact bodyPost_ret (v := .tuple #[.slice none 0 0, faV 2 (a : Int)]) (by simp [results, Tryd.results10, go_sem, z0, z1, faV]) rfl ⟨_, _, _, rfl, hb9, by rw [HX2.out]; exact ⟨rfl, rfl, rfl⟩⟩
      | some qt =>
        obtain ⟨q, t⟩ := qt
        have HA : Hid (_ ∧ _) := ⟨HA.out, hak⟩
        have HF := hid hF
        have HB1 := hid hB1
        have HO := hid hO
        have HX1 := hid hX1
        have HLt := hid hlt
        have HLa := hid hLa
        have HAK := hid hak
        have hLb : L.length + 1 ≤ 1099511627776 := by omega
        by_cases hw : akW q = 0
        · have HW := hid hw
          have hmax : L.length + 1 ≤ maxLen := by unfold maxLen; omega
          have hbyt : (L.length + 1) * 72 ≤ 140737488355328 := by omega
          clear hak hR1 hO hB1 hF hX1 hlt hLa
          go_wp2_with (first
            | (go_at_call 16; refine Calls.mono HA.out.1 ?_; rintro ex w2 ⟨u0, u1, u2, u3, u4, u5, ok, rfl, on2, hC2, hP2⟩; rw [HA.out.2] at hP2; obtain ⟨rfl, hR2, G, hG0, hv2, hG2⟩ := hP2; simp only [akV, Value.agg.injEq, Array.mk.injEq, List.cons.injEq, and_true] at hv2; obtain ⟨rfl, rfl, rfl, rfl, rfl, rfl⟩ := hv2; have HR2 := hid hR2; have HG2 := hid hG2; have HG0 := hid hG0; have HO2 := hid (HO.out.ch hC2 HBl.out); have F2 := hid ((hC2.block w.heap.size (Array.getElem?_eq_some_iff.1 HF.out).1 (by simp)).trans HF.out); have HC2 := hid hC2; clear on2 hC2 hG0 hG2 hR2)
            | (go_at_call 6; refine Calls.mono (wrong_any q (some ⟨G, 0, none⟩) q.args.length _) ?_; rintro ex w3 ⟨rfl, hb3⟩; have x3 := (hb3.block w2.heap.size (by simp)).trans (heap_alloc_new w2 (.cells #[.int .i64 q.id, .int .i64 q.kind, .int .i64 q.fr, .int .i64 q.to, .string (ba q.text), .slice (some ⟨G, 0, none⟩) q.args.length q.args.length] 26)); obtain ⟨x30, x31, x32, x33, x34, x35, x3f⟩ := row6 x3; have hb4 : Below w2.heap.size w2 w3 := ((Below.refl w2.heap.size w2).alloc (Nat.le_refl _) _).trans (hb3.mono (by simp)); have HB4 := hid hb4; have hsz3 : w2.heap.size + 1 ≤ w3.heap.size := (by simpa using hb3.size); have HSZ := hid hsz3; have HO3 := hid (HO2.out.below hb4); have HOW := hid (World.ownsRow.alloc HO3.out.own (.cells #[.int .i64 q.id, .int .i64 q.kind, .int .i64 q.fr, .int .i64 q.to, .string (ba q.text), .slice (some ⟨G, 0, none⟩) q.args.length q.args.length] 26)); have HN := hid (World.news_of_block (heap_alloc_new w3 (.cells #[.int .i64 q.id, .int .i64 q.kind, .int .i64 q.fr, .int .i64 q.to, .string (ba q.text), .slice (some ⟨G, 0, none⟩) q.args.length q.args.length] 26))); clear x3 hb3 hb4 hsz3)
            | (at_builtin; refine wpList_append_lies _ rfl (.tmp 34) (.tmp 36) 22 rfl w.heap.size 26 i0 _ 6 72 Tryd.underlying22 hi0 hz0 hz1 hz2 rfl (by decide) _ _ _ rfl HOW.out ⟨w3.heap.size, 0, none⟩ 1 1 (akC q (some ⟨G, 0, none⟩) q.args.length) rfl rfl HN.out (by intro u hu; simp [akC] at hu; rcases hu with rfl | rfl | rfl | rfl | rfl | rfl <;> rfl) (by decide) hmax hbyt (by have := HB1.out.size; have := HC2.out.size; have := HSZ.out; simp; omega) _ rfl ?_; intro g6 cap6 w6 hown6 hgrow6 hat6 hlt6; have HOWN := hid hown6; have HG6 := hid hgrow6; clear hown6 hgrow6 hat6 hlt6))
          go_roundw
          case rel => exact pa_round rfl hgl h3 HB1.out HC2.out HR2.out HO2.out F2.out HG0.out HG2.out HB4.out HOWN.out _ HG6.out HLa.out HLt.out HX1.out (HAK.out) HW.out |>.1
          case measure =>
            have hR6 := (pa_round rfl hgl h3 HB1.out HC2.out HR2.out HO2.out F2.out HG0.out HG2.out HB4.out HOWN.out _ HG6.out HLa.out HLt.out HX1.out HAK.out HW.out).2
            have h1 := meaP_at hR6
            have h2 := akR_len HAK.out
            have h3 := HLt.out
            rw [List.length_drop] at h2
            show meaP (w.heap.size + 1) B.length w6 < meaP (w.heap.size + 1) B.length wr
            rw [h1, HM.out]
            omega
        · have HW := hid hw
          have HX2 : Hid (X = .inr (akW q, a)) := by
            show _ = _
            rw [HX1.out, pr_wrong (fun e => by have h1 := congrArg List.length e; rw [List.length_drop, List.length_nil] at h1; have := HLt.out; omega) HAK.out hw]
            rfl
          have hwb : (akW q != 0) = true := by simpa using hw
          clear hak hR1 hO hB1 hF hX1 hlt hLa
          go_wp2_with (first
            | (go_at_call 16; refine Calls.mono HA.out.1 ?_; rintro ex w2 ⟨u0, u1, u2, u3, u4, u5, ok, rfl, on2, hC2, hP2⟩; rw [HA.out.2] at hP2; obtain ⟨rfl, hR2, G, hG0, hv2, hG2⟩ := hP2; simp only [akV, Value.agg.injEq, Array.mk.injEq, List.cons.injEq, and_true] at hv2; obtain ⟨rfl, rfl, rfl, rfl, rfl, rfl⟩ := hv2; have HR2 := hid hR2; have HG2 := hid hG2; have HG0 := hid hG0; have HO2 := hid (HO.out.ch hC2 HBl.out); have F2 := hid ((hC2.block w.heap.size (Array.getElem?_eq_some_iff.1 HF.out).1 (by simp)).trans HF.out); have HC2 := hid hC2; clear on2 hC2 hG0 hG2 hR2)
            | (go_at_call 6; refine Calls.mono (wrong_any q (some ⟨G, 0, none⟩) q.args.length _) ?_; rintro ex w3 ⟨rfl, hb3⟩; have x3 := (hb3.block w.heap.size (by have := (Array.getElem?_eq_some_iff.1 F2.out).1; simp; omega)).trans ((Below.heap_alloc w2 _ _ (Array.getElem?_eq_some_iff.1 F2.out).1).trans F2.out); obtain ⟨x30, x31, x3f⟩ := row2 x3; have X3 := hid x3; have HB4 := hid (((Below.refl w2.heap.size w2).alloc (Nat.le_refl _) _).trans (hb3.mono (by simp))); clear x3 hb3))
          obtain ⟨z0, z1⟩ := fin2 X3.out (.int .i64 (akW q)) (.int .i64 (a : Int))
          have hb9 := ((ch_below HB1.out rfl HC2.out).trans (HB4.out.mono (by have := (ch_below HB1.out rfl HC2.out).size; omega))).setCell (p := ⟨w.heap.size, 0, none⟩) (Nat.le_refl _) (.int .i64 (akW q)) |>.setCell (p := ⟨w.heap.size, 1, none⟩) (Nat.le_refl _) (.int .i64 (a : Int))
          generalize (w3.setCell ⟨w.heap.size, 0, none⟩ (.int .i64 (akW q))).setCell ⟨w.heap.size, 1, none⟩ (.int .i64 (a : Int)) = w9 at *
          exact bodyPost_ret (v := .tuple #[.slice none 0 0, faV (akW q) (a : Int)]) (by simp [results, Tryd.results10, go_sem, z0, z1, faV]) rfl ⟨_, _, _, rfl, hb9, by rw [HX2.out]; exact ⟨rfl, rfl, rfl⟩⟩
    · obtain rfl : a = B.length := by omega
      have HX2 : Hid (X = .inl (L.map (·.1))) := by
        show _ = _
        rw [hX1, List.drop_length, pr_nil]
        simp [preP]
      obtain ⟨d0, d1, df⟩ := row2 hF
      have HF := hid hF
      have HO := hid hO
      have HB1 := hid hB1
      clear hR1 hO hB1 hF hX1 hlt hLa hale
      go_wp2
      obtain ⟨z0, z1⟩ := fin2 HF.out (.int .i64 0) (.int .i64 0)
      have hb9 := (HB1.out.setCell (p := ⟨w.heap.size, 0, none⟩) (Nat.le_refl _) (.int .i64 0)).setCell (p := ⟨w.heap.size, 1, none⟩) (Nat.le_refl _) (.int .i64 0)
      have hO9 := HO.out.but HF.out ((Below.refl w.heap.size wr).setCell (p := ⟨w.heap.size, 0, none⟩) (Nat.le_refl _) (.int .i64 0) |>.setCell (p := ⟨w.heap.size, 1, none⟩) (Nat.le_refl _) (.int .i64 0)) (fun k hk => (Below.heap_setCell _ _ _ k hk).trans (Below.heap_setCell _ _ _ k hk))
      generalize (wr.setCell ⟨w.heap.size, 0, none⟩ (.int .i64 0)).setCell ⟨w.heap.size, 1, none⟩ (.int .i64 0) = w9 at *
      refine bodyPost_ret (v := .tuple #[_, faV 0 0]) (by simp [results, Tryd.results10, go_sem, z0, z1, faV]; rfl) rfl ⟨_, _, _, rfl, hb9, by rw [HX2.out]; exact ⟨rfl, rfl, hO9.inB⟩⟩
end Go.Proofs.YtbkihppmikjcoaaDoor

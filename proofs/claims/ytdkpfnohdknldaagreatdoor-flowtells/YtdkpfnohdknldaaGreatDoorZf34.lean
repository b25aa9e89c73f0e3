/- Texts of this seat, one behind the other: RfEx4, RfExpr, RfMere. -/
import Derived.Test.YtdkpfnohdknldaaGreatDoorZf32
import Derived.Test.YtdkpfnohdknldaaGreatDoorZf22
import Derived.Deep.RegionHeld3
import Derived.Test.YtdkpfnohdknldaaGreatDoorZf33
import Derived.BigRegion
namespace Go.Proofs.YtdkpfnohdknldaaGreatDoor
open Go.RowKit Go.WideMaps Go.Maps
set_option linter.unusedVariables false
attribute [local go_sem ↓] Go.wp_at_zero Go.wp_at_succ

theorem opF_top {u : Nat} (hu : u < 256) (f t : Nat) (x : ByteArray) : opF u 255 f t x = [] := by
  have h : flw u 255 = true := by
    have h1 : tg 255 = 255 := rfl
    have h2 : tg u &&& 255 = tg u % 2 ^ 8 := Nat.and_two_pow_sub_one_eq_mod (tg u) 8
    unfold flw
    rw [h1, h2, Nat.mod_eq_of_lt (tg_lt u)]
    exact beq_self_eq_true _
  unfold opF
  rw [if_pos h]
theorem fnd_kind {l : List (Int × It)} {x : ByteArray} {k : Nat} {e : Int × It} (h : fnd l 2 x = (k : Int)) (he : l[k]? = some e) : e.2.k = 2 := by
  unfold fnd at h
  split at h
  · omega
  · unfold fidx at h
    split at h
    next i hi =>
      have hik : i = k := by omega
      subst hik
      obtain ⟨h1, h2⟩ := List.findIdx?_eq_some_iff_getElem.1 hi
      have h3 := (List.getElem?_eq_some_iff.1 he).2
      rw [h3] at h2
      have h4 : isIt 2 x e.2 = true := by simpa using h2.1
      unfold isIt at h4
      simp at h4
      omega
    next => omega
section
variable {bn : Nat} {l : List (Int × It)} {i : Nat} {at_ : Int} {fq : Option Addr} {fc : Nat} {T : List Tok}

theorem rf_arg (hlb : ∀ e ∈ l, e.2.l < 256 ∧ ∀ p ∈ e.2.ps, p.l < 256) {n : Nat} (ih : CRf bn l i at_ fq fc T n) {D D1 : Option Nat} {W wr : World} {L Lj Lk P : List Fv} {env : Env} {b mp u mm : Nat} {al : List Tr} {q : Option Addr} (hsW : RF bn l i at_ fq fc W L D) (hmW : MpL W b env mp) (hbW : okS 0 bn D W b) (hAW : SlT (fun k => k < bn) (RdE mm (fun k => k < bn) W) W 6 al q) (hwa : ∀ (j : Nat) (a : Tr), al[j]? = some a → ∃ c', wfE T n c' a) (hu : u < 256) {j : Nat} {a : Tr} (ha : al[j]? = some a) (hl : Lk = Lj ++ fvX l (flA l) env u a ++ P) (hB : (noF Lk).length < 1099511627776) (hsr : RF bn l i at_ fq fc wr Lj D1) (hstr : Stp bn D D1 W wr) :
    ∃ (g k1 : Nat) (x1' : ByteArray) (m1 : Nat) (al1 : List Tr) (f1 t1 : Nat) (q1 : Option Addr) (d1 : Nat), q = some ⟨g, 0, none⟩ ∧ exF a = f1 ∧ exT a = t1 ∧ rlX l env a < 256 ∧ lbX l env u a = jnL (rlX l env a) u ∧ wr.cell? ⟨g, j * 6, none⟩ = some (.int .i64 (k1 : Int)) ∧ wr.cell? ⟨g, j * 6 + 1, none⟩ = some (.string x1') ∧ wr.cell? ⟨g, j * 6 + 2, none⟩ = some (.int .i64 (m1 : Int)) ∧ wr.cell? ⟨g, j * 6 + 3, none⟩ = some (.slice q1 al1.length d1) ∧ wr.cell? ⟨g, j * 6 + 4, none⟩ = some (.int .i64 (f1 : Int)) ∧ wr.cell? ⟨g, j * 6 + 5, none⟩ = some (.int .i64 (t1 : Int)) ∧
    okS 0 bn D1 (wr.alloc (.cells #[.int .i64 (k1 : Int), .string x1', .int .i64 (m1 : Int), .slice q1 al1.length d1, .int .i64 (f1 : Int), .int .i64 (t1 : Int)] 100)) wr.heap.size ∧ Stp bn D D1 W (wr.alloc (.cells #[.int .i64 (k1 : Int), .string x1', .int .i64 (m1 : Int), .slice q1 al1.length d1, .int .i64 (f1 : Int), .int .i64 (t1 : Int)] 100)) ∧ (noF (Lj ++ fvX l (flA l) env u a)).length < 1099511627776 ∧
    Calls Tryz.prog 74 #[.pointer (some ⟨bn, 0, none⟩), .map (some b), .agg #[.int .i64 (k1 : Int), .string x1', .int .i64 (m1 : Int), .slice q1 al1.length d1, .int .i64 (f1 : Int), .int .i64 (t1 : Int)], .int .i64 (u : Int)] (wr.alloc (.cells #[.int .i64 (k1 : Int), .string x1', .int .i64 (m1 : Int), .slice q1 al1.length d1, .int .i64 (f1 : Int), .int .i64 (t1 : Int)] 100)) fun ex w' => ex = .returned (.int .i64 (rlX l env a : Int)) ∧ TlF bn (RF bn l i at_ fq fc) D1 (Lj ++ fvX l (flA l) env u a) (wr.alloc (.cells #[.int .i64 (k1 : Int), .string x1', .int .i64 (m1 : Int), .slice q1 al1.length d1, .int .i64 (f1 : Int), .int .i64 (t1 : Int)] 100)) w' := by
  obtain ⟨c', hw1⟩ := hwa j a ha
  obtain ⟨g, hq, hgo, hLA⟩ := hAW.2 (by have := (List.getElem?_eq_some_iff.1 ha).1; omega)
  obtain ⟨v1, hc1, hR1⟩ := hLA j a ha
  obtain ⟨k1, x1', m1, al1, f1, t1, q1, d1, e1, rfl⟩ := RdE.form hR1
  have hc := hc1.kept (Stp.lowF hstr hsW g hgo)
  have d0 := hc.get 0 _ rfl
  rw [Nat.add_zero] at d0
  have hba := (Below.refl wr.heap.size wr).alloc (Nat.le_refl _) (.cells #[.int .i64 (k1 : Int), .string x1', .int .i64 (m1 : Int), .slice q1 al1.length d1, .int .i64 (f1 : Int), .int .i64 (t1 : Int)] 100)
  have hsa : Stp bn D1 D1 wr (wr.alloc (.cells #[.int .i64 (k1 : Int), .string x1', .int .i64 (m1 : Int), .slice q1 al1.length d1, .int .i64 (f1 : Int), .int .i64 (t1 : Int)] 100)) := Stp.below hba
  have hst := hstr.trans hsa
  have hX : (noF (Lj ++ fvX l (flA l) env u a)).length < 1099511627776 := by rw [hl, noF_ap] at hB; omega
  exact ⟨g, k1, x1', m1, al1, f1, t1, q1, d1, hq, by rw [e1, exF_mk], by rw [e1, exT_mk], rlX_lt (fun e he => (hlb e he).1) hmW.lt hw1, by rw [lb_rl l env hu _ _ _ hw1, jnL_comm], d0, hc.get 1 _ rfl, hc.get 2 _ rfl, hc.get 3 _ rfl, hc.get 4 _ rfl, hc.get 5 _ rfl, hsr.fresh (Nat.le_refl _) (by simp), hst, hX, ih D1 _ Lj env b mp a _ mm c' u (hsr.below hba) (hmW.kept ((okS.step hst).1 b hbW)) ((okS.step hst).2 b hbW) (RdE.kept mm (Stp.lowF hst hsW) (fun _ h => h) _ _ hR1) hw1 hu hX⟩
set_option maxHeartbeats 1500000 in
set_option maxRecDepth 100000 in
theorem rf_call_no (hlb : ∀ e ∈ l, e.2.l < 256 ∧ ∀ p ∈ e.2.ps, p.l < 256) {n : Nat} (ih : CRf bn l i at_ fq fc T n) : ∀ (D : Option Nat) (w : World) (L : List Fv) (env : Env) (b mp k : Nat) (x : ByteArray) (mN : Nat) (al : List Tr) (f t : Nat) (q : Option Addr) (cq mm c u : Nat), RF bn l i at_ fq fc w L D → MpL w b env mp → okS 0 bn D w b → SlT (fun k => k < bn) (RdE mm (fun k => k < bn) w) w 6 al q → wfE T (n + 1) c (exMk k x mN al f t) → u < 256 → (noF (L ++ fvX l (flA l) env u (exMk k x mN al f t))).length < 1099511627776 → k = 4 ∧ fnd l 2 x = -1 →
  Calls Tryz.prog 74 #[.pointer (some ⟨bn, 0, none⟩), .map (some b), .agg #[.int .i64 (k : Int), .string x, .int .i64 (mN : Int), .slice q al.length cq, .int .i64 (f : Int), .int .i64 (t : Int)], .int .i64 (u : Int)] w fun ex w' => ex = .returned (.int .i64 (rlX l env (exMk k x mN al f t) : Int)) ∧ TlF bn (RF bn l i at_ fq fc) D (L ++ fvX l (flA l) env u (exMk k x mN al f t)) w w' := by
  intro D w L env b mp k x mN al f t q cq mm c u hs hm hb hA hw hu hn hK
  have hba := (Below.refl w.heap.size w).alloc (Nat.le_refl _) (.cells #[.int .i64 (k : Int), .string x, .int .i64 (mN : Int), .slice q al.length cq, .int .i64 (f : Int), .int .i64 (t : Int)] 100)
  obtain ⟨x0, x1, x2, x3, x4, x5⟩ := sixF_at (heap_alloc_new w (.cells #[.int .i64 (k : Int), .string x, .int .i64 (mN : Int), .slice q al.length cq, .int .i64 (f : Int), .int .i64 (t : Int)] 100))
  have hsa : Stp bn D D w (w.alloc (.cells #[.int .i64 (k : Int), .string x, .int .i64 (mN : Int), .slice q al.length cq, .int .i64 (f : Int), .int .i64 (t : Int)] 100)) := Stp.below hba
  have hsW := hs.below hba
  have hok := okS.step hsa (B := 0)
  have hmW := hm.kept (hok.1 b hb)
  have hbW := hok.2 b hb
  have hfe := hs.fresh (w' := (w.alloc (.cells #[.int .i64 (k : Int), .string x, .int .i64 (mN : Int), .slice q al.length cq, .int .i64 (f : Int), .int .i64 (t : Int)] 100))) (Nat.le_refl _) (by simp)
  have hlo : ∀ z, z < bn → (w.alloc (.cells #[.int .i64 (k : Int), .string x, .int .i64 (mN : Int), .slice q al.length cq, .int .i64 (f : Int), .int .i64 (t : Int)] 100)).heap[z]? = w.heap[z]? := fun z hz => hba.block z (Nat.lt_trans hz hs.lt.1)
  have hAW := hA.kept hlo (fun _ h => h) (RdE.kept mm hlo (fun _ h => h))
  have hlab : lbX l env u (exMk k x mN al f t) = jnL (rlX l env (exMk k x mN al f t)) u := by rw [lb_rl l env hu _ _ _ hw, jnL_comm]
  have hF := fvX_mk l (flA l) env u k x mN al f t
  rw [hlab] at hF
  have hnn := rlX_lt (fun e he => (hlb e he).1) hm.lt hw
  have hR := rlX_mk l env k x mN al f t
  have hwa : ∀ (j : Nat) (a : Tr), al[j]? = some a → ∃ c', wfE T n c' a := by
    intro j a ha
    obtain ⟨k', x', m', al', f', t', he', hk⟩ := hw
    obtain ⟨rfl, rfl, rfl, rfl, rfl, rfl⟩ := exMk_inj he'
    rcases hk with ⟨_, _, _, h4⟩ | ⟨_, _, h3, _⟩ | ⟨_, _, h3⟩ | ⟨_, _, c2, _, h4⟩
    · rw [h4] at ha; simp at ha
    · rw [h3] at ha; simp at ha
    · exact wfL_get al c j a h3 ha
    · exact wfL_get al c2 j a h4 ha
  rw [if_neg (by omega), if_neg (by omega), if_pos hK.1] at hR
  rw [if_neg (by omega), if_pos hK.1] at hF
  have g2 : ((k : Int) == 2) = false := by rw [hK.1]; rfl
  have g3 : ((k : Int) == 3) = false := by rw [hK.1]; rfl
  have g4 : ((k : Int) == 4) = true := by rw [hK.1]; rfl
  have hDr := Below.drew (Below.refl (w.alloc (.cells #[.int .i64 (k : Int), .string x, .int .i64 (mN : Int), .slice q al.length cq, .int .i64 (f : Int), .int .i64 (t : Int)] 100)).heap.size (w.alloc (.cells #[.int .i64 (k : Int), .string x, .int .i64 (mN : Int), .slice q al.length cq, .int .i64 (f : Int), .int .i64 (t : Int)] 100)))
  have hsD := hsW.below hDr
  have hsd : Stp bn D D (w.alloc (.cells #[.int .i64 (k : Int), .string x, .int .i64 (mN : Int), .slice q al.length cq, .int .i64 (f : Int), .int .i64 (t : Int)] 100)) (w.alloc (.cells #[.int .i64 (k : Int), .string x, .int .i64 (mN : Int), .slice q al.length cq, .int .i64 (f : Int), .int .i64 (t : Int)] 100)).drew := Stp.below hDr
  have HFi := hid (rn_find l _ 2 x (w.alloc (.cells #[.int .i64 (k : Int), .string x, .int .i64 (mN : Int), .slice q al.length cq, .int .i64 (f : Int), .int .i64 (t : Int)] 100)).drew (fun k => k < bn) (fun k hk => Nat.lt_of_lt_of_le hk (Nat.le_of_lt hsD.lt.1)) hsD.cells.2.2.2.2.2.2.1)
  have w0 := hsW.cells.1
  obtain ⟨eL, eP, eF⟩ := fn_none (fs := flA l) hK.2
  rw [hK.2] at HFi
  obtain ⟨ps, hps⟩ : ∃ ps : List Pm, ps = [] := ⟨_, rfl⟩
  rw [eP, eF, opF_top hu, List.append_nil, ← hps] at hF
  rw [eL] at hR
  rw [hF]
  rw [hF] at hn
  rw [← List.append_assoc]
  rw [← List.append_assoc] at hn
  replace hn := Nat.lt_of_le_of_lt (noF_le_app _ _) hn
  have hpa : ∀ j a, paF ps (lbX l env u) j a = [] := fun j a => by rw [hps]; rfl
  have HPA := hid hpa
  generalize rlX l env (exMk k x mN al f t) = nn at *
  have hnz : (nn : Int) = 0 := by rw [hR]; rfl
  have HNZ := hid hnz
  rw [hnz]
  clear hR hnz hF hlab hw hK hA hm hpa eL eP eF hps hDr
  have HB := hid (fun k => Nat.lt_of_le_of_lt (show (noF (L ++ fvAs (fvX l (flA l) env u) (lbX l env u) ps (al.take k))).length ≤ (noF (L ++ fvAs (fvX l (flA l) env u) (lbX l env u) ps al)).length by rw [noF_ap, noF_ap]; have := fvAs_less (F := fvX l (flA l) env u) (B := lbX l env u) al ps k; omega) hn)
  have HM := hid (fun k a (h : al[k]? = some a) => show L ++ fvAs (fvX l (flA l) env u) (lbX l env u) ps (al.take (k + 1)) = L ++ fvAs (fvX l (flA l) env u) (lbX l env u) ps (al.take k) ++ fvX l (flA l) env u a ++ paF ps (lbX l env u) k a by rw [fvAs_take al ps k a h]; simp only [List.append_assoc])
  have HZ : Hid (L ++ fvAs (fvX l (flA l) env u) (lbX l env u) ps (al.take al.length) = L ++ fvAs (fvX l (flA l) env u) (lbX l env u) ps al) := by show _ = _; rw [List.take_length]
  have H0 : Hid (L ++ fvAs (fvX l (flA l) env u) (lbX l env u) ps (al.take 0) = L) := by show _ = _; rw [List.take_zero]; cases ps <;> simp [fvAs]
  generalize hM : (fun k => L ++ fvAs (fvX l (flA l) env u) (lbX l env u) ps (al.take k)) = M
  have hMk : ∀ k, L ++ fvAs (fvX l (flA l) env u) (lbX l env u) ps (al.take k) = M k := fun k => by rw [← hM]
  simp only [hMk] at HB HM HZ H0
  rw [← HZ.out]
  clear hM hMk HZ hn
  have HAr := hid (fun (j : Nat) (a : Tr) (ha : al[j]? = some a) (D1 : Option Nat) (wr : World) (hsr : RF bn l i at_ fq fc wr (M j) D1) (hstr : Stp bn D D1 (w.alloc (.cells #[.int .i64 (k : Int), .string x, .int .i64 (mN : Int), .slice q al.length cq, .int .i64 (f : Int), .int .i64 (t : Int)] 100)) wr) => rf_arg hlb ih hsW hmW hbW hAW hwa hu ha (hl := (HM.out j a ha)) (HB.out (j + 1)) hsr hstr)
  have HFE := hid hfe
  have HSa := hid hsa
  have HS0 := hid (show RF bn l i at_ fq fc (w.alloc (.cells #[.int .i64 (k : Int), .string x, .int .i64 (mN : Int), .slice q al.length cq, .int .i64 (f : Int), .int .i64 (t : Int)] 100)) (M 0) D by rw [H0.out]; exact hsW)
  have HSd := hid hsd
  have hlen := hAW.1
  have HWa := hid (fun D2 w2 (h : Stp bn D D2 (w.alloc (.cells #[.int .i64 (k : Int), .string x, .int .i64 (mN : Int), .slice q al.length cq, .int .i64 (f : Int), .int .i64 (t : Int)] 100)) w2) => (And.intro (okS_cell h HFE.out 3) (And.intro (okS_cell h HFE.out 4) (okS_cell h HFE.out 5))))
  clear hwa hmW hbW hAW H0
  clear hsa hfe
  go_enter Tryz.func74, Tryz.ntmps74
  go_wp2
  generalize hWq : (w.alloc (.cells #[.int .i64 (k : Int), .string x, .int .i64 (mN : Int), .slice q al.length cq, .int .i64 (f : Int), .int .i64 (t : Int)] 100)) = W at *
  clear hWq
  go_region_held3 (fun w' => w'.cell? ⟨bn, 0, none⟩ = some (.slice fq l.length fc) ∧ w'.cell? ⟨w.heap.size, 1, none⟩ = some (.string x)) (first | go_keep | (with_reducible exact ⟨r0, r1⟩))
    (first
      | (go_at_call 13; refine Calls.mono HFi.out ?_; rintro e w2 ⟨rfl, hb2⟩; have hst2 := HSd.out.trans (Stp.below (gp := bn) (D := D) hb2); have hs2 := hsD.below hb2; have r0 := hs2.cells.1; have r1 := (okS_cell hst2 HFE.out 1).trans x1))
  clear r0 r1
  have zz := HWa.out D w2 hst2
  have z3 := zz.1.trans x3
  go_wp2
  have HS2 : Hid (RF bn l i at_ fq fc w2 (M 0) D) := (HS0.out.below (Below.drew (Below.refl _ _))).below hb2
  go_loopw [54] (fun j wr => RelF4 bn (RF bn l i at_ fq fc) D W M al.length j wr) (fun j _ => upN al.length j)
  case atStart => exact ⟨0, Nat.zero_le _, rfl, D, HS2.out, hst2⟩
  case round =>
    obtain ⟨j, hjl, rfl, D1, hsr, hstr⟩ := hrel
    by_cases hlt : j < al.length
    · obtain ⟨a, ha⟩ : ∃ a, al[j]? = some a := ⟨_, List.getElem?_eq_getElem hlt⟩
      obtain ⟨g, k1, x1', m1, al1, f1, t1, q1, d1, hq, _, _, hr1, hlb1, y0, y1, y2, y3, y4, y5, hfa, hst3, _, hcall⟩ := HAr.out j a ha D1 wr hsr hstr
      subst hq
      have HNX := hid ((HM.out j a ha).trans (by rw [HPA.out, List.append_nil]))
      have gj : (0 : Int) ≤ (j : Int) := by omega
      have gj1 : (j : Int) < (al.length : Int) := by omega
      have hjb : j < 1099511627776 := by omega
      have HC := hid hcall
      have HL := hid hlt
      have HJ := hid (fun W => bothJ (rlX l env a) u W hr1 hu)
      have HS3 := hid hst3
      generalize rlX l env a = na at *
      clear hcall ha hlt hjl hlb1 hfa hst3 hsr
      go_wp2_with (first
        | (go_at_call 74; refine Calls.mono HC.out ?_; rintro e w6 ⟨rfl, D6, hs6, hst6⟩)
        | (go_at_call 46; refine Calls.mono (HJ.out _) ?_; rintro e w7 ⟨rfl, hb7⟩))
      go_roundw
      case rel => exact ⟨j + 1, HL.out, by go_num, D6, by rw [HNX.out]; exact hs6.below hb7, (HS3.out.trans hst6).trans (Stp.below hb7)⟩
      case measure => have := HL.out; simp [upN, intOf]; omega
    · obtain rfl : j = al.length := by omega
      have zq := HWa.out D1 wr hstr
      have zf := zq.2.1.trans x4
      have zt := zq.2.2.trans x5
      have hstT := HSa.out.trans hstr
      clear hlt hjl zq zz z3 x0 x1 x2 x3 x4 x5 w0 HAr HB HM hstr
      go_wp2
      obtain ⟨_, _, c3, c4, _, _, _, _⟩ := hsr.cells
      have HT := hid (And.intro hsr hstT)
      clear hsr hstT
      cases hbl : (labR (M al.length) at_).2 with
      | true =>
        rw [hbl] at c4
        have HBL := hid hbl
        clear hbl
        go_quiet (fail)
        go_wp2
        go_ret
        exact ⟨rfl, D1, (by have h := (HT.out.1.said (f := f) (t := t) (jnL nn u) (.inl HBL.out)).below (below_drewN (Below.refl _ _) nq); simpa only [List.append_assoc] using h), HT.out.2.trans (Stp.below (below_drewN (Below.refl _ _) _))⟩
      | false =>
        rw [hbl] at c4
        have HBL := hid hbl
        clear hbl
        by_cases h4 : (f : Int) ≤ at_
        · have hd4 : decide (at_ ≥ (f : Int)) = true := by simpa using h4
          have H4 := hid h4
          clear h4
          by_cases h5 : at_ < (t : Int)
          · have hd5 : decide (at_ < (t : Int)) = true := by simpa using h5
            have H5 := hid h5
            clear h5
            have HBo := hid (fun W => bothJ nn u W hnn hu)
            rw [HNZ.out] at HBo
            go_quiet (fail)
            go_wp2_with (first
              | (go_at_call 46; refine Calls.mono (HBo.out _) ?_; rintro e w9 ⟨rfl, hb9⟩; have hb9' := (below_drewN (Below.refl wr.heap.size wr) _).trans hb9; have hs9 := HT.out.1.below hb9'; obtain ⟨_, _, _, b4, b5, fz, _, _⟩ := hs9.cells; have HS9 := hid hs9; have HB9 := hid hb9'; clear hs9 hb9 hb9' c3 c4 zf zt))
            go_ret
            obtain ⟨r1, r2⟩ := HS9.out.keeps (jnL nn u) HBL.out H4.out H5.out
            exact ⟨rfl, D1, (by simpa only [List.append_assoc] using r1), (HT.out.2.trans (Stp.below HB9.out)).trans r2⟩
          · have hd5 : decide (at_ < (t : Int)) = false := by simpa using h5
            have H5 := hid h5
            clear h5
            go_quiet (fail)
            go_wp2
            go_ret
            exact ⟨rfl, D1, (by have h := (HT.out.1.said (f := f) (t := t) (jnL nn u) (.inr (fun h => by have h9 := H5.out; omega))).below (below_drewN (Below.refl _ _) nq); simpa only [List.append_assoc] using h), HT.out.2.trans (Stp.below (below_drewN (Below.refl _ _) _))⟩
        · have hd4 : decide (at_ ≥ (f : Int)) = false := by simpa using h4
          have H4 := hid h4
          clear h4
          go_quiet (fail)
          go_wp2
          go_ret
          exact ⟨rfl, D1, (by have h := (HT.out.1.said (f := f) (t := t) (jnL nn u) (.inr (fun h => by have h9 := H4.out; omega))).below (below_drewN (Below.refl _ _) nq); simpa only [List.append_assoc] using h), HT.out.2.trans (Stp.below (below_drewN (Below.refl _ _) _))⟩
set_option maxHeartbeats 1500000 in
set_option maxRecDepth 100000 in
theorem rf_call_yes (hlb : ∀ e ∈ l, e.2.l < 256 ∧ ∀ p ∈ e.2.ps, p.l < 256) {n : Nat} (ih : CRf bn l i at_ fq fc T n) : ∀ (D : Option Nat) (w : World) (L : List Fv) (env : Env) (b mp k : Nat) (x : ByteArray) (mN : Nat) (al : List Tr) (f t : Nat) (q : Option Addr) (cq mm c u : Nat), RF bn l i at_ fq fc w L D → MpL w b env mp → okS 0 bn D w b → SlT (fun k => k < bn) (RdE mm (fun k => k < bn) w) w 6 al q → wfE T (n + 1) c (exMk k x mN al f t) → u < 256 → (noF (L ++ fvX l (flA l) env u (exMk k x mN al f t))).length < 1099511627776 → (k = 4 ∧ ∃ kf : Nat, fnd l 2 x = (kf : Int) ∧ kf < l.length) →
  Calls Tryz.prog 74 #[.pointer (some ⟨bn, 0, none⟩), .map (some b), .agg #[.int .i64 (k : Int), .string x, .int .i64 (mN : Int), .slice q al.length cq, .int .i64 (f : Int), .int .i64 (t : Int)], .int .i64 (u : Int)] w fun ex w' => ex = .returned (.int .i64 (rlX l env (exMk k x mN al f t) : Int)) ∧ TlF bn (RF bn l i at_ fq fc) D (L ++ fvX l (flA l) env u (exMk k x mN al f t)) w w' := by
  intro D w L env b mp k x mN al f t q cq mm c u hs hm hb hA hw hu hn hK
  have hba := (Below.refl w.heap.size w).alloc (Nat.le_refl _) (.cells #[.int .i64 (k : Int), .string x, .int .i64 (mN : Int), .slice q al.length cq, .int .i64 (f : Int), .int .i64 (t : Int)] 100)
  obtain ⟨x0, x1, x2, x3, x4, x5⟩ := sixF_at (heap_alloc_new w (.cells #[.int .i64 (k : Int), .string x, .int .i64 (mN : Int), .slice q al.length cq, .int .i64 (f : Int), .int .i64 (t : Int)] 100))
  have hsa : Stp bn D D w (w.alloc (.cells #[.int .i64 (k : Int), .string x, .int .i64 (mN : Int), .slice q al.length cq, .int .i64 (f : Int), .int .i64 (t : Int)] 100)) := Stp.below hba
  have hsW := hs.below hba
  have hok := okS.step hsa (B := 0)
  have hmW := hm.kept (hok.1 b hb)
  have hbW := hok.2 b hb
  have hfe := hs.fresh (w' := (w.alloc (.cells #[.int .i64 (k : Int), .string x, .int .i64 (mN : Int), .slice q al.length cq, .int .i64 (f : Int), .int .i64 (t : Int)] 100))) (Nat.le_refl _) (by simp)
  have hlo : ∀ z, z < bn → (w.alloc (.cells #[.int .i64 (k : Int), .string x, .int .i64 (mN : Int), .slice q al.length cq, .int .i64 (f : Int), .int .i64 (t : Int)] 100)).heap[z]? = w.heap[z]? := fun z hz => hba.block z (Nat.lt_trans hz hs.lt.1)
  have hAW := hA.kept hlo (fun _ h => h) (RdE.kept mm hlo (fun _ h => h))
  have hlab : lbX l env u (exMk k x mN al f t) = jnL (rlX l env (exMk k x mN al f t)) u := by rw [lb_rl l env hu _ _ _ hw, jnL_comm]
  have hF := fvX_mk l (flA l) env u k x mN al f t
  rw [hlab] at hF
  have hnn := rlX_lt (fun e he => (hlb e he).1) hm.lt hw
  have hR := rlX_mk l env k x mN al f t
  have hwa : ∀ (j : Nat) (a : Tr), al[j]? = some a → ∃ c', wfE T n c' a := by
    intro j a ha
    obtain ⟨k', x', m', al', f', t', he', hk⟩ := hw
    obtain ⟨rfl, rfl, rfl, rfl, rfl, rfl⟩ := exMk_inj he'
    rcases hk with ⟨_, _, _, h4⟩ | ⟨_, _, h3, _⟩ | ⟨_, _, h3⟩ | ⟨_, _, c2, _, h4⟩
    · rw [h4] at ha; simp at ha
    · rw [h3] at ha; simp at ha
    · exact wfL_get al c j a h3 ha
    · exact wfL_get al c2 j a h4 ha
  rw [if_neg (by omega), if_neg (by omega), if_pos hK.1] at hR
  rw [if_neg (by omega), if_pos hK.1] at hF
  have g2 : ((k : Int) == 2) = false := by rw [hK.1]; rfl
  have g3 : ((k : Int) == 3) = false := by rw [hK.1]; rfl
  have g4 : ((k : Int) == 4) = true := by rw [hK.1]; rfl
  have hDr := Below.drew (Below.refl (w.alloc (.cells #[.int .i64 (k : Int), .string x, .int .i64 (mN : Int), .slice q al.length cq, .int .i64 (f : Int), .int .i64 (t : Int)] 100)).heap.size (w.alloc (.cells #[.int .i64 (k : Int), .string x, .int .i64 (mN : Int), .slice q al.length cq, .int .i64 (f : Int), .int .i64 (t : Int)] 100)))
  have hsD := hsW.below hDr
  have hsd : Stp bn D D (w.alloc (.cells #[.int .i64 (k : Int), .string x, .int .i64 (mN : Int), .slice q al.length cq, .int .i64 (f : Int), .int .i64 (t : Int)] 100)) (w.alloc (.cells #[.int .i64 (k : Int), .string x, .int .i64 (mN : Int), .slice q al.length cq, .int .i64 (f : Int), .int .i64 (t : Int)] 100)).drew := Stp.below hDr
  have HFi := hid (rn_find l _ 2 x (w.alloc (.cells #[.int .i64 (k : Int), .string x, .int .i64 (mN : Int), .slice q al.length cq, .int .i64 (f : Int), .int .i64 (t : Int)] 100)).drew (fun k => k < bn) (fun k hk => Nat.lt_of_lt_of_le hk (Nat.le_of_lt hsD.lt.1)) hsD.cells.2.2.2.2.2.2.1)
  have w0 := hsW.cells.1
  obtain ⟨kf, hFd, hkf⟩ := hK.2
  obtain ⟨ef, hef⟩ : ∃ e, l[kf]? = some e := ⟨_, List.getElem?_eq_getElem hkf⟩
  have hfl0 : (flA l)[kf]? = some (flS l ef.2.ss) := by unfold flA; rw [List.getElem?_map, hef]; show some (flI l ef.2) = _; unfold flI; rw [if_pos (fnd_kind hFd hef)]
  obtain ⟨eL, eP, eF⟩ := fn_some hFd hef hfl0
  rw [hFd] at HFi
  rw [eP, eF] at hF
  rw [eL] at hR
  rw [hF]
  rw [hF] at hn
  rw [← List.append_assoc, ← List.append_assoc]
  rw [← List.append_assoc, ← List.append_assoc] at hn
  have hn2 := Nat.lt_of_le_of_lt (noF_le_app _ _) hn
  replace hn := Nat.lt_of_le_of_lt (noF_le_app _ _) hn2
  have hlp : ∀ p ∈ ef.2.ps, p.l < 256 := (hlb ef (List.mem_of_getElem? hef)).2
  have HLP := hid (fun (j : Nat) (p : Pm) (h : ef.2.ps[j]? = some p) => hlp p (List.mem_of_getElem? h))
  have hfl : flS l ef.2.ss < 256 := by rw [flS_eq]; exact flS_lt l ef.2.ss 255 (by decide)
  obtain ⟨g0, vI, hq0, hgo0, hcv, hI⟩ := RdF.itemF hsW.cells.2.2.2.2.2.2.1 hef
  obtain ⟨p1, c1, p2, c2, p3, c3, p4, c4', rfl, hP, _⟩ := hI
  have i2 := hcv.get 2 _ rfl
  have i3 := hcv.get 3 _ rfl
  have HFl := hid (fun (D2 : Option Nat) (w2 : World) (L2 : List Fv) (h : RF bn l i at_ fq fc w2 L2 D2) => rf_floor l fq fc w2 (fun k => k < bn) (fun k hk => Nat.lt_trans hk h.lt.1) h.cells.2.2.2.2.2.2.1 (fun e he => (hlb e he).1) kf ef.1 ef.2 hef)
  have HFl2 := hid (fun (a b : Nat) (ha : a < 256) (hb : b < 256) (D2 : Option Nat) (w2 : World) (L2 : List Fv) (h : RF bn l i at_ fq fc w2 L2 D2) (h2 : (noF L2).length < 1099511627776) (f t : Nat) (x : ByteArray) => rf_ask h h2 a b f t ha hb x)
  subst hq0
  have hlenl := hsW.cells.2.2.2.2.2.2.2
  have gk : (0 : Int) ≤ (kf : Int) := by omega
  have gk1 : (kf : Int) < (l.length : Int) := by omega
  have hkb : kf < 1099511627776 := by omega
  have gge : ((kf : Int) ≥ 0) := by omega
  generalize ef.2.ps = ps at *
  generalize flS l ef.2.ss = fl0 at *
  generalize ef.2.l = nn0 at *
  generalize rlX l env (exMk k x mN al f t) = nn at *
  rw [← hR] at i2
  clear hR hF hlab hw hK hA hm eL eP eF hDr hFd hkf hef hfl0 hcv hlp hn2
  have HB := hid (fun k => Nat.lt_of_le_of_lt (show (noF (L ++ fvAs (fvX l (flA l) env u) (lbX l env u) ps (al.take k))).length ≤ (noF (L ++ fvAs (fvX l (flA l) env u) (lbX l env u) ps al)).length by rw [noF_ap, noF_ap]; have := fvAs_less (F := fvX l (flA l) env u) (B := lbX l env u) al ps k; omega) hn)
  have HM := hid (fun k a (h : al[k]? = some a) => show L ++ fvAs (fvX l (flA l) env u) (lbX l env u) ps (al.take (k + 1)) = L ++ fvAs (fvX l (flA l) env u) (lbX l env u) ps (al.take k) ++ fvX l (flA l) env u a ++ paF ps (lbX l env u) k a by rw [fvAs_take al ps k a h]; simp only [List.append_assoc])
  have HZ : Hid (L ++ fvAs (fvX l (flA l) env u) (lbX l env u) ps (al.take al.length) = L ++ fvAs (fvX l (flA l) env u) (lbX l env u) ps al) := by show _ = _; rw [List.take_length]
  have H0 : Hid (L ++ fvAs (fvX l (flA l) env u) (lbX l env u) ps (al.take 0) = L) := by show _ = _; rw [List.take_zero]; cases ps <;> simp [fvAs]
  generalize hM : (fun k => L ++ fvAs (fvX l (flA l) env u) (lbX l env u) ps (al.take k)) = M
  have hMk : ∀ k, L ++ fvAs (fvX l (flA l) env u) (lbX l env u) ps (al.take k) = M k := fun k => by rw [← hM]
  simp only [hMk] at HB HM HZ H0
  rw [← HZ.out]
  clear hM hMk HZ hn
  have HAr := hid (fun (j : Nat) (a : Tr) (ha : al[j]? = some a) (D1 : Option Nat) (wr : World) (hsr : RF bn l i at_ (some ⟨g0, 0, none⟩) fc wr (M j) D1) (hstr : Stp bn D D1 (w.alloc (.cells #[.int .i64 (k : Int), .string x, .int .i64 (mN : Int), .slice q al.length cq, .int .i64 (f : Int), .int .i64 (t : Int)] 100)) wr) => rf_arg hlb ih hsW hmW hbW hAW hwa hu ha (hl := (HM.out j a ha)) (HB.out (j + 1)) hsr hstr)
  have HFE := hid hfe
  have HSa := hid hsa
  have HSW := hid hsW
  have HGO := hid hgo0
  have HS0 := hid (show RF bn l i at_ (some ⟨g0, 0, none⟩) fc (w.alloc (.cells #[.int .i64 (k : Int), .string x, .int .i64 (mN : Int), .slice q al.length cq, .int .i64 (f : Int), .int .i64 (t : Int)] 100)) (M 0) D by rw [H0.out]; exact hsW)
  have HSd := hid hsd
  have hlen := hAW.1
  have HWa := hid (fun D2 w2 (h : Stp bn D D2 (w.alloc (.cells #[.int .i64 (k : Int), .string x, .int .i64 (mN : Int), .slice q al.length cq, .int .i64 (f : Int), .int .i64 (t : Int)] 100)) w2) => (And.intro (okS_cell h HFE.out 3) (And.intro (okS_cell h HFE.out 4) (And.intro (okS_cell h HFE.out 5) (okS_cell h HFE.out 1)))))
  have HIt := hid (fun D2 w2 (h : Stp bn D D2 (w.alloc (.cells #[.int .i64 (k : Int), .string x, .int .i64 (mN : Int), .slice q al.length cq, .int .i64 (f : Int), .int .i64 (t : Int)] 100)) w2) => (And.intro ((World.cell?_of_block (a := ⟨g0, kf * 10 + 2, none⟩) (Stp.lowF h hsW g0 hgo0)).trans i2) ((World.cell?_of_block (a := ⟨g0, kf * 10 + 3, none⟩) (Stp.lowF h hsW g0 hgo0)).trans i3)))
  have HPs := hid (fun D2 w2 (h : Stp bn D D2 (w.alloc (.cells #[.int .i64 (k : Int), .string x, .int .i64 (mN : Int), .slice q al.length cq, .int .i64 (f : Int), .int .i64 (t : Int)] 100)) w2) => hP.kept (fun k hk => Stp.lowF h hsW k hk))
  clear hwa hmW hbW hAW H0 hP i2 i3
  clear hsa hfe hgo0
  go_enter Tryz.func74, Tryz.ntmps74
  go_wp2
  generalize hWq : (w.alloc (.cells #[.int .i64 (k : Int), .string x, .int .i64 (mN : Int), .slice q al.length cq, .int .i64 (f : Int), .int .i64 (t : Int)] 100)) = W at *
  clear hWq
  go_region_held3 (fun w' => w'.cell? ⟨bn, 0, none⟩ = some (.slice (some ⟨g0, 0, none⟩) l.length fc) ∧ w'.cell? ⟨w.heap.size, 1, none⟩ = some (.string x)) (first | go_keep | (with_reducible exact ⟨r0, r1⟩))
    (first
      | (go_at_call 13; refine Calls.mono HFi.out ?_; rintro e w2 ⟨rfl, hb2⟩; have hst2 := HSd.out.trans (Stp.below (gp := bn) (D := D) hb2); have hs2 := hsD.below hb2; have r0 := hs2.cells.1; have r1 := (okS_cell hst2 HFE.out 1).trans x1))
  clear r0 r1
  have zz := HWa.out D w2 hst2
  have z3 := zz.1.trans x3
  go_wp2
  have HS2 : Hid (RF bn l i at_ (some ⟨g0, 0, none⟩) fc w2 (M 0) D) := (HS0.out.below (Below.drew (Below.refl _ _))).below hb2
  go_loopw [54] (fun j wr => RelF4 bn (RF bn l i at_ (some ⟨g0, 0, none⟩) fc) D W M al.length j wr) (fun j _ => upN al.length j)
  case atStart => exact ⟨0, Nat.zero_le _, rfl, D, HS2.out, hst2⟩
  case round =>
    obtain ⟨j, hjl, rfl, D1, hsr, hstr⟩ := hrel
    by_cases hlt : j < al.length
    · obtain ⟨a, ha⟩ : ∃ a, al[j]? = some a := ⟨_, List.getElem?_eq_getElem hlt⟩
      obtain ⟨g, k1, x1', m1, al1, f1, t1, q1, d1, hq, hf1, ht1, hr1, hlb1, y0, y1, y2, y3, y4, y5, hfa, hst3, hbx, hcall⟩ := HAr.out j a ha D1 wr hsr hstr
      subst hq
      have hnx := HM.out j a ha
      unfold paF at hnx
      rw [hf1, ht1, hlb1] at hnx
      have gj : (0 : Int) ≤ (j : Int) := by omega
      have gj1 : (j : Int) < (al.length : Int) := by omega
      have hjb : j < 1099511627776 := by omega
      have HC := hid hcall
      have HL := hid hlt
      have HJ := hid (fun W => bothJ (rlX l env a) u W hr1 hu)
      have HS3 := hid hst3
      have HFA := hid hfa
      have HBX := hid hbx
      have hjl := jnL_lt (rlX l env a) u
      obtain ⟨_, _, _, _, v4, v5⟩ := sixF_at (heap_alloc_new wr (.cells #[.int .i64 (k1 : Int), .string x1', .int .i64 (m1 : Int), .slice q1 al1.length d1, .int .i64 (f1 : Int), .int .i64 (t1 : Int)] 100))
      generalize rlX l env a = na at *
      generalize fvX l (flA l) env u a = X1 at *
      generalize jnL na u = nj at *
      clear hcall ha hlt hlb1 hfa hst3 hsr hf1 ht1 hbx
      by_cases hp : j < ps.length
      · obtain ⟨pr, hpr⟩ : ∃ p, ps[j]? = some p := ⟨_, List.getElem?_eq_getElem hp⟩
        rw [hpr] at hnx
        have HNX := hid hnx
        have gp1 : (j : Int) < (ps.length : Int) := by omega
        have hpl := HLP.out j pr hpr
        have HPR := hid hpr
        have HP0 := hid hp
        clear hp hpr hnx
        go_wp2_with (first
          | (go_at_call 74; refine Calls.mono HC.out ?_; rintro e w6 ⟨rfl, D6, hs6, hst6⟩)
          | (go_at_call 46; refine Calls.mono (HJ.out _) ?_; rintro e w7 ⟨rfl, hb7⟩; have hst7q := hst6.trans (Stp.below (gp := bn) (D := D6) hb7); have hst7 := HS3.out.trans hst7q; have hs7 := hs6.below hb7; have b0 := hs7.cells.1; have b3 := (HIt.out D6 w7 hst7).2; have hPs7 := HPs.out D6 w7 hst7; obtain ⟨gp, hgp, hgpo, hFp⟩ := hPs7.2 (by have := HP0.out; omega); subst hgp; have s0 := hFp j pr HPR.out 0 (.string pr.x) rfl; have s1 := hFp j pr HPR.out 1 (.int .i64 (pr.l : Int)) rfl; have s2 := hFp j pr HPR.out 2 (.int .i64 (pr.a : Int)) rfl; rw [Nat.add_zero] at s0; have v4' := (okS_cell hst7q HFA.out 4).trans v4; have v5' := (okS_cell hst7q HFA.out 5).trans v5; have v4'' := cell_alloc v4' (.cells #[.string pr.x, .int .i64 (pr.l : Int), .int .i64 (pr.a : Int)] 62); have v5'' := cell_alloc v5' (.cells #[.string pr.x, .int .i64 (pr.l : Int), .int .i64 (pr.a : Int)] 62); have hbp := (Below.refl w7.heap.size w7).alloc (Nat.le_refl _) (.cells #[.string pr.x, .int .i64 (pr.l : Int), .int .i64 (pr.a : Int)] 62); have HAk := hid (HFl2.out nj pr.l hjl hpl D6 _ _ (hs7.below hbp) HBX.out f1 t1 pr.x); have HBP := hid hbp; have HS7 := hid hst7; clear hPs7 hFp hs7 hst7 hst7q hs6 hst6 hbp)
          | (go_at_call 75; refine Calls.mono HAk.out ?_; rintro e w8 ⟨rfl, D8, hs8, hst8⟩))
        go_roundw
        case rel => exact ⟨j + 1, HL.out, by go_num, D8, by rw [HNX.out]; exact hs8, (HS7.out.trans (Stp.below HBP.out)).trans hst8⟩
        case measure => have := HL.out; simp [upN, intOf]; omega
      · have hpn : ps[j]? = none := List.getElem?_eq_none (by omega)
        rw [hpn, List.append_nil] at hnx
        have HNX := hid hnx
        have gp1 : ¬ (j : Int) < (ps.length : Int) := by omega
        clear hp hpn hnx
        go_wp2_with (first
          | (go_at_call 74; refine Calls.mono HC.out ?_; rintro e w6 ⟨rfl, D6, hs6, hst6⟩)
          | (go_at_call 46; refine Calls.mono (HJ.out _) ?_; rintro e w7 ⟨rfl, hb7⟩; have hst7q := hst6.trans (Stp.below (gp := bn) (D := D6) hb7); have hst7 := HS3.out.trans hst7q; have hs7 := hs6.below hb7; have b0 := hs7.cells.1; have b3 := (HIt.out D6 w7 hst7).2; have HS7 := hid (And.intro hs7 hst7); clear hs7 hst7 hst7q hs6 hst6))
        go_roundw
        case rel => exact ⟨j + 1, HL.out, by go_num, D6, by rw [HNX.out]; exact HS7.out.1, HS7.out.2⟩
        case measure => have := HL.out; simp [upN, intOf]; omega
    · obtain rfl : j = al.length := by omega
      have zq := HWa.out D1 wr hstr
      have zf := zq.2.1.trans x4
      have zt := zq.2.2.1.trans x5
      have z1 := zq.2.2.2.trans x1
      have b0 := hsr.cells.1
      have hDr := Below.drew (Below.refl wr.heap.size wr)
      have hsrd := hsr.below hDr
      have HFo := hid (HFl.out D1 wr.drew _ hsrd)
      have hstd := hstr.trans (Stp.below (gp := bn) (D := D1) hDr)
      have HBm := hid (HB.out al.length)
      clear hlt hjl zq zz z3 x0 x2 x3 w0 HAr HM HB
      go_wp2
      go_region_held3 (fun w' => w'.cell? ⟨bn, 0, none⟩ = some (.slice (some ⟨g0, 0, none⟩) l.length fc) ∧ w'.cell? ⟨w.heap.size, 1, none⟩ = some (.string x) ∧ w'.cell? ⟨w.heap.size, 4, none⟩ = some (.int .i64 (f : Int)) ∧ w'.cell? ⟨w.heap.size, 5, none⟩ = some (.int .i64 (t : Int))) (first | go_keep | (with_reducible exact ⟨r0, r1, r4, r5⟩) | (with_reducible exact ⟨s0, s1, s4, s5⟩))
        (first
          | (go_at_call 19; refine Calls.mono HFo.out ?_; rintro e w5 ⟨rfl, hb5⟩; have hst5 := hstd.trans (Stp.below (gp := bn) (D := D1) hb5); have hs5 := hsrd.below hb5; have r0 := hs5.cells.1; have zq5 := HWa.out D1 w5 hst5; have r1 := zq5.2.2.2.trans x1; have r4 := zq5.2.1.trans x4; have r5 := zq5.2.2.1.trans x5; have HAk := hid (HFl2.out u fl0 hu hfl D1 w5 _ hs5 HBm.out f t x))
          | (go_at_call 75; refine Calls.mono HAk.out ?_; rintro e w8 ⟨rfl, D8, hs8, hst8q⟩; have hst8 := hst5.trans hst8q; have s0 := hs8.cells.1; have zq8 := HWa.out D8 w8 hst8; have s1 := zq8.2.2.2.trans x1; have s4 := zq8.2.1.trans x4; have s5 := zq8.2.2.1.trans x5))
      have i2' := (HIt.out D8 w8 hst8).1
      have bb0 := s0
      have zf := s4
      have zt := s5
      have hstT := HSa.out.trans hst8
      clear r0 r1 r4 r5 s1 x1 x4 x5 z1 b0 zq5 zq8
      go_wp2
      obtain ⟨_, _, c3, c4, _, _, _, _⟩ := hs8.cells
      have HT := hid (And.intro hs8 hstT)
      clear hs8 hstT
      cases hbl : (labR (M al.length ++ opF u fl0 f t x) at_).2 with
      | true =>
        rw [hbl] at c4
        have HBL := hid hbl
        clear hbl
        go_quiet (fail)
        go_wp2
        go_ret
        exact ⟨rfl, D8, (by have h := (HT.out.1.said (f := f) (t := t) (jnL nn u) (.inl HBL.out)).below (below_drewN (Below.refl _ _) nq); simpa only [List.append_assoc] using h), HT.out.2.trans (Stp.below (below_drewN (Below.refl _ _) _))⟩
      | false =>
        rw [hbl] at c4
        have HBL := hid hbl
        clear hbl
        by_cases h4 : (f : Int) ≤ at_
        · have hd4 : decide (at_ ≥ (f : Int)) = true := by simpa using h4
          have H4 := hid h4
          clear h4
          by_cases h5 : at_ < (t : Int)
          · have hd5 : decide (at_ < (t : Int)) = true := by simpa using h5
            have H5 := hid h5
            clear h5
            have HBo := hid (fun W => bothJ nn u W hnn hu)
            go_quiet (fail)
            go_wp2_with (first
              | (go_at_call 46; refine Calls.mono (HBo.out _) ?_; rintro e w9 ⟨rfl, hb9⟩; have hb9' := (below_drewN (Below.refl w8.heap.size w8) _).trans hb9; have hs9 := HT.out.1.below hb9'; obtain ⟨_, _, _, b4, b5, fz, _, _⟩ := hs9.cells; have HS9 := hid hs9; have HB9 := hid hb9'; clear hs9 hb9 hb9' c3 c4 zf zt))
            go_ret
            obtain ⟨r1, r2⟩ := HS9.out.keeps (jnL nn u) HBL.out H4.out H5.out
            exact ⟨rfl, D8, (by simpa only [List.append_assoc] using r1), (HT.out.2.trans (Stp.below HB9.out)).trans r2⟩
          · have hd5 : decide (at_ < (t : Int)) = false := by simpa using h5
            have H5 := hid h5
            clear h5
            go_quiet (fail)
            go_wp2
            go_ret
            exact ⟨rfl, D8, (by have h := (HT.out.1.said (f := f) (t := t) (jnL nn u) (.inr (fun h => by have h9 := H5.out; omega))).below (below_drewN (Below.refl _ _) nq); simpa only [List.append_assoc] using h), HT.out.2.trans (Stp.below (below_drewN (Below.refl _ _) _))⟩
        · have hd4 : decide (at_ ≥ (f : Int)) = false := by simpa using h4
          have H4 := hid h4
          clear h4
          go_quiet (fail)
          go_wp2
          go_ret
          exact ⟨rfl, D8, (by have h := (HT.out.1.said (f := f) (t := t) (jnL nn u) (.inr (fun h => by have h9 := H4.out; omega))).below (below_drewN (Below.refl _ _) nq); simpa only [List.append_assoc] using h), HT.out.2.trans (Stp.below (below_drewN (Below.refl _ _) _))⟩
end
end Go.Proofs.YtdkpfnohdknldaaGreatDoor
namespace Go.Proofs.YtdkpfnohdknldaaGreatDoor
open Go.RowKit Go.WideMaps Go.Maps
set_option linter.unusedVariables false
attribute [local go_sem ↓] Go.wp_at_zero Go.wp_at_succ
section
variable {bn : Nat} {l : List (Int × It)} {i : Nat} {at_ : Int} {fq : Option Addr} {fc : Nat} {T : List Tok}
theorem rf_expr (hlb : ∀ e ∈ l, e.2.l < 256 ∧ ∀ p ∈ e.2.ps, p.l < 256) (n : Nat) : CRf bn l i at_ fq fc T n := by
  induction n with
  | zero => intro _ _ _ _ _ _ _ _ _ _ _ _ _ _ _ h; exact h.elim
  | succ n ih =>
    intro D w L env b mp e v mm c u hs hm hb hR hw hu hn
    obtain ⟨mm, rfl⟩ : ∃ q, mm = q + 1 := by
      cases mm with
      | zero => exact hR.elim
      | succ q => exact ⟨q, rfl⟩
    obtain ⟨k, x, m, al, f, t, q, cq, rfl, rfl, hA⟩ := hR
    by_cases h2 : k = 2
    · exact rf_var hlb D w L env b mp k x m al f t q cq mm c u hs hm hb hA hw hu hn h2
    · by_cases h3 : k = 3
      · exact rf_op hlb ih D w L env b mp k x m al f t q cq mm c u hs hm hb hA hw hu hn h3
      · by_cases h4 : k = 4
        · rcases fnd_casesF l 2 x with hF | hF
          · exact rf_call_no hlb ih D w L env b mp k x m al f t q cq mm c u hs hm hb hA hw hu hn ⟨h4, hF⟩
          · exact rf_call_yes hlb ih D w L env b mp k x m al f t q cq mm c u hs hm hb hA hw hu hn ⟨h4, hF⟩
        · exact rf_num hlb D w L env b mp k x m al f t q cq mm c u hs hm hb hA hw hu hn ⟨h2, h3, h4⟩
end
end Go.Proofs.YtdkpfnohdknldaaGreatDoor
namespace Go.Proofs.YtdkpfnohdknldaaGreatDoor
open Go.RowKit Go.WideMaps Go.Maps
set_option linter.unusedVariables false
attribute [local go_sem ↓] Go.wp_at_zero Go.wp_at_succ
section
theorem World.alloc_size9 (w : World) (o : Obj) : (w.alloc o).heap.size = w.heap.size + 1 := by simp
variable {bn : Nat} {l : List (Int × It)} {i : Nat} {at_ : Int} {fq : Option Addr} {fc : Nat} {T : List Tok}
set_option maxHeartbeats 1500000 in
set_option maxRecDepth 100000 in
theorem rf_mere (hlb : ∀ e ∈ l, e.2.l < 256 ∧ ∀ p ∈ e.2.ps, p.l < 256) (hP : ∀ e ∈ l, e.2.ps.length ≤ 5) {n : Nat} {D : Option Nat} {w : World} {L : List Fv} {env : Env} {b mp mm c : Nat} {k : Nat} {x : ByteArray} {mN : Nat} {al : List Tr} {f t : Nat} {q : Option Addr} {cq : Nat} (hs : RF bn l i at_ fq fc w L D) (hm : MpL w b env mp) (hb : okS 0 bn D w b) (hR : RdE mm (fun k => k < bn) w (exMk k x mN al f t) (.agg #[.int .i64 (k : Int), .string x, .int .i64 (mN : Int), .slice q al.length cq, .int .i64 (f : Int), .int .i64 (t : Int)])) (hw : wfE T n c (exMk k x mN al f t)) (hc : 6 * c < 1099511627776) :
    Calls Tryz.prog 73 #[.pointer (some ⟨bn, 0, none⟩), .map (some b), .agg #[.int .i64 (k : Int), .string x, .int .i64 (mN : Int), .slice q al.length cq, .int .i64 (f : Int), .int .i64 (t : Int)]] w fun ex w' => ex = .returned (.int .i64 (rlX l env (exMk k x mN al f t) : Int)) ∧ Below w.heap.size w w' := by
  have hba := (Below.refl w.heap.size w).alloc (Nat.le_refl _) (.cells #[.int .i64 (k : Int), .string x, .int .i64 (mN : Int), .slice q al.length cq, .int .i64 (f : Int), .int .i64 (t : Int)] 100)
  obtain ⟨x0, x1, x2, x3, x4, x5⟩ := sixF_at (heap_alloc_new w (.cells #[.int .i64 (k : Int), .string x, .int .i64 (mN : Int), .slice q al.length cq, .int .i64 (f : Int), .int .i64 (t : Int)] 100))
  have e1 : (w.alloc (.cells #[.int .i64 (k : Int), .string x, .int .i64 (mN : Int), .slice q al.length cq, .int .i64 (f : Int), .int .i64 (t : Int)] 100)).heap.size = w.heap.size + 1 := by simp
  have hsW := hs.below hba
  obtain ⟨w0, w1, _, _, _, _, hF, hlen⟩ := hsW.cells
  have hbb := (Below.refl (w.alloc (.cells #[.int .i64 (k : Int), .string x, .int .i64 (mN : Int), .slice q al.length cq, .int .i64 (f : Int), .int .i64 (t : Int)] 100)).drew.heap.size (w.alloc (.cells #[.int .i64 (k : Int), .string x, .int .i64 (mN : Int), .slice q al.length cq, .int .i64 (f : Int), .int .i64 (t : Int)] 100)).drew).alloc (Nat.le_refl _) (.cells #[.slice fq l.length fc, .int .i64 (i : Int), .slice none 0 0, .int .i64 (-1), .bool false, .int .i64 0] 53)
  have hbc : Below w.heap.size w ((w.alloc (.cells #[.int .i64 (k : Int), .string x, .int .i64 (mN : Int), .slice q al.length cq, .int .i64 (f : Int), .int .i64 (t : Int)] 100)).drew.alloc (.cells #[.slice fq l.length fc, .int .i64 (i : Int), .slice none 0 0, .int .i64 (-1), .bool false, .int .i64 0] 53)) := hba.trans ((Below.drew (Below.refl _ _)).trans (hbb.mono (by show w.heap.size ≤ (w.alloc (.cells #[.int .i64 (k : Int), .string x, .int .i64 (mN : Int), .slice q al.length cq, .int .i64 (f : Int), .int .i64 (t : Int)] 100)).heap.size; omega)))
  have hnw := heap_alloc_new (w.alloc (.cells #[.int .i64 (k : Int), .string x, .int .i64 (mN : Int), .slice q al.length cq, .int .i64 (f : Int), .int .i64 (t : Int)] 100)).drew (.cells #[.slice fq l.length fc, .int .i64 (i : Int), .slice none 0 0, .int .i64 (-1), .bool false, .int .i64 0] 53)
  have hsz : (w.alloc (.cells #[.int .i64 (k : Int), .string x, .int .i64 (mN : Int), .slice q al.length cq, .int .i64 (f : Int), .int .i64 (t : Int)] 100)).drew.heap.size = w.heap.size + 1 := e1
  rw [hsz] at hnw
  have hb0 := hb.2.1
  have hlt0 := hs.lt.1
  have hs2 : RF (w.heap.size + 1) l i (-1) fq fc ((w.alloc (.cells #[.int .i64 (k : Int), .string x, .int .i64 (mN : Int), .slice q al.length cq, .int .i64 (f : Int), .int .i64 (t : Int)] 100)).drew.alloc (.cells #[.slice fq l.length fc, .int .i64 (i : Int), .slice none 0 0, .int .i64 (-1), .bool false, .int .i64 0] 53)) [] none := ⟨⟨_, hnw, World.ownsRow_nil _ _ _ _, rfl, RdF.kept hF (fun z hz => hbb.block z (by show z < (w.alloc (.cells #[.int .i64 (k : Int), .string x, .int .i64 (mN : Int), .slice q al.length cq, .int .i64 (f : Int), .int .i64 (t : Int)] 100)).heap.size; omega)) (fun z hz => by omega)⟩⟩
  have HC := hid (rf_expr (at_ := -1) hlb n none _ [] env b mp _ _ mm c 0 hs2 (hm.kept (hbc.block b hb0)) ⟨Nat.zero_le _, by have := hbc.size; omega, by omega, (fun e => by cases e)⟩ (RdE.kept mm (fun z hz => hbc.block z (by omega)) (fun z hz => by omega) _ _ hR) hw (by decide) (by rw [List.nil_append]; have := cnt_expr (fs := flA l) hP env 0 n c _ hw; omega))
  have HBc := hid hbc
  have HSz := hid (show ((w.alloc (.cells #[.int .i64 (k : Int), .string x, .int .i64 (mN : Int), .slice q al.length cq, .int .i64 (f : Int), .int .i64 (t : Int)] 100)).drew.alloc (.cells #[.slice fq l.length fc, .int .i64 (i : Int), .slice none 0 0, .int .i64 (-1), .bool false, .int .i64 0] 53)).heap.size = w.heap.size + 2 by rw [World.alloc_size9, hsz])
  have d0 : ((w.alloc (.cells #[.int .i64 (k : Int), .string x, .int .i64 (mN : Int), .slice q al.length cq, .int .i64 (f : Int), .int .i64 (t : Int)] 100)).drew.alloc (.cells #[.slice fq l.length fc, .int .i64 (i : Int), .slice none 0 0, .int .i64 (-1), .bool false, .int .i64 0] 53)).cell? ⟨w.heap.size, 0, none⟩ = some (.int .i64 (k : Int)) := (World.cell?_of_block (a := ⟨w.heap.size, 0, none⟩) (hbb.block w.heap.size (by omega))).trans x0
  have d1 : ((w.alloc (.cells #[.int .i64 (k : Int), .string x, .int .i64 (mN : Int), .slice q al.length cq, .int .i64 (f : Int), .int .i64 (t : Int)] 100)).drew.alloc (.cells #[.slice fq l.length fc, .int .i64 (i : Int), .slice none 0 0, .int .i64 (-1), .bool false, .int .i64 0] 53)).cell? ⟨w.heap.size, 1, none⟩ = some (.string x) := (World.cell?_of_block (a := ⟨w.heap.size, 1, none⟩) (hbb.block w.heap.size (by omega))).trans x1
  have d2 : ((w.alloc (.cells #[.int .i64 (k : Int), .string x, .int .i64 (mN : Int), .slice q al.length cq, .int .i64 (f : Int), .int .i64 (t : Int)] 100)).drew.alloc (.cells #[.slice fq l.length fc, .int .i64 (i : Int), .slice none 0 0, .int .i64 (-1), .bool false, .int .i64 0] 53)).cell? ⟨w.heap.size, 2, none⟩ = some (.int .i64 (mN : Int)) := (World.cell?_of_block (a := ⟨w.heap.size, 2, none⟩) (hbb.block w.heap.size (by omega))).trans x2
  have d3 : ((w.alloc (.cells #[.int .i64 (k : Int), .string x, .int .i64 (mN : Int), .slice q al.length cq, .int .i64 (f : Int), .int .i64 (t : Int)] 100)).drew.alloc (.cells #[.slice fq l.length fc, .int .i64 (i : Int), .slice none 0 0, .int .i64 (-1), .bool false, .int .i64 0] 53)).cell? ⟨w.heap.size, 3, none⟩ = some (.slice q al.length cq) := (World.cell?_of_block (a := ⟨w.heap.size, 3, none⟩) (hbb.block w.heap.size (by omega))).trans x3
  have d4 : ((w.alloc (.cells #[.int .i64 (k : Int), .string x, .int .i64 (mN : Int), .slice q al.length cq, .int .i64 (f : Int), .int .i64 (t : Int)] 100)).drew.alloc (.cells #[.slice fq l.length fc, .int .i64 (i : Int), .slice none 0 0, .int .i64 (-1), .bool false, .int .i64 0] 53)).cell? ⟨w.heap.size, 4, none⟩ = some (.int .i64 (f : Int)) := (World.cell?_of_block (a := ⟨w.heap.size, 4, none⟩) (hbb.block w.heap.size (by omega))).trans x4
  have d5 : ((w.alloc (.cells #[.int .i64 (k : Int), .string x, .int .i64 (mN : Int), .slice q al.length cq, .int .i64 (f : Int), .int .i64 (t : Int)] 100)).drew.alloc (.cells #[.slice fq l.length fc, .int .i64 (i : Int), .slice none 0 0, .int .i64 (-1), .bool false, .int .i64 0] 53)).cell? ⟨w.heap.size, 5, none⟩ = some (.int .i64 (t : Int)) := (World.cell?_of_block (a := ⟨w.heap.size, 5, none⟩) (hbb.block w.heap.size (by omega))).trans x5
  generalize rlX l env (exMk k x mN al f t) = nn at *
  generalize [] ++ fvX l (flA l) env 0 (exMk k x mN al f t) = LL at *
  clear hba hbb hbc hnw hs2 hsW hF hs hm hb hR hw hsz
  go_enter Tryz.func73, Tryz.ntmps73
  go_wp2
  go_region
  try rw [e1]
  go_wp2_with (first
    | (go_at_call 74; refine Calls.mono HC.out ?_; rintro e w3 ⟨rfl, D3, hs3, hst3⟩))
  go_ret
  exact ⟨rfl, HBc.out.trans ⟨hst3.os, hst3.tape, hst3.output, hst3.size, fun k hk => hst3.block k (by rw [HSz.out]; omega) (by omega) (fun e => by cases e)⟩⟩
end
end Go.Proofs.YtdkpfnohdknldaaGreatDoor

/- Texts of this seat, one behind the other: RfEx1, RfEx3. -/
import Derived.Test.YtdkpfnohdknldaaGreatDoorZf32
import Derived.Test.YtdkpfnohdknldaaGreatDoorZf22
import Derived.Deep.RegionHeld3
namespace Go.Proofs.YtdkpfnohdknldaaGreatDoor
open Go.RowKit Go.WideMaps Go.Maps
set_option linter.unusedVariables false
attribute [local go_sem ↓] Go.wp_at_zero Go.wp_at_succ
section
variable {bn : Nat} {l : List (Int × It)} {i : Nat} {at_ : Int} {fq : Option Addr} {fc : Nat} {T : List Tok}
set_option maxHeartbeats 1500000 in
set_option maxRecDepth 100000 in
theorem rf_var (hlb : ∀ e ∈ l, e.2.l < 256 ∧ ∀ p ∈ e.2.ps, p.l < 256) {n : Nat} : CRg bn l i at_ fq fc T n (fun k => k = 2) := by
  intro D w L env b mp k x mN al f t q cq mm c u hs hm hb hA hw hu hn hK
  have hba := (Below.refl w.heap.size w).alloc (Nat.le_refl _) (.cells #[.int .i64 (k : Int), .string x, .int .i64 (mN : Int), .slice q al.length cq, .int .i64 (f : Int), .int .i64 (t : Int)] 100)
  obtain ⟨x0, x1, x2, x3, x4, x5⟩ := sixF_at (heap_alloc_new w (.cells #[.int .i64 (k : Int), .string x, .int .i64 (mN : Int), .slice q al.length cq, .int .i64 (f : Int), .int .i64 (t : Int)] 100))
  have hsa : Stp bn D D w (w.alloc (.cells #[.int .i64 (k : Int), .string x, .int .i64 (mN : Int), .slice q al.length cq, .int .i64 (f : Int), .int .i64 (t : Int)] 100)) := Stp.below hba
  have hsW := hs.below hba
  have hok := okS.step hsa (B := 0)
  have hmW := hm.kept (hok.1 b hb)
  have hbW := hok.2 b hb
  have hfe := hs.fresh (w' := (w.alloc (.cells #[.int .i64 (k : Int), .string x, .int .i64 (mN : Int), .slice q al.length cq, .int .i64 (f : Int), .int .i64 (t : Int)] 100))) (Nat.le_refl _) (by simp)
  have hlo : ∀ z, z < bn → (w.alloc (.cells #[.int .i64 (k : Int), .string x, .int .i64 (mN : Int), .slice q al.length cq, .int .i64 (f : Int), .int .i64 (t : Int)] 100)).heap[z]? = w.heap[z]? := fun z hz => hba.block z (Nat.lt_trans hz hs.lt.1)
  have hAW := hA.kept hlo (fun _ h => h) (RdE.kept mm hlo (fun _ h => h))
  have hlab : lbX l env u (exMk k x mN al f t) = jnL (rlX l env (exMk k x mN al f t)) u := by rw [lb_rl l env hu _ _ _ hw, jnL_comm]
  have hF := fvX_mk l (flA l) env u k x mN al f t
  rw [hlab] at hF
  have hnn := rlX_lt (fun e he => (hlb e he).1) hm.lt hw
  have hR := rlX_mk l env k x mN al f t
  have hxx : x ≠ noB ∧ x.size ≤ 1000000 := by
    obtain ⟨k', x', m', al', f', t', he', hk⟩ := hw
    obtain ⟨rfl, rfl, rfl, rfl, rfl, rfl⟩ := exMk_inj he'
    rcases hk with ⟨h1, _⟩ | ⟨_, h2, _⟩ | ⟨h1, _⟩ | ⟨h1, _⟩
    · exact absurd hK h1
    · exact ⟨tkn_no h2, by have := tkn_size h2; omega⟩
    · omega
    · omega
  rw [if_pos hK] at hR
  rw [if_neg (by omega), if_neg (by omega), List.nil_append] at hF
  have hlk := mp_look hmW x (by have := hxx.2; unfold maxLen; omega) hxx.1
  have g2 : ((k : Int) == 2) = true := by rw [hK]; rfl
  rw [← hR] at hlk

  rw [hF]
  rw [hF] at hn
  generalize rlX l env (exMk k x mN al f t) = nn at *

  clear hF hlab hw hn hK hA hAW hm hmW hR
  go_enter Tryz.func74, Tryz.ntmps74
  go_wp2
  have zf := x4
  have zt := x5
  clear x0 x1 x2 x3 x4 x5 hlk
  generalize (w.alloc (.cells #[.int .i64 (k : Int), .string x, .int .i64 (mN : Int), .slice q al.length cq, .int .i64 (f : Int), .int .i64 (t : Int)] 100)) = W at *
  obtain ⟨_, _, c3, c4, _, _, _, _⟩ := hsW.cells
  have HT := hid (And.intro hsW hsa)
  clear hsW hsa
  cases hbl : (labR L at_).2 with
  | true =>
    rw [hbl] at c4
    have HBL := hid hbl
    clear hbl
    go_quiet (fail)
    go_wp2
    go_ret
    exact ⟨rfl, D, (by have h := (HT.out.1.said (f := f) (t := t) (jnL nn u) (.inl HBL.out)).below (below_drewN (Below.refl _ _) nq); simpa only [List.append_assoc] using h), HT.out.2.trans (Stp.below (below_drewN (Below.refl _ _) _))⟩
  | false =>
    rw [hbl] at c4
    have HBL := hid hbl
    clear hbl
    by_cases h4 : (f : Int) ≤ at_
    · have hd4 : decide (at_ ≥ (f : Int)) = true := by simpa using h4
      have H4 := hid h4
      clear h4
      by_cases h5 : at_ < (t : Int)
      · have hd5 : decide (at_ < (t : Int)) = true := by simpa using h5
        have H5 := hid h5
        clear h5
        have HBo := hid (fun W => bothJ nn u W hnn hu)
        go_quiet (fail)
        go_wp2_with (first
          | (go_at_call 46; refine Calls.mono (HBo.out _) ?_; rintro e w9 ⟨rfl, hb9⟩; have hb9' := (below_drewN (Below.refl W.heap.size W) _).trans hb9; have hs9 := HT.out.1.below hb9'; obtain ⟨_, _, _, b4, b5, fz, _, _⟩ := hs9.cells; have HS9 := hid hs9; have HB9 := hid hb9'; clear hs9 hb9 hb9' c3 c4 zf zt))
        go_ret
        obtain ⟨r1, r2⟩ := HS9.out.keeps (jnL nn u) HBL.out H4.out H5.out
        exact ⟨rfl, D, (by simpa only [List.append_assoc] using r1), (HT.out.2.trans (Stp.below HB9.out)).trans r2⟩
      · have hd5 : decide (at_ < (t : Int)) = false := by simpa using h5
        have H5 := hid h5
        clear h5
        go_quiet (fail)
        go_wp2
        go_ret
        exact ⟨rfl, D, (by have h := (HT.out.1.said (f := f) (t := t) (jnL nn u) (.inr (fun h => by have h9 := H5.out; omega))).below (below_drewN (Below.refl _ _) nq); simpa only [List.append_assoc] using h), HT.out.2.trans (Stp.below (below_drewN (Below.refl _ _) _))⟩
    · have hd4 : decide (at_ ≥ (f : Int)) = false := by simpa using h4
      have H4 := hid h4
      clear h4
      go_quiet (fail)
      go_wp2
      go_ret
      exact ⟨rfl, D, (by have h := (HT.out.1.said (f := f) (t := t) (jnL nn u) (.inr (fun h => by have h9 := H4.out; omega))).below (below_drewN (Below.refl _ _) nq); simpa only [List.append_assoc] using h), HT.out.2.trans (Stp.below (below_drewN (Below.refl _ _) _))⟩
set_option maxHeartbeats 1500000 in
set_option maxRecDepth 100000 in
theorem rf_num (hlb : ∀ e ∈ l, e.2.l < 256 ∧ ∀ p ∈ e.2.ps, p.l < 256) {n : Nat} : CRg bn l i at_ fq fc T n (fun k => k ≠ 2 ∧ k ≠ 3 ∧ k ≠ 4) := by
  intro D w L env b mp k x mN al f t q cq mm c u hs hm hb hA hw hu hn hK
  have hba := (Below.refl w.heap.size w).alloc (Nat.le_refl _) (.cells #[.int .i64 (k : Int), .string x, .int .i64 (mN : Int), .slice q al.length cq, .int .i64 (f : Int), .int .i64 (t : Int)] 100)
  obtain ⟨x0, x1, x2, x3, x4, x5⟩ := sixF_at (heap_alloc_new w (.cells #[.int .i64 (k : Int), .string x, .int .i64 (mN : Int), .slice q al.length cq, .int .i64 (f : Int), .int .i64 (t : Int)] 100))
  have hsa : Stp bn D D w (w.alloc (.cells #[.int .i64 (k : Int), .string x, .int .i64 (mN : Int), .slice q al.length cq, .int .i64 (f : Int), .int .i64 (t : Int)] 100)) := Stp.below hba
  have hsW := hs.below hba
  have hok := okS.step hsa (B := 0)
  have hmW := hm.kept (hok.1 b hb)
  have hbW := hok.2 b hb
  have hfe := hs.fresh (w' := (w.alloc (.cells #[.int .i64 (k : Int), .string x, .int .i64 (mN : Int), .slice q al.length cq, .int .i64 (f : Int), .int .i64 (t : Int)] 100))) (Nat.le_refl _) (by simp)
  have hlo : ∀ z, z < bn → (w.alloc (.cells #[.int .i64 (k : Int), .string x, .int .i64 (mN : Int), .slice q al.length cq, .int .i64 (f : Int), .int .i64 (t : Int)] 100)).heap[z]? = w.heap[z]? := fun z hz => hba.block z (Nat.lt_trans hz hs.lt.1)
  have hAW := hA.kept hlo (fun _ h => h) (RdE.kept mm hlo (fun _ h => h))
  have hlab : lbX l env u (exMk k x mN al f t) = jnL (rlX l env (exMk k x mN al f t)) u := by rw [lb_rl l env hu _ _ _ hw, jnL_comm]
  have hF := fvX_mk l (flA l) env u k x mN al f t
  rw [hlab] at hF
  have hnn := rlX_lt (fun e he => (hlb e he).1) hm.lt hw
  have hR := rlX_mk l env k x mN al f t
  rw [if_neg hK.1, if_neg hK.2.1, if_neg hK.2.2] at hR
  rw [if_neg hK.2.1, if_neg hK.2.2, List.nil_append] at hF
  have g2 : ((k : Int) == 2) = false := by have := hK.1; simp; omega
  have g3 : ((k : Int) == 3) = false := by have := hK.2.1; simp; omega
  have g4 : ((k : Int) == 4) = false := by have := hK.2.2; simp; omega

  rw [hF]
  rw [hF] at hn
  generalize rlX l env (exMk k x mN al f t) = nn at *
  have hnz : (nn : Int) = 0 := by rw [hR]; rfl

  clear hF hlab hw hn hK hA hAW hm hmW hR
  have HNZ := hid hnz
  rw [hnz]
  clear hnz
  go_enter Tryz.func74, Tryz.ntmps74
  go_wp2
  have zf := x4
  have zt := x5
  clear x0 x1 x2 x3 x4 x5
  generalize (w.alloc (.cells #[.int .i64 (k : Int), .string x, .int .i64 (mN : Int), .slice q al.length cq, .int .i64 (f : Int), .int .i64 (t : Int)] 100)) = W at *
  obtain ⟨_, _, c3, c4, _, _, _, _⟩ := hsW.cells
  have HT := hid (And.intro hsW hsa)
  clear hsW hsa
  cases hbl : (labR L at_).2 with
  | true =>
    rw [hbl] at c4
    have HBL := hid hbl
    clear hbl
    go_quiet (fail)
    go_wp2
    go_ret
    exact ⟨rfl, D, (by have h := (HT.out.1.said (f := f) (t := t) (jnL nn u) (.inl HBL.out)).below (below_drewN (Below.refl _ _) nq); simpa only [List.append_assoc] using h), HT.out.2.trans (Stp.below (below_drewN (Below.refl _ _) _))⟩
  | false =>
    rw [hbl] at c4
    have HBL := hid hbl
    clear hbl
    by_cases h4 : (f : Int) ≤ at_
    · have hd4 : decide (at_ ≥ (f : Int)) = true := by simpa using h4
      have H4 := hid h4
      clear h4
      by_cases h5 : at_ < (t : Int)
      · have hd5 : decide (at_ < (t : Int)) = true := by simpa using h5
        have H5 := hid h5
        clear h5
        have HBo := hid (fun W => bothJ nn u W hnn hu)
        rw [HNZ.out] at HBo
        go_quiet (fail)
        go_wp2_with (first
          | (go_at_call 46; refine Calls.mono (HBo.out _) ?_; rintro e w9 ⟨rfl, hb9⟩; have hb9' := (below_drewN (Below.refl W.heap.size W) _).trans hb9; have hs9 := HT.out.1.below hb9'; obtain ⟨_, _, _, b4, b5, fz, _, _⟩ := hs9.cells; have HS9 := hid hs9; have HB9 := hid hb9'; clear hs9 hb9 hb9' c3 c4 zf zt))
        go_ret
        obtain ⟨r1, r2⟩ := HS9.out.keeps (jnL nn u) HBL.out H4.out H5.out
        exact ⟨rfl, D, (by simpa only [List.append_assoc] using r1), (HT.out.2.trans (Stp.below HB9.out)).trans r2⟩
      · have hd5 : decide (at_ < (t : Int)) = false := by simpa using h5
        have H5 := hid h5
        clear h5
        go_quiet (fail)
        go_wp2
        go_ret
        exact ⟨rfl, D, (by have h := (HT.out.1.said (f := f) (t := t) (jnL nn u) (.inr (fun h => by have h9 := H5.out; omega))).below (below_drewN (Below.refl _ _) nq); simpa only [List.append_assoc] using h), HT.out.2.trans (Stp.below (below_drewN (Below.refl _ _) _))⟩
    · have hd4 : decide (at_ ≥ (f : Int)) = false := by simpa using h4
      have H4 := hid h4
      clear h4
      go_quiet (fail)
      go_wp2
      go_ret
      exact ⟨rfl, D, (by have h := (HT.out.1.said (f := f) (t := t) (jnL nn u) (.inr (fun h => by have h9 := H4.out; omega))).below (below_drewN (Below.refl _ _) nq); simpa only [List.append_assoc] using h), HT.out.2.trans (Stp.below (below_drewN (Below.refl _ _) _))⟩
end
end Go.Proofs.YtdkpfnohdknldaaGreatDoor
namespace Go.Proofs.YtdkpfnohdknldaaGreatDoor
open Go.RowKit Go.WideMaps Go.Maps
set_option linter.unusedVariables false
attribute [local go_sem ↓] Go.wp_at_zero Go.wp_at_succ
section
variable {bn : Nat} {l : List (Int × It)} {i : Nat} {at_ : Int} {fq : Option Addr} {fc : Nat} {T : List Tok}
set_option maxHeartbeats 1500000 in
set_option maxRecDepth 100000 in
theorem rf_op (hlb : ∀ e ∈ l, e.2.l < 256 ∧ ∀ p ∈ e.2.ps, p.l < 256) {n : Nat} (ih : CRf bn l i at_ fq fc T n) : CRg bn l i at_ fq fc T n (fun k => k = 3) := by
  intro D w L env b mp k x mN al f t q cq mm c u hs hm hb hA hw hu hn hK
  have hba := (Below.refl w.heap.size w).alloc (Nat.le_refl _) (.cells #[.int .i64 (k : Int), .string x, .int .i64 (mN : Int), .slice q al.length cq, .int .i64 (f : Int), .int .i64 (t : Int)] 100)
  obtain ⟨x0, x1, x2, x3, x4, x5⟩ := sixF_at (heap_alloc_new w (.cells #[.int .i64 (k : Int), .string x, .int .i64 (mN : Int), .slice q al.length cq, .int .i64 (f : Int), .int .i64 (t : Int)] 100))
  have hsa : Stp bn D D w (w.alloc (.cells #[.int .i64 (k : Int), .string x, .int .i64 (mN : Int), .slice q al.length cq, .int .i64 (f : Int), .int .i64 (t : Int)] 100)) := Stp.below hba
  have hsW := hs.below hba
  have hok := okS.step hsa (B := 0)
  have hmW := hm.kept (hok.1 b hb)
  have hbW := hok.2 b hb
  have hfe := hs.fresh (w' := (w.alloc (.cells #[.int .i64 (k : Int), .string x, .int .i64 (mN : Int), .slice q al.length cq, .int .i64 (f : Int), .int .i64 (t : Int)] 100))) (Nat.le_refl _) (by simp)
  have hlo : ∀ z, z < bn → (w.alloc (.cells #[.int .i64 (k : Int), .string x, .int .i64 (mN : Int), .slice q al.length cq, .int .i64 (f : Int), .int .i64 (t : Int)] 100)).heap[z]? = w.heap[z]? := fun z hz => hba.block z (Nat.lt_trans hz hs.lt.1)
  have hAW := hA.kept hlo (fun _ h => h) (RdE.kept mm hlo (fun _ h => h))
  have hlab : lbX l env u (exMk k x mN al f t) = jnL (rlX l env (exMk k x mN al f t)) u := by rw [lb_rl l env hu _ _ _ hw, jnL_comm]
  have hF := fvX_mk l (flA l) env u k x mN al f t
  rw [hlab] at hF
  have hnn := rlX_lt (fun e he => (hlb e he).1) hm.lt hw
  have hR := rlX_mk l env k x mN al f t
  obtain ⟨a1, a2, hal, c1, w1, c2, w2'⟩ : ∃ a1 a2, al = [a1, a2] ∧ ∃ c1, wfE T n c1 a1 ∧ ∃ c2, wfE T n c2 a2 := by
    obtain ⟨k', x', m', al', f', t', he', hk⟩ := hw
    obtain ⟨rfl, rfl, rfl, rfl, rfl, rfl⟩ := exMk_inj he'
    rcases hk with ⟨_, h1, _⟩ | ⟨h1, _⟩ | ⟨_, h2, h3⟩ | ⟨h1, _⟩
    · exact absurd hK h1
    · omega
    · cases al with
      | nil => cases h2
      | cons a r =>
        cases r with
        | nil => cases h2
        | cons b r =>
          cases r with
          | nil =>
            obtain ⟨z1, h4⟩ := wfL_get _ _ 0 a h3 rfl
            obtain ⟨z2, h5⟩ := wfL_get _ _ 1 b h3 rfl
            exact ⟨a, b, rfl, z1, h4, z2, h5⟩
          | cons d r => simp at h2
    · omega
  subst hal
  rw [if_neg (by omega), if_pos hK] at hR
  rw [if_pos hK] at hF
  have hFe : [a1, a2].flatMap (fvX l (flA l) env u) = fvX l (flA l) env u a1 ++ fvX l (flA l) env u a2 := by simp
  rw [hFe] at hF
  have hr1 := rlX_lt (fun e he => (hlb e he).1) hm.lt w1
  have hr2 := rlX_lt (fun e he => (hlb e he).1) hm.lt w2'
  rw [hF]
  rw [hF] at hn
  have g2 : ((k : Int) == 2) = false := by rw [hK]; rfl
  have g3 : ((k : Int) == 3) = true := by rw [hK]; rfl
  obtain ⟨g, hq, hgo, hLA⟩ := hAW.2 (by simp)
  subst hq
  obtain ⟨v1, hc1, hR1⟩ := hLA 0 a1 rfl
  obtain ⟨v2, hc2, hR2⟩ := hLA 1 a2 rfl
  obtain ⟨k1, x1', m1, al1, f1, t1, q1, d1, e1, rfl⟩ := RdE.form hR1
  obtain ⟨k2, x2', m2, al2, f2, t2, q2, d2, e2, rfl⟩ := RdE.form hR2
  have y0 : (w.alloc (.cells #[.int .i64 (k : Int), .string x, .int .i64 (mN : Int), .slice (some ⟨g, 0, none⟩) [a1, a2].length cq, .int .i64 (f : Int), .int .i64 (t : Int)] 100)).cell? ⟨g, 0, none⟩ = some (.int .i64 (k1 : Int)) := by have h := hc1.get 0 _ rfl; simpa using h
  have y1 : (w.alloc (.cells #[.int .i64 (k : Int), .string x, .int .i64 (mN : Int), .slice (some ⟨g, 0, none⟩) [a1, a2].length cq, .int .i64 (f : Int), .int .i64 (t : Int)] 100)).cell? ⟨g, 1, none⟩ = some (.string x1') := by have h := hc1.get 1 _ rfl; simpa using h
  have y2 : (w.alloc (.cells #[.int .i64 (k : Int), .string x, .int .i64 (mN : Int), .slice (some ⟨g, 0, none⟩) [a1, a2].length cq, .int .i64 (f : Int), .int .i64 (t : Int)] 100)).cell? ⟨g, 2, none⟩ = some (.int .i64 (m1 : Int)) := by have h := hc1.get 2 _ rfl; simpa using h
  have y3 : (w.alloc (.cells #[.int .i64 (k : Int), .string x, .int .i64 (mN : Int), .slice (some ⟨g, 0, none⟩) [a1, a2].length cq, .int .i64 (f : Int), .int .i64 (t : Int)] 100)).cell? ⟨g, 3, none⟩ = some (.slice q1 al1.length d1) := by have h := hc1.get 3 _ rfl; simpa using h
  have y4 : (w.alloc (.cells #[.int .i64 (k : Int), .string x, .int .i64 (mN : Int), .slice (some ⟨g, 0, none⟩) [a1, a2].length cq, .int .i64 (f : Int), .int .i64 (t : Int)] 100)).cell? ⟨g, 4, none⟩ = some (.int .i64 (f1 : Int)) := by have h := hc1.get 4 _ rfl; simpa using h
  have y5 : (w.alloc (.cells #[.int .i64 (k : Int), .string x, .int .i64 (mN : Int), .slice (some ⟨g, 0, none⟩) [a1, a2].length cq, .int .i64 (f : Int), .int .i64 (t : Int)] 100)).cell? ⟨g, 5, none⟩ = some (.int .i64 (t1 : Int)) := by have h := hc1.get 5 _ rfl; simpa using h
  have y6 : (w.alloc (.cells #[.int .i64 (k : Int), .string x, .int .i64 (mN : Int), .slice (some ⟨g, 0, none⟩) [a1, a2].length cq, .int .i64 (f : Int), .int .i64 (t : Int)] 100)).cell? ⟨g, 6, none⟩ = some (.int .i64 (k2 : Int)) := by have h := hc2.get 0 _ rfl; simpa using h
  have y7 : (w.alloc (.cells #[.int .i64 (k : Int), .string x, .int .i64 (mN : Int), .slice (some ⟨g, 0, none⟩) [a1, a2].length cq, .int .i64 (f : Int), .int .i64 (t : Int)] 100)).cell? ⟨g, 7, none⟩ = some (.string x2') := by have h := hc2.get 1 _ rfl; simpa using h
  have y8 : (w.alloc (.cells #[.int .i64 (k : Int), .string x, .int .i64 (mN : Int), .slice (some ⟨g, 0, none⟩) [a1, a2].length cq, .int .i64 (f : Int), .int .i64 (t : Int)] 100)).cell? ⟨g, 8, none⟩ = some (.int .i64 (m2 : Int)) := by have h := hc2.get 2 _ rfl; simpa using h
  have y9 : (w.alloc (.cells #[.int .i64 (k : Int), .string x, .int .i64 (mN : Int), .slice (some ⟨g, 0, none⟩) [a1, a2].length cq, .int .i64 (f : Int), .int .i64 (t : Int)] 100)).cell? ⟨g, 9, none⟩ = some (.slice q2 al2.length d2) := by have h := hc2.get 3 _ rfl; simpa using h
  have y10 : (w.alloc (.cells #[.int .i64 (k : Int), .string x, .int .i64 (mN : Int), .slice (some ⟨g, 0, none⟩) [a1, a2].length cq, .int .i64 (f : Int), .int .i64 (t : Int)] 100)).cell? ⟨g, 10, none⟩ = some (.int .i64 (f2 : Int)) := by have h := hc2.get 4 _ rfl; simpa using h
  have y11 : (w.alloc (.cells #[.int .i64 (k : Int), .string x, .int .i64 (mN : Int), .slice (some ⟨g, 0, none⟩) [a1, a2].length cq, .int .i64 (f : Int), .int .i64 (t : Int)] 100)).cell? ⟨g, 11, none⟩ = some (.int .i64 (t2 : Int)) := by have h := hc2.get 5 _ rfl; simpa using h
  have hDr := Below.drew (Below.refl (w.alloc (.cells #[.int .i64 (k : Int), .string x, .int .i64 (mN : Int), .slice (some ⟨g, 0, none⟩) [a1, a2].length cq, .int .i64 (f : Int), .int .i64 (t : Int)] 100)).heap.size (w.alloc (.cells #[.int .i64 (k : Int), .string x, .int .i64 (mN : Int), .slice (some ⟨g, 0, none⟩) [a1, a2].length cq, .int .i64 (f : Int), .int .i64 (t : Int)] 100)))
  have hsd : Stp bn D D (w.alloc (.cells #[.int .i64 (k : Int), .string x, .int .i64 (mN : Int), .slice (some ⟨g, 0, none⟩) [a1, a2].length cq, .int .i64 (f : Int), .int .i64 (t : Int)] 100)) (w.alloc (.cells #[.int .i64 (k : Int), .string x, .int .i64 (mN : Int), .slice (some ⟨g, 0, none⟩) [a1, a2].length cq, .int .i64 (f : Int), .int .i64 (t : Int)] 100)).drew := Stp.below hDr
  have hsD := hsW.below hDr
  have hokd := okS.step hsd (B := 0)
  have HC1 := hid (ih D (w.alloc (.cells #[.int .i64 (k : Int), .string x, .int .i64 (mN : Int), .slice (some ⟨g, 0, none⟩) [a1, a2].length cq, .int .i64 (f : Int), .int .i64 (t : Int)] 100)).drew L env b mp a1 _ mm c1 u hsD (hmW.kept (hokd.1 b hbW)) (hokd.2 b hbW) (RdE.kept mm (Stp.lowF hsd hsW) (fun _ h => h) _ _ hR1) w1 hu (by rw [noF_ap] at hn ⊢; rw [noF_ap, noF_ap] at hn; omega))
  have HC2f := hid (fun (D2 : Option Nat) (w2 : World) (h1 : RF bn l i at_ fq fc w2 (L ++ fvX l (flA l) env u a1) D2) (h2 : Stp bn D D2 (w.alloc (.cells #[.int .i64 (k : Int), .string x, .int .i64 (mN : Int), .slice (some ⟨g, 0, none⟩) [a1, a2].length cq, .int .i64 (f : Int), .int .i64 (t : Int)] 100)) w2) => ih D2 w2 (L ++ fvX l (flA l) env u a1) env b mp a2 _ mm c2 u h1 (hmW.kept ((okS.step h2).1 b hbW)) ((okS.step h2).2 b hbW) (RdE.kept mm (Stp.lowF h2 hsW) (fun _ h => h) _ _ hR2) w2' hu (by rw [List.append_assoc]; rw [noF_ap] at hn ⊢; rw [noF_ap] at hn; omega))
  have HJ := hid (fun W => bothJ (rlX l env a1) (rlX l env a2) W hr1 hr2)
  have HG := hid hgo
  have HFE := hid hfe
  have HSW := hid hsW
  have HX := hid (show (w.alloc (.cells #[.int .i64 (k : Int), .string x, .int .i64 (mN : Int), .slice (some ⟨g, 0, none⟩) [a1, a2].length cq, .int .i64 (f : Int), .int .i64 (t : Int)] 100)).cell? ⟨w.heap.size, 3, none⟩ = some (.slice (some ⟨g, 0, none⟩) 2 cq) ∧ (w.alloc (.cells #[.int .i64 (k : Int), .string x, .int .i64 (mN : Int), .slice (some ⟨g, 0, none⟩) [a1, a2].length cq, .int .i64 (f : Int), .int .i64 (t : Int)] 100)).cell? ⟨g, 0, none⟩ = some (.int .i64 (k1 : Int)) ∧ (w.alloc (.cells #[.int .i64 (k : Int), .string x, .int .i64 (mN : Int), .slice (some ⟨g, 0, none⟩) [a1, a2].length cq, .int .i64 (f : Int), .int .i64 (t : Int)] 100)).cell? ⟨g, 1, none⟩ = some (.string x1') ∧ (w.alloc (.cells #[.int .i64 (k : Int), .string x, .int .i64 (mN : Int), .slice (some ⟨g, 0, none⟩) [a1, a2].length cq, .int .i64 (f : Int), .int .i64 (t : Int)] 100)).cell? ⟨g, 2, none⟩ = some (.int .i64 (m1 : Int)) ∧ (w.alloc (.cells #[.int .i64 (k : Int), .string x, .int .i64 (mN : Int), .slice (some ⟨g, 0, none⟩) [a1, a2].length cq, .int .i64 (f : Int), .int .i64 (t : Int)] 100)).cell? ⟨g, 3, none⟩ = some (.slice q1 al1.length d1) ∧ (w.alloc (.cells #[.int .i64 (k : Int), .string x, .int .i64 (mN : Int), .slice (some ⟨g, 0, none⟩) [a1, a2].length cq, .int .i64 (f : Int), .int .i64 (t : Int)] 100)).cell? ⟨g, 4, none⟩ = some (.int .i64 (f1 : Int)) ∧ (w.alloc (.cells #[.int .i64 (k : Int), .string x, .int .i64 (mN : Int), .slice (some ⟨g, 0, none⟩) [a1, a2].length cq, .int .i64 (f : Int), .int .i64 (t : Int)] 100)).cell? ⟨g, 5, none⟩ = some (.int .i64 (t1 : Int)) ∧ (w.alloc (.cells #[.int .i64 (k : Int), .string x, .int .i64 (mN : Int), .slice (some ⟨g, 0, none⟩) [a1, a2].length cq, .int .i64 (f : Int), .int .i64 (t : Int)] 100)).cell? ⟨g, 6, none⟩ = some (.int .i64 (k2 : Int)) ∧ (w.alloc (.cells #[.int .i64 (k : Int), .string x, .int .i64 (mN : Int), .slice (some ⟨g, 0, none⟩) [a1, a2].length cq, .int .i64 (f : Int), .int .i64 (t : Int)] 100)).cell? ⟨g, 7, none⟩ = some (.string x2') ∧ (w.alloc (.cells #[.int .i64 (k : Int), .string x, .int .i64 (mN : Int), .slice (some ⟨g, 0, none⟩) [a1, a2].length cq, .int .i64 (f : Int), .int .i64 (t : Int)] 100)).cell? ⟨g, 8, none⟩ = some (.int .i64 (m2 : Int)) ∧ (w.alloc (.cells #[.int .i64 (k : Int), .string x, .int .i64 (mN : Int), .slice (some ⟨g, 0, none⟩) [a1, a2].length cq, .int .i64 (f : Int), .int .i64 (t : Int)] 100)).cell? ⟨g, 9, none⟩ = some (.slice q2 al2.length d2) ∧ (w.alloc (.cells #[.int .i64 (k : Int), .string x, .int .i64 (mN : Int), .slice (some ⟨g, 0, none⟩) [a1, a2].length cq, .int .i64 (f : Int), .int .i64 (t : Int)] 100)).cell? ⟨g, 10, none⟩ = some (.int .i64 (f2 : Int)) ∧ (w.alloc (.cells #[.int .i64 (k : Int), .string x, .int .i64 (mN : Int), .slice (some ⟨g, 0, none⟩) [a1, a2].length cq, .int .i64 (f : Int), .int .i64 (t : Int)] 100)).cell? ⟨g, 11, none⟩ = some (.int .i64 (t2 : Int)) from ⟨x3, y0, y1, y2, y3, y4, y5, y6, y7, y8, y9, y10, y11⟩)
  rw [← List.append_assoc, ← List.append_assoc]
  have hnn2 : jnL (rlX l env a1) (rlX l env a2) = rlX l env (exMk k x mN [a1, a2] f t) := hR.symm
  have HNN := hid hnn2
  generalize rlX l env (exMk k x mN [a1, a2] f t) = nn at *
  generalize rlX l env a1 = n1 at *
  generalize rlX l env a2 = n2 at *
  generalize fvX l (flA l) env u a1 = X1 at *
  generalize fvX l (flA l) env u a2 = X2 at *
  have hl2 : ([a1, a2] : List Tr).length = 2 := rfl
  have F1 : Hid (1 = 1) := rfl
  clear hF hlab hw hn hK hA hAW hm hmW hR hFe hnn2 hLA hc1 hc2 hR1 hR2 e1 e2 w1 w2' hDr hokd hsD hgo hfe
  go_enter Tryz.func74, Tryz.ntmps74
  go_wp2
  generalize (w.alloc (.cells #[.int .i64 (k : Int), .string x, .int .i64 (mN : Int), .slice (some ⟨g, 0, none⟩) [a1, a2].length cq, .int .i64 (f : Int), .int .i64 (t : Int)] 100)) = W at *
  go_region_held3 (fun w' => w'.cell? ⟨w.heap.size, 3, none⟩ = some (.slice (some ⟨g, 0, none⟩) 2 cq) ∧ w'.cell? ⟨g, 0, none⟩ = some (.int .i64 (k1 : Int)) ∧ w'.cell? ⟨g, 1, none⟩ = some (.string x1') ∧ w'.cell? ⟨g, 2, none⟩ = some (.int .i64 (m1 : Int)) ∧ w'.cell? ⟨g, 3, none⟩ = some (.slice q1 al1.length d1) ∧ w'.cell? ⟨g, 4, none⟩ = some (.int .i64 (f1 : Int)) ∧ w'.cell? ⟨g, 5, none⟩ = some (.int .i64 (t1 : Int)) ∧ w'.cell? ⟨g, 6, none⟩ = some (.int .i64 (k2 : Int)) ∧ w'.cell? ⟨g, 7, none⟩ = some (.string x2') ∧ w'.cell? ⟨g, 8, none⟩ = some (.int .i64 (m2 : Int)) ∧ w'.cell? ⟨g, 9, none⟩ = some (.slice q2 al2.length d2) ∧ w'.cell? ⟨g, 10, none⟩ = some (.int .i64 (f2 : Int)) ∧ w'.cell? ⟨g, 11, none⟩ = some (.int .i64 (t2 : Int))) (first | go_keep | (with_reducible exact ⟨rx, r0, r1, r2, r3, r4, r5, r6, r7, r8, r9, r10, r11⟩) | (with_reducible exact ⟨sx, s0, s1, s2, s3, s4, s5, s6, s7, s8, s9, s10, s11⟩) | (with_reducible exact ⟨px, p0, p1, p2, p3, p4, p5, p6, p7, p8, p9, p10, p11⟩))
    (first
      | (go_at_call 74; have ff := F1; clear ff F1; refine Calls.mono HC1.out ?_; rintro e w2 ⟨rfl, D2, hs2, hst2q⟩; have hst2 := hsd.trans hst2q; have rx := (okS_cell hst2 HFE.out 3).trans HX.out.1; have r0 := (World.cell?_of_block (a := ⟨g, 0, none⟩) (Stp.lowF hst2 HSW.out g HG.out)).trans HX.out.2.1; have r1 := (World.cell?_of_block (a := ⟨g, 1, none⟩) (Stp.lowF hst2 HSW.out g HG.out)).trans HX.out.2.2.1; have r2 := (World.cell?_of_block (a := ⟨g, 2, none⟩) (Stp.lowF hst2 HSW.out g HG.out)).trans HX.out.2.2.2.1; have r3 := (World.cell?_of_block (a := ⟨g, 3, none⟩) (Stp.lowF hst2 HSW.out g HG.out)).trans HX.out.2.2.2.2.1; have r4 := (World.cell?_of_block (a := ⟨g, 4, none⟩) (Stp.lowF hst2 HSW.out g HG.out)).trans HX.out.2.2.2.2.2.1; have r5 := (World.cell?_of_block (a := ⟨g, 5, none⟩) (Stp.lowF hst2 HSW.out g HG.out)).trans HX.out.2.2.2.2.2.2.1; have r6 := (World.cell?_of_block (a := ⟨g, 6, none⟩) (Stp.lowF hst2 HSW.out g HG.out)).trans HX.out.2.2.2.2.2.2.2.1; have r7 := (World.cell?_of_block (a := ⟨g, 7, none⟩) (Stp.lowF hst2 HSW.out g HG.out)).trans HX.out.2.2.2.2.2.2.2.2.1; have r8 := (World.cell?_of_block (a := ⟨g, 8, none⟩) (Stp.lowF hst2 HSW.out g HG.out)).trans HX.out.2.2.2.2.2.2.2.2.2.1; have r9 := (World.cell?_of_block (a := ⟨g, 9, none⟩) (Stp.lowF hst2 HSW.out g HG.out)).trans HX.out.2.2.2.2.2.2.2.2.2.2.1; have r10 := (World.cell?_of_block (a := ⟨g, 10, none⟩) (Stp.lowF hst2 HSW.out g HG.out)).trans HX.out.2.2.2.2.2.2.2.2.2.2.2.1; have r11 := (World.cell?_of_block (a := ⟨g, 11, none⟩) (Stp.lowF hst2 HSW.out g HG.out)).trans HX.out.2.2.2.2.2.2.2.2.2.2.2.2; have HC2 := hid (HC2f.out D2 w2 hs2 hst2))
      | (go_at_call 74; refine Calls.mono HC2.out ?_; rintro e w3 ⟨rfl, D3, hs3, hst3q⟩; have hst3 := hst2.trans hst3q; have sx := (okS_cell hst3 HFE.out 3).trans HX.out.1; have s0 := (World.cell?_of_block (a := ⟨g, 0, none⟩) (Stp.lowF hst3 HSW.out g HG.out)).trans HX.out.2.1; have s1 := (World.cell?_of_block (a := ⟨g, 1, none⟩) (Stp.lowF hst3 HSW.out g HG.out)).trans HX.out.2.2.1; have s2 := (World.cell?_of_block (a := ⟨g, 2, none⟩) (Stp.lowF hst3 HSW.out g HG.out)).trans HX.out.2.2.2.1; have s3 := (World.cell?_of_block (a := ⟨g, 3, none⟩) (Stp.lowF hst3 HSW.out g HG.out)).trans HX.out.2.2.2.2.1; have s4 := (World.cell?_of_block (a := ⟨g, 4, none⟩) (Stp.lowF hst3 HSW.out g HG.out)).trans HX.out.2.2.2.2.2.1; have s5 := (World.cell?_of_block (a := ⟨g, 5, none⟩) (Stp.lowF hst3 HSW.out g HG.out)).trans HX.out.2.2.2.2.2.2.1; have s6 := (World.cell?_of_block (a := ⟨g, 6, none⟩) (Stp.lowF hst3 HSW.out g HG.out)).trans HX.out.2.2.2.2.2.2.2.1; have s7 := (World.cell?_of_block (a := ⟨g, 7, none⟩) (Stp.lowF hst3 HSW.out g HG.out)).trans HX.out.2.2.2.2.2.2.2.2.1; have s8 := (World.cell?_of_block (a := ⟨g, 8, none⟩) (Stp.lowF hst3 HSW.out g HG.out)).trans HX.out.2.2.2.2.2.2.2.2.2.1; have s9 := (World.cell?_of_block (a := ⟨g, 9, none⟩) (Stp.lowF hst3 HSW.out g HG.out)).trans HX.out.2.2.2.2.2.2.2.2.2.2.1; have s10 := (World.cell?_of_block (a := ⟨g, 10, none⟩) (Stp.lowF hst3 HSW.out g HG.out)).trans HX.out.2.2.2.2.2.2.2.2.2.2.2.1; have s11 := (World.cell?_of_block (a := ⟨g, 11, none⟩) (Stp.lowF hst3 HSW.out g HG.out)).trans HX.out.2.2.2.2.2.2.2.2.2.2.2.2)
      | (go_at_call 46; refine Calls.mono (HJ.out _) ?_; rintro e w4 ⟨rfl, hb4⟩; have hst4 := hst3.trans (Stp.below hb4); rw [HNN.out]; have px := (okS_cell hst4 HFE.out 3).trans HX.out.1; have p0 := (World.cell?_of_block (a := ⟨g, 0, none⟩) (Stp.lowF hst4 HSW.out g HG.out)).trans HX.out.2.1; have p1 := (World.cell?_of_block (a := ⟨g, 1, none⟩) (Stp.lowF hst4 HSW.out g HG.out)).trans HX.out.2.2.1; have p2 := (World.cell?_of_block (a := ⟨g, 2, none⟩) (Stp.lowF hst4 HSW.out g HG.out)).trans HX.out.2.2.2.1; have p3 := (World.cell?_of_block (a := ⟨g, 3, none⟩) (Stp.lowF hst4 HSW.out g HG.out)).trans HX.out.2.2.2.2.1; have p4 := (World.cell?_of_block (a := ⟨g, 4, none⟩) (Stp.lowF hst4 HSW.out g HG.out)).trans HX.out.2.2.2.2.2.1; have p5 := (World.cell?_of_block (a := ⟨g, 5, none⟩) (Stp.lowF hst4 HSW.out g HG.out)).trans HX.out.2.2.2.2.2.2.1; have p6 := (World.cell?_of_block (a := ⟨g, 6, none⟩) (Stp.lowF hst4 HSW.out g HG.out)).trans HX.out.2.2.2.2.2.2.2.1; have p7 := (World.cell?_of_block (a := ⟨g, 7, none⟩) (Stp.lowF hst4 HSW.out g HG.out)).trans HX.out.2.2.2.2.2.2.2.2.1; have p8 := (World.cell?_of_block (a := ⟨g, 8, none⟩) (Stp.lowF hst4 HSW.out g HG.out)).trans HX.out.2.2.2.2.2.2.2.2.2.1; have p9 := (World.cell?_of_block (a := ⟨g, 9, none⟩) (Stp.lowF hst4 HSW.out g HG.out)).trans HX.out.2.2.2.2.2.2.2.2.2.2.1; have p10 := (World.cell?_of_block (a := ⟨g, 10, none⟩) (Stp.lowF hst4 HSW.out g HG.out)).trans HX.out.2.2.2.2.2.2.2.2.2.2.2.1; have p11 := (World.cell?_of_block (a := ⟨g, 11, none⟩) (Stp.lowF hst4 HSW.out g HG.out)).trans HX.out.2.2.2.2.2.2.2.2.2.2.2.2))
  clear rx r0 r1 r2 r3 r4 r5 r6 r7 r8 r9 r10 r11 sx s0 s1 s2 s3 s4 s5 s6 s7 s8 s9 s10 s11 px p0 p1 p2 p3 p4 p5 p6 p7 p8 p9 p10 p11
  go_wp2
  have hs4 := hs3.below hb4
  have hstT := hsa.trans hst4
  have zf := (okS_cell hst4 HFE.out 4).trans x4
  have zt := (okS_cell hst4 HFE.out 5).trans x5
  clear x0 x1 x2 x3 x4 x5 y0 y1 y2 y3 y4 y5 y6 y7 y8 y9 y10 y11
  obtain ⟨_, _, c3, c4, _, _, _, _⟩ := hs4.cells
  have HT := hid (And.intro hs4 hstT)
  clear hs4 hstT
  cases hbl : (labR (L ++ X1 ++ X2) at_).2 with
  | true =>
    rw [hbl] at c4
    have HBL := hid hbl
    clear hbl
    go_quiet (fail)
    go_wp2
    go_ret
    exact ⟨rfl, D3, (by have h := (HT.out.1.said (f := f) (t := t) (jnL nn u) (.inl HBL.out)).below (below_drewN (Below.refl _ _) nq); simpa only [List.append_assoc] using h), HT.out.2.trans (Stp.below (below_drewN (Below.refl _ _) _))⟩
  | false =>
    rw [hbl] at c4
    have HBL := hid hbl
    clear hbl
    by_cases h4 : (f : Int) ≤ at_
    · have hd4 : decide (at_ ≥ (f : Int)) = true := by simpa using h4
      have H4 := hid h4
      clear h4
      by_cases h5 : at_ < (t : Int)
      · have hd5 : decide (at_ < (t : Int)) = true := by simpa using h5
        have H5 := hid h5
        clear h5
        have HBo := hid (fun W => bothJ nn u W hnn hu)
        go_quiet (fail)
        go_wp2_with (first
          | (go_at_call 46; refine Calls.mono (HBo.out _) ?_; rintro e w9 ⟨rfl, hb9⟩; have hb9' := (below_drewN (Below.refl w4.heap.size w4) _).trans hb9; have hs9 := HT.out.1.below hb9'; obtain ⟨_, _, _, b4, b5, fz, _, _⟩ := hs9.cells; have HS9 := hid hs9; have HB9 := hid hb9'; clear hs9 hb9 hb9' c3 c4 zf zt))
        go_ret
        obtain ⟨r1, r2⟩ := HS9.out.keeps (jnL nn u) HBL.out H4.out H5.out
        exact ⟨rfl, D3, (by simpa only [List.append_assoc] using r1), (HT.out.2.trans (Stp.below HB9.out)).trans r2⟩
      · have hd5 : decide (at_ < (t : Int)) = false := by simpa using h5
        have H5 := hid h5
        clear h5
        go_quiet (fail)
        go_wp2
        go_ret
        exact ⟨rfl, D3, (by have h := (HT.out.1.said (f := f) (t := t) (jnL nn u) (.inr (fun h => by have h9 := H5.out; omega))).below (below_drewN (Below.refl _ _) nq); simpa only [List.append_assoc] using h), HT.out.2.trans (Stp.below (below_drewN (Below.refl _ _) _))⟩
    · have hd4 : decide (at_ ≥ (f : Int)) = false := by simpa using h4
      have H4 := hid h4
      clear h4
      go_quiet (fail)
      go_wp2
      go_ret
      exact ⟨rfl, D3, (by have h := (HT.out.1.said (f := f) (t := t) (jnL nn u) (.inr (fun h => by have h9 := H4.out; omega))).below (below_drewN (Below.refl _ _) nq); simpa only [List.append_assoc] using h), HT.out.2.trans (Stp.below (below_drewN (Below.refl _ _) _))⟩
end
end Go.Proofs.YtdkpfnohdknldaaGreatDoor

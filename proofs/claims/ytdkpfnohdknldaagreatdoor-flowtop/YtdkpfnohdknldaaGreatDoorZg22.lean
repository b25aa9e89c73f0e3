/- Texts of this seat, one behind the other: RnExpr, RnBlock, RnHad. -/
import Derived.Test.YtdkpfnohdknldaaGreatDoorZg21
import Derived.Test.YtdkpfnohdknldaaGreatDoorZg17
import Derived.Test.YtdkpfnohdknldaaGreatDoorZg18
namespace Go.Proofs.YtdkpfnohdknldaaGreatDoor
open Go.RowKit Go.WideMaps Go.Maps
set_option linter.unusedVariables false
attribute [local go_sem ↓] Go.wp_at_zero Go.wp_at_succ
theorem wfL_get {P : Nat → Tr → Prop} : ∀ (al : List Tr) (c k : Nat) (a : Tr), wfL P c al → al[k]? = some a → ∃ c', P c' a := by
 intro al
 induction al with
 | nil => intro c k a _ h; simp at h
 | cons b r ih =>
  rintro c k a ⟨c1, c2, _, h2, h3⟩ h
  cases k with
  | zero => simp at h; subst h; exact ⟨c1, h2⟩
  | succ k => simp at h; exact ih c2 k a h3 h
def CRx (bn : Nat) (l : List (Int × It)) (i : Nat) (p : Int) (fq : Option Addr) (fc : Nat) (T : List Tok) (n : Nat) : Prop := ∀ (Dd Du : Option Nat) (w : World) (L : List Ev) (env : Env) (b : Nat) (e : Tr) (v : Value) (m c : Nat), RS bn l i p fq fc w L Dd Du → MpAt w b p env → okQ bn Dd Du w b → RdE m (fun k => k < bn) w e v → wfE T n c e → (L ++ evX l p env e).length < 1099511627776 →
 Calls Tryz.prog 85 #[.pointer (some ⟨bn, 0, none⟩), .map (some b), v] w fun ex w' => ex = .returned (.tuple #[]) ∧ TQ bn l i p fq fc Dd Du (L ++ evX l p env e) w w'
def RelRx (bn : Nat) (l : List (Int × It)) (i : Nat) (p : Int) (fq : Option Addr) (fc : Nat) (Dd Du : Option Nat) (w : World) (M : Nat → List Ev) (n : Nat) (j : Value) (wr : World) : Prop := ∃ k : Nat, k ≤ n ∧ j = .int .i64 (k : Int) ∧ TQ bn l i p fq fc Dd Du (M k) w wr
section
variable {bn : Nat} {l : List (Int × It)} {i : Nat} {p : Int} {fq : Option Addr} {fc : Nat} {T : List Tok}
set_option maxHeartbeats 4000000 in
set_option maxRecDepth 100000 in
theorem rn_expr_succ {n : Nat} (ih : CRx bn l i p fq fc T n) : CRx bn l i p fq fc T (n + 1) := by
 intro Dd Du w L env b e v mm c hs hm hb hR hw hn
 obtain ⟨mm, rfl⟩ : ∃ q, mm = q + 1 := by
  cases mm with
  | zero => exact hR.elim
  | succ q => exact ⟨q, rfl⟩
 obtain ⟨k, x, m, al, f, t, q, cq, rfl, rfl, hA⟩ := hR
 obtain ⟨k', x', m', al', f', t', he', hk⟩ := hw
 obtain ⟨rfl, rfl, rfl, rfl, rfl, rfl⟩ := exMk_inj he'
 clear he'
 -- what is told ahead of the parts
 obtain ⟨E0, hE0, hE1⟩ : ∃ E0, evX l p env (exMk k x m al f t) = E0 ++ al.flatMap (evX l p env) ∧ E0 = (if k = 2 then evLocal p env x f else if k = 4 then evCall l x f al.length else []) := by
  refine ⟨_, ?_, rfl⟩
  rw [evX_mk]
  rcases hk with ⟨h1, h2, h3, h4⟩ | ⟨h1, h2, h3, h4⟩ | ⟨h1, h2, h3⟩ | ⟨h1, h2, h3⟩
  ·rw [if_neg h1, if_neg h2, if_neg h3, if_neg h1, if_neg h3, h4]; rfl
  ·rw [if_pos h1, if_pos h1, h3]; exact (List.append_nil _).symm
  ·rw [if_neg (by omega), if_pos h1, if_neg (by omega), if_neg (by omega)]; rfl
  ·rw [if_neg (by omega), if_neg (by omega), if_pos h1, if_neg (by omega), if_pos h1]
 have hwa : ∀ (j : Nat) (a : Tr), al[j]? = some a → ∃ c', wfE T n c' a := by
  intro j a ha
  rcases hk with ⟨_, _, _, h4⟩ | ⟨_, _, h3, _⟩ | ⟨_, _, h3⟩ | ⟨_, _, c2, _, h4⟩
  ·rw [h4] at ha; simp at ha
  ·rw [h3] at ha; simp at ha
  ·exact wfL_get al c j a h3 ha
  ·exact wfL_get al c2 j a h4 ha
 have hxx : k = 2 ∨ k = 4 → x ≠ noB ∧ x.size ≤ 1000000 := by
  intro h
  rcases hk with ⟨h1, h2, h3, _⟩ | ⟨_, h2, _, _⟩ | ⟨h1, _, _⟩ | ⟨_, h2, _⟩
  ·rcases h with h | h
   ·exact absurd h h1
   ·exact absurd h h3
  ·exact ⟨tkn_no h2, by have := tkn_size h2; omega⟩
  ·omega
  ·exact ⟨tkn_no h2, by have := tkn_size h2; omega⟩
 rw [hE0, ← List.append_assoc] at hn ⊢
 have hL0 : (L ++ E0).length < 1099511627776 := by simp only [List.length_append] at hn ⊢; omega
 have hLL : L.length < 1099511627776 := by simp only [List.length_append] at hL0; omega
 have hb0 := (Below.refl w.heap.size w).alloc (Nat.le_refl _) (.cells #[.int .i64 (k : Int), .string x, .int .i64 (m : Int), .slice q al.length cq, .int .i64 (f : Int), .int .i64 (t : Int)] 100)
 obtain ⟨q0, q1, q2, q3, q4, q5, _⟩ := six_at (heap_alloc_new w (.cells #[.int .i64 (k : Int), .string x, .int .i64 (m : Int), .slice q al.length cq, .int .i64 (f : Int), .int .i64 (t : Int)] 100))
 have hst : Stq bn Dd Du Dd Du w (w.alloc (.cells #[.int .i64 (k : Int), .string x, .int .i64 (m : Int), .slice q al.length cq, .int .i64 (f : Int), .int .i64 (t : Int)] 100)) := Stq.below hb0
 have hs1 := hs.below hb0
 have hm1 := hm.kept (okQ.step hst hb).1
 have hfr := hid (hs.fresh (w' := w.alloc (.cells #[.int .i64 (k : Int), .string x, .int .i64 (m : Int), .slice q al.length cq, .int .i64 (f : Int), .int .i64 (t : Int)] 100)) (Nat.le_refl _) (by simp))
 obtain ⟨hlen, hits⟩ := hA
 have HBk := hid (fun j => Nat.lt_of_le_of_lt (nm_flat_less (f := evX l p env) al j (L ++ E0)) hn)
 have HMk := hid (fun j a (h : al[j]? = some a) => nm_flat_take (f := evX l p env) (L ++ E0) h)
 have HZ : Hid ((L ++ E0) ++ (al.take al.length).flatMap (evX l p env) = (L ++ E0) ++ al.flatMap (evX l p env)) := by show _ = _; rw [List.take_length]
 have H0 : Hid ((L ++ E0) ++ (al.take 0).flatMap (evX l p env) = L ++ E0) := by show _ = _; simp
 generalize hM : (fun j => (L ++ E0) ++ (al.take j).flatMap (evX l p env)) = M
 have hMk : ∀ j, (L ++ E0) ++ (al.take j).flatMap (evX l p env) = M j := fun j => by rw [← hM]
 simp only [hMk] at HBk HMk HZ H0
 rw [← HZ.out]
 have HWA := hid hwa
 have HHS := hid (And.intro hs (And.intro hm (And.intro hb hst)))
 clear hM hMk HZ hn hk hwa hE0 hb0
 -- the loop over the parts, from a world in which the first events are told
 have hround : ∀ (wr : World) (j : Nat) (a : Tr) (D1 U1 : Option Nat), al[j]? = some a → RS bn l i p fq fc wr (M j) D1 U1 → Stq bn Dd Du D1 U1 w wr → ∃ (g : Nat) (k1 : Nat) (x1 : ByteArray) (m1 : Nat) (al1 : List Tr) (f1 t1 : Nat) (p1 : Option Addr) (c1 : Nat), q = some ⟨g, 0, none⟩ ∧ wr.cell? ⟨g, j * 6, none⟩ = some (.int .i64 (k1 : Int)) ∧ wr.cell? ⟨g, j * 6 + 1, none⟩ = some (.string x1) ∧ wr.cell? ⟨g, j * 6 + 2, none⟩ = some (.int .i64 (m1 : Int)) ∧ wr.cell? ⟨g, j * 6 + 3, none⟩ = some (.slice p1 al1.length c1) ∧ wr.cell? ⟨g, j * 6 + 4, none⟩ = some (.int .i64 (f1 : Int)) ∧ wr.cell? ⟨g, j * 6 + 5, none⟩ = some (.int .i64 (t1 : Int)) ∧
   (Calls Tryz.prog 85 #[.pointer (some ⟨bn, 0, none⟩), .map (some b), .agg #[.int .i64 (k1 : Int), .string x1, .int .i64 (m1 : Int), .slice p1 al1.length c1, .int .i64 (f1 : Int), .int .i64 (t1 : Int)]] (wr.alloc (.cells #[.int .i64 (k1 : Int), .string x1, .int .i64 (m1 : Int), .slice p1 al1.length c1, .int .i64 (f1 : Int), .int .i64 (t1 : Int)] 100)) fun ex w' => ex = .returned (.tuple #[]) ∧ TQ bn l i p fq fc Dd Du (M (j + 1)) w w') := by
  intro wr j a D1 U1 ha hsr hstr
  obtain ⟨g, hq, hgo, hLA⟩ := hits (by have := (List.getElem?_eq_some_iff.1 ha).1; omega)
  have hlow := Stq.low hstr hs
  obtain ⟨v1, hcv, hR1⟩ := hLA j a ha
  have hcv := hcv.kept (hlow g hgo)
  have hR1 := RdE.kept mm hlow (fun _ h => h) _ _ hR1
  obtain ⟨k1, x1, m1, al1, f1, t1, p1, c1, rfl, rfl⟩ := RdE.form hR1
  have d0 := hcv.get 0 _ rfl
  rw [Nat.add_zero] at d0
  refine ⟨g, k1, x1, m1, al1, f1, t1, p1, c1, hq, d0, hcv.get 1 _ rfl, hcv.get 2 _ rfl, hcv.get 3 _ rfl, hcv.get 4 _ rfl, hcv.get 5 _ rfl, ?_⟩
  obtain ⟨c', hwf⟩ := HWA.out j _ ha
  have hba := (Below.refl wr.heap.size wr).alloc (Nat.le_refl _) (.cells #[.int .i64 (k1 : Int), .string x1, .int .i64 (m1 : Int), .slice p1 al1.length c1, .int .i64 (f1 : Int), .int .i64 (t1 : Int)] 100)
  have hsa : Stq bn D1 U1 D1 U1 wr _ := Stq.below hba
  have hokr := (okQ.step hstr hb)
  have hok2 := (okQ.step hsa hokr.2)
  have hnx := HMk.out j _ ha
  refine (ih D1 U1 _ (M j) env b _ _ mm c' (hsr.below hba) ((hm.kept hokr.1).kept hok2.1) hok2.2 (RdE.kept mm (fun k hk => hba.block k (Nat.lt_trans hk hsr.lt.1)) (fun _ h => h) _ _ hR1) hwf (by rw [← hnx]; exact HBk.out (j + 1))).mono ?_
  rintro ex w' ⟨rfl, D2, U2, r1, r2⟩
  exact ⟨rfl, D2, U2, by rw [hnx]; exact r1, hstr.trans (hsa.trans r2)⟩
 have HRd := hid hround
 clear hround hits
 by_cases h2 : k = 2
 ·rw [if_pos h2] at hE1
  have g2 : ((k : Int) == 2) = true := by rw [h2]; rfl
  have g4 : ((k : Int) == 4) = false := by simp; omega
  have hl := hid (rn_local hs1 hLL hm1 x f (hxx (.inl h2)).2 (hxx (.inl h2)).1)
  rw [← hE1] at hl
  clear h2 hxx hE1
  go_enter Tryz.func85, Tryz.ntmps85
  go_wp2_with (first
   | (go_at_call 86; refine Calls.mono hl.out ?_; rintro e w2 ⟨rfl, D2, U2, hs2, hst2⟩; have z0 := (World.cell?_of_block (a := ⟨w.heap.size, 0, none⟩) (okQ.step hst2 hfr.out).1).trans q0; have z3 := (World.cell?_of_block (a := ⟨w.heap.size, 3, none⟩) (okQ.step hst2 hfr.out).1).trans q3))
  have HST : Hid (TQ bn l i p fq fc Dd Du (M 0) w w2) := ⟨D2, U2, by rw [H0.out]; exact hs2, HHS.out.2.2.2.trans hst2⟩
  go_loopw [55] (fun j wr => RelRx bn l i p fq fc Dd Du w M al.length j wr) (fun j _ => upN al.length j)
  case atStart => exact ⟨0, Nat.zero_le _, rfl, HST.out⟩
  case round =>
   obtain ⟨j, hjl, rfl, D1, U1, hsr, hstr⟩ := hrel
   by_cases hlt : j < al.length
   ·obtain ⟨a, ha⟩ : ∃ a, al[j]? = some a := ⟨_, List.getElem?_eq_getElem hlt⟩
    obtain ⟨g, k1, x1, m1, al1, f1, t1, p1, c1, hq, d0, d1, d2, d3, d4, d5, hcall⟩ := HRd.out wr j a D1 U1 ha hsr hstr
    subst hq
    have gj : (0 : Int) ≤ (j : Int) := by omega
    have gj1 : (j : Int) < (al.length : Int) := by omega
    have hjb : j < 1099511627776 := by omega
    have HC := hid hcall
    have HL := hid hlt
    clear hcall ha hlt hjl
    go_wp2_with (first
     | (go_at_call 85; refine Calls.mono HC.out ?_; rintro e w9 ⟨rfl, hT9⟩))
    go_roundw
    case rel => exact ⟨j + 1, HL.out, by go_num, hT9⟩
    case measure => have := HL.out; simp [upN, intOf]; omega
   ·obtain rfl : j = al.length := by omega
    clear hlt hjl
    go_wp2
    go_end0
    exact ⟨rfl, D1, U1, hsr, hstr⟩
 ·rw [if_neg h2] at hE1
  have g2 : ((k : Int) == 2) = false := by simp; omega
  by_cases h4 : k = 4
  ·rw [if_pos h4] at hE1
   have g4 : ((k : Int) == 4) = true := by rw [h4]; rfl
   have hxn := (hxx (.inr h4)).1
   have hg := hid (rn_global hs1 hLL 2 x f)
   clear h2 h4 hxx
   have hbad := fun (w2 : World) (D2 U2 : Option Nat) (h : RS bn l i p fq fc w2 (L ++ evItem l 2 x f) D2 U2) (hl : (L ++ evItem l 2 x f).length < 1099511627776) => rn_bad h hl 5 x f
   have HBad := hid hbad
   have heg : evG l 2 x f = evItem l 2 x f := by unfold evG; rw [if_neg hxn]
   rw [heg] at hg
   clear hbad heg hxn
   rcases fnd_cases l 2 x with hf | ⟨kk, hf, hkl⟩
   ·have hit := hit_none (kd := 2) hf
    have hE2 : E0 = evItem l 2 x f := by rw [hE1]; unfold evCall; rw [hit]; exact List.append_nil _
    have HE2 := hid hE2
    have hf' : fnd l (2 : Nat) x = -1 := hf
    rw [hf'] at hg
    clear hf hf' hit hE1 hE2
    go_enter Tryz.func85, Tryz.ntmps85
    go_wp2_with (first
     | (go_at_call 57; refine Calls.mono hg.out ?_; rintro e w2 ⟨rfl, D2, U2, hs2, hst2⟩; have z1 := (World.cell?_of_block (a := ⟨w.heap.size, 1, none⟩) (okQ.step hst2 hfr.out).1).trans q1; have z3 := (World.cell?_of_block (a := ⟨w.heap.size, 3, none⟩) (okQ.step hst2 hfr.out).1).trans q3; have z4 := (World.cell?_of_block (a := ⟨w.heap.size, 4, none⟩) (okQ.step hst2 hfr.out).1).trans q4))
    go_quiet (fail)
    have hbq := below_drewN (Below.refl w2.heap.size w2) nq
    have HST : Hid (TQ bn l i p fq fc Dd Du (M 0) w (w2.drewN nq)) := ⟨D2, U2, by rw [H0.out, HE2.out]; exact hs2.below hbq, (HHS.out.2.2.2.trans hst2).trans (Stq.below hbq)⟩
    have y3 := cellB hbq z3
    clear hbq
    go_wp2
    go_loopw [55] (fun j wr => RelRx bn l i p fq fc Dd Du w M al.length j wr) (fun j _ => upN al.length j)
    case atStart => exact ⟨0, Nat.zero_le _, rfl, HST.out⟩
    case round =>
     obtain ⟨j, hjl, rfl, D1, U1, hsr, hstr⟩ := hrel
     by_cases hlt : j < al.length
     ·obtain ⟨a, ha⟩ : ∃ a, al[j]? = some a := ⟨_, List.getElem?_eq_getElem hlt⟩
      obtain ⟨g, k1, x1, m1, al1, f1, t1, p1, c1, hq, d0, d1, d2, d3, d4, d5, hcall⟩ := HRd.out wr j a D1 U1 ha hsr hstr
      subst hq
      have gj : (0 : Int) ≤ (j : Int) := by omega
      have gj1 : (j : Int) < (al.length : Int) := by omega
      have hjb : j < 1099511627776 := by omega
      have HC := hid hcall
      have HL := hid hlt
      clear hcall ha hlt hjl
      go_wp2_with (first
       | (go_at_call 85; refine Calls.mono HC.out ?_; rintro e w9 ⟨rfl, hT9⟩))
      go_roundw
      case rel => exact ⟨j + 1, HL.out, by go_num, hT9⟩
      case measure => have := HL.out; simp [upN, intOf]; omega
     ·obtain rfl : j = al.length := by omega
      clear hlt hjl
      go_wp2
      go_end0
      exact ⟨rfl, D1, U1, hsr, hstr⟩
   ·have hit := hit_some (kd := 2) hf (List.getElem?_eq_getElem hkl)
    have hk0 : l[kk]? = some l[kk] := List.getElem?_eq_getElem hkl
    generalize l[kk] = it at *
    have hf' : fnd l (2 : Nat) x = (kk : Int) := hf
    rw [hf'] at hg
    have gk : (0 : Int) ≤ (kk : Int) := by omega
    have gk0 : (kk : Int) ≥ 0 := by omega
    have gk1 : (kk : Int) < (l.length : Int) := by omega
    have HK0 := hid hk0
    have hll : l.length ≤ 1099511627776 := by obtain ⟨_, _, _, _, _, _, h, _⟩ := RS.cells hs; exact h
    have hkb : kk < 1099511627776 := by omega
    clear hf hf' hk0
    by_cases hps : it.2.ps.length = al.length
    ·have hE2 : E0 = evItem l 2 x f := by rw [hE1]; unfold evCall; rw [hit]; simp only; rw [if_pos hps]; exact List.append_nil _
     have HE2 := hid hE2
     have gp : ((it.2.ps.length : Int) != (al.length : Int)) = false := by rw [hps]; simp
     clear hit hE1 hE2 hps
     go_enter Tryz.func85, Tryz.ntmps85
     go_wp2_with (first
      | (go_at_call 57; refine Calls.mono hg.out ?_; rintro e w2 ⟨rfl, D2, U2, hs2, hst2⟩; have z1 := (World.cell?_of_block (a := ⟨w.heap.size, 1, none⟩) (okQ.step hst2 hfr.out).1).trans q1; have z3 := (World.cell?_of_block (a := ⟨w.heap.size, 3, none⟩) (okQ.step hst2 hfr.out).1).trans q3; have z4 := (World.cell?_of_block (a := ⟨w.heap.size, 4, none⟩) (okQ.step hst2 hfr.out).1).trans q4))
     obtain ⟨g0, hfq, c0, _, _, _, _, hRF⟩ := RS.cells hs2
     subst hfq
     obtain ⟨_, _, _, qp, dp, j3⟩ := RdF.cells3 hRF HK0.out
     clear hRF
     go_quiet (fail)
     have hbq := below_drewN (Below.refl w2.heap.size w2) nq
     have HST : Hid (TQ bn l i p (some ⟨g0, 0, none⟩) fc Dd Du (M 0) w (w2.drewN nq)) := ⟨D2, U2, by rw [H0.out, HE2.out]; exact hs2.below hbq, (HHS.out.2.2.2.trans hst2).trans (Stq.below hbq)⟩
     have y3 := cellB hbq z3
     clear hbq
     go_wp2
     go_loopw [55] (fun j wr => RelRx bn l i p (some ⟨g0, 0, none⟩) fc Dd Du w M al.length j wr) (fun j _ => upN al.length j)
     case atStart => exact ⟨0, Nat.zero_le _, rfl, HST.out⟩
     case round =>
      obtain ⟨j, hjl, rfl, D1, U1, hsr, hstr⟩ := hrel
      by_cases hlt : j < al.length
      ·obtain ⟨a, ha⟩ : ∃ a, al[j]? = some a := ⟨_, List.getElem?_eq_getElem hlt⟩
       obtain ⟨g, k1, x1, m1, al1, f1, t1, p1, c1, hq, d0, d1, d2, d3, d4, d5, hcall⟩ := HRd.out wr j a D1 U1 ha hsr hstr
       subst hq
       have gj : (0 : Int) ≤ (j : Int) := by omega
       have gj1 : (j : Int) < (al.length : Int) := by omega
       have hjb : j < 1099511627776 := by omega
       have HC := hid hcall
       have HL := hid hlt
       clear hcall ha hlt hjl
       go_wp2_with (first
        | (go_at_call 85; refine Calls.mono HC.out ?_; rintro e w9 ⟨rfl, hT9⟩))
       go_roundw
       case rel => exact ⟨j + 1, HL.out, by go_num, hT9⟩
       case measure => have := HL.out; simp [upN, intOf]; omega
      ·obtain rfl : j = al.length := by omega
       clear hlt hjl
       go_wp2
       go_end0
       exact ⟨rfl, D1, U1, hsr, hstr⟩
    ·have hE2 : E0 = evItem l 2 x f ++ [evNo 5 x f] := by rw [hE1]; unfold evCall; rw [hit]; simp only; rw [if_neg hps]
     have HE2 := hid hE2
     have gp : ((it.2.ps.length : Int) != (al.length : Int)) = true := by simp; omega
     have HL5 := hid (show (L ++ evItem l 2 x f).length < 1099511627776 by rw [hE2] at hL0; simp only [List.length_append] at hL0 ⊢; omega)
     clear hit hE1 hE2 hps
     go_enter Tryz.func85, Tryz.ntmps85
     go_wp2_with (first
      | (go_at_call 57; refine Calls.mono hg.out ?_; rintro e w2 ⟨rfl, D2, U2, hs2, hst2⟩; have z1 := (World.cell?_of_block (a := ⟨w.heap.size, 1, none⟩) (okQ.step hst2 hfr.out).1).trans q1; have z3 := (World.cell?_of_block (a := ⟨w.heap.size, 3, none⟩) (okQ.step hst2 hfr.out).1).trans q3; have z4 := (World.cell?_of_block (a := ⟨w.heap.size, 4, none⟩) (okQ.step hst2 hfr.out).1).trans q4))
     obtain ⟨g0, hfq, c0, _, _, _, _, hRF⟩ := RS.cells hs2
     subst hfq
     obtain ⟨_, _, _, qp, dp, j3⟩ := RdF.cells3 hRF HK0.out
     clear hRF
     go_quiet (fail)
     have hbq := below_drewN (Below.refl w2.heap.size w2) nq
     have HB5 := hid (HBad.out _ D2 U2 (hs2.below hbq) HL5.out)
     have y1 := cellB hbq z1
     have y3 := cellB hbq z3
     have y4 := cellB hbq z4
     have hst3 := hst2.trans (Stq.below hbq)
     clear hbq
     go_wp2_with (first
      | (go_at_call 55; refine Calls.mono HB5.out ?_; rintro e w4 ⟨rfl, D4, U4, hs4, hst4⟩; have u3 := (World.cell?_of_block (a := ⟨w.heap.size, 3, none⟩) (okQ.step (hst3.trans hst4) hfr.out).1).trans q3))
     have HST : Hid (TQ bn l i p (some ⟨g0, 0, none⟩) fc Dd Du (M 0) w w4) := ⟨D4, U4, by rw [H0.out, HE2.out, ← List.append_assoc]; exact hs4, (HHS.out.2.2.2.trans hst3).trans hst4⟩
     go_loopw [55] (fun j wr => RelRx bn l i p (some ⟨g0, 0, none⟩) fc Dd Du w M al.length j wr) (fun j _ => upN al.length j)
     case atStart => exact ⟨0, Nat.zero_le _, rfl, HST.out⟩
     case round =>
      obtain ⟨j, hjl, rfl, D1, U1, hsr, hstr⟩ := hrel
      by_cases hlt : j < al.length
      ·obtain ⟨a, ha⟩ : ∃ a, al[j]? = some a := ⟨_, List.getElem?_eq_getElem hlt⟩
       obtain ⟨g, k1, x1, m1, al1, f1, t1, p1, c1, hq, d0, d1, d2, d3, d4, d5, hcall⟩ := HRd.out wr j a D1 U1 ha hsr hstr
       subst hq
       have gj : (0 : Int) ≤ (j : Int) := by omega
       have gj1 : (j : Int) < (al.length : Int) := by omega
       have hjb : j < 1099511627776 := by omega
       have HC := hid hcall
       have HL := hid hlt
       clear hcall ha hlt hjl
       go_wp2_with (first
        | (go_at_call 85; refine Calls.mono HC.out ?_; rintro e w9 ⟨rfl, hT9⟩))
       go_roundw
       case rel => exact ⟨j + 1, HL.out, by go_num, hT9⟩
       case measure => have := HL.out; simp [upN, intOf]; omega
      ·obtain rfl : j = al.length := by omega
       clear hlt hjl
       go_wp2
       go_end0
       exact ⟨rfl, D1, U1, hsr, hstr⟩
  ·rw [if_neg h4] at hE1
   have g4 : ((k : Int) == 4) = false := by simp; omega
   have HST : Hid (TQ bn l i p fq fc Dd Du (M 0) w (w.alloc (.cells #[.int .i64 (k : Int), .string x, .int .i64 (m : Int), .slice q al.length cq, .int .i64 (f : Int), .int .i64 (t : Int)] 100))) := ⟨Dd, Du, by rw [H0.out, hE1, List.append_nil]; exact hs1, HHS.out.2.2.2⟩
   clear h2 h4 hxx hE1
   go_enter Tryz.func85, Tryz.ntmps85
   go_wp2
   go_loopw [55] (fun j wr => RelRx bn l i p fq fc Dd Du w M al.length j wr) (fun j _ => upN al.length j)
   case atStart => exact ⟨0, Nat.zero_le _, rfl, HST.out⟩
   case round =>
    obtain ⟨j, hjl, rfl, D1, U1, hsr, hstr⟩ := hrel
    by_cases hlt : j < al.length
    ·obtain ⟨a, ha⟩ : ∃ a, al[j]? = some a := ⟨_, List.getElem?_eq_getElem hlt⟩
     obtain ⟨g, k1, x1, m1, al1, f1, t1, p1, c1, hq, d0, d1, d2, d3, d4, d5, hcall⟩ := HRd.out wr j a D1 U1 ha hsr hstr
     subst hq
     have gj : (0 : Int) ≤ (j : Int) := by omega
     have gj1 : (j : Int) < (al.length : Int) := by omega
     have hjb : j < 1099511627776 := by omega
     have HC := hid hcall
     have HL := hid hlt
     clear hcall ha hlt hjl
     go_wp2_with (first
      | (go_at_call 85; refine Calls.mono HC.out ?_; rintro e w9 ⟨rfl, hT9⟩))
     go_roundw
     case rel => exact ⟨j + 1, HL.out, by go_num, hT9⟩
     case measure => have := HL.out; simp [upN, intOf]; omega
    ·obtain rfl : j = al.length := by omega
     clear hlt hjl
     go_wp2
     go_end0
     exact ⟨rfl, D1, U1, hsr, hstr⟩
theorem rn_expr (n : Nat) : CRx bn l i p fq fc T n := by
 induction n with
 | zero => intro _ _ _ _ _ _ _ _ _ _ _ _ _ _ h; exact h.elim
 | succ n ih => exact rn_expr_succ ih
end
end Go.Proofs.YtdkpfnohdknldaaGreatDoor
namespace Go.Proofs.YtdkpfnohdknldaaGreatDoor
open Go.RowKit Go.WideMaps Go.Maps
set_option linter.unusedVariables false
attribute [local go_sem ↓] Go.wp_at_zero Go.wp_at_succ
theorem sc_len {T : List Tok} {n c : Nat} {s : Tr} (h : wfS T n c s) (env : Env) : (scS env s).length ≤ env.length + c := by
 cases n with
 | zero => exact h.elim
 | succ n =>
  obtain ⟨k, x, a, lb, o, e, th, el, f, t, ce, ct, cl, rfl, _, _, _, hnm, _⟩ := h
  rw [scS_mk]
  split
  ·unfold scMk
   split
   ·omega
   ·rename_i hx
    rcases hnm with h | h
    ·exact absurd h.1 hx
    ·rw [List.length_cons]; omega
  ·omega
theorem wfL_at {T : List Tok} {n : Nat} : ∀ (al : List Tr) (c k : Nat) (a : Tr) (env : Env), wfL (wfS T n) c al → al[k]? = some a → ∃ c', wfS T n c' a ∧ (scB env (al.take k)).length + c' ≤ env.length + c := by
 intro al
 induction al with
 | nil => intro c k a env _ h; simp at h
 | cons b r ih =>
  rintro c k a env ⟨c1, c2, h1, h2, h3⟩ h
  cases k with
  | zero => simp at h; subst h; exact ⟨c1, h2, by rw [List.take_zero]; show env.length + c1 ≤ _; omega⟩
  | succ k =>
   simp at h
   obtain ⟨c', g1, g2⟩ := ih c2 k a (scS env b) h3 h
   refine ⟨c', g1, ?_⟩
   have := sc_len h2 env
   rw [List.take_succ_cons]
   show (scB (scS env b) (r.take k)).length + c' ≤ _
   omega
def CRb (bn : Nat) (l : List (Int × It)) (i : Nat) (p : Int) (fq : Option Addr) (fc : Nat) (T : List Tok) (n : Nat) : Prop := ∀ (Dd Du : Option Nat) (w : World) (L : List Ev) (env : Env) (b : Nat) (al : List Tr) (q : Option Addr) (cq m c : Nat), RS bn l i p fq fc w L Dd Du → MpAt w b p env → okQ bn Dd Du w b → SlT (fun k => k < bn) (RdS m (fun k => k < bn) w) w 15 al q → wfL (wfS T n) c al → env.length + c < 1099511627776 → (L ++ evB l p env al).length < 1099511627776 →
 Calls Tryz.prog 58 #[.pointer (some ⟨bn, 0, none⟩), .map (some b), .slice q al.length cq] w fun ex w' => ex = .returned (.tuple #[]) ∧ TQ bn l i p fq fc Dd Du (L ++ evB l p env al) w w'
def RelRb (bn : Nat) (l : List (Int × It)) (i : Nat) (p : Int) (fq : Option Addr) (fc : Nat) (Dd Du : Option Nat) (w : World) (M : Nat → List Ev) (E : Nat → Env) (n : Nat) (ev j : Value) (wr : World) : Prop := ∃ (k b : Nat), k ≤ n ∧ j = .int .i64 (k : Int) ∧ ev = .map (some b) ∧ MkQ bn l i p fq fc Dd Du (M k) (E k) b w wr
section
variable {bn : Nat} {l : List (Int × It)} {i : Nat} {p : Int} {fq : Option Addr} {fc : Nat} {T : List Tok}
set_option maxHeartbeats 8000000 in
set_option maxRecDepth 100000 in
theorem rn_block_of {n : Nat} (ih : ∀ n', n = n' + 1 → CRb bn l i p fq fc T n') : CRb bn l i p fq fc T n := by
 intro Dd Du w L env b al q cq mm cc hs hm hb hR hw he hn
 obtain ⟨hlen, hits⟩ := hR
 have HB := hid (fun k => Nat.lt_of_le_of_lt (nm_blk_less l p env al k L) hn)
 have HM := hid (fun k a (h : al[k]? = some a) => nm_blk_take l p env L h)
 have HW := hid (fun k a (h : al[k]? = some a) => wfL_at al cc k a env hw h)
 have HZ : Hid (L ++ evB l p env (al.take al.length) = L ++ evB l p env al) := by show _ = _; rw [List.take_length]
 have H0 : Hid (L ++ evB l p env (al.take 0) = L ∧ scB env (al.take 0) = env) := by show _ ∧ _; rw [List.take_zero, evB_nil, List.append_nil]; exact ⟨rfl, rfl⟩
 clear hn hw
 generalize hM : (fun k => L ++ evB l p env (al.take k)) = M
 generalize hE1 : (fun k => scB env (al.take k)) = E
 have hMk : ∀ k, L ++ evB l p env (al.take k) = M k := fun k => by rw [← hM]
 have hEk : ∀ k, scB env (al.take k) = E k := fun k => by rw [← hE1]
 simp only [hMk, hEk] at HB HM HZ H0 HW
 rw [← HZ.out]
 have h00 := H0.out.1
 have h01 := H0.out.2
 have HS0 := hid (show MkQ bn l i p fq fc Dd Du (M 0) (E 0) b w w from ⟨Dd, Du, by rw [h00]; exact hs, Stq.refl _ _ _ _, by rw [h01]; exact hm, hb⟩)
 clear hM hMk HZ H0 h00 h01 hE1 hEk
 go_enter Tryz.func58, Tryz.ntmps58
 go_wp2
 go_loopw [1, 10] (fun ev j wr => RelRb bn l i p fq fc Dd Du w M E al.length ev j wr) (fun _ j _ => upN al.length j)
 case atStart => exact ⟨0, b, Nat.zero_le _, rfl, rfl, HS0.out⟩
 case round =>
  obtain ⟨j, b1, hjl, rfl, rfl, D1, U1, hsr, hstr, hmr, hokr⟩ := hrel
  by_cases hlt : j < al.length
  ·obtain ⟨g, rfl, hgo, hLA⟩ := hits (by omega)
   obtain ⟨s1, hs1⟩ : ∃ s1, al[j]? = some s1 := ⟨_, List.getElem?_eq_getElem hlt⟩
   have hlow := Stq.low hstr hs
   obtain ⟨v1, hcv, hR1⟩ := hLA j s1 hs1
   have hcv := hcv.kept (hlow g hgo)
   have hR1 := RdS.kept mm hlow (fun _ h => h) _ _ hR1
   obtain ⟨c0, hwf, hcl⟩ := HW.out j s1 hs1
   have hnx := (HM.out j _ hs1).1
   have hne := (HM.out j _ hs1).2
   have hBj := HB.out (j + 1)
   obtain ⟨mm', rfl⟩ : ∃ q, mm = q + 1 := by
    cases mm with
    | zero => exact hR1.elim
    | succ q => exact ⟨q, rfl⟩
   obtain ⟨n', rfl⟩ : ∃ q, n = q + 1 := by
    cases n with
    | zero => exact hwf.elim
    | succ q => exact ⟨q, rfl⟩
   obtain ⟨k, x, a, lb, op, e, th, el, f, t, d0, d1, d2, d3, d4, d5, p1, c1, p2, c2, rfl, rfl, ⟨me, hE⟩, hT, hX⟩ := hR1
   obtain ⟨ek, ex, en, eal, ef, et, ep, ec, rfl, hv⟩ := RdE.form hE
   injection hv with hv
   have hv : [d0, d1, d2, d3, d4, d5] = [.int .i64 (ek : Int), .string ex, .int .i64 (en : Int), .slice ep eal.length ec, .int .i64 (ef : Int), .int .i64 (et : Int)] := by simpa using congrArg Array.toList hv
   simp only [List.cons.injEq, and_true] at hv
   obtain ⟨rfl, rfl, rfl, rfl, rfl, rfl⟩ := hv
   obtain ⟨k', x', a', lb', o', e', th', el', f', t', ce, ct, cl, he', ⟨ne, hwe⟩, hwt, hwl, hnm, hk2, hkx, hkt, hkl, _, _⟩ := hwf
   obtain ⟨rfl, rfl, rfl, rfl, rfl, rfl, rfl, rfl, rfl, rfl⟩ := stMk_inj he'
   clear he'
   rw [evY_mk] at hnx
   rw [scS_mk] at hne
   have hxs : x.size ≤ 1000000 := by
    rcases hnm with h | h
    ·rw [h.1]; decide
    ·have := tkn_size h.1; omega
   have hcc : (E j).length + ct < 1099511627776 ∧ (E j).length + cl < 1099511627776 ∧ (E j).length < 1099511627776 := by rcases hnm with h | h <;> omega
   have hib := ih n' rfl
   have e0 := hcv.get 0 _ rfl
   have e1 := hcv.get 1 _ rfl
   have e2 := hcv.get 2 _ rfl
   have e3 := hcv.get 3 _ rfl
   have e4 := hcv.get 4 _ rfl
   have e5 := hcv.get 5 _ rfl
   have e6 := hcv.get 6 _ rfl
   have e7 := hcv.get 7 _ rfl
   have e8 := hcv.get 8 _ rfl
   have e9 := hcv.get 9 _ rfl
   have e10 := hcv.get 10 _ rfl
   have e11 := hcv.get 11 _ rfl
   have e12 := hcv.get 12 _ rfl
   have e13 := hcv.get 13 _ rfl
   have e14 := hcv.get 14 _ rfl
   rw [Nat.add_zero] at e0
   have gj : (0 : Int) ≤ (j : Int) := by omega
   have gj1 : (j : Int) < (al.length : Int) := by omega
   have hjb : j < 1099511627776 := by omega
   have hba := (Below.refl wr.heap.size wr).alloc (Nat.le_refl _) (.cells #[.int .i64 (k : Int), .string x, .int .i64 (a : Int), .int .i64 (lb : Int), .bool op, .int .i64 (ek : Int), .string ex, .int .i64 (en : Int), .slice ep eal.length ec, .int .i64 (ef : Int), .int .i64 (et : Int), .slice p1 th.length c1, .slice p2 el.length c2, .int .i64 (f : Int), .int .i64 (t : Int)] 111)
   obtain ⟨q0, q1, q2, _, _, _, _, _, _, _, _, q11, q12, _, _, _⟩ := fif_at (heap_alloc_new wr (.cells #[.int .i64 (k : Int), .string x, .int .i64 (a : Int), .int .i64 (lb : Int), .bool op, .int .i64 (ek : Int), .string ex, .int .i64 (en : Int), .slice ep eal.length ec, .int .i64 (ef : Int), .int .i64 (et : Int), .slice p1 th.length c1, .slice p2 el.length c2, .int .i64 (f : Int), .int .i64 (t : Int)] 111))
   have hsa : Stq bn D1 U1 D1 U1 wr (wr.alloc (.cells #[.int .i64 (k : Int), .string x, .int .i64 (a : Int), .int .i64 (lb : Int), .bool op, .int .i64 (ek : Int), .string ex, .int .i64 (en : Int), .slice ep eal.length ec, .int .i64 (ef : Int), .int .i64 (et : Int), .slice p1 th.length c1, .slice p2 el.length c2, .int .i64 (f : Int), .int .i64 (t : Int)] 111)) := Stq.below hba
   have hfr := hid (hsr.fresh (w' := wr.alloc (.cells #[.int .i64 (k : Int), .string x, .int .i64 (a : Int), .int .i64 (lb : Int), .bool op, .int .i64 (ek : Int), .string ex, .int .i64 (en : Int), .slice ep eal.length ec, .int .i64 (ef : Int), .int .i64 (et : Int), .slice p1 th.length c1, .slice p2 el.length c2, .int .i64 (f : Int), .int .i64 (t : Int)] 111)) (Nat.le_refl _) (by simp))
   have hok1 := okQ.step hsa hokr
   have hlo1 : ∀ z, z < bn → (wr.alloc (.cells #[.int .i64 (k : Int), .string x, .int .i64 (a : Int), .int .i64 (lb : Int), .bool op, .int .i64 (ek : Int), .string ex, .int .i64 (en : Int), .slice ep eal.length ec, .int .i64 (ef : Int), .int .i64 (et : Int), .slice p1 th.length c1, .slice p2 el.length c2, .int .i64 (f : Int), .int .i64 (t : Int)] 111)).heap[z]? = wr.heap[z]? := fun z hk => hba.block z (Nat.lt_trans hk hsr.lt.1)
   have hs1' := hsr.below hba
   have HE := hid (rn_expr ne D1 U1 _ (M j) (E j) b1 _ _ me ce hs1' (hmr.kept hok1.1) hok1.2 (RdE.kept me hlo1 (fun _ h => h) _ _ hE) hwe (by rw [hnx] at hBj; simp only [List.length_append] at hBj ⊢; omega))
   have HT1 := hid (And.intro (hT.kept hlo1 (fun _ h => h) (RdS.kept mm' hlo1 (fun _ h => h))) (hX.kept hlo1 (fun _ h => h) (RdS.kept mm' hlo1 (fun _ h => h))))
   have HMP := hid (And.intro (hmr.kept hok1.1) hok1.2)
   have HST := hid (hstr.trans hsa)
   have HL := hid hlt
   have HS1 := hid hs1'
   have HNX := hid hnx
   have HNE := hid hne
   have hBB := hBj
   rw [hnx] at hBB
   generalize hEv : evX l p (E j) (exMk ek ex en eal ef et) = Ev0 at *
   clear hits hLA hcv hs1 hlt hjl hba hsa hok1 hlo1 hE hT hX hEv hs1' hstr hsr hmr hokr hnx hne hlow hcl
   by_cases h1 : k = 1
   ·rw [if_pos h1] at HNX HNE hBB
    have g1 : ((k : Int) == 1) = true := by rw [h1]; rfl
    clear h1
    go_wp2_with (first
     | (go_at_call 85; refine Calls.mono HE.out ?_; rintro e w2 ⟨rfl, D2, U2, hs2, hst2q⟩; have hst2 := HST.out.trans hst2q; have hok2 := okQ.step hst2q HMP.out.2; have hm2 := HMP.out.1.kept hok2.1; have hf2 := okQ.step hst2q hfr.out; have z0 := (World.cell?_of_block (a := ⟨wr.heap.size, 0, none⟩) hf2.1).trans q0; have z1 := (World.cell?_of_block (a := ⟨wr.heap.size, 1, none⟩) hf2.1).trans q1; have z2 := (World.cell?_of_block (a := ⟨wr.heap.size, 2, none⟩) hf2.1).trans q2; have z11 := (World.cell?_of_block (a := ⟨wr.heap.size, 11, none⟩) hf2.1).trans q11; have z12 := (World.cell?_of_block (a := ⟨wr.heap.size, 12, none⟩) hf2.1).trans q12; have hlo2 := Stq.low hst2q HS1.out; have HC := hid (rn_with hs2 (by simp only [List.length_append] at hBB ⊢; omega) hm2 hok2.2 hcc.2.2 x a hxs))
     | (go_at_call 56; refine Calls.mono HC.out ?_; rintro e w3 ⟨b3, rfl, D3, U3, hs3, hst3, hm3, hok3⟩))
    go_roundw
    case rel => exact ⟨j + 1, b3, HL.out, by go_num, rfl, D3, U3, by rw [HNX.out, ← List.append_assoc]; exact hs3, hst2.trans hst3, by rw [HNE.out]; exact hm3, hok3⟩
    case measure => have := HL.out; simp [upN, intOf]; omega
   ·rw [if_neg h1] at HNX HNE hBB
    have g1 : ((k : Int) == 1) = false := by simp; omega
    by_cases h2 : k = 2
    ·rw [if_pos h2] at HNX hBB
     have g2 : ((k : Int) == 2) = true := by rw [h2]; rfl
     have hxn := hk2 h2
     clear h1 h2
     go_wp2_with (first
      | (go_at_call 85; refine Calls.mono HE.out ?_; rintro e w2 ⟨rfl, D2, U2, hs2, hst2q⟩; have hst2 := HST.out.trans hst2q; have hok2 := okQ.step hst2q HMP.out.2; have hm2 := HMP.out.1.kept hok2.1; have hf2 := okQ.step hst2q hfr.out; have z0 := (World.cell?_of_block (a := ⟨wr.heap.size, 0, none⟩) hf2.1).trans q0; have z1 := (World.cell?_of_block (a := ⟨wr.heap.size, 1, none⟩) hf2.1).trans q1; have z2 := (World.cell?_of_block (a := ⟨wr.heap.size, 2, none⟩) hf2.1).trans q2; have z11 := (World.cell?_of_block (a := ⟨wr.heap.size, 11, none⟩) hf2.1).trans q11; have z12 := (World.cell?_of_block (a := ⟨wr.heap.size, 12, none⟩) hf2.1).trans q12; have hlo2 := Stq.low hst2q HS1.out; have HC := hid (rn_local hs2 (by simp only [List.length_append] at hBB ⊢; omega) hm2 x a hxs hxn))
      | (go_at_call 86; refine Calls.mono HC.out ?_; rintro e w3 ⟨rfl, D3, U3, hs3, hst3⟩))
     go_roundw
     case rel => exact ⟨j + 1, b1, HL.out, by go_num, rfl, D3, U3, by rw [HNX.out, ← List.append_assoc]; exact hs3, hst2.trans hst3, by rw [HNE.out]; exact hm2.kept (okQ.step hst3 hok2.2).1, (okQ.step hst3 hok2.2).2⟩
     case measure => have := HL.out; simp [upN, intOf]; omega
    ·rw [if_neg h2] at HNX hBB
     have g2 : ((k : Int) == 2) = false := by simp; omega
     by_cases h5 : k = 5
     ·rw [if_pos h5] at HNX hBB
      have g5 : ((k : Int) == 5) = true := by rw [h5]; rfl
      clear h1 h2 h5
      go_wp2_with (first
       | (go_at_call 85; refine Calls.mono HE.out ?_; rintro e w2 ⟨rfl, D2, U2, hs2, hst2q⟩; have hst2 := HST.out.trans hst2q; have hok2 := okQ.step hst2q HMP.out.2; have hm2 := HMP.out.1.kept hok2.1; have hf2 := okQ.step hst2q hfr.out; have z0 := (World.cell?_of_block (a := ⟨wr.heap.size, 0, none⟩) hf2.1).trans q0; have z1 := (World.cell?_of_block (a := ⟨wr.heap.size, 1, none⟩) hf2.1).trans q1; have z2 := (World.cell?_of_block (a := ⟨wr.heap.size, 2, none⟩) hf2.1).trans q2; have z11 := (World.cell?_of_block (a := ⟨wr.heap.size, 11, none⟩) hf2.1).trans q11; have z12 := (World.cell?_of_block (a := ⟨wr.heap.size, 12, none⟩) hf2.1).trans q12; have hlo2 := Stq.low hst2q HS1.out; have HC := hid (rn_global hs2 (by simp only [List.length_append] at hBB ⊢; omega) 1 x a); rw [evG_chan] at HC)
       | (go_at_call 57; refine Calls.mono HC.out ?_; rintro e w3 ⟨rfl, D3, U3, hs3, hst3⟩))
      go_roundw
      case rel => exact ⟨j + 1, b1, HL.out, by go_num, rfl, D3, U3, by rw [HNX.out, ← List.append_assoc]; exact hs3, hst2.trans hst3, by rw [HNE.out]; exact hm2.kept (okQ.step hst3 hok2.2).1, (okQ.step hst3 hok2.2).2⟩
      case measure => have := HL.out; simp [upN, intOf]; omega
     ·rw [if_neg h5] at HNX hBB
      have g5 : ((k : Int) == 5) = false := by simp; omega
      by_cases h3 : k = 3
      ·rw [if_pos h3] at HNX hBB
       have g3 : ((k : Int) == 3) = true := by rw [h3]; rfl
       clear h1 h2 h5 h3
       have F1 : Hid (1 = 1) := rfl
       go_wp2_with (first
        | (go_at_call 85; refine Calls.mono HE.out ?_; rintro e w2 ⟨rfl, D2, U2, hs2, hst2q⟩; have hst2 := HST.out.trans hst2q; have hok2 := okQ.step hst2q HMP.out.2; have hm2 := HMP.out.1.kept hok2.1; have hf2 := okQ.step hst2q hfr.out; have z0 := (World.cell?_of_block (a := ⟨wr.heap.size, 0, none⟩) hf2.1).trans q0; have z1 := (World.cell?_of_block (a := ⟨wr.heap.size, 1, none⟩) hf2.1).trans q1; have z2 := (World.cell?_of_block (a := ⟨wr.heap.size, 2, none⟩) hf2.1).trans q2; have z11 := (World.cell?_of_block (a := ⟨wr.heap.size, 11, none⟩) hf2.1).trans q11; have z12 := (World.cell?_of_block (a := ⟨wr.heap.size, 12, none⟩) hf2.1).trans q12; have hlo2 := Stq.low hst2q HS1.out; have HC := hid (hib D2 U2 _ _ (E j) b1 th p1 c1 mm' ct hs2 hm2 hok2.2 (HT1.out.1.kept hlo2 (fun _ h => h) (RdS.kept mm' hlo2 (fun _ h => h))) hwt hcc.1 (by simp only [List.length_append] at hBB ⊢; omega)))
        | (go_at_call 58; have ff := F1; clear ff F1; refine Calls.mono HC.out ?_; rintro e w3 ⟨rfl, D3, U3, hs3, hst3⟩; have hok3 := okQ.step hst3 hok2.2; have hm3 := hm2.kept hok3.1; have hf3 := okQ.step hst3 hf2.2; have u12 := (World.cell?_of_block (a := ⟨wr.heap.size, 12, none⟩) hf3.1).trans z12; have hlo3 := Stq.low hst3 hs2; have HD := hid (hib D3 U3 _ _ (E j) b1 el p2 c2 mm' cl hs3 hm3 hok3.2 ((HT1.out.2.kept hlo2 (fun _ h => h) (RdS.kept mm' hlo2 (fun _ h => h))).kept hlo3 (fun _ h => h) (RdS.kept mm' hlo3 (fun _ h => h))) hwl hcc.2.1 (by simp only [List.length_append] at hBB ⊢; omega)))
        | (go_at_call 58; refine Calls.mono HD.out ?_; rintro e w4 ⟨rfl, D4, U4, hs4, hst4⟩))
       go_roundw
       case rel => exact ⟨j + 1, b1, HL.out, by go_num, rfl, D4, U4, by rw [HNX.out, ← List.append_assoc, ← List.append_assoc]; exact hs4, (hst2.trans hst3).trans hst4, by rw [HNE.out]; exact hm3.kept (okQ.step hst4 hok3.2).1, (okQ.step hst4 hok3.2).2⟩
       case measure => have := HL.out; simp [upN, intOf]; omega
      ·rw [if_neg h3] at HNX hBB
       have g3 : ((k : Int) == 3) = false := by simp; omega
       by_cases h4 : k = 4
       ·rw [if_pos h4] at HNX hBB
        have g4 : ((k : Int) == 4) = true := by rw [h4]; rfl
        have HEL := hid (hkl.resolve_left h3)
        clear h1 h2 h5 h3 h4
        have F1 : Hid (1 = 1) := rfl
        go_wp2_with (first
         | (go_at_call 85; refine Calls.mono HE.out ?_; rintro e w2 ⟨rfl, D2, U2, hs2, hst2q⟩; have hst2 := HST.out.trans hst2q; have hok2 := okQ.step hst2q HMP.out.2; have hm2 := HMP.out.1.kept hok2.1; have hf2 := okQ.step hst2q hfr.out; have z0 := (World.cell?_of_block (a := ⟨wr.heap.size, 0, none⟩) hf2.1).trans q0; have z1 := (World.cell?_of_block (a := ⟨wr.heap.size, 1, none⟩) hf2.1).trans q1; have z2 := (World.cell?_of_block (a := ⟨wr.heap.size, 2, none⟩) hf2.1).trans q2; have z11 := (World.cell?_of_block (a := ⟨wr.heap.size, 11, none⟩) hf2.1).trans q11; have z12 := (World.cell?_of_block (a := ⟨wr.heap.size, 12, none⟩) hf2.1).trans q12; have hlo2 := Stq.low hst2q HS1.out; have HC := hid (hib D2 U2 _ _ (E j) b1 th p1 c1 mm' ct hs2 hm2 hok2.2 (HT1.out.1.kept hlo2 (fun _ h => h) (RdS.kept mm' hlo2 (fun _ h => h))) hwt hcc.1 (by simp only [List.length_append] at hBB ⊢; omega)))
         | (go_at_call 58; have ff := F1; clear ff F1; refine Calls.mono HC.out ?_; rintro e w3 ⟨rfl, D3, U3, hs3, hst3⟩; have hok3 := okQ.step hst3 hok2.2; have hm3 := hm2.kept hok3.1; have hf3 := okQ.step hst3 hf2.2; have u12 := (World.cell?_of_block (a := ⟨wr.heap.size, 12, none⟩) hf3.1).trans z12; have hlo3 := Stq.low hst3 hs2; have HD := hid (hib D3 U3 _ _ (E j) b1 el p2 c2 mm' cl hs3 hm3 hok3.2 ((HT1.out.2.kept hlo2 (fun _ h => h) (RdS.kept mm' hlo2 (fun _ h => h))).kept hlo3 (fun _ h => h) (RdS.kept mm' hlo3 (fun _ h => h))) hwl hcc.2.1 (by rw [HEL.out, evB_nil, List.append_nil]; simp only [List.length_append] at hBB ⊢; omega)))
         | (go_at_call 58; refine Calls.mono HD.out ?_; rintro e w4 ⟨rfl, D4, U4, hs4, hst4⟩))
        go_roundw
        case rel => exact ⟨j + 1, b1, HL.out, by go_num, rfl, D4, U4, by rw [HNX.out, ← List.append_assoc]; have h := hs4; rw [HEL.out, evB_nil, List.append_nil] at h; exact h, (hst2.trans hst3).trans hst4, by rw [HNE.out]; exact hm3.kept (okQ.step hst4 hok3.2).1, (okQ.step hst4 hok3.2).2⟩
        case measure => have := HL.out; simp [upN, intOf]; omega
       ·rw [if_neg h4, List.append_nil] at HNX hBB
        have g4 : ((k : Int) == 4) = false := by simp; omega
        clear h1 h2 h5 h3 h4
        go_wp2_with (first
         | (go_at_call 85; refine Calls.mono HE.out ?_; rintro e w2 ⟨rfl, D2, U2, hs2, hst2q⟩; have hst2 := HST.out.trans hst2q; have hok2 := okQ.step hst2q HMP.out.2; have hm2 := HMP.out.1.kept hok2.1; have hf2 := okQ.step hst2q hfr.out; have z0 := (World.cell?_of_block (a := ⟨wr.heap.size, 0, none⟩) hf2.1).trans q0; have z1 := (World.cell?_of_block (a := ⟨wr.heap.size, 1, none⟩) hf2.1).trans q1; have z2 := (World.cell?_of_block (a := ⟨wr.heap.size, 2, none⟩) hf2.1).trans q2; have z11 := (World.cell?_of_block (a := ⟨wr.heap.size, 11, none⟩) hf2.1).trans q11; have z12 := (World.cell?_of_block (a := ⟨wr.heap.size, 12, none⟩) hf2.1).trans q12; have hlo2 := Stq.low hst2q HS1.out))
        go_roundw
        case rel => exact ⟨j + 1, b1, HL.out, by go_num, rfl, D2, U2, by rw [HNX.out]; exact hs2, hst2, by rw [HNE.out]; exact hm2, hok2.2⟩
        case measure => have := HL.out; simp [upN, intOf]; omega
  ·obtain rfl : j = al.length := by omega
   clear hlt hjl
   go_wp2
   go_end0
   exact ⟨rfl, D1, U1, hsr, hstr⟩
theorem rn_block (n : Nat) : CRb bn l i p fq fc T n := by
 induction n with
 | zero => exact rn_block_of (fun n' h => by cases h)
 | succ n ih => exact rn_block_of (fun n' h => by injection h with h; rw [← h]; exact ih)
end
end Go.Proofs.YtdkpfnohdknldaaGreatDoor
namespace Go.Proofs.YtdkpfnohdknldaaGreatDoor
open Go.RowKit Go.WideMaps Go.Maps
set_option linter.unusedVariables false
def hdD (ss : List Rf) : Nat → DataW Unit
 | 0 => .map []
 | k + 1 => match ss[k]? with | some r => (hdD ss k).put (kyB r.x) (.lit (.bool true)) | none => hdD ss k
theorem hdD_map (ss : List Rf) (k : Nat) : IsMap (hdD ss k) := by
 induction k with
 | zero => exact isMap_empty
 | succ k ih =>
  unfold hdD
  split
  ·exact ih.put _ _
  ·exact ih
theorem hdD_at (ss : List Rf) (x : ByteArray) (k : Nat) : (hdD ss k).atKey (kyB x) (.lit (.bool false)) = .lit (.bool ((ss.take k).any (fun q => decide (q.x = x)))) := by
 induction k with
 | zero => rfl
 | succ k ih =>
  rw [List.take_add_one, List.any_append]
  conv => lhs; unfold hdD
  cases h : ss[k]? with
  | none => simp only [Option.toList_none, List.any_nil, Bool.or_false]; exact ih
  | some r =>
   by_cases hr : r.x = x
   ·subst hr
    simp only [Option.toList_some, List.any_cons, List.any_nil, decide_true, Bool.or_false, Bool.or_true]
    exact atKey_put_same (hdD_map ss k) (kyB_lit _) _ _
   ·simp only [Option.toList_some, List.any_cons, List.any_nil, decide_eq_false hr, Bool.or_false]
    rw [atKey_put_other (fun e => hr (kyB_inj e).symm)]
    exact ih
def HdAt (w : World) (b : Nat) (ss : List Rf) (k : Nat) : Prop := w.ownsMap Tryz.prog 9 (plainElem (H := Unit) Tryz.prog 4) b k (hdD ss k)
theorem HdAt.kept {w w' : World} {b : Nat} {ss : List Rf} {k : Nat} (h : HdAt w b ss k) (hg : w'.heap[b]? = w.heap[b]?) : HdAt w' b ss k := by
 obtain ⟨es, clock, h1, h2⟩ := h
 exact ⟨es, clock, hg.trans h1, h2⟩
theorem zeroBo (w : World) : (zeroValue 4).run Tryz.prog w = .ok (.bool false) w := by kernel_rfl
theorem hd_look {w : World} {b : Nat} {ss : List Rf} {k : Nat} (h : HdAt w b ss k) (x : ByteArray) (hx : x.size ≤ maxLen) : (Instr.lookup 40 (.map (some b)) (.string x) false).run Tryz.prog w = .ok (.bool ((ss.take k).any (fun q => decide (q.x = x)))) w := by
 obtain ⟨v, ps, hrun, hv⟩ := World.ownsMap.lookup h kStr Tryz.underlying40 (zeroBo w) (plainElem_bool Tryz.underlying4 false) (keyS x hx)
 rw [hdD_at] at hv
 rw [hrun]
 have hb := Tryz.underlying4
 cases v <;> simp [plainElem, hb] at hv
 rw [hv.1]
theorem hd_put {w : World} {b : Nat} {ss : List Rf} {k : Nat} {r : Rf} (h : HdAt w b ss k) (hr : ss[k]? = some r) (hk : k < maxLen) (hx : r.x.size ≤ maxLen) : ∃ w', (Instr.mapUpdate 40 (.map (some b)) (.string r.x) (.bool true)).run Tryz.prog w = .ok () w' ∧ HdAt w' b ss (k + 1) ∧ w.grownBy w' (some b) := by
 obtain ⟨w', h1, h2, h3⟩ := World.ownsMap.update h kStr Tryz.underlying40 hk (keyS r.x hx) (plainElem_bool Tryz.underlying4 true)
 refine ⟨w', h1, ?_, h3⟩
 show World.ownsMap _ _ _ _ _ _ _
 conv => rhs; unfold hdD
 rw [hr]
 exact h2
theorem scP_len : ∀ (L : List Pm) (env : Env), (scP env L).length ≤ env.length + L.length := by
 intro L
 induction L with
 | nil => intro env; exact Nat.le_refl _
 | cons a r ih =>
  intro env
  have h1 := ih (scMk env a.x a.a)
  have h2 : (scMk env a.x a.a).length ≤ env.length + 1 := by unfold scMk; split <;> simp
  show (scP (scMk env a.x a.a) r).length ≤ _
  rw [List.length_cons]
  omega
theorem fnd_self {l : List (Int × It)} {i : Nat} {p : Int} {it : It} (h : l[i]? = some (p, it)) (hx : it.x ≠ noB) : ∃ k : Nat, fnd l it.k it.x = (k : Int) ∧ k ≤ i := by
 unfold fnd fidx
 rw [if_neg hx]
 cases hf : l.findIdx? (fun e => isIt it.k it.x e.2) with
 | none =>
  rw [List.findIdx?_eq_none_iff] at hf
  have := hf _ (List.mem_of_getElem? h)
  unfold isIt at this
  simp at this
 | some k =>
  refine ⟨k, rfl, ?_⟩
  obtain ⟨_, _, g3⟩ := List.findIdx?_eq_some_iff_getElem.1 hf
  rcases Nat.lt_or_ge i k with hik | hik
  ·have := g3 i hik
   have e := (List.getElem?_eq_some_iff.1 h).2
   rw [e] at this
   unfold isIt at this
   simp at this
  ·exact hik
end Go.Proofs.YtdkpfnohdknldaaGreatDoor

/- The program's frame is the document's. -/
import Derived.Test.YtbkihppmikjcoaaDoorFrTurn
import Derived.Test.YtbkihppmikjcoaaDoorFrFrame
import Derived.Test.YtbkihppmikjcoaaDoorFrUna
namespace Go.Proofs.YtbkihppmikjcoaaDoor
open Go.RowKit
set_option linter.unusedVariables false
attribute [local go_sem ↓] Go.wp_at_zero Go.wp_at_succ
/-- What is told, in one: two numbers and a list. -/
def toE {α : Type} : List α ⊕ (Int × Nat) → Int
  | .inl _ => 0
  | .inr (e, _) => e
def toK {α : Type} : List α ⊕ (Int × Nat) → Int
  | .inl _ => 0
  | .inr (_, k) => (k : Int)
def toM {α : Type} : List α ⊕ (Int × Nat) → List α
  | .inl m => m
  | .inr _ => []
theorem bytesP_to {x : List UInt8 ⊕ (Int × Nat)} {r : Value} {e k : Int} {w : World} (h : BytesP x r e k w) : e = toE x ∧ k = toK x ∧ BytIn w r (toM x) := by
  cases x with
  | inl m => exact h
  | inr p =>
    obtain ⟨e1, k1⟩ := p
    obtain ⟨rfl, h2, h3⟩ := h
    exact ⟨h2, h3, none, 0, rfl, Nat.le_refl _, fun _ => rfl, fun hl => absurd hl (by simp [toM])⟩
theorem parseB_to {n : Nat} {x : List Ak ⊕ (Int × Nat)} {r : Value} {e k : Int} {w : World} (h : ParseB n x r e k w) : e = toE x ∧ k = toK x ∧ AksB n w r (toM x) := by
  cases x with
  | inl m => exact h
  | inr p =>
    obtain ⟨e1, k1⟩ := p
    obtain ⟨rfl, h2, h3⟩ := h
    exact ⟨h2, h3, none, 0, rfl, fun _ => rfl, fun hl => absurd hl (by simp [toM])⟩
def RelTe (w : World) (l : List Ak) (i : Value) (wr : World) : Prop := ∃ k : Nat, k ≤ l.length ∧ i = .int .i64 (k : Int) ∧ Below w.heap.size w wr
theorem set2_at {b Y : Nat} {w : World} {u0 u1 : Value} {x : Obj} (h : w.heap[Y]? = some x) (hY : Y ≠ b) : ((w.setCell ⟨b, 0, none⟩ u0).setCell ⟨b, 1, none⟩ u1).heap[Y]? = some x := (Below.heap_setCell _ _ _ Y hY).trans ((Below.heap_setCell _ _ _ Y hY).trans h)
theorem AksB.set2 {n b : Nat} {w : World} {v : Value} {l : List Ak} (h : AksB n w v l) (hb : b < n) (u0 u1 : Value) : AksB n ((w.setCell ⟨b, 0, none⟩ u0).setCell ⟨b, 1, none⟩ u1) v l :=
  h.kept (by simp) (fun k hk _ => (Below.heap_setCell _ _ _ k (show k ≠ b by omega)).trans (Below.heap_setCell _ _ _ k (show k ≠ b by omega)))
theorem AksB.below {n : Nat} {w w' : World} {v : Value} {l : List Ak} (h : AksB n w v l) (hb : Below w.heap.size w w') : AksB n w' v l := h.kept hb.size (fun k _ hk => hb.block k hk)
theorem put2_at {b : Nat} {w : World} {u0 u1 v0 v1 : Value} {T : TypeId} (h : w.heap[b]? = some (.cells #[v0, v1] T (0, 0))) : ((w.setCell ⟨b, 0, none⟩ u0).setCell ⟨b, 1, none⟩ u1).heap[b]? = some (.cells #[u0, u1] T (0, 0)) := heap_put (heap_put h u0) u1
set_option maxHeartbeats 4000000 in
set_option maxRecDepth 100000 in
theorem tells_any (w : World) (hL : Lw w) (vl vb : Value) (l : List Ak) (B : List UInt8) (hl : AksIn w vl l) (hb : BytIn w vb B) (hok : ∀ a ∈ l, a.ok) (ll : l.length ≤ 2000000) (lb : B.length ≤ 2000000) :
    Calls Tryd.prog 3 #[vl, vb] w fun ex w' => ex = .returned (.bool true) ∧ Below w.heap.size w w' := by
  have HLi := hid hl
  have HB := hid hb
  have h3 := hL.low
  obtain ⟨p, c, rfl, _, hp⟩ := hl
  have HP := hid hp
  have hvb : ∃ p c, vb = .slice p B.length c := by obtain ⟨p, c, e, _⟩ := hb; exact ⟨p, c, e⟩
  obtain ⟨pb, cb, rfl⟩ := hvb
  obtain ⟨FX, hFX⟩ : ∃ FX, fb l = FX := ⟨_, rfl⟩
  obtain ⟨PX, hPX⟩ : ∃ PX, pr B = PX := ⟨_, rfl⟩
  have HFX := hid hFX
  have HPX := hid hPX
  have HPM : Hid ((toM PX).length ≤ 1099511627776 ∧ ∀ a ∈ toM PX, a.args.length ≤ 1099511627776) := by
    show _ ∧ _
    rw [← hPX]
    cases hpb : pr B with
    | inl m => exact ⟨by have := pr_len hpb; simp only [toM]; omega, pr_args hpb⟩
    | inr p => exact ⟨by simp [toM], fun a ha => by simp [toM] at ha⟩
  obtain ⟨e1, he1⟩ : ∃ e, toE FX = e := ⟨_, rfl⟩
  obtain ⟨k1, hk1⟩ : ∃ e, toK FX = e := ⟨_, rfl⟩
  obtain ⟨X1, hX1⟩ : ∃ e, toM FX = e := ⟨_, rfl⟩
  obtain ⟨e2, he2⟩ : ∃ e, toE PX = e := ⟨_, rfl⟩
  obtain ⟨k2, hk2⟩ : ∃ e, toK PX = e := ⟨_, rfl⟩
  obtain ⟨X2, hX2⟩ : ∃ e, toM PX = e := ⟨_, rfl⟩
  have HFT := hid (fun (r : Value) (e k : Int) (w : World) (h : BytesP (fb l) r e k w) => (by rw [hFX] at h; have := bytesP_to h; rw [he1, hk1, hX1] at this; exact this : e = e1 ∧ k = k1 ∧ BytIn w r X1))
  have HPT := hid (fun (n : Nat) (r : Value) (e k : Int) (w : World) (h : ParseB n (pr B) r e k w) => (by rw [hPX] at h; have := parseB_to h; rw [he2, hk2, hX2] at this; exact this : e = e2 ∧ k = k2 ∧ AksB n w r X2))
  rw [hX2] at HPM
  clear hb hp hFX hPX HFX HPX he1 hk1 hX1 he2 hk2 hX2
  go_enter Tryd.func3, Tryd.ntmps3
  go_wp2
  go_loopw [15] (fun i wr => RelTe w l i wr) (fun i _ => upN l.length i)
  case atStart => exact ⟨0, Nat.zero_le _, rfl, Below.refl _ _⟩
  case round =>
    obtain ⟨k, hkl, rfl, hK⟩ := hrel
    by_cases hlt : k < l.length
    · obtain ⟨g, o, rfl, hg, hak⟩ := HP.out (by omega)
      obtain ⟨a, ha⟩ : ∃ a, l[k]? = some a := ⟨_, List.getElem?_eq_getElem hlt⟩
      obtain ⟨q, cq, x0, x1, x2, x3, x4, x5, harg⟩ := hak.cells ha
      have kc : ∀ j, wr.cell? ⟨g, j, none⟩ = w.cell? ⟨g, j, none⟩ := fun j => World.cell?_of_block (a := ⟨g, j, none⟩) (hK.block g hg)
      rw [← kc] at x0 x1 x2 x3 x4 x5
      have gk : (0 : Int) ≤ (k : Int) := by omega
      have gk1 : (k : Int) < (l.length : Int) := by omega
      have HN1 := hid (heap_alloc_new wr (.cells #[.int .i64 a.id, .int .i64 a.kind, .int .i64 a.fr, .int .i64 a.to, .string (ba a.text), .slice q a.args.length cq] 26))
      have HK1 := hid (hK.alloc hK.size (.cells #[.int .i64 a.id, .int .i64 a.kind, .int .i64 a.fr, .int .i64 a.to, .string (ba a.text), .slice q a.args.length cq] 26))
      have HJ := hid hlt
      clear hlt hkl ha hak harg kc hK
      go_wp2
      clear x0 x1 x2 x3 x4 x5
      generalize wr.alloc (.cells #[.int .i64 a.id, .int .i64 a.kind, .int .i64 a.fr, .int .i64 a.to, .string (ba a.text), .slice q a.args.length cq] 26) = w2 at *
      generalize wr.heap.size = N at *
      obtain ⟨b20, b21, b22, b23, b24, b25, b2f⟩ := row6 HN1.out
      have q1 : ∀ d os, Calls Tryd.prog 6 #[akV a q cq] (Go.Sort.grow (redrawn w2 d) os) fun e w'' => e = .returned (.int .i64 (akW a)) ∧ ∃ p : Regrown, w'' = Go.Sort.grow (redrawn w2 p.d) p.os := fun d os => Calls.regrown_of (wrong_any a q cq _)
      have q2 : ∀ d os, Calls Tryd.prog 7 #[akV a q cq] (Go.Sort.grow (redrawn w2 d) os) fun e w'' => e = .returned (.int .i64 (akW a)) ∧ ∃ p : Regrown, w'' = Go.Sort.grow (redrawn w2 p.d) p.os := fun d os => Calls.regrown_of (wrongAsk_any a q cq _)
      unfold akV at q1 q2
      have k0 := cell_regrown b20
      have k1 := cell_regrown b21
      have k2 := cell_regrown b22
      have k3 := cell_regrown b23
      have k4 := cell_regrown b24
      have k5 := cell_regrown b25
      generalize akW a = T at *
      refine wp_region_quiet_below (by kernel_rfl) (by kernel_rfl) ?_
      repeat (quiet_step (first | exact q1 _ _ | exact q2 _ _))
      refine wpQuiet_nil ?_
      intro _ hw'
      obtain ⟨⟨dq, osq⟩, hw''⟩ := hw'
      subst hw''
      have HB6 := hid (HK1.out.trans ((below_regrown w2 dq osq).mono HK1.out.size))
      clear b20 b21 b22 b23 b24 b25 b2f k0 k1 k2 k3 k4 k5 q1 q2
      generalize Go.Sort.grow (redrawn w2 dq) osq = w6 at *
      go_wp2
      go_roundw
      case rel => exact ⟨k + 1, HJ.out, by go_num, HB6.out⟩
      case measure => have := HJ.out; simp [upN, intOf]; omega
    · obtain rfl : k = l.length := by omega
      have HB1 := hid hK
      clear hlt hkl hK
      go_wp2_with (first
        | (go_at_call 8; refine Calls.mono (bytes_any _ (by exact hL.below h3 HB1.out) _ l (by exact HLi.out.below HB1.out) hok (by omega)) ?_; rintro ex w2 ⟨r1, e, k, rfl, hb2, hP⟩; obtain ⟨he, hk, hin⟩ := HFT.out _ _ _ _ hP; rw [he, hk]; clear he hk hP; unfold faV; have hd := (Below.refl w2.heap.size w2).alloc (Nat.le_refl _) (.cells #[.int .i64 e1, .int .i64 k1] 30); have HI2 := hid (hin.below hd); have HB2 := hid ((HB1.out.trans (hb2.mono HB1.out.size)).alloc (Nat.le_trans HB1.out.size hb2.size) (.cells #[.int .i64 e1, .int .i64 k1] 30)); have HN2 := hid (heap_alloc_new w2 (.cells #[.int .i64 e1, .int .i64 k1] 30)); have HS2 := hid (Nat.le_trans HB1.out.size hb2.size); clear hb2 hin hd)
        | (go_at_call 9; refine Calls.mono (frame_any _ (by exact hL.below h3 HB2.out) _ l (by exact HLi.out.below HB2.out) hok (by omega)) ?_; rintro ex w3 ⟨r2, e, k, rfl, hb3, hP⟩; obtain ⟨he, hk, hin⟩ := HFT.out _ _ _ _ hP; rw [he, hk]; clear he hk hP; unfold faV; have hd := (Below.refl w3.heap.size w3).alloc (Nat.le_refl _) (.cells #[.int .i64 e1, .int .i64 k1] 30); have n2 := (hd.block w2.heap.size (by have := hb3.size; simp at this; omega)).trans ((hb3.block w2.heap.size (by simp)).trans HN2.out); obtain ⟨f20, f21, f2f⟩ := row2 n2; have n3 := heap_alloc_new w3 (.cells #[.int .i64 e1, .int .i64 k1] 30); obtain ⟨f30, f31, f3f⟩ := row2 n3; have hc1 := conv_in ((HI2.out.below hb3).below hd); have hc2 := conv_in (hin.below hd); have HB3 := hid ((HB2.out.trans (hb3.mono HB2.out.size)).alloc (Nat.le_trans HB2.out.size hb3.size) (.cells #[.int .i64 e1, .int .i64 k1] 30)); have HM2 := hid n2; have HM3 := hid n3; have HLT : Hid (w2.heap.size < w3.heap.size) := (show w2.heap.size < w3.heap.size by have := hb3.size; simp at this; omega); clear hb3 hin hd n2 n3)
        | (go_at_call 10; refine Calls.mono (parse_up _ (by exact hL.below h3 HB3.out) _ B (by exact HB.out.below HB3.out) (by omega)) ?_; rintro ex w5 ⟨r3, e, k, rfl, hb5, hP⟩; obtain ⟨he, hk, hin⟩ := HPT.out _ _ _ _ _ hP; rw [he, hk]; clear he hk hP; unfold faV; have n2 := (hb5.block w2.heap.size (Array.getElem?_eq_some_iff.1 HM2.out).1).trans HM2.out; obtain ⟨g20, g21, g2f⟩ := row2 n2; have n3 := (hb5.block w3.heap.size (Array.getElem?_eq_some_iff.1 HM3.out).1).trans HM3.out; have NA := hid (put2_at (u0 := .int .i64 e2) (u1 := .int .i64 k2) n2); have NB := hid (set2_at (b := w2.heap.size) (u0 := .int .i64 e2) (u1 := .int .i64 k2) n3 (Nat.ne_of_gt HLT.out)); have HR := hid (hin.set2 (b := w2.heap.size) (by have := HLT.out; simp; omega) (.int .i64 e2) (.int .i64 k2)); have HB5 := hid (((HB3.out.trans (hb5.mono HB3.out.size)).setCell (p := ⟨w2.heap.size, 0, none⟩) HS2.out (.int .i64 e2)).setCell (p := ⟨w2.heap.size, 1, none⟩) HS2.out (.int .i64 k2)); have hls := (Array.getElem?_eq_some_iff.1 n3).1; have HLS : Hid (w3.heap.size < ((w5.setCell ⟨w2.heap.size, 0, none⟩ (.int .i64 e2)).setCell ⟨w2.heap.size, 1, none⟩ (.int .i64 k2)).heap.size) := (show _ < _ by simpa using hls); clear hb5 hin n2 n3 hls)
        | (go_at_call 11; refine Calls.mono (unframe_up _ (by exact hL.below h3 HB5.out) _ B (by exact HB.out.below HB5.out) (by omega)) ?_; rintro ex w6 ⟨r4, e, k, rfl, hb6, hP⟩; obtain ⟨he, hk, hin⟩ := HPT.out _ _ _ _ _ hP; rw [he, hk]; clear he hk hP; unfold faV; have n2 := (hb6.block w2.heap.size (Array.getElem?_eq_some_iff.1 NA.out).1).trans NA.out; have n3 := (hb6.block w3.heap.size (Array.getElem?_eq_some_iff.1 NB.out).1).trans NB.out; obtain ⟨g30, g31, g3f⟩ := row2 n3; have m2 := set2_at (b := w3.heap.size) (u0 := .int .i64 e2) (u1 := .int .i64 k2) n2 (Nat.ne_of_lt HLT.out); obtain ⟨y20, y21, y2f⟩ := row2 m2; have m3 := put2_at (u0 := .int .i64 e2) (u1 := .int .i64 k2) n3; obtain ⟨y30, y31, y3f⟩ := row2 m3; have HS := hid (same_any _ r3 r4 X2 X2 ((HR.out.below hb6).set2 (b := w3.heap.size) (by simp) (.int .i64 e2) (.int .i64 k2)).in_ (hin.set2 (b := w3.heap.size) HLS.out (.int .i64 e2) (.int .i64 k2)).in_ HPM.out.1 HPM.out.2); have HB6 := hid (((HB5.out.trans (hb6.mono HB5.out.size)).setCell (p := ⟨w3.heap.size, 0, none⟩) (Nat.le_trans HS2.out (Nat.le_of_lt HLT.out)) (.int .i64 e2)).setCell (p := ⟨w3.heap.size, 1, none⟩) (Nat.le_trans HS2.out (Nat.le_of_lt HLT.out)) (.int .i64 k2)); clear hb6 hin n2 n3 m2 m3)
        | (go_at_call 12; refine Calls.mono HS.out ?_; rintro ex w7 ⟨b, rfl, hb7, hiff⟩; obtain rfl : b = true := (by simpa using hiff); have HB7 := hid (HB6.out.trans (hb7.mono HB6.out.size)); clear hb7 hiff))
      go_ret
      exact ⟨ret_bool (by simp), HB7.out⟩
end Go.Proofs.YtbkihppmikjcoaaDoor

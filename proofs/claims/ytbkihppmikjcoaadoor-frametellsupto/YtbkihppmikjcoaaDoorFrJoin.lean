/- One behind the other. -/
import Derived.Test.YtbkihppmikjcoaaDoorFrAlive
import Derived.Test.YtbkihppmikjcoaaDoorFrSame
import Derived.Test.YtbkihppmikjcoaaDoorFrApp
namespace Go.Proofs.YtbkihppmikjcoaaDoor
open Go.RowKit
set_option linter.unusedVariables false
attribute [local go_sem ↓] Go.wp_at_zero Go.wp_at_succ
attribute [local go_sem ↓] appE_hide
/-- A fault laid down. -/
def faO (e k : Int) : Obj := .cells #[.int .i64 e, .int .i64 k] 30
theorem ownB_empty (w : World) (base : Nat) (hb : base ≤ w.heap.size) : OwnB base (w.alloc (.cells #[] 5)) (.slice (some ⟨w.heap.size, 0, none⟩) 0 0) [] :=
  World.ownsRow_made w #[] 0 hb (by unfold maxLen; omega) rfl
theorem ownX_empty (w : World) (base : Nat) (hb : base ≤ w.heap.size) : OwnX base (w.alloc (.cells #[] 26)) (.slice (some ⟨w.heap.size, 0, none⟩) 0 0) [] :=
  ⟨World.ownsRow_made w #[] 0 hb (by unfold maxLen; omega) rfl, fun p hp => by cases hp⟩
/-- Two texts laid one behind the other. -/
theorem two_bytes (w : World) (va vb : Value) (A B : List UInt8) (ha : BytIn w va A) (hb : BytIn w vb B) (la : A.length ≤ 100000000) (lb : B.length ≤ 100000000) :
    ∃ v6 w6 v7 w7, appE Tryd.prog #[23, 23] 23 #[.slice (some ⟨w.heap.size, 0, none⟩) 0 0, va] (w.alloc (.cells #[] 5)) = .ok v6 w6 ∧ appE Tryd.prog #[23, 23] 23 #[v6, vb] w6 = .ok v7 w7 ∧ BytIn w7 v7 (A ++ B) ∧ Below w.heap.size w w7 := by
  have hb1 := (Below.refl w.heap.size w).alloc (Nat.le_refl _) (.cells #[] 5)
  have ho := ownB_empty w w.heap.size (Nat.le_refl _)
  obtain ⟨v6, w6, h1, h2, h3⟩ := app_bytes ho hb1.size (ha.below hb1) (by simp; omega)
  have hb6 := hb1.grown h3 hb1.size (fun k e => (ho.lt k e).1)
  obtain ⟨v7, w7, h4, h5, h6⟩ := app_bytes h2 hb6.size (hb.below hb6) (by simp; omega)
  exact ⟨v6, w6, v7, w7, h1, h4, by simpa using h5.in_, hb6.grown h6 hb6.size (fun k e => (h2.lt k e).1)⟩
theorem two_asks (w w0 w1 : World) (vx vy : Value) (x y : List Ak) (hx : AksIn w0 vx x) (hy : AksIn w1 vy y) (h0 : w0.heap.size ≤ w.heap.size) (h1 : w1.heap.size ≤ w.heap.size) (hb0 : Below w0.heap.size w0 w) (hb1 : Below w1.heap.size w1 w) (hl : x.length + y.length ≤ 1099511627776) :
    ∃ v6 w6 v7 w7, appE Tryd.prog #[22, 22] 22 #[.slice (some ⟨w.heap.size, 0, none⟩) 0 0, vx] (w.alloc (.cells #[] 26)) = .ok v6 w6 ∧ appE Tryd.prog #[22, 22] 22 #[v6, vy] w6 = .ok v7 w7 ∧ AksIn w7 v7 (x ++ y) ∧ Below w.heap.size w w7 := by
  have hba := (Below.refl w.heap.size w).alloc (Nat.le_refl _) (.cells #[] 26)
  have ho := ownX_empty w w.heap.size (Nat.le_refl _)
  obtain ⟨v6, w6, L1, e1, e2, e3, e4⟩ := app_asks ho hba.size hx h0 (hb0.trans (hba.mono h0)) (by simp; omega)
  have hb6 := hba.grown e4 hba.size (fun k e => (ho.own.lt k e).1)
  have hn1 : L1.length = x.length := by have := congrArg List.length e3; rwa [List.length_map] at this
  obtain ⟨v7, w7, L2, f1, f2, f3, f4⟩ := app_asks e2 hb6.size hy h1 (hb1.trans (hb6.mono h1)) (by simp; omega)
  have hb7 := hb6.grown f4 hb6.size (fun k e => (e2.own.lt k e).1)
  refine ⟨v6, w6, v7, w7, e1, f1, ?_, hb7⟩
  have := f2.in_ hb7.size
  rw [List.nil_append, List.map_append, e3, f3] at this
  exact this
theorem pr_args {B : List UInt8} {l : List Ak} (h : pr B = .inl l) : ∀ a ∈ l, a.args.length ≤ 1099511627776 := fun a ha => by
  have := (akW_zero ((pr_bytes h).2 a ha).1).1
  omega
theorem pr_len : ∀ {B : List UInt8} {l : List Ak}, pr B = .inl l → l.length ≤ B.length := by
  intro B
  generalize hn : B.length = n
  induction n using Nat.strongRecOn generalizing B with
  | ind n ih =>
    intro l h
    by_cases h0 : B = []
    · subst h0
      rw [pr_nil] at h
      injection h with h
      subst h
      simp
    · cases hr : akR B with
      | none => rw [pr_none h0 hr] at h; cases h
      | some p =>
        obtain ⟨q, t⟩ := p
        by_cases hw : akW q = 0
        · rw [pr_more hr hw] at h
          have hl := akR_len hr
          cases ht : pr t with
          | inr p => rw [ht] at h; cases h
          | inl l2 =>
            rw [ht] at h
            simp only [Sum.inl.injEq] at h
            subst h
            have := ih t.length (by omega) rfl ht
            rw [List.length_cons]
            omega
        · rw [pr_wrong h0 hr hw] at h; cases h
set_option maxHeartbeats 2000000 in
set_option maxRecDepth 100000 in
theorem joined_any (w : World) (hL : Lw w) (va vb : Value) (A B : List UInt8) (ha : BytIn w va A) (hb : BytIn w vb B) (la : A.length ≤ 100000000) (lb : B.length ≤ 100000000) :
    Calls Tryd.prog 5 #[va, vb] w fun ex w' => ex = .returned (.bool true) ∧ Below w.heap.size w w' := by
  have HA := hid ha
  have HB := hid hb
  have h3 := hL.low
  have HAl := hid (alive_any w hL)
  have F1 : Hid (1 = 1) := rfl
  have F2 : Hid (1 = 1) := rfl
  have F3 : Hid (1 = 1) := rfl
  have hva : ∃ p c, va = .slice p A.length c := by obtain ⟨p, c, e, _⟩ := ha; exact ⟨p, c, e⟩
  clear ha hb
  cases hpa : pr A with
  | inr ek =>
    obtain ⟨e1, k1⟩ := ek
    have hne := (pr_at hpa).2
    have hneb : (e1 != 0) = true := by simpa using hne
    have HPA := hid hpa
    clear hpa hva
    go_enter Tryd.func5, Tryd.ntmps5
    go_wp2_with (first
      | (go_at_call 13; refine Calls.mono HAl.out ?_; rintro ex w1 ⟨rfl, hb1⟩; have HB1 := hid hb1; clear hb1)
      | (go_at_call 10; have ff := F1; clear ff F1; refine Calls.mono (parse_any _ (by exact hL.below h3 HB1.out) va A (by exact HA.out.below HB1.out) (by omega)) ?_; rintro ex w2 ⟨r1, e, k, rfl, hb2, hP⟩; rw [HPA.out] at hP; obtain ⟨rfl, he, hk⟩ := hP; rw [he, hk]; clear he hk; unfold faV; have HB2 := hid (HB1.out.trans (hb2.mono HB1.out.size)); clear hb2)
      | (go_at_call 10; have ff := F2; clear ff F2; refine Calls.mono (parse_any _ (by exact (hL.below h3 HB2.out).below h3 ((Below.refl w.heap.size w2).alloc HB2.out.size _)) vb B (by exact HB.out.below (HB2.out.trans ((Below.refl w.heap.size w2).alloc HB2.out.size _))) (by omega)) ?_; rintro ex w3 ⟨r2, e2, k2, rfl, hb3, hP2⟩; unfold faV; have hx := (hb3.block w2.heap.size (by simp)).trans (heap_alloc_new w2 (faO e1 k1)); obtain ⟨f0, f1, ff⟩ := row2 hx; have g0 := cell_alloc f0; have HB3 := hid ((HB2.out.trans ((Below.refl w.heap.size w2).alloc HB2.out.size (faO e1 k1))).trans (hb3.mono (by have := HB2.out.size; simp; omega))); clear hb3 hx hP2))
    go_ret
    exact ⟨rfl, HB3.out.alloc HB3.out.size _⟩
  | inl x =>
    have HPA := hid hpa
    obtain ⟨pa, ca, rfl⟩ := hva
    cases hpb : pr B with
    | inr ek =>
      obtain ⟨e2, k2⟩ := ek
      have hne := (pr_at hpb).2
      have hk2 := (pr_at hpb).1
      have hneb : (e2 != 0) = true := by simpa using hne
      obtain ⟨K3, hK3⟩ : ∃ K3, A.length + k2 = K3 := ⟨_, rfl⟩
      have HPAB : Hid (pr (A ++ B) = .inr (e2, K3)) := by
        show _ = _
        rw [pr_app B hpa, hpb]
        simp only
        rw [hK3]
      have gge : (A.length : Int) ≤ (K3 : Int) := by omega
      have gw : IntKind.i64.wrap ((K3 : Int) - (A.length : Int)) = (k2 : Int) := by rw [wrap_id _ (by omega) (by omega)]; omega
      have HPB := hid hpb
      clear hpa hpb hK3
      go_enter Tryd.func5, Tryd.ntmps5
      go_wp2_with (first
        | (go_at_call 13; refine Calls.mono HAl.out ?_; rintro ex w1 ⟨rfl, hb1⟩; have HB1 := hid hb1; clear hb1)
        | (go_at_call 10; have ff := F1; clear ff F1; refine Calls.mono (parse_any _ (by exact hL.below h3 HB1.out) _ A (by exact HA.out.below HB1.out) (by omega)) ?_; rintro ex w2 ⟨r1, e, k, rfl, hb2, hP⟩; rw [HPA.out] at hP; obtain ⟨he, hk, hin⟩ := hP; rw [he, hk]; clear he hk; unfold faV; have HXI := hid hin; have HB2 := hid (HB1.out.trans (hb2.mono HB1.out.size)); clear hb2 hin)
        | (go_at_call 10; have ff := F2; clear ff F2; refine Calls.mono (parse_any _ (by exact (hL.below h3 HB2.out).below h3 ((Below.refl w.heap.size w2).alloc HB2.out.size _)) _ B (by exact HB.out.below (HB2.out.trans ((Below.refl w.heap.size w2).alloc HB2.out.size _))) (by omega)) ?_; rintro ex w3 ⟨r2, e, k, rfl, hb3, hP2⟩; rw [HPB.out] at hP2; obtain ⟨rfl, he, hk⟩ := hP2; rw [he, hk]; clear he hk; unfold faV; have hx := (hb3.block w2.heap.size (by simp)).trans (heap_alloc_new w2 (faO 0 0)); obtain ⟨f0, f1, ff⟩ := row2 hx; have g0 := cell_alloc f0; have hb23 : Below w2.heap.size w2 w3 := ((Below.refl w2.heap.size w2).alloc (Nat.le_refl _) (faO 0 0)).trans (hb3.mono (by simp)); have HB23 := hid hb23; have hB3 := HB2.out.trans (hb23.mono HB2.out.size); have hB3a := hB3.alloc hB3.size (faO (e2) ((k2 : Int))); obtain ⟨v6, w6, v7, w7, hA6, hA7, hB7, hbel7⟩ := two_bytes (w3.alloc (faO (e2) ((k2 : Int)))) _ _ A B (HA.out.below hB3a) (HB.out.below hB3a) la lb; unfold faO at hA6; rw [show (w3.alloc (.cells #[.int .i64 (e2), .int .i64 ((k2 : Int))] 30)).heap.size = w3.heap.size + 1 by simp] at hA6; have HB7 := hid hB7; have HBE := hid hbel7; have HB3 := hid hB3a; have HF2 := hid ((hbel7.block w3.heap.size (by simp)).trans (heap_alloc_new w3 (faO (e2) ((k2 : Int))))); clear hb3 hx hB3 hB3a hB7 hbel7 hb23)
        | (go_at_call 10; have ff := F3; clear ff F3; refine Calls.mono (parse_any _ (by exact hL.below h3 (HB3.out.trans (HBE.out.mono HB3.out.size))) _ (A ++ B) (by exact HB7.out) (by simp; omega)) ?_; rintro ex w8 ⟨r3, e, k, rfl, hb8, hP3⟩; rw [HPAB.out] at hP3; obtain ⟨rfl, he, hk⟩ := hP3; rw [he, hk]; clear he hk; unfold faV; have f2 := (hb8.block w3.heap.size (Array.getElem?_eq_some_iff.1 HF2.out).1).trans HF2.out; obtain ⟨p0, p1, pf⟩ := row2 f2; have q0 := cell_alloc p0; have q1 := cell_alloc p1; have HB8 := hid ((HB3.out.trans (HBE.out.mono HB3.out.size)).trans (hb8.mono (by have := HB3.out.size; have := HBE.out.size; omega)));  clear hb8 f2))
      go_ret
      exact ⟨ret_bool (by simp), HB8.out.alloc HB8.out.size _⟩
    | inl y =>
      have HPAB : Hid (pr (A ++ B) = .inl (x ++ y)) := by
        show _ = _
        rw [pr_app B hpa, hpb]
      have HPB := hid hpb
      have hlx := pr_len hpa
      have hly := pr_len hpb
      have HARG := hid (pr_args HPAB.out)
      clear hpa hpb
      go_enter Tryd.func5, Tryd.ntmps5
      go_wp2_with (first
        | (go_at_call 13; refine Calls.mono HAl.out ?_; rintro ex w1 ⟨rfl, hb1⟩; have HB1 := hid hb1; clear hb1)
        | (go_at_call 10; have ff := F1; clear ff F1; refine Calls.mono (parse_any _ (by exact hL.below h3 HB1.out) _ A (by exact HA.out.below HB1.out) (by omega)) ?_; rintro ex w2 ⟨r1, e, k, rfl, hb2, hP⟩; rw [HPA.out] at hP; obtain ⟨he, hk, hin⟩ := hP; rw [he, hk]; clear he hk; unfold faV; have HXI := hid hin; have HB2 := hid (HB1.out.trans (hb2.mono HB1.out.size)); clear hb2 hin)
        | (go_at_call 10; have ff := F2; clear ff F2; refine Calls.mono (parse_any _ (by exact (hL.below h3 HB2.out).below h3 ((Below.refl w.heap.size w2).alloc HB2.out.size _)) _ B (by exact HB.out.below (HB2.out.trans ((Below.refl w.heap.size w2).alloc HB2.out.size _))) (by omega)) ?_; rintro ex w3 ⟨r2, e, k, rfl, hb3, hP2⟩; rw [HPB.out] at hP2; obtain ⟨he, hk, hin2⟩ := hP2; have HYI := hid hin2; rw [he, hk]; clear he hk; unfold faV; have hx := (hb3.block w2.heap.size (by simp)).trans (heap_alloc_new w2 (faO 0 0)); obtain ⟨f0, f1, ff⟩ := row2 hx; have g0 := cell_alloc f0; have hb23 : Below w2.heap.size w2 w3 := ((Below.refl w2.heap.size w2).alloc (Nat.le_refl _) (faO 0 0)).trans (hb3.mono (by simp)); have HB23 := hid hb23; have hB3 := HB2.out.trans (hb23.mono HB2.out.size); have hB3a := hB3.alloc hB3.size (faO (0) (0)); obtain ⟨v6, w6, v7, w7, hA6, hA7, hB7, hbel7⟩ := two_bytes (w3.alloc (faO (0) (0))) _ _ A B (HA.out.below hB3a) (HB.out.below hB3a) la lb; unfold faO at hA6; rw [show (w3.alloc (.cells #[.int .i64 (0), .int .i64 (0)] 30)).heap.size = w3.heap.size + 1 by simp] at hA6; have HB7 := hid hB7; have HBE := hid hbel7; have HB3 := hid hB3a; have HF2 := hid ((hbel7.block w3.heap.size (by simp)).trans (heap_alloc_new w3 (faO (0) (0)))); clear hb3 hx hin2 hB3 hB3a hB7 hbel7 hb23)
        | (go_at_call 10; have ff := F3; clear ff F3; refine Calls.mono (parse_any _ (by exact hL.below h3 (HB3.out.trans (HBE.out.mono HB3.out.size))) _ (A ++ B) (by exact HB7.out) (by simp; omega)) ?_; rintro ex w8 ⟨r3, e, k, rfl, hb8, hP3⟩; rw [HPAB.out] at hP3; obtain ⟨he, hk, hin3⟩ := hP3; rw [he, hk]; clear he hk; unfold faV; have f2 := (hb8.block w3.heap.size (Array.getElem?_eq_some_iff.1 HF2.out).1).trans HF2.out; obtain ⟨p0, p1, pf⟩ := row2 f2; have q0 := cell_alloc p0; have q1 := cell_alloc p1; have HB8 := hid ((HB3.out.trans (HBE.out.mono HB3.out.size)).trans (hb8.mono (by have := HB3.out.size; have := HBE.out.size; omega))); have hb37 : Below w3.heap.size w3 w8 := (((Below.refl w3.heap.size w3).alloc (Nat.le_refl _) (faO 0 0)).trans (HBE.out.mono (by simp))).trans (hb8.mono (by have := HBE.out.size; simp at this; omega)); have hb28 := HB23.out.trans (hb37.mono HB23.out.size); have hba8 := (Below.refl w8.heap.size w8).alloc (Nat.le_refl _) (faO 0 0); obtain ⟨v9, w9, v10, w10, hA9, hA10, hB10, hbel10⟩ := two_asks (w8.alloc (faO 0 0)) w2 w3 r1 r2 x y HXI.out HYI.out (Nat.le_trans hb28.size hba8.size) (Nat.le_trans hb37.size hba8.size) (hb28.trans (hba8.mono hb28.size)) (hb37.trans (hba8.mono hb37.size)) (by omega); unfold faO at hA9; rw [show (w8.alloc (.cells #[.int .i64 0, .int .i64 0] 30)).heap.size = w8.heap.size + 1 by simp] at hA9; have HS := hid (same_any w10 r3 v10 (x ++ y) (x ++ y) ((hin3.below hba8).below hbel10) hB10 (by simp; omega) HARG.out); have HB10 := hid (((HB8.out.alloc HB8.out.size (faO 0 0))).trans (hbel10.mono (by have := HB8.out.size; simp; omega))); clear hb37 hb28 hba8 hB10 hbel10 hin3; clear hb8 f2)
        | (go_at_call 12; refine Calls.mono HS.out ?_; rintro ex w11 ⟨b, rfl, hb11, hiff⟩; obtain rfl : b = true := (by simpa using hiff); have HB11 := hid (HB10.out.trans (hb11.mono HB10.out.size)); clear hb11 hiff))
      go_ret
      exact ⟨ret_bool (by simp), HB11.out⟩
end Go.Proofs.YtbkihppmikjcoaaDoor

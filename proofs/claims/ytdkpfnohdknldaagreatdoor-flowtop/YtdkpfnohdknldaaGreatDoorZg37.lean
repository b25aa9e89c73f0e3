/- Texts of this seat, one behind the other: OwnItA, TopMath. -/
import Derived.Test.YtdkpfnohdknldaaGreatDoorZg15
import Derived.Test.YtdkpfnohdknldaaGreatDoorZg36
import Derived.Test.YtdkpfnohdknldaaGreatDoorZg29
namespace Go.Proofs.YtdkpfnohdknldaaGreatDoor
open Go.RowKit
set_option linter.unusedVariables false
attribute [local go_sem ↓] Go.wp_at_zero Go.wp_at_succ
theorem clonePm_own (l : List Pm) (p : Option Addr) (cc : Nat) (w : World) (ok : Nat → Prop) (h : SlAt ok w 3 pmC l p) :
  Calls Tryz.prog 51 #[.slice p l.length cc] w fun e w' => ∃ q c', e = .returned (.slice q l.length c') ∧ SlAt (fun k => w.heap.size ≤ k ∧ k < w'.heap.size) w' 3 pmC l q ∧ (0 < l.length → ∃ g cur, q = some ⟨g, 0, none⟩ ∧ w'.heap[g]? = some (.cells cur 62 (0, 0))) ∧ Below w.heap.size w w' := by
 by_cases h0 : l.length = 0
 ·rw [h0]
  refine (clonePm_none p cc w).mono ?_
  rintro e w' ⟨q, c', rfl, hb⟩
  exact ⟨q, c', rfl, ⟨by omega, fun h => absurd h (by omega)⟩, fun h => absurd h (by omega), hb⟩
 ·obtain ⟨g, rfl, hg, hf⟩ := h.2 (by omega)
  have hin := flat_in (st := 3) (c := pmC) (fun _ => rfl) (w := w) (g := g) l 0 (fun j t hj i u hi => by have := hf j t hj i u hi; rwa [Nat.zero_add])
  refine (clonePm_any g l.length cc (l.flatMap pmC) w (by omega) h.1 (flat_len (c := pmC) (st := 3) (fun _ => rfl) l) ?_ (fun j u hj => by have := hin j u hj; rwa [Nat.zero_add] at this)).mono ?_
  ·intro u hu
   obtain ⟨d, _, hd⟩ := List.mem_flatMap.1 hu
   simp [pmC] at hd
   rcases hd with rfl | rfl | rfl <;> rfl
  ·rintro e w' ⟨g', c', rfl, hown, hb⟩
   refine ⟨some ⟨g', 0, none⟩, c', rfl, own_flat (c := pmC) (st := 3) (fun _ => rfl) hown h.1, fun _ => ?_, hb⟩
   obtain ⟨_, ⟨h1, _⟩ | ⟨g2, cap', cur, h1, _, h2, _⟩⟩ := hown
   ·cases h1
   ·injection h1 with h1
    injection h1 with h1
    injection h1 with h1
    subst h1
    exact ⟨g', cur, rfl, h2⟩
structure OwnP (it : It) (B z1 z2 z3 : Nat) (q1 q2 q3 q4 : Option Addr) (w' : World) : Prop where
 a1 : B ≤ z1
 a2 : z1 ≤ z2
 a3 : z2 ≤ z3
 a4 : z3 ≤ w'.heap.size
 ps : SlAt (fun k => B ≤ k ∧ k < z1) w' 3 pmC it.ps q1
 pb : 0 < it.ps.length → ∃ g cur, q1 = some ⟨g, 0, none⟩ ∧ w'.heap[g]? = some (.cells cur 62 (0, 0))
 ss : SlAt (fun k => z1 ≤ k ∧ k < z2) w' 2 rfC it.ss q2
 bd : ∃ n, SlA (RdA n) z2 z3 w' it.bd q3
 ds : SlAt (fun k => z3 ≤ k ∧ k < w'.heap.size) w' 4 dgC it.ds q4
set_option maxHeartbeats 2000000 in
set_option maxRecDepth 100000 in
theorem OwnA_any (it : It) (at_ : Int) (v : Value) (w : World) (ok : Nat → Prop) (hok : ∀ k, ok k → k < w.heap.size) (hsm : smL it.bd) (hI : RdI ok w at_ it v) :
  Calls Tryz.prog 25 #[v] w fun e w' => ∃ q1 e1 q2 e2 q3 e3 q4 e4 z1 z2 z3, e = .returned (.agg #[.int .i64 (it.k : Int), .string it.x, .int .i64 (it.l : Int), .slice q1 it.ps.length e1, .slice q2 it.ss.length e2, .slice q3 it.bd.length e3, .int .i64 at_, .int .i64 (it.sz : Int), .int .i64 (it.mrk : Int), .slice q4 it.ds.length e4]) ∧ OwnP it w.heap.size z1 z2 z3 q1 q2 q3 q4 w' ∧ Below w.heap.size w w' := by
 obtain ⟨p1, c1, p2, c2, p3, c3, p4, c4, rfl, hP, hS, ⟨n, hB⟩, hD⟩ := hI
 have hb0 := ((Below.refl w.heap.size w).alloc (Nat.le_refl _) (.cells #[.int .i64 (it.k : Int), .string it.x, .int .i64 (it.l : Int), .slice p1 it.ps.length c1, .slice p2 it.ss.length c2, .slice p3 it.bd.length c3, .int .i64 at_, .int .i64 (it.sz : Int), .int .i64 (it.mrk : Int), .slice p4 it.ds.length c4] 36)).alloc (by simp) (.cells #[.int .i64 0, .string ⟨#[]⟩, .int .i64 0, .slice none 0 0, .slice none 0 0, .slice none 0 0, .int .i64 0, .int .i64 0, .int .i64 0, .slice none 0 0] 36)
 have hx0 : Bx ((w.alloc (.cells #[.int .i64 (it.k : Int), .string it.x, .int .i64 (it.l : Int), .slice p1 it.ps.length c1, .slice p2 it.ss.length c2, .slice p3 it.bd.length c3, .int .i64 at_, .int .i64 (it.sz : Int), .int .i64 (it.mrk : Int), .slice p4 it.ds.length c4] 36)).alloc (.cells #[.int .i64 0, .string ⟨#[]⟩, .int .i64 0, .slice none 0 0, .slice none 0 0, .slice none 0 0, .int .i64 0, .int .i64 0, .int .i64 0, .slice none 0 0] 36)) w.heap.size #[.int .i64 (it.k : Int), .string it.x, .int .i64 (it.l : Int), .slice p1 it.ps.length c1, .slice p2 it.ss.length c2, .slice p3 it.bd.length c3, .int .i64 at_, .int .i64 (it.sz : Int), .int .i64 (it.mrk : Int), .slice p4 it.ds.length c4] := (Below.heap_alloc _ _ _ (by simp)).trans (heap_alloc_new w _)
 have hr0 : Bx ((w.alloc (.cells #[.int .i64 (it.k : Int), .string it.x, .int .i64 (it.l : Int), .slice p1 it.ps.length c1, .slice p2 it.ss.length c2, .slice p3 it.bd.length c3, .int .i64 at_, .int .i64 (it.sz : Int), .int .i64 (it.mrk : Int), .slice p4 it.ds.length c4] 36)).alloc (.cells #[.int .i64 0, .string ⟨#[]⟩, .int .i64 0, .slice none 0 0, .slice none 0 0, .slice none 0 0, .int .i64 0, .int .i64 0, .int .i64 0, .slice none 0 0] 36)) (w.heap.size + 1) #[.int .i64 0, .string ⟨#[]⟩, .int .i64 0, .slice none 0 0, .slice none 0 0, .slice none 0 0, .int .i64 0, .int .i64 0, .int .i64 0, .slice none 0 0] := by have h := heap_alloc_new (w.alloc (.cells #[.int .i64 (it.k : Int), .string it.x, .int .i64 (it.l : Int), .slice p1 it.ps.length c1, .slice p2 it.ss.length c2, .slice p3 it.bd.length c3, .int .i64 at_, .int .i64 (it.sz : Int), .int .i64 (it.mrk : Int), .slice p4 it.ds.length c4] 36)) (.cells #[.int .i64 0, .string ⟨#[]⟩, .int .i64 0, .slice none 0 0, .slice none 0 0, .slice none 0 0, .int .i64 0, .int .i64 0, .int .i64 0, .slice none 0 0] 36); rw [show (w.alloc (.cells #[.int .i64 (it.k : Int), .string it.x, .int .i64 (it.l : Int), .slice p1 it.ps.length c1, .slice p2 it.ss.length c2, .slice p3 it.bd.length c3, .int .i64 at_, .int .i64 (it.sz : Int), .int .i64 (it.mrk : Int), .slice p4 it.ds.length c4] 36)).heap.size = w.heap.size + 1 by simp] at h; exact h
 have hz0 : ((w.alloc (.cells #[.int .i64 (it.k : Int), .string it.x, .int .i64 (it.l : Int), .slice p1 it.ps.length c1, .slice p2 it.ss.length c2, .slice p3 it.bd.length c3, .int .i64 at_, .int .i64 (it.sz : Int), .int .i64 (it.mrk : Int), .slice p4 it.ds.length c4] 36)).alloc (.cells #[.int .i64 0, .string ⟨#[]⟩, .int .i64 0, .slice none 0 0, .slice none 0 0, .slice none 0 0, .int .i64 0, .int .i64 0, .int .i64 0, .slice none 0 0] 36)).heap.size = w.heap.size + 2 := by simp
 have HP := (hP.kept (w' := (w.alloc (.cells #[.int .i64 (it.k : Int), .string it.x, .int .i64 (it.l : Int), .slice p1 it.ps.length c1, .slice p2 it.ss.length c2, .slice p3 it.bd.length c3, .int .i64 at_, .int .i64 (it.sz : Int), .int .i64 (it.mrk : Int), .slice p4 it.ds.length c4] 36)).alloc (.cells #[.int .i64 0, .string ⟨#[]⟩, .int .i64 0, .slice none 0 0, .slice none 0 0, .slice none 0 0, .int .i64 0, .int .i64 0, .int .i64 0, .slice none 0 0] 36)) (fun k hk => hb0.block k (hok k hk)))
 have HOK : Hid (∀ W : World, w.heap.size ≤ W.heap.size → ∀ k, ok k → k < W.heap.size) := fun W hW k hk => Nat.lt_of_lt_of_le (hok k hk) hW
 have HSM : Hid (smL it.bd) := hsm
 have HS0 : Hid (∀ W, Below w.heap.size w W → SlAt ok W 2 rfC it.ss p2) := fun W hb => hS.kept (fun k hk => hb.block k (hok k hk))
 have HB0 : Hid (∀ W, Below w.heap.size w W → SlT ok (RdS n ok W) W 15 it.bd p3) := fun W hb => SlT.kept hB (fun k hk => hb.block k (hok k hk)) (fun _ h => h) (RdS.kept n (fun k hk => hb.block k (hok k hk)) (fun _ h => h))
 have HD0 : Hid (∀ W, Below w.heap.size w W → SlAt ok W 4 dgC it.ds p4) := fun W hb => hD.kept (fun k hk => hb.block k (hok k hk))
 have hne1 : w.heap.size + 1 ≠ w.heap.size := by omega
 have hn1 : ¬ w.heap.size = w.heap.size + 1 := by omega
 clear hP hS hB hD hsm
 go_enter Tryz.func25, Tryz.ntmps25
 go_wp2_with (first
  | (go_at_call 51; refine (clonePm_own it.ps p1 c1 _ ok HP).mono ?_; rintro e w1 ⟨q1, e1, rfl, s1, s1b, hb1⟩; obtain ⟨a0, a1, a2, a3, a4, a5, a6, a7, a8, a9, af⟩ := ten_at (hx0.call hb1); have hx1 := (hx0.call hb1).put 3 (.slice q1 it.ps.length e1); have hr1 := (hr0.call hb1).far hne1 3 (.slice q1 it.ps.length e1); have hB1 := below_put (hb0.trans (hb1.mono hb0.size)) (Nat.le_refl _) 3 (.slice q1 it.ps.length e1))
  | (go_at_call 52; refine (cloneRf_sl it.ss p2 c2 _ ok (HS0.out _ hB1)).mono ?_; rintro e w2 ⟨q2, e2, rfl, s2, hb2⟩; clear a0 a1 a2 a3 a4 a5 a6 a7 a8 a9 af; obtain ⟨a0, a1, a2, a3, a4, a5, a6, a7, a8, a9, af⟩ := ten_at (hx1.call hb2); have hx2 := (hx1.call hb2).put 4 (.slice q2 it.ss.length e2); have hr2 := (hr1.call hb2).far hne1 4 (.slice q2 it.ss.length e2); have hB2 := below_put (hB1.trans (hb2.mono hB1.size)) (Nat.le_refl _) 4 (.slice q2 it.ss.length e2))
  | (go_at_call 53; refine (ownStmtsA_any n it.bd p3 c3 _ ok (HOK.out _ hB2.size) HSM.out (HB0.out _ hB2)).mono ?_; rintro e w3 ⟨q3, e3, rfl, s3, hb3⟩; clear a0 a1 a2 a3 a4 a5 a6 a7 a8 a9 af; obtain ⟨a0, a1, a2, a3, a4, a5, a6, a7, a8, a9, af⟩ := ten_at (hx2.call hb3); have hx3 := (hx2.call hb3).put 5 (.slice q3 it.bd.length e3); have hr3 := (hr2.call hb3).far hne1 5 (.slice q3 it.bd.length e3); have hB3 := below_put (hB2.trans (hb3.mono hB2.size)) (Nat.le_refl _) 5 (.slice q3 it.bd.length e3))
  | (go_at_call 54; refine (cloneDg_sl it.ds p4 c4 _ ok (HD0.out _ hB3)).mono ?_; rintro e w4 ⟨q4, e4, rfl, s4, hb4⟩; clear a0 a1 a2 a3 a4 a5 a6 a7 a8 a9 af; obtain ⟨a0, a1, a2, a3, a4, a5, a6, a7, a8, a9, af⟩ := ten_at (hx3.call hb4); have hx4 := (hx3.call hb4).put 9 (.slice q4 it.ds.length e4); have hr4 := (hr3.call hb4).far hne1 9 (.slice q4 it.ds.length e4); have hB4 := below_put (hB3.trans (hb4.mono hB3.size)) (Nat.le_refl _) 9 (.slice q4 it.ds.length e4); obtain ⟨r0, r1, r2, r3, r4, r5, r6, r7, r8, r9, rf⟩ := ten_at (hr3.call hb4)))
 have z1 : w.heap.size + 2 ≤ w1.heap.size := by have := hb1.size; rw [hz0] at this; exact this
 have z2 : w1.heap.size ≤ w2.heap.size := by have := hb2.size; simpa using this
 have z3 : w2.heap.size ≤ w3.heap.size := by have := hb3.size; simpa using this
 have z4 : w3.heap.size ≤ w4.heap.size := by have := hb4.size; simpa using this
 refine bodyPost_ret (v := .agg #[.int .i64 (it.k : Int), .string it.x, .int .i64 (it.l : Int), .slice q1 it.ps.length e1, .slice q2 it.ss.length e2, .slice q3 it.bd.length e3, .int .i64 at_, .int .i64 (it.sz : Int), .int .i64 (it.mrk : Int), .slice q4 it.ds.length e4]) (by simp [results, Tryz.results25, go_sem, r0, r1, r2, r3, r4, r5, r6, r7, r8, r9]) rfl ⟨q1, e1, q2, e2, q3, e3, q4, e4, w1.heap.size, w2.heap.size, w3.heap.size, rfl, ?_, ?_⟩
 ·have f4 : ∀ k, w.heap.size + 2 ≤ k → k < w4.heap.size → (((((((((((w4.setCell ⟨w.heap.size, 9, none⟩ (.slice q4 it.ds.length e4)).setCell ⟨w.heap.size + 1, 0, none⟩ (.int .i64 (it.k : Int))).setCell ⟨w.heap.size + 1, 1, none⟩ (.string it.x)).setCell ⟨w.heap.size + 1, 2, none⟩ (.int .i64 (it.l : Int))).setCell ⟨w.heap.size + 1, 3, none⟩ (.slice q1 it.ps.length e1)).setCell ⟨w.heap.size + 1, 4, none⟩ (.slice q2 it.ss.length e2)).setCell ⟨w.heap.size + 1, 5, none⟩ (.slice q3 it.bd.length e3)).setCell ⟨w.heap.size + 1, 6, none⟩ (.int .i64 at_)).setCell ⟨w.heap.size + 1, 7, none⟩ (.int .i64 (it.sz : Int))).setCell ⟨w.heap.size + 1, 8, none⟩ (.int .i64 (it.mrk : Int))).setCell ⟨w.heap.size + 1, 9, none⟩ (.slice q4 it.ds.length e4)).heap[k]? = w4.heap[k]? := fun k h1 h2 => (ten_far (show k ≠ w.heap.size + 1 by omega) (.int .i64 (it.k : Int)) (.string it.x) (.int .i64 (it.l : Int)) (.slice q1 it.ps.length e1) (.slice q2 it.ss.length e2) (.slice q3 it.bd.length e3) (.int .i64 at_) (.int .i64 (it.sz : Int)) (.int .i64 (it.mrk : Int)) (.slice q4 it.ds.length e4)).trans (Below.heap_setCell _ _ _ k (show k ≠ w.heap.size by omega))
  have f3 : ∀ k, w.heap.size + 2 ≤ k → k < w3.heap.size → (((((((((((w4.setCell ⟨w.heap.size, 9, none⟩ (.slice q4 it.ds.length e4)).setCell ⟨w.heap.size + 1, 0, none⟩ (.int .i64 (it.k : Int))).setCell ⟨w.heap.size + 1, 1, none⟩ (.string it.x)).setCell ⟨w.heap.size + 1, 2, none⟩ (.int .i64 (it.l : Int))).setCell ⟨w.heap.size + 1, 3, none⟩ (.slice q1 it.ps.length e1)).setCell ⟨w.heap.size + 1, 4, none⟩ (.slice q2 it.ss.length e2)).setCell ⟨w.heap.size + 1, 5, none⟩ (.slice q3 it.bd.length e3)).setCell ⟨w.heap.size + 1, 6, none⟩ (.int .i64 at_)).setCell ⟨w.heap.size + 1, 7, none⟩ (.int .i64 (it.sz : Int))).setCell ⟨w.heap.size + 1, 8, none⟩ (.int .i64 (it.mrk : Int))).setCell ⟨w.heap.size + 1, 9, none⟩ (.slice q4 it.ds.length e4)).heap[k]? = w3.heap[k]? := fun k h1 h2 => (f4 k h1 (by omega)).trans ((hb4.block k (by simpa using h2)).trans (Below.heap_setCell _ _ _ k (show k ≠ w.heap.size by omega)))
  have f2 : ∀ k, w.heap.size + 2 ≤ k → k < w2.heap.size → (((((((((((w4.setCell ⟨w.heap.size, 9, none⟩ (.slice q4 it.ds.length e4)).setCell ⟨w.heap.size + 1, 0, none⟩ (.int .i64 (it.k : Int))).setCell ⟨w.heap.size + 1, 1, none⟩ (.string it.x)).setCell ⟨w.heap.size + 1, 2, none⟩ (.int .i64 (it.l : Int))).setCell ⟨w.heap.size + 1, 3, none⟩ (.slice q1 it.ps.length e1)).setCell ⟨w.heap.size + 1, 4, none⟩ (.slice q2 it.ss.length e2)).setCell ⟨w.heap.size + 1, 5, none⟩ (.slice q3 it.bd.length e3)).setCell ⟨w.heap.size + 1, 6, none⟩ (.int .i64 at_)).setCell ⟨w.heap.size + 1, 7, none⟩ (.int .i64 (it.sz : Int))).setCell ⟨w.heap.size + 1, 8, none⟩ (.int .i64 (it.mrk : Int))).setCell ⟨w.heap.size + 1, 9, none⟩ (.slice q4 it.ds.length e4)).heap[k]? = w2.heap[k]? := fun k h1 h2 => (f3 k h1 (by omega)).trans ((hb3.block k (by simpa using h2)).trans (Below.heap_setCell _ _ _ k (show k ≠ w.heap.size by omega)))
  have f1 : ∀ k, w.heap.size + 2 ≤ k → k < w1.heap.size → (((((((((((w4.setCell ⟨w.heap.size, 9, none⟩ (.slice q4 it.ds.length e4)).setCell ⟨w.heap.size + 1, 0, none⟩ (.int .i64 (it.k : Int))).setCell ⟨w.heap.size + 1, 1, none⟩ (.string it.x)).setCell ⟨w.heap.size + 1, 2, none⟩ (.int .i64 (it.l : Int))).setCell ⟨w.heap.size + 1, 3, none⟩ (.slice q1 it.ps.length e1)).setCell ⟨w.heap.size + 1, 4, none⟩ (.slice q2 it.ss.length e2)).setCell ⟨w.heap.size + 1, 5, none⟩ (.slice q3 it.bd.length e3)).setCell ⟨w.heap.size + 1, 6, none⟩ (.int .i64 at_)).setCell ⟨w.heap.size + 1, 7, none⟩ (.int .i64 (it.sz : Int))).setCell ⟨w.heap.size + 1, 8, none⟩ (.int .i64 (it.mrk : Int))).setCell ⟨w.heap.size + 1, 9, none⟩ (.slice q4 it.ds.length e4)).heap[k]? = w1.heap[k]? := fun k h1 h2 => (f2 k h1 (by omega)).trans ((hb2.block k (by simpa using h2)).trans (Below.heap_setCell _ _ _ k (show k ≠ w.heap.size by omega)))
  have hsz : (((((((((((w4.setCell ⟨w.heap.size, 9, none⟩ (.slice q4 it.ds.length e4)).setCell ⟨w.heap.size + 1, 0, none⟩ (.int .i64 (it.k : Int))).setCell ⟨w.heap.size + 1, 1, none⟩ (.string it.x)).setCell ⟨w.heap.size + 1, 2, none⟩ (.int .i64 (it.l : Int))).setCell ⟨w.heap.size + 1, 3, none⟩ (.slice q1 it.ps.length e1)).setCell ⟨w.heap.size + 1, 4, none⟩ (.slice q2 it.ss.length e2)).setCell ⟨w.heap.size + 1, 5, none⟩ (.slice q3 it.bd.length e3)).setCell ⟨w.heap.size + 1, 6, none⟩ (.int .i64 at_)).setCell ⟨w.heap.size + 1, 7, none⟩ (.int .i64 (it.sz : Int))).setCell ⟨w.heap.size + 1, 8, none⟩ (.int .i64 (it.mrk : Int))).setCell ⟨w.heap.size + 1, 9, none⟩ (.slice q4 it.ds.length e4)).heap.size = w4.heap.size := by simp
  generalize (((((((((((w4.setCell ⟨w.heap.size, 9, none⟩ (.slice q4 it.ds.length e4)).setCell ⟨w.heap.size + 1, 0, none⟩ (.int .i64 (it.k : Int))).setCell ⟨w.heap.size + 1, 1, none⟩ (.string it.x)).setCell ⟨w.heap.size + 1, 2, none⟩ (.int .i64 (it.l : Int))).setCell ⟨w.heap.size + 1, 3, none⟩ (.slice q1 it.ps.length e1)).setCell ⟨w.heap.size + 1, 4, none⟩ (.slice q2 it.ss.length e2)).setCell ⟨w.heap.size + 1, 5, none⟩ (.slice q3 it.bd.length e3)).setCell ⟨w.heap.size + 1, 6, none⟩ (.int .i64 at_)).setCell ⟨w.heap.size + 1, 7, none⟩ (.int .i64 (it.sz : Int))).setCell ⟨w.heap.size + 1, 8, none⟩ (.int .i64 (it.mrk : Int))).setCell ⟨w.heap.size + 1, 9, none⟩ (.slice q4 it.ds.length e4)) = W at *
  rw [hz0] at s1
  have t2 : (w1.setCell ⟨w.heap.size, 3, none⟩ (.slice q1 it.ps.length e1)).heap.size = w1.heap.size := by simp
  have t3 : (w2.setCell ⟨w.heap.size, 4, none⟩ (.slice q2 it.ss.length e2)).heap.size = w2.heap.size := by simp
  have t4 : (w3.setCell ⟨w.heap.size, 5, none⟩ (.slice q3 it.bd.length e3)).heap.size = w3.heap.size := by simp
  rw [t2] at s2
  rw [t3] at s3
  rw [t4] at s4
  refine ⟨by omega, z2, z3, by omega, (s1.kept (fun k hk => f1 k hk.1 hk.2)).wide (fun k hk => ⟨by omega, by omega⟩), fun h => ?_, s2.kept (fun k hk => f2 k (by omega) hk.2), ⟨n, s3.kept (fun k a b => f3 k (by omega) b) (fun lo' hi' a b => RdA.kept n (fun k c d => f3 k (by omega) (by omega)))⟩, (s4.kept (fun k hk => f4 k (by omega) hk.2)).wide (fun k hk => ⟨by omega, by omega⟩)⟩
  obtain ⟨g, cur, h1, h2⟩ := s1b h
  obtain ⟨g', h3, h4, _⟩ := s1.2 h
  rw [h1] at h3
  injection h3 with h3
  injection h3 with h3
  subst h3
  exact ⟨g, cur, h1, (f1 g h4.1 h4.2).trans h2⟩
 ·exact (below_put (below_put (below_put (below_put (below_put (below_put (below_put (below_put (below_put (below_put hB4 (by omega) 0 (.int .i64 (it.k : Int))) (by omega) 1 (.string it.x)) (by omega) 2 (.int .i64 (it.l : Int))) (by omega) 3 (.slice q1 it.ps.length e1)) (by omega) 4 (.slice q2 it.ss.length e2)) (by omega) 5 (.slice q3 it.bd.length e3)) (by omega) 6 (.int .i64 at_)) (by omega) 7 (.int .i64 (it.sz : Int))) (by omega) 8 (.int .i64 (it.mrk : Int))) (by omega) 9 (.slice q4 it.ds.length e4))
end Go.Proofs.YtdkpfnohdknldaaGreatDoor
namespace Go.Proofs.YtdkpfnohdknldaaGreatDoor
open Go.RowKit
set_option linter.unusedVariables false
attribute [local go_sem ↓] Go.wp_at_zero Go.wp_at_succ
def topP (p : Pm) : Pm := ⟨p.x, 255, p.a⟩
def topI (it : It) : It := ⟨it.k, it.x, 255, it.ps.map topP, it.ss, it.bd.map topX, it.sz, it.mrk, it.ds⟩
def topE (e : Int × It) : Int × It := (e.1, topI e.2)
theorem hit_memT {l : List (Int × It)} {kd : Nat} {x : ByteArray} {e : Int × It} (h : hit l kd x = some e) : e ∈ l := by
 unfold hit at h
 split at h
 ·cases h
 ·exact List.mem_of_getElem? h
theorem ch_top (l : List (Int × It)) (x : ByteArray) (b : Nat) (h : chL (l.map topE) x = some b) : b = 255 := by
 unfold chL at h
 obtain ⟨e, h1, rfl⟩ := Option.map_eq_some_iff.1 h
 obtain ⟨e', _, rfl⟩ := List.mem_map.1 (hit_memT h1)
 rfl
theorem flS_top (l : List (Int × It)) (ss : List Rf) : flS (l.map topE) ss = 255 := by
 rw [flS_eq]
 induction ss with
 | nil => rfl
 | cons r ss ih =>
  rw [List.foldl_cons]
  have e : flP (l.map topE) 255 r = 255 := by
   unfold flP
   cases h : chL (l.map topE) r.x with
   | none => rfl
   | some b => rw [ch_top l r.x b h]; rfl
  rw [e]
  exact ih
theorem all_top (l : List (Int × It)) : AllTop (l.map topE) (flA (l.map topE)) := by
 refine ⟨fun x p hp => ?_, ch_top l, fun x => ?_⟩
 ·unfold fnP at hp
  split at hp
  next e h =>
   obtain ⟨e', _, rfl⟩ := List.mem_map.1 (hit_memT h)
   obtain ⟨p', _, rfl⟩ := List.mem_map.1 hp
   rfl
  next => cases hp
 ·unfold fnF
  split
  ·rfl
  ·rw [List.getD_eq_getElem?_getD]
   unfold flA
   rw [List.getElem?_map]
   cases (l.map topE)[(fnd (l.map topE) 2 x).toNat]? with
   | none => rfl
   | some e =>
    show flI _ e.2 = 255
    unfold flI
    split
    ·exact flS_top l _
    ·rfl
theorem top_none {l : List (Int × It)} {i : Nat} {e : Int × It} (h : l[i]? = some e) (hn : noL (evI l i) = []) : noF (fvJ (l.map topE) (flA (l.map topE)) i) = [] :=
 top_item (q' := topE e) (all_top l) h (by rw [List.getElem?_map, h]; rfl) rfl rfl ⟨by show e.2.ps.length = (e.2.ps.map topP).length; rw [List.length_map], fun j a b h1 h2 => by
  have h3 : (e.2.ps.map topP)[j]? = some b := h2
  rw [List.getElem?_map, h1] at h3
  injection h3 with h3
  subst h3
  exact ⟨rfl, rfl⟩⟩ rfl hn
theorem wfL_top {P : Nat → Tr → Prop} (h : ∀ c a, P c a → P c (topX a)) : ∀ (l : List Tr) (c : Nat), wfL P c l → wfL P c (l.map topX) := by
 intro l
 induction l with
 | nil => intro c _; trivial
 | cons a r ih =>
  rintro c ⟨c1, c2, h1, h2, h3⟩
  exact ⟨c1, c2, h1, h c1 a h2, ih c2 h3⟩
theorem cw_top {T : List Tok} (n : Nat) : ∀ (c : Nat) (s : Tr), cwS T n c s → cwS T n c (topX s) := by
 induction n with
 | zero => intro c s h; exact h.elim
 | succ n ih =>
  rintro c s ⟨k, x, a, lb, o, e, th, el, f, t, ce, ct, cl, rfl, he, ht, hl, h1, h2⟩
  rw [topX_mk]
  exact ⟨k, x, a, 255, false, e, th.map topX, el.map topX, f, t, ce, ct, cl, rfl, he, wfL_top ih th ct ht, wfL_top ih el cl hl, h1, h2⟩
theorem cw_topL {l : List (Int × It)} (h : ∀ (i : Nat) (p : Int) (it : It), l[i]? = some (p, it) → ∃ T m, wfL (cwS T m) T.length it.bd ∧ T.length ≤ 1000000) : ∀ (i : Nat) (p : Int) (it : It), (l.map topE)[i]? = some (p, it) → ∃ T m, wfL (cwS T m) T.length it.bd ∧ T.length ≤ 1000000 := by
 intro i p it hi
 rw [List.getElem?_map] at hi
 obtain ⟨e, h1, h2⟩ := Option.map_eq_some_iff.1 hi
 obtain ⟨p', it'⟩ := e
 obtain ⟨T, m, h3, h4⟩ := h i p' it' h1
 have e2 : it.bd = it'.bd.map topX := by
  injection h2 with h2 h5
  rw [← h5]; rfl
 rw [e2]
 exact ⟨T, m, wfL_top (cw_top m) _ _ h3, h4⟩
def PmK (ps : List Pm) (k : Nat) (L : List Pm) : Prop := L.length = ps.length ∧ ∀ j, L[j]? = if j < k then (ps[j]?).map topP else ps[j]?
theorem PmK.start (ps : List Pm) : PmK ps 0 ps := ⟨rfl, fun j => by rw [if_neg (by omega)]⟩
theorem PmK.next {ps L : List Pm} {k : Nat} {p : Pm} (h : PmK ps k L) (hp : ps[k]? = some p) : PmK ps (k + 1) (L.set k (topP p)) := by
 refine ⟨by rw [List.length_set]; exact h.1, fun j => ?_⟩
 have hk := (List.getElem?_eq_some_iff.1 hp).1
 rw [List.getElem?_set]
 by_cases hjk : k = j
 ·subst hjk
  rw [if_pos rfl, if_pos (by rw [h.1]; exact hk), if_pos (by omega), hp]
  rfl
 ·rw [if_neg hjk, h.2 j]
  by_cases hl : j < k
  ·rw [if_pos hl, if_pos (by omega)]
  ·rw [if_neg hl, if_neg (by omega)]
theorem PmK.done {ps L : List Pm} (h : PmK ps ps.length L) : L = ps.map topP := by
 apply List.ext_getElem?
 intro j
 rw [h.2 j, List.getElem?_map]
 by_cases hl : j < ps.length
 ·rw [if_pos hl]
 ·rw [if_neg hl, List.getElem?_eq_none (by omega)]
  rfl
theorem PmK.at {ps L : List Pm} {k : Nat} {p : Pm} (h : PmK ps k L) (hp : ps[k]? = some p) : L[k]? = some p := by rw [h.2 k, if_neg (by omega), hp]
theorem pm_set {ok : Nat → Prop} {w : World} {L : List Pm} {g k : Nat} {p : Pm} (h : SlAt ok w 3 pmC L (some ⟨g, 0, none⟩)) (hk : L[k]? = some p) : SlAt ok (w.setCell ⟨g, k * 3 + 1, none⟩ (.int .i64 255)) 3 pmC (L.set k (topP p)) (some ⟨g, 0, none⟩) := by
 have hl := (List.getElem?_eq_some_iff.1 hk).1
 refine ⟨by rw [List.length_set]; exact h.1, fun _ => ?_⟩
 obtain ⟨g', e1, e2, e3⟩ := h.2 (by omega)
 injection e1 with e1
 injection e1 with e1
 subst e1
 refine ⟨g, rfl, e2, fun j t hj i u hi => ?_⟩
 have c1 := e3 k p hk 1 (.int .i64 (p.l : Int)) rfl
 rw [List.getElem?_set] at hj
 by_cases hjk : k = j
 ·subst hjk
  rw [if_pos rfl, if_pos hl] at hj
  injection hj with hj
  subst hj
  by_cases hi1 : i = 1
  ·subst hi1
   have hu : u = .int .i64 ((255 : Nat) : Int) := by simpa [pmC, topP] using hi.symm
   rw [hu]
   exact World.cell?_setCell_same _ _ _ c1
  ·rw [World.cell?_setCell_other _ _ _ _ (by intro e; simp only [Addr.mk.injEq] at e; omega)]
   refine e3 k p hk i u ?_
   match i, hi1, hi with
   | 0, _, hi => exact hi
   | 2, _, hi => exact hi
   | i + 3, _, hi => simp [pmC] at hi
 ·rw [if_neg hjk] at hj
  have hi3 : i < 3 := by have := (List.getElem?_eq_some_iff.1 hi).1; simpa [pmC] using this
  rw [World.cell?_setCell_other _ _ _ _ (by intro e; simp only [Addr.mk.injEq] at e; omega)]
  exact e3 j t hj i u hi
structure PmR (ps : List Pm) (B z : Nat) (q : Option Addr) (W : World) (k : Nat) (wr : World) : Prop where
 l : ∃ L, PmK ps k L ∧ SlAt (fun k => B ≤ k ∧ k < z) wr 3 pmC L q
 b : 0 < ps.length → ∃ g cur, q = some ⟨g, 0, none⟩ ∧ B ≤ g ∧ g < z ∧ wr.heap[g]? = some (.cells cur 62 (0, 0))
 o : Outs B z W wr
theorem PmR.next {ps : List Pm} {B z g k : Nat} {W wr : World} {p : Pm} (h : PmR ps B z (some ⟨g, 0, none⟩) W k wr) (hp : ps[k]? = some p) : PmR ps B z (some ⟨g, 0, none⟩) W (k + 1) (wr.setCell ⟨g, k * 3 + 1, none⟩ (.int .i64 255)) := by
 have hl := (List.getElem?_eq_some_iff.1 hp).1
 obtain ⟨L, h1, h2⟩ := h.l
 obtain ⟨g', cur, e1, e2, e3, e4⟩ := h.b (by omega)
 injection e1 with e1
 injection e1 with e1
 subst e1
 refine ⟨⟨_, h1.next hp, pm_set h2 (h1.at hp)⟩, fun _ => ⟨g, cur.setIfInBounds (k * 3 + 1) (.int .i64 255), rfl, e2, e3, by simp [World.setCell, Array.getElem?_modify, e4]⟩, h.o.os, h.o.tape, h.o.output, by simpa using h.o.size, fun z2 hz => (Below.heap_setCell _ _ _ z2 (by show z2 ≠ g; omega)).trans (h.o.block z2 hz)⟩
end Go.Proofs.YtdkpfnohdknldaaGreatDoor

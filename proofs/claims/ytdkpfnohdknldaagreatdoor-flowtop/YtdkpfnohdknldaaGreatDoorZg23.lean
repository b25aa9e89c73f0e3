/- Texts of this seat, one behind the other: RnLook, RnSame, RnUses. -/
import Derived.Test.YtdkpfnohdknldaaGreatDoorZg22
import Derived.Laws.AppendOwnNone
import Derived.Maps.AppendAt
import Derived.Test.YtdkpfnohdknldaaGreatDoorZhLawNUses
namespace Go.Proofs.YtdkpfnohdknldaaGreatDoor
open Go.RowKit Go.WideMaps Go.Maps
set_option linter.unusedVariables false
attribute [local go_sem ↓] Go.wp_at_zero Go.wp_at_succ
def RelL2 (bn : Nat) (l : List (Int × It)) (i : Nat) (p : Int) (fq : Option Addr) (fc : Nat) (D0 U0 : Option Nat) (W : World) (M : Nat → List Ev) (env : Env) (be bh : Nat) (ss : List Rf) (j : Value) (wr : World) : Prop := ∃ k : Nat, k ≤ ss.length ∧ j = .int .i64 (k : Int) ∧ ∃ D U, RS bn l i p fq fc wr (M k) D U ∧ Stq bn D0 U0 D U W wr ∧ MpAt wr be p env ∧ okQ bn D U wr be ∧ HdAt wr bh ss k ∧ okQ bn D U wr bh ∧ be ≠ bh
set_option maxHeartbeats 16000000 in
set_option maxRecDepth 100000 in
theorem rn_look (l : List (Int × It)) (q : Option Addr) (c : Nat) (w : World) (ok : Nat → Prop) (hok : ∀ k, ok k → k < w.heap.size) (hR : RdF ok w l (.agg #[.slice q l.length c])) (i : Nat) (p : Int) (it : It) (hi : l[i]? = some (p, it)) (T : List Tok) (hw : WfI T it) (hT : T.length ≤ 1000000) (hn : (evI l i).length < 1099511627776) :
  Calls Tryz.prog 27 #[.agg #[.slice q l.length c], .int .i64 (i : Int)] w fun e w' => e = .returned (.pointer (some ⟨w.heap.size + 1, 0, none⟩)) ∧ (∃ D U, RS (w.heap.size + 1) l i p q c w' (evI l i) D U) ∧ Below w.heap.size w w' := by
 have hmm := @run_makeMap Tryz.prog
 have hil := (List.getElem?_eq_some_iff.1 hi).1
 have hev : evI l i = (if it.k ≠ 3 ∧ 0 ≤ fnd l it.k it.x ∧ fnd l it.k it.x < (i : Int) then [evNo 7 it.x it.mrk] else []) ++ (if it.k = 2 then evF l p it else []) := by unfold evI; rw [hi]
 rw [hev] at hn ⊢
 have hself := fun hx => fnd_self hi hx
 have hlen : l.length ≤ 1099511627776 := by obtain ⟨_, _, _, h, _⟩ := hR; exact h
 obtain ⟨q', c', hqq, _, hits⟩ := id hR
 have hqe : q = q' := by
  injection hqq with hqq; have hqq : Value.slice q l.length c = Value.slice q' l.length c' := by simpa using hqq
  injection hqq
 obtain ⟨g, hg, hgo, hIs⟩ := hits (by omega)
 have hqg : q = some ⟨g, 0, none⟩ := hqe.trans hg
 obtain ⟨v, hcv, hI⟩ := hIs i _ hi
 obtain ⟨p1, c1, p2, c2, p3, c3, p4, c4, rfl, hP, hS, ⟨nb, hB⟩, _⟩ := hI
 have i0 := cell_alloc (cell_alloc (hcv.get 0 _ rfl) (.cells #[.slice q l.length c] 25)) (.cells #[.slice q l.length c, .int .i64 (i : Int), .slice none 0 0, .slice none 0 0] 68)
 have i1 := cell_alloc (cell_alloc (hcv.get 1 _ rfl) (.cells #[.slice q l.length c] 25)) (.cells #[.slice q l.length c, .int .i64 (i : Int), .slice none 0 0, .slice none 0 0] 68)
 have i2 := cell_alloc (cell_alloc (hcv.get 2 _ rfl) (.cells #[.slice q l.length c] 25)) (.cells #[.slice q l.length c, .int .i64 (i : Int), .slice none 0 0, .slice none 0 0] 68)
 have i3 := cell_alloc (cell_alloc (hcv.get 3 _ rfl) (.cells #[.slice q l.length c] 25)) (.cells #[.slice q l.length c, .int .i64 (i : Int), .slice none 0 0, .slice none 0 0] 68)
 have i4 := cell_alloc (cell_alloc (hcv.get 4 _ rfl) (.cells #[.slice q l.length c] 25)) (.cells #[.slice q l.length c, .int .i64 (i : Int), .slice none 0 0, .slice none 0 0] 68)
 have i5 := cell_alloc (cell_alloc (hcv.get 5 _ rfl) (.cells #[.slice q l.length c] 25)) (.cells #[.slice q l.length c, .int .i64 (i : Int), .slice none 0 0, .slice none 0 0] 68)
 have i6 := cell_alloc (cell_alloc (hcv.get 6 _ rfl) (.cells #[.slice q l.length c] 25)) (.cells #[.slice q l.length c, .int .i64 (i : Int), .slice none 0 0, .slice none 0 0] 68)
 have i7 := cell_alloc (cell_alloc (hcv.get 7 _ rfl) (.cells #[.slice q l.length c] 25)) (.cells #[.slice q l.length c, .int .i64 (i : Int), .slice none 0 0, .slice none 0 0] 68)
 have i8 := cell_alloc (cell_alloc (hcv.get 8 _ rfl) (.cells #[.slice q l.length c] 25)) (.cells #[.slice q l.length c, .int .i64 (i : Int), .slice none 0 0, .slice none 0 0] 68)
 have i9 := cell_alloc (cell_alloc (hcv.get 9 _ rfl) (.cells #[.slice q l.length c] 25)) (.cells #[.slice q l.length c, .int .i64 (i : Int), .slice none 0 0, .slice none 0 0] 68)
 rw [Nat.add_zero] at i0
 have gk : (0 : Int) ≤ (i : Int) := by omega
 have gk1 : (i : Int) < (l.length : Int) := by omega
 have hib : i < 1099511627776 := by omega
 have hb1 := (Below.refl w.heap.size w).alloc (Nat.le_refl _) (.cells #[.slice q l.length c] 25)
 have hb2 := hb1.alloc (by simp) (.cells #[.slice q l.length c, .int .i64 (i : Int), .slice none 0 0, .slice none 0 0] 68)
 have hb3 := hb2.alloc (by simp; omega) (.cells #[.int .i64 (it.k : Int), .string it.x, .int .i64 (it.l : Int), .slice p1 it.ps.length c1, .slice p2 it.ss.length c2, .slice p3 it.bd.length c3, .int .i64 p, .int .i64 (it.sz : Int), .int .i64 (it.mrk : Int), .slice p4 it.ds.length c4] 36)
 have e1 : (w.alloc (.cells #[.slice q l.length c] 25)).heap.size = w.heap.size + 1 := by simp
 have e2 : ((w.alloc (.cells #[.slice q l.length c] 25)).alloc (.cells #[.slice q l.length c, .int .i64 (i : Int), .slice none 0 0, .slice none 0 0] 68)).heap.size = w.heap.size + 2 := by simp
 have e3 : (((w.alloc (.cells #[.slice q l.length c] 25)).alloc (.cells #[.slice q l.length c, .int .i64 (i : Int), .slice none 0 0, .slice none 0 0] 68)).alloc (.cells #[.int .i64 (it.k : Int), .string it.x, .int .i64 (it.l : Int), .slice p1 it.ps.length c1, .slice p2 it.ss.length c2, .slice p3 it.bd.length c3, .int .i64 p, .int .i64 (it.sz : Int), .int .i64 (it.mrk : Int), .slice p4 it.ds.length c4] 36)).heap.size = w.heap.size + 3 := by simp
 have hnn := heap_alloc_new (w.alloc (.cells #[.slice q l.length c] 25)) (.cells #[.slice q l.length c, .int .i64 (i : Int), .slice none 0 0, .slice none 0 0] 68)
 rw [e1] at hnn
 have hnn := (Below.heap_alloc ((w.alloc (.cells #[.slice q l.length c] 25)).alloc (.cells #[.slice q l.length c, .int .i64 (i : Int), .slice none 0 0, .slice none 0 0] 68)) (.cells #[.int .i64 (it.k : Int), .string it.x, .int .i64 (it.l : Int), .slice p1 it.ps.length c1, .slice p2 it.ss.length c2, .slice p3 it.bd.length c3, .int .i64 p, .int .i64 (it.sz : Int), .int .i64 (it.mrk : Int), .slice p4 it.ds.length c4] 36) (w.heap.size + 1) (by omega)).trans hnn
 have hii := heap_alloc_new ((w.alloc (.cells #[.slice q l.length c] 25)).alloc (.cells #[.slice q l.length c, .int .i64 (i : Int), .slice none 0 0, .slice none 0 0] 68)) (.cells #[.int .i64 (it.k : Int), .string it.x, .int .i64 (it.l : Int), .slice p1 it.ps.length c1, .slice p2 it.ss.length c2, .slice p3 it.bd.length c3, .int .i64 p, .int .i64 (it.sz : Int), .int .i64 (it.mrk : Int), .slice p4 it.ds.length c4] 36)
 rw [e2] at hii
 have hff : (((w.alloc (.cells #[.slice q l.length c] 25)).alloc (.cells #[.slice q l.length c, .int .i64 (i : Int), .slice none 0 0, .slice none 0 0] 68)).alloc (.cells #[.int .i64 (it.k : Int), .string it.x, .int .i64 (it.l : Int), .slice p1 it.ps.length c1, .slice p2 it.ss.length c2, .slice p3 it.bd.length c3, .int .i64 p, .int .i64 (it.sz : Int), .int .i64 (it.mrk : Int), .slice p4 it.ds.length c4] 36)).cell? ⟨w.heap.size, 0, none⟩ = some (.slice q l.length c) := cell_alloc (cell_alloc (cell_of_row _ _ 0 _ _ _ (heap_alloc_new w (.cells #[.slice q l.length c] 25))) (.cells #[.slice q l.length c, .int .i64 (i : Int), .slice none 0 0, .slice none 0 0] 68)) (.cells #[.int .i64 (it.k : Int), .string it.x, .int .i64 (it.l : Int), .slice p1 it.ps.length c1, .slice p2 it.ss.length c2, .slice p3 it.bd.length c3, .int .i64 p, .int .i64 (it.sz : Int), .int .i64 (it.mrk : Int), .slice p4 it.ds.length c4] 36)
 have hRW : RdF (fun k => k < w.heap.size + 1) (((w.alloc (.cells #[.slice q l.length c] 25)).alloc (.cells #[.slice q l.length c, .int .i64 (i : Int), .slice none 0 0, .slice none 0 0] 68)).alloc (.cells #[.int .i64 (it.k : Int), .string it.x, .int .i64 (it.l : Int), .slice p1 it.ps.length c1, .slice p2 it.ss.length c2, .slice p3 it.bd.length c3, .int .i64 p, .int .i64 (it.sz : Int), .int .i64 (it.mrk : Int), .slice p4 it.ds.length c4] 36)) l (.agg #[.slice q l.length c]) := RdF.kept hR (fun k hk => hb3.block k (hok k hk)) (fun k hk => Nat.lt_succ_of_lt (hok k hk))
 have hs0 : RS (w.heap.size + 1) l i p q c (((w.alloc (.cells #[.slice q l.length c] 25)).alloc (.cells #[.slice q l.length c, .int .i64 (i : Int), .slice none 0 0, .slice none 0 0] 68)).alloc (.cells #[.int .i64 (it.k : Int), .string it.x, .int .i64 (it.l : Int), .slice p1 it.ps.length c1, .slice p2 it.ss.length c2, .slice p3 it.bd.length c3, .int .i64 p, .int .i64 (it.sz : Int), .int .i64 (it.mrk : Int), .slice p4 it.ds.length c4] 36)) [] none none := ⟨⟨_, _, hnn, World.ownsRow_nil _ _ _ _, rfl, World.ownsRow_nil _ _ _ _, rfl, hRW⟩, (fun k e => by cases e), it, hi⟩
 obtain ⟨t0, t1, t2, t3, t4, t5, t6, t7, t8, t9, _⟩ := ten_at hii
 have hf3 : okQ (w.heap.size + 1) none none (((w.alloc (.cells #[.slice q l.length c] 25)).alloc (.cells #[.slice q l.length c, .int .i64 (i : Int), .slice none 0 0, .slice none 0 0] 68)).alloc (.cells #[.int .i64 (it.k : Int), .string it.x, .int .i64 (it.l : Int), .slice p1 it.ps.length c1, .slice p2 it.ss.length c2, .slice p3 it.bd.length c3, .int .i64 p, .int .i64 (it.sz : Int), .int .i64 (it.mrk : Int), .slice p4 it.ds.length c4] 36)) (w.heap.size + 2) := ⟨by omega, by rw [e3]; omega, (fun e => by cases e), (fun e => by cases e)⟩
 have HFi := hid (rn_find l _ (it.k : Int) it.x (((w.alloc (.cells #[.slice q l.length c] 25)).alloc (.cells #[.slice q l.length c, .int .i64 (i : Int), .slice none 0 0, .slice none 0 0] 68)).alloc (.cells #[.int .i64 (it.k : Int), .string it.x, .int .i64 (it.l : Int), .slice p1 it.ps.length c1, .slice p2 it.ss.length c2, .slice p3 it.bd.length c3, .int .i64 p, .int .i64 (it.sz : Int), .int .i64 (it.mrk : Int), .slice p4 it.ds.length c4] 36)) (fun k => k < w.heap.size + 1) (fun k hk => by rw [e3]; omega) hRW)
 have hPW : SlAt (fun k => k < w.heap.size + 1) (((w.alloc (.cells #[.slice q l.length c] 25)).alloc (.cells #[.slice q l.length c, .int .i64 (i : Int), .slice none 0 0, .slice none 0 0] 68)).alloc (.cells #[.int .i64 (it.k : Int), .string it.x, .int .i64 (it.l : Int), .slice p1 it.ps.length c1, .slice p2 it.ss.length c2, .slice p3 it.bd.length c3, .int .i64 p, .int .i64 (it.sz : Int), .int .i64 (it.mrk : Int), .slice p4 it.ds.length c4] 36)) 3 pmC it.ps p1 := (hP.kept (fun k hk => hb3.block k (hok k hk))).wide (fun k hk => Nat.lt_succ_of_lt (hok k hk))
 have hSW : SlAt (fun k => k < w.heap.size + 1) (((w.alloc (.cells #[.slice q l.length c] 25)).alloc (.cells #[.slice q l.length c, .int .i64 (i : Int), .slice none 0 0, .slice none 0 0] 68)).alloc (.cells #[.int .i64 (it.k : Int), .string it.x, .int .i64 (it.l : Int), .slice p1 it.ps.length c1, .slice p2 it.ss.length c2, .slice p3 it.bd.length c3, .int .i64 p, .int .i64 (it.sz : Int), .int .i64 (it.mrk : Int), .slice p4 it.ds.length c4] 36)) 2 rfC it.ss p2 := (hS.kept (fun k hk => hb3.block k (hok k hk))).wide (fun k hk => Nat.lt_succ_of_lt (hok k hk))
 have hBW : SlT (fun k => k < w.heap.size + 1) (RdS nb (fun k => k < w.heap.size + 1) (((w.alloc (.cells #[.slice q l.length c] 25)).alloc (.cells #[.slice q l.length c, .int .i64 (i : Int), .slice none 0 0, .slice none 0 0] 68)).alloc (.cells #[.int .i64 (it.k : Int), .string it.x, .int .i64 (it.l : Int), .slice p1 it.ps.length c1, .slice p2 it.ss.length c2, .slice p3 it.bd.length c3, .int .i64 p, .int .i64 (it.sz : Int), .int .i64 (it.mrk : Int), .slice p4 it.ds.length c4] 36))) (((w.alloc (.cells #[.slice q l.length c] 25)).alloc (.cells #[.slice q l.length c, .int .i64 (i : Int), .slice none 0 0, .slice none 0 0] 68)).alloc (.cells #[.int .i64 (it.k : Int), .string it.x, .int .i64 (it.l : Int), .slice p1 it.ps.length c1, .slice p2 it.ss.length c2, .slice p3 it.bd.length c3, .int .i64 p, .int .i64 (it.sz : Int), .int .i64 (it.mrk : Int), .slice p4 it.ds.length c4] 36)) 15 it.bd p3 := hB.kept (fun k hk => hb3.block k (hok k hk)) (fun k hk => Nat.lt_succ_of_lt (hok k hk)) (RdS.kept nb (fun k hk => hb3.block k (hok k hk)) (fun k hk => Nat.lt_succ_of_lt (hok k hk)))
 have HZ := hid (And.intro hs0 (And.intro hf3 (And.intro hPW (And.intro hSW hBW))))
 have HB := hid hb3
 have HWF := hid hw
 have HBl : Hid (∀ (w' : World) (D U : Option Nat), Stq (w.heap.size + 1) none none D U (((w.alloc (.cells #[.slice q l.length c] 25)).alloc (.cells #[.slice q l.length c, .int .i64 (i : Int), .slice none 0 0, .slice none 0 0] 68)).alloc (.cells #[.int .i64 (it.k : Int), .string it.x, .int .i64 (it.l : Int), .slice p1 it.ps.length c1, .slice p2 it.ss.length c2, .slice p3 it.bd.length c3, .int .i64 p, .int .i64 (it.sz : Int), .int .i64 (it.mrk : Int), .slice p4 it.ds.length c4] 36)) w' → Below w.heap.size w w') := fun w' D U h => hb3.trans ⟨h.os, h.tape, h.output, h.size, fun k hk => h.block k (by rw [e3]; omega) (by omega) (fun e => by cases e) (fun e => by cases e)⟩
 subst hqg
 clear hits hIs hcv hR hP hS hB hb1 hb2 hb3 hnn hii hRW hs0 hf3 hPW hSW hBW hw hqq hqe hg hev hi e1 e2 hil
 by_cases h3 : it.k = 3
 ·rw [if_neg (fun h => h.1 h3), if_neg (by omega), List.append_nil] at hn ⊢
  have g3 : ((it.k : Int) != 3) = false := by rw [h3]; rfl
  have g2 : ((it.k : Int) != 2) = true := by simp; omega
  clear h3
  go_enter Tryz.func27, Tryz.ntmps27
  go_wp2
  go_ret
  exact ⟨rfl, ⟨none, none, HZ.out.1⟩, HB.out⟩
 ·have g3 : ((it.k : Int) != 3) = true := by simp; omega
  by_cases hx : it.x = noB
  ·have gx : it.x.toList.isEmpty = true := by rw [hx, noB_list]; rfl
   have hf : fnd l it.k it.x = -1 := by unfold fnd; rw [if_pos hx]
   rw [hf, if_neg (fun h => absurd h.2.1 (by decide))] at hn ⊢
   clear hx hf hself
   by_cases h2 : it.k = 2
   ·rw [if_pos h2] at hn ⊢
    have g2 : ((it.k : Int) != 2) = false := by rw [h2]; rfl
    clear h2 h3
    go_enter Tryz.func27, Tryz.ntmps27
    have hsP : RS (w.heap.size + 1) l i p (some ⟨g, 0, none⟩) c (((w.alloc (.cells #[.slice (some ⟨g, 0, none⟩) l.length c] 25)).alloc (.cells #[.slice (some ⟨g, 0, none⟩) l.length c, .int .i64 (i : Int), .slice none 0 0, .slice none 0 0] 68)).alloc (.cells #[.int .i64 (it.k : Int), .string it.x, .int .i64 (it.l : Int), .slice p1 it.ps.length c1, .slice p2 it.ss.length c2, .slice p3 it.bd.length c3, .int .i64 p, .int .i64 (it.sz : Int), .int .i64 (it.mrk : Int), .slice p4 it.ds.length c4] 36)) [] none none := HZ.out.1
    have hstP : Stq (w.heap.size + 1) none none none none (((w.alloc (.cells #[.slice (some ⟨g, 0, none⟩) l.length c] 25)).alloc (.cells #[.slice (some ⟨g, 0, none⟩) l.length c, .int .i64 (i : Int), .slice none 0 0, .slice none 0 0] 68)).alloc (.cells #[.int .i64 (it.k : Int), .string it.x, .int .i64 (it.l : Int), .slice p1 it.ps.length c1, .slice p2 it.ss.length c2, .slice p3 it.bd.length c3, .int .i64 p, .int .i64 (it.sz : Int), .int .i64 (it.mrk : Int), .slice p4 it.ds.length c4] 36)) (((w.alloc (.cells #[.slice (some ⟨g, 0, none⟩) l.length c] 25)).alloc (.cells #[.slice (some ⟨g, 0, none⟩) l.length c, .int .i64 (i : Int), .slice none 0 0, .slice none 0 0] 68)).alloc (.cells #[.int .i64 (it.k : Int), .string it.x, .int .i64 (it.l : Int), .slice p1 it.ps.length c1, .slice p2 it.ss.length c2, .slice p3 it.bd.length c3, .int .i64 p, .int .i64 (it.sz : Int), .int .i64 (it.mrk : Int), .slice p4 it.ds.length c4] 36)) := Stq.refl _ _ _ _
    have hokI := okQ.step hstP HZ.out.2.1
    have hlowP := Stq.low hstP HZ.out.1
    have r3 := (World.cell?_of_block (a := ⟨w.heap.size + 2, 3, none⟩) hokI.1).trans t3
    have r4 := (World.cell?_of_block (a := ⟨w.heap.size + 2, 4, none⟩) hokI.1).trans t4
    have r5 := (World.cell?_of_block (a := ⟨w.heap.size + 2, 5, none⟩) hokI.1).trans t5
    have hPP : SlAt (fun k => k < w.heap.size + 1) (((w.alloc (.cells #[.slice (some ⟨g, 0, none⟩) l.length c] 25)).alloc (.cells #[.slice (some ⟨g, 0, none⟩) l.length c, .int .i64 (i : Int), .slice none 0 0, .slice none 0 0] 68)).alloc (.cells #[.int .i64 (it.k : Int), .string it.x, .int .i64 (it.l : Int), .slice p1 it.ps.length c1, .slice p2 it.ss.length c2, .slice p3 it.bd.length c3, .int .i64 p, .int .i64 (it.sz : Int), .int .i64 (it.mrk : Int), .slice p4 it.ds.length c4] 36)) 3 pmC it.ps p1 := HZ.out.2.2.1.kept hlowP
    have hSP : SlAt (fun k => k < w.heap.size + 1) (((w.alloc (.cells #[.slice (some ⟨g, 0, none⟩) l.length c] 25)).alloc (.cells #[.slice (some ⟨g, 0, none⟩) l.length c, .int .i64 (i : Int), .slice none 0 0, .slice none 0 0] 68)).alloc (.cells #[.int .i64 (it.k : Int), .string it.x, .int .i64 (it.l : Int), .slice p1 it.ps.length c1, .slice p2 it.ss.length c2, .slice p3 it.bd.length c3, .int .i64 p, .int .i64 (it.sz : Int), .int .i64 (it.mrk : Int), .slice p4 it.ds.length c4] 36)) 2 rfC it.ss p2 := HZ.out.2.2.2.1.kept hlowP
    have hBP := HZ.out.2.2.2.2.kept hlowP (fun _ h => h) (RdS.kept nb hlowP (fun _ h => h))
    have hbm := (Below.refl (((w.alloc (.cells #[.slice (some ⟨g, 0, none⟩) l.length c] 25)).alloc (.cells #[.slice (some ⟨g, 0, none⟩) l.length c, .int .i64 (i : Int), .slice none 0 0, .slice none 0 0] 68)).alloc (.cells #[.int .i64 (it.k : Int), .string it.x, .int .i64 (it.l : Int), .slice p1 it.ps.length c1, .slice p2 it.ss.length c2, .slice p3 it.bd.length c3, .int .i64 p, .int .i64 (it.sz : Int), .int .i64 (it.mrk : Int), .slice p4 it.ds.length c4] 36)).heap.size (((w.alloc (.cells #[.slice (some ⟨g, 0, none⟩) l.length c] 25)).alloc (.cells #[.slice (some ⟨g, 0, none⟩) l.length c, .int .i64 (i : Int), .slice none 0 0, .slice none 0 0] 68)).alloc (.cells #[.int .i64 (it.k : Int), .string it.x, .int .i64 (it.l : Int), .slice p1 it.ps.length c1, .slice p2 it.ss.length c2, .slice p3 it.bd.length c3, .int .i64 p, .int .i64 (it.sz : Int), .int .i64 (it.mrk : Int), .slice p4 it.ds.length c4] 36))).alloc (Nat.le_refl _) (.map #[] 0)
    have HBlP : Hid (∀ (w' : World) (D U : Option Nat), Stq (w.heap.size + 1) none none D U (((w.alloc (.cells #[.slice (some ⟨g, 0, none⟩) l.length c] 25)).alloc (.cells #[.slice (some ⟨g, 0, none⟩) l.length c, .int .i64 (i : Int), .slice none 0 0, .slice none 0 0] 68)).alloc (.cells #[.int .i64 (it.k : Int), .string it.x, .int .i64 (it.l : Int), .slice p1 it.ps.length c1, .slice p2 it.ss.length c2, .slice p3 it.bd.length c3, .int .i64 p, .int .i64 (it.sz : Int), .int .i64 (it.mrk : Int), .slice p4 it.ds.length c4] 36)) w' → Below w.heap.size w w') := fun w' D U h => HBl.out w' D U (hstP.trans h)
    have HM0 := hid (show MkQ (w.heap.size + 1) l i p (some ⟨g, 0, none⟩) c none none [] [] (((w.alloc (.cells #[.slice (some ⟨g, 0, none⟩) l.length c] 25)).alloc (.cells #[.slice (some ⟨g, 0, none⟩) l.length c, .int .i64 (i : Int), .slice none 0 0, .slice none 0 0] 68)).alloc (.cells #[.int .i64 (it.k : Int), .string it.x, .int .i64 (it.l : Int), .slice p1 it.ps.length c1, .slice p2 it.ss.length c2, .slice p3 it.bd.length c3, .int .i64 p, .int .i64 (it.sz : Int), .int .i64 (it.mrk : Int), .slice p4 it.ds.length c4] 36)).heap.size (((w.alloc (.cells #[.slice (some ⟨g, 0, none⟩) l.length c] 25)).alloc (.cells #[.slice (some ⟨g, 0, none⟩) l.length c, .int .i64 (i : Int), .slice none 0 0, .slice none 0 0] 68)).alloc (.cells #[.int .i64 (it.k : Int), .string it.x, .int .i64 (it.l : Int), .slice p1 it.ps.length c1, .slice p2 it.ss.length c2, .slice p3 it.bd.length c3, .int .i64 p, .int .i64 (it.sz : Int), .int .i64 (it.mrk : Int), .slice p4 it.ds.length c4] 36)) ((((w.alloc (.cells #[.slice (some ⟨g, 0, none⟩) l.length c] 25)).alloc (.cells #[.slice (some ⟨g, 0, none⟩) l.length c, .int .i64 (i : Int), .slice none 0 0, .slice none 0 0] 68)).alloc (.cells #[.int .i64 (it.k : Int), .string it.x, .int .i64 (it.l : Int), .slice p1 it.ps.length c1, .slice p2 it.ss.length c2, .slice p3 it.bd.length c3, .int .i64 p, .int .i64 (it.sz : Int), .int .i64 (it.mrk : Int), .slice p4 it.ds.length c4] 36)).alloc (.map #[] 0)) from ⟨none, none, hsP.below hbm, Stq.below hbm, ⟨0, Nat.le_refl _, World.ownsMap_made _ _ _ _⟩, hsP.fresh (Nat.le_refl _) (by simp)⟩)
    have hbnd : ([] ++ evP [] it.ps).length < 1099511627776 ∧ ([] ++ evP [] it.ps ++ evSk l it.ss it.ss.length).length < 1099511627776 ∧ ([] ++ evP [] it.ps ++ evSk l it.ss it.ss.length ++ evB l p (scP [] it.ps) it.bd).length < 1099511627776 := by
     unfold evF at hn
     simp only [List.length_append] at hn ⊢
     omega
    have HFin : Hid ([] ++ evF l p it = [] ++ evP [] it.ps ++ evSk l it.ss it.ss.length ++ evB l p (scP [] it.ps) it.bd) := by show _ = _; unfold evF; simp only [List.append_assoc]
    have HBd1 := hid (fun k => Nat.lt_of_le_of_lt (nm_par_less [] it.ps k []) hbnd.1)
    have HMp := hid (fun k a (h : it.ps[k]? = some a) => nm_par_take [] [] h)
    have HEl := hid (fun k => scP_len (it.ps.take k) [])
    have HZp : Hid ([] ++ evP [] (it.ps.take it.ps.length) = [] ++ evP [] it.ps ∧ scP [] (it.ps.take it.ps.length) = scP [] it.ps) := by show _ ∧ _; rw [List.take_length]; exact ⟨rfl, rfl⟩
    have H0p : Hid ([] ++ evP [] (it.ps.take 0) = [] ∧ scP [] (it.ps.take 0) = []) := by show _ ∧ _; rw [List.take_zero]; exact ⟨List.append_nil _, rfl⟩
    have hpn := HWF.out.pn
    have hsn := HWF.out.sn
    generalize hM : (fun k => [] ++ evP [] (it.ps.take k)) = M
    generalize hEd : (fun k => scP [] (it.ps.take k)) = E
    have hMk : ∀ k, [] ++ evP [] (it.ps.take k) = M k := fun k => by rw [← hM]
    have hEk : ∀ k, scP [] (it.ps.take k) = E k := fun k => by rw [← hEd]
    simp only [hMk, hEk] at HBd1 HMp HZp H0p HEl
    rw [← H0p.out.1, ← H0p.out.2] at HM0
    have HP1 := hid (And.intro hsP (And.intro hPP (And.intro hSP hBP)))
    obtain ⟨hPl, hPh⟩ := hPP
    obtain ⟨hSl, hSh⟩ := hSP
    have r4' := cell_alloc r4
    have r3' := cell_alloc r3
    clear hM hMk hEd hEk hsP hbm hlowP hBP
    go_wp2
    generalize hWPn : (((w.alloc (.cells #[.slice (some ⟨g, 0, none⟩) l.length c] 25)).alloc (.cells #[.slice (some ⟨g, 0, none⟩) l.length c, .int .i64 (i : Int), .slice none 0 0, .slice none 0 0] 68)).alloc (.cells #[.int .i64 (it.k : Int), .string it.x, .int .i64 (it.l : Int), .slice p1 it.ps.length c1, .slice p2 it.ss.length c2, .slice p3 it.bd.length c3, .int .i64 p, .int .i64 (it.sz : Int), .int .i64 (it.mrk : Int), .slice p4 it.ds.length c4] 36)) = WPn at *
    go_loopw [7, 54] (fun ev j wr => RelRb (w.heap.size + 1) l i p (some ⟨g, 0, none⟩) c none none WPn M E it.ps.length ev j wr) (fun _ j _ => upN it.ps.length j)
    case atStart => exact ⟨0, _, Nat.zero_le _, rfl, rfl, by have h := HM0.out; rw [e3] at h; exact h⟩
    case round =>
     obtain ⟨j, b1, hjl, rfl, rfl, D1, U1, hsr, hstr, hmr, hokr⟩ := hrel
     by_cases hlt : j < it.ps.length
     ·obtain ⟨gp, hpe, hgo2, hFl⟩ := hPh (by omega)
      subst hpe
      obtain ⟨r, hr⟩ : ∃ r, it.ps[j]? = some r := ⟨_, List.getElem?_eq_getElem hlt⟩
      have hlow := Stq.low hstr HP1.out.1
      have hcg : ∀ o, wr.cell? ⟨gp, o, none⟩ = WPn.cell? ⟨gp, o, none⟩ := fun o => World.cell?_of_block (a := ⟨gp, o, none⟩) (hlow gp hgo2)
      have d0 := (hcg (j * 3 + 0)).trans (hFl j r hr 0 _ rfl)
      have d1 := (hcg (j * 3 + 1)).trans (hFl j r hr 1 _ rfl)
      have d2 := (hcg (j * 3 + 2)).trans (hFl j r hr 2 _ rfl)
      rw [Nat.add_zero] at d0
      have gj : (0 : Int) ≤ (j : Int) := by omega
      have gj1 : (j : Int) < (it.ps.length : Int) := by omega
      have hjb : j < 1099511627776 := by omega
      have hba := (Below.refl wr.heap.size wr).alloc (Nat.le_refl _) (.cells #[.string r.x, .int .i64 (r.l : Int), .int .i64 (r.a : Int)] 62)
      have hsa : Stq (w.heap.size + 1) D1 U1 D1 U1 wr _ := Stq.below hba
      have hok1 := okQ.step hsa hokr
      have hxs : r.x.size ≤ 1000000 := by
       rcases HWF.out.ps r (List.mem_of_getElem? hr) with h | h
       ·rw [h]; decide
       ·have := tkn_size h; omega
      have hnx := HMp.out j _ hr
      have hel := HEl.out j
      have HC := hid (rn_with (hsr.below hba) (HBd1.out j) (hmr.kept hok1.1) hok1.2 (by rw [List.length_take, List.length_nil] at hel; omega) r.x r.a hxs)
      rw [← hnx.1, ← hnx.2] at HC
      have HL := hid hlt
      have HS := hid (hstr.trans hsa)
      clear hPh hFl hr hcg hnx hlt hjl hba hsa hok1 hstr hsr hmr hokr hlow hel
      go_wp2_with (first
       | (go_at_call 56; refine Calls.mono HC.out ?_; rintro e w9 ⟨b9, rfl, D9, U9, hs9, hst9, hm9, hok9⟩))
      go_roundw
      case rel => exact ⟨j + 1, b9, HL.out, by go_num, rfl, D9, U9, hs9, HS.out.trans hst9, hm9, hok9⟩
      case measure => have := HL.out; simp [upN, intOf]; omega
     ·obtain rfl : j = it.ps.length := by omega
      rw [HZp.out.1] at hsr
      rw [HZp.out.2] at hmr
      clear hlt hjl hPh HMp HBd1 HZp H0p HM0 HEl
      have hbm := (Below.refl wr.heap.size wr).alloc (Nat.le_refl _) (.map #[] 0)
      have hsm : Stq (w.heap.size + 1) D1 U1 D1 U1 wr (wr.alloc (.map #[] 0)) := Stq.below hbm
      have hok1 := okQ.step hsm hokr
      have HBd2 := hid (fun k (h : k ≤ it.ss.length) => Nat.lt_of_le_of_lt (nm_sk_less l it.ss ([] ++ evP [] it.ps) k _ h) hbnd.2.1)
      have HMs : Hid (∀ k, ([] ++ evP [] it.ps) ++ evSk l it.ss (k + 1) = (([] ++ evP [] it.ps) ++ evSk l it.ss k) ++ evSd l it.ss k) := fun k => (List.append_assoc _ _ _).symm
      have HS0 := hid (show RelL2 (w.heap.size + 1) l i p (some ⟨g, 0, none⟩) c none none WPn (fun k => ([] ++ evP [] it.ps) ++ evSk l it.ss k) (scP [] it.ps) b1 wr.heap.size it.ss (.int .i64 0) (wr.alloc (.map #[] 0)) from ⟨0, Nat.zero_le _, rfl, D1, U1, by simpa [evSk] using hsr.below hbm, hstr.trans hsm, hmr.kept hok1.1, hok1.2, World.ownsMap_made _ _ _ _, hsr.fresh (Nat.le_refl _) (by simp), by have := hokr.2.1; omega⟩)
      generalize hM2 : (fun k => ([] ++ evP [] it.ps) ++ evSk l it.ss k) = M2 at *
      have hMk2 : ∀ k, ([] ++ evP [] it.ps) ++ evSk l it.ss k = M2 k := fun k => by rw [← hM2]
      simp only [hMk2] at HBd2 HMs hbnd HFin
      have hf9 := okQ.step (hstr.trans hsm) hokI.2
      have q4 := (World.cell?_of_block (a := ⟨w.heap.size + 2, 4, none⟩) hf9.1).trans r4
      have q5 := (World.cell?_of_block (a := ⟨w.heap.size + 2, 5, none⟩) hf9.1).trans r5
      have HF9 := hid hf9.2
      have HWr := hid (hstr.trans hsm)
      have hbh : WPn.heap.size ≤ wr.heap.size := hstr.size
      clear hM2 hMk2 hbm hsm hok1 hsr hmr hokr hstr hf9
      go_wp2
      generalize wr.heap.size = bh at *
      go_loopw [70] (fun j w8 => RelL2 (w.heap.size + 1) l i p (some ⟨g, 0, none⟩) c none none WPn M2 (scP [] it.ps) b1 bh it.ss j w8) (fun j _ => upN it.ss.length j)
      case atStart => exact HS0.out
      case round =>
       obtain ⟨k, hkl, rfl, D2, U2, hs2, hst2, hm2, hoke, hh2, hokh, hne⟩ := hrel
       rename World => w8
       have hok8 := okQ.step hst2 hokI.2
       by_cases hlt : k < it.ss.length
       ·obtain ⟨gs, hpe, hgo2, hFl⟩ := hSh (by omega)
        subst hpe
        obtain ⟨r, hr⟩ : ∃ r, it.ss[k]? = some r := ⟨_, List.getElem?_eq_getElem hlt⟩
        have hlow := Stq.low hst2 HP1.out.1
        have hcg : ∀ o, w8.cell? ⟨gs, o, none⟩ = WPn.cell? ⟨gs, o, none⟩ := fun o => World.cell?_of_block (a := ⟨gs, o, none⟩) (hlow gs hgo2)
        have d0 := (hcg (k * 2 + 0)).trans (hFl k r hr 0 _ rfl)
        have d1 := (hcg (k * 2 + 1)).trans (hFl k r hr 1 _ rfl)
        rw [Nat.add_zero] at d0
        have gj : (0 : Int) ≤ (k : Int) := by omega
        have gj1 : (k : Int) < (it.ss.length : Int) := by omega
        have hjb : k < 1099511627776 := by omega
        have hba := (Below.refl w8.heap.size w8).alloc (Nat.le_refl _) (.cells #[.string r.x, .int .i64 (r.a : Int)] 45)
        obtain ⟨x0, x1⟩ := two_new w8 r.x r.a
        have hsa : Stq (w.heap.size + 1) D2 U2 D2 U2 w8 (w8.alloc (.cells #[.string r.x, .int .i64 (r.a : Int)] 45)) := Stq.below hba
        have hxs : r.x.size ≤ 1000000 := by
         rcases HWF.out.ss r (List.mem_of_getElem? hr) with h | h
         ·rw [h]; decide
         ·have := tkn_size h; omega
        have hxm : r.x.size ≤ maxLen := by unfold maxLen; omega
        have hev2 := HMs.out k
        have hsd : evSd l it.ss k = evChan l r.x r.a ++ (if r.x ≠ noB ∧ (it.ss.take k).any (fun q => decide (q.x = r.x)) = true then [evNo 7 r.x r.a] else []) := by unfold evSd; rw [hr]
        rw [hsd, ← List.append_assoc] at hev2
        have HGl := hid (rn_global (hs2.below hba) (HBd2.out k (by omega)) 1 r.x r.a)
        rw [evG_chan] at HGl
        have hfr := hid (hs2.fresh (w' := w8.alloc (.cells #[.string r.x, .int .i64 (r.a : Int)] 45)) (Nat.le_refl _) (by simp))
        have HK := hid (And.intro (okQ.step hsa hoke) (okQ.step hsa hokh))
        have HM2 := hid (And.intro hm2 hh2)
        have HLk := hid (fun (w9 : World) (h : HdAt w9 bh it.ss k) => hd_look h r.x hxm)
        have HPt := hid (fun (w9 : World) (h : HdAt w9 bh it.ss k) => hd_put h hr (by unfold maxLen; omega) hxm)
        have HL := hid hlt
        have HST := hid (hst2.trans hsa)
        have HB3 := hid (HBd2.out (k + 1) hlt)
        generalize hAn : (it.ss.take k).any (fun q => decide (q.x = r.x)) = an at *
        have HEV := hid hev2
        clear hSh hFl hr hcg hlt hkl hba hsa hst2 hs2 hm2 hoke hh2 hokh hlow hev2 hsd hAn hxm
        by_cases hx : r.x = noB
        ·have gx : r.x.toList.isEmpty = true := by rw [hx, noB_list]; rfl
         rw [if_neg (fun h => h.1 hx), List.append_nil] at HEV
         clear hx
         go_wp2_with (first
          | (go_at_call 57; refine Calls.mono HGl.out ?_; rintro e w9 ⟨rfl, D3, U3, hs3, hst3⟩; have hoke3 := okQ.step hst3 HK.out.1.2; have hokh3 := okQ.step hst3 HK.out.2.2; have hm3 := (HM2.out.1.kept HK.out.1.1).kept hoke3.1; have hh3 := (HM2.out.2.kept HK.out.2.1).kept hokh3.1; have hf3 := okQ.step hst3 hfr.out; have v0 := (World.cell?_of_block (a := ⟨w8.heap.size, 0, none⟩) hf3.1).trans x0; have v1 := (World.cell?_of_block (a := ⟨w8.heap.size, 1, none⟩) hf3.1).trans x1; obtain ⟨w11, hput, hhn, hgr⟩ := HPt.out _ hh3))
         go_roundw
         case rel => exact ⟨k + 1, HL.out, by go_num, D3, U3, by rw [HEV.out]; exact hs3.grown hgr hokh3.2, (HST.out.trans hst3).grown hgr (by omega), hm3.kept (hgr.block b1 hoke3.2.2.1 (fun e => by injection e with e; exact hne e)), ⟨hoke3.2.1, Nat.lt_of_lt_of_le hoke3.2.2.1 hgr.size, hoke3.2.2.2⟩, hhn, ⟨hokh3.2.1, Nat.lt_of_lt_of_le hokh3.2.2.1 hgr.size, hokh3.2.2.2⟩, hne⟩
         case measure => have := HL.out; simp [upN, intOf]; omega
        ·have gx := nonempty_of hx
         cases an
         ·rw [if_neg (fun h => by cases h.2), List.append_nil] at HEV
          clear hx
          go_wp2_with (first
           | (go_at_call 57; refine Calls.mono HGl.out ?_; rintro e w9 ⟨rfl, D3, U3, hs3, hst3⟩; have hoke3 := okQ.step hst3 HK.out.1.2; have hokh3 := okQ.step hst3 HK.out.2.2; have hm3 := (HM2.out.1.kept HK.out.1.1).kept hoke3.1; have hh3 := (HM2.out.2.kept HK.out.2.1).kept hokh3.1; have hf3 := okQ.step hst3 hfr.out; have v0 := (World.cell?_of_block (a := ⟨w8.heap.size, 0, none⟩) hf3.1).trans x0; have v1 := (World.cell?_of_block (a := ⟨w8.heap.size, 1, none⟩) hf3.1).trans x1; have hlk := HLk.out _ hh3; obtain ⟨w11, hput, hhn, hgr⟩ := HPt.out _ hh3))
          go_roundw
          case rel => exact ⟨k + 1, HL.out, by go_num, D3, U3, by rw [HEV.out]; exact hs3.grown hgr hokh3.2, (HST.out.trans hst3).grown hgr (by omega), hm3.kept (hgr.block b1 hoke3.2.2.1 (fun e => by injection e with e; exact hne e)), ⟨hoke3.2.1, Nat.lt_of_lt_of_le hoke3.2.2.1 hgr.size, hoke3.2.2.2⟩, hhn, ⟨hokh3.2.1, Nat.lt_of_lt_of_le hokh3.2.2.1 hgr.size, hokh3.2.2.2⟩, hne⟩
          case measure => have := HL.out; simp [upN, intOf]; omega
         ·rw [if_pos ⟨hx, rfl⟩] at HEV
          have HLn := hid (show (M2 k ++ evChan l r.x r.a).length < 1099511627776 by have h := HB3.out; rw [HEV.out] at h; simp only [List.length_append] at h ⊢; omega)
          clear hx
          go_wp2_with (first
           | (go_at_call 57; refine Calls.mono HGl.out ?_; rintro e w9 ⟨rfl, D3, U3, hs3, hst3⟩; have hoke3 := okQ.step hst3 HK.out.1.2; have hokh3 := okQ.step hst3 HK.out.2.2; have hm3 := (HM2.out.1.kept HK.out.1.1).kept hoke3.1; have hh3 := (HM2.out.2.kept HK.out.2.1).kept hokh3.1; have hf3 := okQ.step hst3 hfr.out; have v0 := (World.cell?_of_block (a := ⟨w8.heap.size, 0, none⟩) hf3.1).trans x0; have v1 := (World.cell?_of_block (a := ⟨w8.heap.size, 1, none⟩) hf3.1).trans x1; have hlk := HLk.out _ hh3; have HBd3 := hid (rn_bad hs3 HLn.out 7 r.x r.a))
           | (go_at_call 55; refine Calls.mono HBd3.out ?_; rintro e w10 ⟨rfl, D4, U4, hs4, hst4⟩; have hoke4 := okQ.step hst4 hoke3.2; have hokh4 := okQ.step hst4 hokh3.2; have hm4 := hm3.kept hoke4.1; have hh4 := hh3.kept hokh4.1; have hf4 := okQ.step hst4 hf3.2; have u0 := (World.cell?_of_block (a := ⟨w8.heap.size, 0, none⟩) hf4.1).trans v0; obtain ⟨w11, hput, hhn, hgr⟩ := HPt.out _ hh4))
          go_roundw
          case rel => exact ⟨k + 1, HL.out, by go_num, D4, U4, by rw [HEV.out]; exact hs4.grown hgr hokh4.2, ((HST.out.trans hst3).trans hst4).grown hgr (by omega), hm4.kept (hgr.block b1 hoke4.2.2.1 (fun e => by injection e with e; exact hne e)), ⟨hoke4.2.1, Nat.lt_of_lt_of_le hoke4.2.2.1 hgr.size, hoke4.2.2.2⟩, hhn, ⟨hokh4.2.1, Nat.lt_of_lt_of_le hokh4.2.2.1 hgr.size, hokh4.2.2.2⟩, hne⟩
          case measure => have := HL.out; simp [upN, intOf]; omega
       ·obtain rfl : k = it.ss.length := by omega
        have q5' := (World.cell?_of_block (a := ⟨w.heap.size + 2, 5, none⟩) hok8.1).trans r5
        have hlow := Stq.low hst2 HP1.out.1
        obtain ⟨nw, hwb⟩ := HWF.out.bd
        have hsl := scP_len it.ps []
        have HC := hid (rn_block nw D2 U2 _ _ (scP [] it.ps) b1 it.bd p3 c3 nb T.length hs2 hm2 hoke (HP1.out.2.2.2.kept hlow (fun _ h => h) (RdS.kept nb hlow (fun _ h => h))) hwb (by rw [List.length_nil] at hsl; omega) hbnd.2.2)
        rw [← HFin.out] at HC
        clear hlt hkl hSh hwb hsl
        go_wp2_with (first
         | (go_at_call 58; refine Calls.mono HC.out ?_; rintro e w9 ⟨rfl, D9, U9, hs9, hst9⟩))
        go_ret
        exact ⟨rfl, ⟨D9, U9, hs9⟩, HBlP.out _ D9 U9 (hst2.trans hst9)⟩

   ·rw [if_neg h2, List.append_nil] at hn ⊢
    have g2 : ((it.k : Int) != 2) = true := by simp; omega
    clear h2 h3
    go_enter Tryz.func27, Tryz.ntmps27
    go_wp2
    go_ret
    exact ⟨rfl, ⟨none, none, HZ.out.1⟩, HB.out⟩
  ·have gx := nonempty_of hx
   obtain ⟨kk, hf, hki⟩ := hself hx
   rw [hf] at hn HFi ⊢
   clear hx hf hself
   by_cases hlt : (kk : Int) < (i : Int)
   ·rw [if_pos ⟨h3, by omega, hlt⟩] at hn ⊢
    by_cases h2 : it.k = 2
    ·rw [if_pos h2] at hn ⊢
     have g2 : ((it.k : Int) != 2) = false := by rw [h2]; rfl
     clear h2 h3
     go_enter Tryz.func27, Tryz.ntmps27
     go_wp2_with (first
      | (go_at_call 13; refine Calls.mono HFi.out ?_; rintro e wF ⟨rfl, hbF⟩; have hstF : Stq (w.heap.size + 1) none none none none _ wF := Stq.below hbF; have hfF := okQ.step hstF HZ.out.2.1; have z0 := (World.cell?_of_block (a := ⟨w.heap.size + 2, 0, none⟩) hfF.1).trans t0; have z1 := (World.cell?_of_block (a := ⟨w.heap.size + 2, 1, none⟩) hfF.1).trans t1; have z3 := (World.cell?_of_block (a := ⟨w.heap.size + 2, 3, none⟩) hfF.1).trans t3; have z4 := (World.cell?_of_block (a := ⟨w.heap.size + 2, 4, none⟩) hfF.1).trans t4; have z5 := (World.cell?_of_block (a := ⟨w.heap.size + 2, 5, none⟩) hfF.1).trans t5; have z8 := (World.cell?_of_block (a := ⟨w.heap.size + 2, 8, none⟩) hfF.1).trans t8; have HBd := hid (rn_bad (HZ.out.1.below hbF) (by simp) 7 it.x it.mrk))
      | (go_at_call 55; refine Calls.mono HBd.out ?_; rintro e wB ⟨rfl, DB, UB, hsB, hstB⟩; have hfB := okQ.step hstB hfF.2; have y0 := (World.cell?_of_block (a := ⟨w.heap.size + 2, 0, none⟩) hfB.1).trans z0; have y1 := (World.cell?_of_block (a := ⟨w.heap.size + 2, 1, none⟩) hfB.1).trans z1; have y3 := (World.cell?_of_block (a := ⟨w.heap.size + 2, 3, none⟩) hfB.1).trans z3; have y4 := (World.cell?_of_block (a := ⟨w.heap.size + 2, 4, none⟩) hfB.1).trans z4; have y5 := (World.cell?_of_block (a := ⟨w.heap.size + 2, 5, none⟩) hfB.1).trans z5; have y8 := (World.cell?_of_block (a := ⟨w.heap.size + 2, 8, none⟩) hfB.1).trans z8; have x3 := cell_alloc y3; have x4 := cell_alloc y4))
     have hsP : RS (w.heap.size + 1) l i p (some ⟨g, 0, none⟩) c wB [evNo 7 it.x it.mrk] DB UB := hsB
     have hstP : Stq (w.heap.size + 1) none none DB UB (((w.alloc (.cells #[.slice (some ⟨g, 0, none⟩) l.length c] 25)).alloc (.cells #[.slice (some ⟨g, 0, none⟩) l.length c, .int .i64 (i : Int), .slice none 0 0, .slice none 0 0] 68)).alloc (.cells #[.int .i64 (it.k : Int), .string it.x, .int .i64 (it.l : Int), .slice p1 it.ps.length c1, .slice p2 it.ss.length c2, .slice p3 it.bd.length c3, .int .i64 p, .int .i64 (it.sz : Int), .int .i64 (it.mrk : Int), .slice p4 it.ds.length c4] 36)) wB := hstF.trans hstB
     have hokI := okQ.step hstP HZ.out.2.1
     have hlowP := Stq.low hstP HZ.out.1
     have r3 := (World.cell?_of_block (a := ⟨w.heap.size + 2, 3, none⟩) hokI.1).trans t3
     have r4 := (World.cell?_of_block (a := ⟨w.heap.size + 2, 4, none⟩) hokI.1).trans t4
     have r5 := (World.cell?_of_block (a := ⟨w.heap.size + 2, 5, none⟩) hokI.1).trans t5
     have hPP : SlAt (fun k => k < w.heap.size + 1) wB 3 pmC it.ps p1 := HZ.out.2.2.1.kept hlowP
     have hSP : SlAt (fun k => k < w.heap.size + 1) wB 2 rfC it.ss p2 := HZ.out.2.2.2.1.kept hlowP
     have hBP := HZ.out.2.2.2.2.kept hlowP (fun _ h => h) (RdS.kept nb hlowP (fun _ h => h))
     have hbm := (Below.refl wB.heap.size wB).alloc (Nat.le_refl _) (.map #[] 0)
     have HBlP : Hid (∀ (w' : World) (D U : Option Nat), Stq (w.heap.size + 1) DB UB D U wB w' → Below w.heap.size w w') := fun w' D U h => HBl.out w' D U (hstP.trans h)
     have HM0 := hid (show MkQ (w.heap.size + 1) l i p (some ⟨g, 0, none⟩) c DB UB [evNo 7 it.x it.mrk] [] wB.heap.size wB (wB.alloc (.map #[] 0)) from ⟨DB, UB, hsP.below hbm, Stq.below hbm, ⟨0, Nat.le_refl _, World.ownsMap_made _ _ _ _⟩, hsP.fresh (Nat.le_refl _) (by simp)⟩)
     have hbnd : ([evNo 7 it.x it.mrk] ++ evP [] it.ps).length < 1099511627776 ∧ ([evNo 7 it.x it.mrk] ++ evP [] it.ps ++ evSk l it.ss it.ss.length).length < 1099511627776 ∧ ([evNo 7 it.x it.mrk] ++ evP [] it.ps ++ evSk l it.ss it.ss.length ++ evB l p (scP [] it.ps) it.bd).length < 1099511627776 := by
      unfold evF at hn
      simp only [List.length_append] at hn ⊢
      omega
     have HFin : Hid ([evNo 7 it.x it.mrk] ++ evF l p it = [evNo 7 it.x it.mrk] ++ evP [] it.ps ++ evSk l it.ss it.ss.length ++ evB l p (scP [] it.ps) it.bd) := by show _ = _; unfold evF; simp only [List.append_assoc]
     have HBd1 := hid (fun k => Nat.lt_of_le_of_lt (nm_par_less [] it.ps k [evNo 7 it.x it.mrk]) hbnd.1)
     have HMp := hid (fun k a (h : it.ps[k]? = some a) => nm_par_take [] [evNo 7 it.x it.mrk] h)
     have HEl := hid (fun k => scP_len (it.ps.take k) [])
     have HZp : Hid ([evNo 7 it.x it.mrk] ++ evP [] (it.ps.take it.ps.length) = [evNo 7 it.x it.mrk] ++ evP [] it.ps ∧ scP [] (it.ps.take it.ps.length) = scP [] it.ps) := by show _ ∧ _; rw [List.take_length]; exact ⟨rfl, rfl⟩
     have H0p : Hid ([evNo 7 it.x it.mrk] ++ evP [] (it.ps.take 0) = [evNo 7 it.x it.mrk] ∧ scP [] (it.ps.take 0) = []) := by show _ ∧ _; rw [List.take_zero]; exact ⟨List.append_nil _, rfl⟩
     have hpn := HWF.out.pn
     have hsn := HWF.out.sn
     generalize hM : (fun k => [evNo 7 it.x it.mrk] ++ evP [] (it.ps.take k)) = M
     generalize hEd : (fun k => scP [] (it.ps.take k)) = E
     have hMk : ∀ k, [evNo 7 it.x it.mrk] ++ evP [] (it.ps.take k) = M k := fun k => by rw [← hM]
     have hEk : ∀ k, scP [] (it.ps.take k) = E k := fun k => by rw [← hEd]
     simp only [hMk, hEk] at HBd1 HMp HZp H0p HEl
     rw [← H0p.out.1, ← H0p.out.2] at HM0
     have HP1 := hid (And.intro hsP (And.intro hPP (And.intro hSP hBP)))
     obtain ⟨hPl, hPh⟩ := hPP
     obtain ⟨hSl, hSh⟩ := hSP
     have r4' := cell_alloc r4
     have r3' := cell_alloc r3
     clear hM hMk hEd hEk hsP hbm hlowP hBP
     go_loopw [7, 54] (fun ev j wr => RelRb (w.heap.size + 1) l i p (some ⟨g, 0, none⟩) c DB UB wB M E it.ps.length ev j wr) (fun _ j _ => upN it.ps.length j)
     case atStart => exact ⟨0, _, Nat.zero_le _, rfl, rfl, HM0.out⟩
     case round =>
      obtain ⟨j, b1, hjl, rfl, rfl, D1, U1, hsr, hstr, hmr, hokr⟩ := hrel
      by_cases hlt : j < it.ps.length
      ·obtain ⟨gp, hpe, hgo2, hFl⟩ := hPh (by omega)
       subst hpe
       obtain ⟨r, hr⟩ : ∃ r, it.ps[j]? = some r := ⟨_, List.getElem?_eq_getElem hlt⟩
       have hlow := Stq.low hstr HP1.out.1
       have hcg : ∀ o, wr.cell? ⟨gp, o, none⟩ = wB.cell? ⟨gp, o, none⟩ := fun o => World.cell?_of_block (a := ⟨gp, o, none⟩) (hlow gp hgo2)
       have d0 := (hcg (j * 3 + 0)).trans (hFl j r hr 0 _ rfl)
       have d1 := (hcg (j * 3 + 1)).trans (hFl j r hr 1 _ rfl)
       have d2 := (hcg (j * 3 + 2)).trans (hFl j r hr 2 _ rfl)
       rw [Nat.add_zero] at d0
       have gj : (0 : Int) ≤ (j : Int) := by omega
       have gj1 : (j : Int) < (it.ps.length : Int) := by omega
       have hjb : j < 1099511627776 := by omega
       have hba := (Below.refl wr.heap.size wr).alloc (Nat.le_refl _) (.cells #[.string r.x, .int .i64 (r.l : Int), .int .i64 (r.a : Int)] 62)
       have hsa : Stq (w.heap.size + 1) D1 U1 D1 U1 wr _ := Stq.below hba
       have hok1 := okQ.step hsa hokr
       have hxs : r.x.size ≤ 1000000 := by
        rcases HWF.out.ps r (List.mem_of_getElem? hr) with h | h
        ·rw [h]; decide
        ·have := tkn_size h; omega
       have hnx := HMp.out j _ hr
       have hel := HEl.out j
       have HC := hid (rn_with (hsr.below hba) (HBd1.out j) (hmr.kept hok1.1) hok1.2 (by rw [List.length_take, List.length_nil] at hel; omega) r.x r.a hxs)
       rw [← hnx.1, ← hnx.2] at HC
       have HL := hid hlt
       have HS := hid (hstr.trans hsa)
       clear hPh hFl hr hcg hnx hlt hjl hba hsa hok1 hstr hsr hmr hokr hlow hel
       go_wp2_with (first
        | (go_at_call 56; refine Calls.mono HC.out ?_; rintro e w9 ⟨b9, rfl, D9, U9, hs9, hst9, hm9, hok9⟩))
       go_roundw
       case rel => exact ⟨j + 1, b9, HL.out, by go_num, rfl, D9, U9, hs9, HS.out.trans hst9, hm9, hok9⟩
       case measure => have := HL.out; simp [upN, intOf]; omega
      ·obtain rfl : j = it.ps.length := by omega
       rw [HZp.out.1] at hsr
       rw [HZp.out.2] at hmr
       clear hlt hjl hPh HMp HBd1 HZp H0p HM0 HEl
       have hbm := (Below.refl wr.heap.size wr).alloc (Nat.le_refl _) (.map #[] 0)
       have hsm : Stq (w.heap.size + 1) D1 U1 D1 U1 wr (wr.alloc (.map #[] 0)) := Stq.below hbm
       have hok1 := okQ.step hsm hokr
       have HBd2 := hid (fun k (h : k ≤ it.ss.length) => Nat.lt_of_le_of_lt (nm_sk_less l it.ss ([evNo 7 it.x it.mrk] ++ evP [] it.ps) k _ h) hbnd.2.1)
       have HMs : Hid (∀ k, ([evNo 7 it.x it.mrk] ++ evP [] it.ps) ++ evSk l it.ss (k + 1) = (([evNo 7 it.x it.mrk] ++ evP [] it.ps) ++ evSk l it.ss k) ++ evSd l it.ss k) := fun k => (List.append_assoc _ _ _).symm
       have HS0 := hid (show RelL2 (w.heap.size + 1) l i p (some ⟨g, 0, none⟩) c DB UB wB (fun k => ([evNo 7 it.x it.mrk] ++ evP [] it.ps) ++ evSk l it.ss k) (scP [] it.ps) b1 wr.heap.size it.ss (.int .i64 0) (wr.alloc (.map #[] 0)) from ⟨0, Nat.zero_le _, rfl, D1, U1, by simpa [evSk] using hsr.below hbm, hstr.trans hsm, hmr.kept hok1.1, hok1.2, World.ownsMap_made _ _ _ _, hsr.fresh (Nat.le_refl _) (by simp), by have := hokr.2.1; omega⟩)
       generalize hM2 : (fun k => ([evNo 7 it.x it.mrk] ++ evP [] it.ps) ++ evSk l it.ss k) = M2 at *
       have hMk2 : ∀ k, ([evNo 7 it.x it.mrk] ++ evP [] it.ps) ++ evSk l it.ss k = M2 k := fun k => by rw [← hM2]
       simp only [hMk2] at HBd2 HMs hbnd HFin
       have hf9 := okQ.step (hstr.trans hsm) hokI.2
       have q4 := (World.cell?_of_block (a := ⟨w.heap.size + 2, 4, none⟩) hf9.1).trans r4
       have q5 := (World.cell?_of_block (a := ⟨w.heap.size + 2, 5, none⟩) hf9.1).trans r5
       have HF9 := hid hf9.2
       have HWr := hid (hstr.trans hsm)
       have hbh : wB.heap.size ≤ wr.heap.size := hstr.size
       clear hM2 hMk2 hbm hsm hok1 hsr hmr hokr hstr hf9
       go_wp2
       generalize wr.heap.size = bh at *
       go_loopw [70] (fun j w8 => RelL2 (w.heap.size + 1) l i p (some ⟨g, 0, none⟩) c DB UB wB M2 (scP [] it.ps) b1 bh it.ss j w8) (fun j _ => upN it.ss.length j)
       case atStart => exact HS0.out
       case round =>
        obtain ⟨k, hkl, rfl, D2, U2, hs2, hst2, hm2, hoke, hh2, hokh, hne⟩ := hrel
        rename World => w8
        have hok8 := okQ.step hst2 hokI.2
        by_cases hlt : k < it.ss.length
        ·obtain ⟨gs, hpe, hgo2, hFl⟩ := hSh (by omega)
         subst hpe
         obtain ⟨r, hr⟩ : ∃ r, it.ss[k]? = some r := ⟨_, List.getElem?_eq_getElem hlt⟩
         have hlow := Stq.low hst2 HP1.out.1
         have hcg : ∀ o, w8.cell? ⟨gs, o, none⟩ = wB.cell? ⟨gs, o, none⟩ := fun o => World.cell?_of_block (a := ⟨gs, o, none⟩) (hlow gs hgo2)
         have d0 := (hcg (k * 2 + 0)).trans (hFl k r hr 0 _ rfl)
         have d1 := (hcg (k * 2 + 1)).trans (hFl k r hr 1 _ rfl)
         rw [Nat.add_zero] at d0
         have gj : (0 : Int) ≤ (k : Int) := by omega
         have gj1 : (k : Int) < (it.ss.length : Int) := by omega
         have hjb : k < 1099511627776 := by omega
         have hba := (Below.refl w8.heap.size w8).alloc (Nat.le_refl _) (.cells #[.string r.x, .int .i64 (r.a : Int)] 45)
         obtain ⟨x0, x1⟩ := two_new w8 r.x r.a
         have hsa : Stq (w.heap.size + 1) D2 U2 D2 U2 w8 (w8.alloc (.cells #[.string r.x, .int .i64 (r.a : Int)] 45)) := Stq.below hba
         have hxs : r.x.size ≤ 1000000 := by
          rcases HWF.out.ss r (List.mem_of_getElem? hr) with h | h
          ·rw [h]; decide
          ·have := tkn_size h; omega
         have hxm : r.x.size ≤ maxLen := by unfold maxLen; omega
         have hev2 := HMs.out k
         have hsd : evSd l it.ss k = evChan l r.x r.a ++ (if r.x ≠ noB ∧ (it.ss.take k).any (fun q => decide (q.x = r.x)) = true then [evNo 7 r.x r.a] else []) := by unfold evSd; rw [hr]
         rw [hsd, ← List.append_assoc] at hev2
         have HGl := hid (rn_global (hs2.below hba) (HBd2.out k (by omega)) 1 r.x r.a)
         rw [evG_chan] at HGl
         have hfr := hid (hs2.fresh (w' := w8.alloc (.cells #[.string r.x, .int .i64 (r.a : Int)] 45)) (Nat.le_refl _) (by simp))
         have HK := hid (And.intro (okQ.step hsa hoke) (okQ.step hsa hokh))
         have HM2 := hid (And.intro hm2 hh2)
         have HLk := hid (fun (w9 : World) (h : HdAt w9 bh it.ss k) => hd_look h r.x hxm)
         have HPt := hid (fun (w9 : World) (h : HdAt w9 bh it.ss k) => hd_put h hr (by unfold maxLen; omega) hxm)
         have HL := hid hlt
         have HST := hid (hst2.trans hsa)
         have HB3 := hid (HBd2.out (k + 1) hlt)
         generalize hAn : (it.ss.take k).any (fun q => decide (q.x = r.x)) = an at *
         have HEV := hid hev2
         clear hSh hFl hr hcg hlt hkl hba hsa hst2 hs2 hm2 hoke hh2 hokh hlow hev2 hsd hAn hxm
         by_cases hx : r.x = noB
         ·have gx : r.x.toList.isEmpty = true := by rw [hx, noB_list]; rfl
          rw [if_neg (fun h => h.1 hx), List.append_nil] at HEV
          clear hx
          go_wp2_with (first
           | (go_at_call 57; refine Calls.mono HGl.out ?_; rintro e w9 ⟨rfl, D3, U3, hs3, hst3⟩; have hoke3 := okQ.step hst3 HK.out.1.2; have hokh3 := okQ.step hst3 HK.out.2.2; have hm3 := (HM2.out.1.kept HK.out.1.1).kept hoke3.1; have hh3 := (HM2.out.2.kept HK.out.2.1).kept hokh3.1; have hf3 := okQ.step hst3 hfr.out; have v0 := (World.cell?_of_block (a := ⟨w8.heap.size, 0, none⟩) hf3.1).trans x0; have v1 := (World.cell?_of_block (a := ⟨w8.heap.size, 1, none⟩) hf3.1).trans x1; obtain ⟨w11, hput, hhn, hgr⟩ := HPt.out _ hh3))
          go_roundw
          case rel => exact ⟨k + 1, HL.out, by go_num, D3, U3, by rw [HEV.out]; exact hs3.grown hgr hokh3.2, (HST.out.trans hst3).grown hgr (by omega), hm3.kept (hgr.block b1 hoke3.2.2.1 (fun e => by injection e with e; exact hne e)), ⟨hoke3.2.1, Nat.lt_of_lt_of_le hoke3.2.2.1 hgr.size, hoke3.2.2.2⟩, hhn, ⟨hokh3.2.1, Nat.lt_of_lt_of_le hokh3.2.2.1 hgr.size, hokh3.2.2.2⟩, hne⟩
          case measure => have := HL.out; simp [upN, intOf]; omega
         ·have gx := nonempty_of hx
          cases an
          ·rw [if_neg (fun h => by cases h.2), List.append_nil] at HEV
           clear hx
           go_wp2_with (first
            | (go_at_call 57; refine Calls.mono HGl.out ?_; rintro e w9 ⟨rfl, D3, U3, hs3, hst3⟩; have hoke3 := okQ.step hst3 HK.out.1.2; have hokh3 := okQ.step hst3 HK.out.2.2; have hm3 := (HM2.out.1.kept HK.out.1.1).kept hoke3.1; have hh3 := (HM2.out.2.kept HK.out.2.1).kept hokh3.1; have hf3 := okQ.step hst3 hfr.out; have v0 := (World.cell?_of_block (a := ⟨w8.heap.size, 0, none⟩) hf3.1).trans x0; have v1 := (World.cell?_of_block (a := ⟨w8.heap.size, 1, none⟩) hf3.1).trans x1; have hlk := HLk.out _ hh3; obtain ⟨w11, hput, hhn, hgr⟩ := HPt.out _ hh3))
           go_roundw
           case rel => exact ⟨k + 1, HL.out, by go_num, D3, U3, by rw [HEV.out]; exact hs3.grown hgr hokh3.2, (HST.out.trans hst3).grown hgr (by omega), hm3.kept (hgr.block b1 hoke3.2.2.1 (fun e => by injection e with e; exact hne e)), ⟨hoke3.2.1, Nat.lt_of_lt_of_le hoke3.2.2.1 hgr.size, hoke3.2.2.2⟩, hhn, ⟨hokh3.2.1, Nat.lt_of_lt_of_le hokh3.2.2.1 hgr.size, hokh3.2.2.2⟩, hne⟩
           case measure => have := HL.out; simp [upN, intOf]; omega
          ·rw [if_pos ⟨hx, rfl⟩] at HEV
           have HLn := hid (show (M2 k ++ evChan l r.x r.a).length < 1099511627776 by have h := HB3.out; rw [HEV.out] at h; simp only [List.length_append] at h ⊢; omega)
           clear hx
           go_wp2_with (first
            | (go_at_call 57; refine Calls.mono HGl.out ?_; rintro e w9 ⟨rfl, D3, U3, hs3, hst3⟩; have hoke3 := okQ.step hst3 HK.out.1.2; have hokh3 := okQ.step hst3 HK.out.2.2; have hm3 := (HM2.out.1.kept HK.out.1.1).kept hoke3.1; have hh3 := (HM2.out.2.kept HK.out.2.1).kept hokh3.1; have hf3 := okQ.step hst3 hfr.out; have v0 := (World.cell?_of_block (a := ⟨w8.heap.size, 0, none⟩) hf3.1).trans x0; have v1 := (World.cell?_of_block (a := ⟨w8.heap.size, 1, none⟩) hf3.1).trans x1; have hlk := HLk.out _ hh3; have HBd3 := hid (rn_bad hs3 HLn.out 7 r.x r.a))
            | (go_at_call 55; refine Calls.mono HBd3.out ?_; rintro e w10 ⟨rfl, D4, U4, hs4, hst4⟩; have hoke4 := okQ.step hst4 hoke3.2; have hokh4 := okQ.step hst4 hokh3.2; have hm4 := hm3.kept hoke4.1; have hh4 := hh3.kept hokh4.1; have hf4 := okQ.step hst4 hf3.2; have u0 := (World.cell?_of_block (a := ⟨w8.heap.size, 0, none⟩) hf4.1).trans v0; obtain ⟨w11, hput, hhn, hgr⟩ := HPt.out _ hh4))
           go_roundw
           case rel => exact ⟨k + 1, HL.out, by go_num, D4, U4, by rw [HEV.out]; exact hs4.grown hgr hokh4.2, ((HST.out.trans hst3).trans hst4).grown hgr (by omega), hm4.kept (hgr.block b1 hoke4.2.2.1 (fun e => by injection e with e; exact hne e)), ⟨hoke4.2.1, Nat.lt_of_lt_of_le hoke4.2.2.1 hgr.size, hoke4.2.2.2⟩, hhn, ⟨hokh4.2.1, Nat.lt_of_lt_of_le hokh4.2.2.1 hgr.size, hokh4.2.2.2⟩, hne⟩
           case measure => have := HL.out; simp [upN, intOf]; omega
        ·obtain rfl : k = it.ss.length := by omega
         have q5' := (World.cell?_of_block (a := ⟨w.heap.size + 2, 5, none⟩) hok8.1).trans r5
         have hlow := Stq.low hst2 HP1.out.1
         obtain ⟨nw, hwb⟩ := HWF.out.bd
         have hsl := scP_len it.ps []
         have HC := hid (rn_block nw D2 U2 _ _ (scP [] it.ps) b1 it.bd p3 c3 nb T.length hs2 hm2 hoke (HP1.out.2.2.2.kept hlow (fun _ h => h) (RdS.kept nb hlow (fun _ h => h))) hwb (by rw [List.length_nil] at hsl; omega) hbnd.2.2)
         rw [← HFin.out] at HC
         clear hlt hkl hSh hwb hsl
         go_wp2_with (first
          | (go_at_call 58; refine Calls.mono HC.out ?_; rintro e w9 ⟨rfl, D9, U9, hs9, hst9⟩))
         go_ret
         exact ⟨rfl, ⟨D9, U9, hs9⟩, HBlP.out _ D9 U9 (hst2.trans hst9)⟩

    ·rw [if_neg h2, List.append_nil] at hn ⊢
     have g2 : ((it.k : Int) != 2) = true := by simp; omega
     clear h2 h3
     go_enter Tryz.func27, Tryz.ntmps27
     go_wp2_with (first
      | (go_at_call 13; refine Calls.mono HFi.out ?_; rintro e wF ⟨rfl, hbF⟩; have hstF : Stq (w.heap.size + 1) none none none none _ wF := Stq.below hbF; have hfF := okQ.step hstF HZ.out.2.1; have z0 := (World.cell?_of_block (a := ⟨w.heap.size + 2, 0, none⟩) hfF.1).trans t0; have z1 := (World.cell?_of_block (a := ⟨w.heap.size + 2, 1, none⟩) hfF.1).trans t1; have z3 := (World.cell?_of_block (a := ⟨w.heap.size + 2, 3, none⟩) hfF.1).trans t3; have z4 := (World.cell?_of_block (a := ⟨w.heap.size + 2, 4, none⟩) hfF.1).trans t4; have z5 := (World.cell?_of_block (a := ⟨w.heap.size + 2, 5, none⟩) hfF.1).trans t5; have z8 := (World.cell?_of_block (a := ⟨w.heap.size + 2, 8, none⟩) hfF.1).trans t8; have HBd := hid (rn_bad (HZ.out.1.below hbF) (by simp) 7 it.x it.mrk))
      | (go_at_call 55; refine Calls.mono HBd.out ?_; rintro e wB ⟨rfl, DB, UB, hsB, hstB⟩; have hfB := okQ.step hstB hfF.2; have y0 := (World.cell?_of_block (a := ⟨w.heap.size + 2, 0, none⟩) hfB.1).trans z0; have y1 := (World.cell?_of_block (a := ⟨w.heap.size + 2, 1, none⟩) hfB.1).trans z1; have y3 := (World.cell?_of_block (a := ⟨w.heap.size + 2, 3, none⟩) hfB.1).trans z3; have y4 := (World.cell?_of_block (a := ⟨w.heap.size + 2, 4, none⟩) hfB.1).trans z4; have y5 := (World.cell?_of_block (a := ⟨w.heap.size + 2, 5, none⟩) hfB.1).trans z5; have y8 := (World.cell?_of_block (a := ⟨w.heap.size + 2, 8, none⟩) hfB.1).trans z8))
     go_ret
     exact ⟨rfl, ⟨DB, UB, hsB⟩, HBl.out _ DB UB (hstF.trans hstB)⟩
   ·rw [if_neg (fun h => hlt h.2.2)] at hn ⊢
    obtain rfl : i = kk := by omega
    clear hlt hki
    by_cases h2 : it.k = 2
    ·rw [if_pos h2] at hn ⊢
     have g2 : ((it.k : Int) != 2) = false := by rw [h2]; rfl
     clear h2 h3
     go_enter Tryz.func27, Tryz.ntmps27
     go_wp2_with (first
      | (go_at_call 13; refine Calls.mono HFi.out ?_; rintro e wF ⟨rfl, hbF⟩; have hstF : Stq (w.heap.size + 1) none none none none _ wF := Stq.below hbF; have hfF := okQ.step hstF HZ.out.2.1; have z0 := (World.cell?_of_block (a := ⟨w.heap.size + 2, 0, none⟩) hfF.1).trans t0; have z1 := (World.cell?_of_block (a := ⟨w.heap.size + 2, 1, none⟩) hfF.1).trans t1; have z3 := (World.cell?_of_block (a := ⟨w.heap.size + 2, 3, none⟩) hfF.1).trans t3; have z4 := (World.cell?_of_block (a := ⟨w.heap.size + 2, 4, none⟩) hfF.1).trans t4; have z5 := (World.cell?_of_block (a := ⟨w.heap.size + 2, 5, none⟩) hfF.1).trans t5; have z8 := (World.cell?_of_block (a := ⟨w.heap.size + 2, 8, none⟩) hfF.1).trans t8; have x3 := cell_alloc z3; have x4 := cell_alloc z4))
     have hsP : RS (w.heap.size + 1) l i p (some ⟨g, 0, none⟩) c wF [] none none := HZ.out.1.below hbF
     have hstP : Stq (w.heap.size + 1) none none none none (((w.alloc (.cells #[.slice (some ⟨g, 0, none⟩) l.length c] 25)).alloc (.cells #[.slice (some ⟨g, 0, none⟩) l.length c, .int .i64 (i : Int), .slice none 0 0, .slice none 0 0] 68)).alloc (.cells #[.int .i64 (it.k : Int), .string it.x, .int .i64 (it.l : Int), .slice p1 it.ps.length c1, .slice p2 it.ss.length c2, .slice p3 it.bd.length c3, .int .i64 p, .int .i64 (it.sz : Int), .int .i64 (it.mrk : Int), .slice p4 it.ds.length c4] 36)) wF := hstF
     have hokI := okQ.step hstP HZ.out.2.1
     have hlowP := Stq.low hstP HZ.out.1
     have r3 := (World.cell?_of_block (a := ⟨w.heap.size + 2, 3, none⟩) hokI.1).trans t3
     have r4 := (World.cell?_of_block (a := ⟨w.heap.size + 2, 4, none⟩) hokI.1).trans t4
     have r5 := (World.cell?_of_block (a := ⟨w.heap.size + 2, 5, none⟩) hokI.1).trans t5
     have hPP : SlAt (fun k => k < w.heap.size + 1) wF 3 pmC it.ps p1 := HZ.out.2.2.1.kept hlowP
     have hSP : SlAt (fun k => k < w.heap.size + 1) wF 2 rfC it.ss p2 := HZ.out.2.2.2.1.kept hlowP
     have hBP := HZ.out.2.2.2.2.kept hlowP (fun _ h => h) (RdS.kept nb hlowP (fun _ h => h))
     have hbm := (Below.refl wF.heap.size wF).alloc (Nat.le_refl _) (.map #[] 0)
     have HBlP : Hid (∀ (w' : World) (D U : Option Nat), Stq (w.heap.size + 1) none none D U wF w' → Below w.heap.size w w') := fun w' D U h => HBl.out w' D U (hstP.trans h)
     have HM0 := hid (show MkQ (w.heap.size + 1) l i p (some ⟨g, 0, none⟩) c none none [] [] wF.heap.size wF (wF.alloc (.map #[] 0)) from ⟨none, none, hsP.below hbm, Stq.below hbm, ⟨0, Nat.le_refl _, World.ownsMap_made _ _ _ _⟩, hsP.fresh (Nat.le_refl _) (by simp)⟩)
     have hbnd : ([] ++ evP [] it.ps).length < 1099511627776 ∧ ([] ++ evP [] it.ps ++ evSk l it.ss it.ss.length).length < 1099511627776 ∧ ([] ++ evP [] it.ps ++ evSk l it.ss it.ss.length ++ evB l p (scP [] it.ps) it.bd).length < 1099511627776 := by
      unfold evF at hn
      simp only [List.length_append] at hn ⊢
      omega
     have HFin : Hid ([] ++ evF l p it = [] ++ evP [] it.ps ++ evSk l it.ss it.ss.length ++ evB l p (scP [] it.ps) it.bd) := by show _ = _; unfold evF; simp only [List.append_assoc]
     have HBd1 := hid (fun k => Nat.lt_of_le_of_lt (nm_par_less [] it.ps k []) hbnd.1)
     have HMp := hid (fun k a (h : it.ps[k]? = some a) => nm_par_take [] [] h)
     have HEl := hid (fun k => scP_len (it.ps.take k) [])
     have HZp : Hid ([] ++ evP [] (it.ps.take it.ps.length) = [] ++ evP [] it.ps ∧ scP [] (it.ps.take it.ps.length) = scP [] it.ps) := by show _ ∧ _; rw [List.take_length]; exact ⟨rfl, rfl⟩
     have H0p : Hid ([] ++ evP [] (it.ps.take 0) = [] ∧ scP [] (it.ps.take 0) = []) := by show _ ∧ _; rw [List.take_zero]; exact ⟨List.append_nil _, rfl⟩
     have hpn := HWF.out.pn
     have hsn := HWF.out.sn
     generalize hM : (fun k => [] ++ evP [] (it.ps.take k)) = M
     generalize hEd : (fun k => scP [] (it.ps.take k)) = E
     have hMk : ∀ k, [] ++ evP [] (it.ps.take k) = M k := fun k => by rw [← hM]
     have hEk : ∀ k, scP [] (it.ps.take k) = E k := fun k => by rw [← hEd]
     simp only [hMk, hEk] at HBd1 HMp HZp H0p HEl
     rw [← H0p.out.1, ← H0p.out.2] at HM0
     have HP1 := hid (And.intro hsP (And.intro hPP (And.intro hSP hBP)))
     obtain ⟨hPl, hPh⟩ := hPP
     obtain ⟨hSl, hSh⟩ := hSP
     have r4' := cell_alloc r4
     have r3' := cell_alloc r3
     clear hM hMk hEd hEk hsP hbm hlowP hBP
     go_loopw [7, 54] (fun ev j wr => RelRb (w.heap.size + 1) l i p (some ⟨g, 0, none⟩) c none none wF M E it.ps.length ev j wr) (fun _ j _ => upN it.ps.length j)
     case atStart => exact ⟨0, _, Nat.zero_le _, rfl, rfl, HM0.out⟩
     case round =>
      obtain ⟨j, b1, hjl, rfl, rfl, D1, U1, hsr, hstr, hmr, hokr⟩ := hrel
      by_cases hlt : j < it.ps.length
      ·obtain ⟨gp, hpe, hgo2, hFl⟩ := hPh (by omega)
       subst hpe
       obtain ⟨r, hr⟩ : ∃ r, it.ps[j]? = some r := ⟨_, List.getElem?_eq_getElem hlt⟩
       have hlow := Stq.low hstr HP1.out.1
       have hcg : ∀ o, wr.cell? ⟨gp, o, none⟩ = wF.cell? ⟨gp, o, none⟩ := fun o => World.cell?_of_block (a := ⟨gp, o, none⟩) (hlow gp hgo2)
       have d0 := (hcg (j * 3 + 0)).trans (hFl j r hr 0 _ rfl)
       have d1 := (hcg (j * 3 + 1)).trans (hFl j r hr 1 _ rfl)
       have d2 := (hcg (j * 3 + 2)).trans (hFl j r hr 2 _ rfl)
       rw [Nat.add_zero] at d0
       have gj : (0 : Int) ≤ (j : Int) := by omega
       have gj1 : (j : Int) < (it.ps.length : Int) := by omega
       have hjb : j < 1099511627776 := by omega
       have hba := (Below.refl wr.heap.size wr).alloc (Nat.le_refl _) (.cells #[.string r.x, .int .i64 (r.l : Int), .int .i64 (r.a : Int)] 62)
       have hsa : Stq (w.heap.size + 1) D1 U1 D1 U1 wr _ := Stq.below hba
       have hok1 := okQ.step hsa hokr
       have hxs : r.x.size ≤ 1000000 := by
        rcases HWF.out.ps r (List.mem_of_getElem? hr) with h | h
        ·rw [h]; decide
        ·have := tkn_size h; omega
       have hnx := HMp.out j _ hr
       have hel := HEl.out j
       have HC := hid (rn_with (hsr.below hba) (HBd1.out j) (hmr.kept hok1.1) hok1.2 (by rw [List.length_take, List.length_nil] at hel; omega) r.x r.a hxs)
       rw [← hnx.1, ← hnx.2] at HC
       have HL := hid hlt
       have HS := hid (hstr.trans hsa)
       clear hPh hFl hr hcg hnx hlt hjl hba hsa hok1 hstr hsr hmr hokr hlow hel
       go_wp2_with (first
        | (go_at_call 56; refine Calls.mono HC.out ?_; rintro e w9 ⟨b9, rfl, D9, U9, hs9, hst9, hm9, hok9⟩))
       go_roundw
       case rel => exact ⟨j + 1, b9, HL.out, by go_num, rfl, D9, U9, hs9, HS.out.trans hst9, hm9, hok9⟩
       case measure => have := HL.out; simp [upN, intOf]; omega
      ·obtain rfl : j = it.ps.length := by omega
       rw [HZp.out.1] at hsr
       rw [HZp.out.2] at hmr
       clear hlt hjl hPh HMp HBd1 HZp H0p HM0 HEl
       have hbm := (Below.refl wr.heap.size wr).alloc (Nat.le_refl _) (.map #[] 0)
       have hsm : Stq (w.heap.size + 1) D1 U1 D1 U1 wr (wr.alloc (.map #[] 0)) := Stq.below hbm
       have hok1 := okQ.step hsm hokr
       have HBd2 := hid (fun k (h : k ≤ it.ss.length) => Nat.lt_of_le_of_lt (nm_sk_less l it.ss ([] ++ evP [] it.ps) k _ h) hbnd.2.1)
       have HMs : Hid (∀ k, ([] ++ evP [] it.ps) ++ evSk l it.ss (k + 1) = (([] ++ evP [] it.ps) ++ evSk l it.ss k) ++ evSd l it.ss k) := fun k => (List.append_assoc _ _ _).symm
       have HS0 := hid (show RelL2 (w.heap.size + 1) l i p (some ⟨g, 0, none⟩) c none none wF (fun k => ([] ++ evP [] it.ps) ++ evSk l it.ss k) (scP [] it.ps) b1 wr.heap.size it.ss (.int .i64 0) (wr.alloc (.map #[] 0)) from ⟨0, Nat.zero_le _, rfl, D1, U1, by simpa [evSk] using hsr.below hbm, hstr.trans hsm, hmr.kept hok1.1, hok1.2, World.ownsMap_made _ _ _ _, hsr.fresh (Nat.le_refl _) (by simp), by have := hokr.2.1; omega⟩)
       generalize hM2 : (fun k => ([] ++ evP [] it.ps) ++ evSk l it.ss k) = M2 at *
       have hMk2 : ∀ k, ([] ++ evP [] it.ps) ++ evSk l it.ss k = M2 k := fun k => by rw [← hM2]
       simp only [hMk2] at HBd2 HMs hbnd HFin
       have hf9 := okQ.step (hstr.trans hsm) hokI.2
       have q4 := (World.cell?_of_block (a := ⟨w.heap.size + 2, 4, none⟩) hf9.1).trans r4
       have q5 := (World.cell?_of_block (a := ⟨w.heap.size + 2, 5, none⟩) hf9.1).trans r5
       have HF9 := hid hf9.2
       have HWr := hid (hstr.trans hsm)
       have hbh : wF.heap.size ≤ wr.heap.size := hstr.size
       clear hM2 hMk2 hbm hsm hok1 hsr hmr hokr hstr hf9
       go_wp2
       generalize wr.heap.size = bh at *
       go_loopw [70] (fun j w8 => RelL2 (w.heap.size + 1) l i p (some ⟨g, 0, none⟩) c none none wF M2 (scP [] it.ps) b1 bh it.ss j w8) (fun j _ => upN it.ss.length j)
       case atStart => exact HS0.out
       case round =>
        obtain ⟨k, hkl, rfl, D2, U2, hs2, hst2, hm2, hoke, hh2, hokh, hne⟩ := hrel
        rename World => w8
        have hok8 := okQ.step hst2 hokI.2
        by_cases hlt : k < it.ss.length
        ·obtain ⟨gs, hpe, hgo2, hFl⟩ := hSh (by omega)
         subst hpe
         obtain ⟨r, hr⟩ : ∃ r, it.ss[k]? = some r := ⟨_, List.getElem?_eq_getElem hlt⟩
         have hlow := Stq.low hst2 HP1.out.1
         have hcg : ∀ o, w8.cell? ⟨gs, o, none⟩ = wF.cell? ⟨gs, o, none⟩ := fun o => World.cell?_of_block (a := ⟨gs, o, none⟩) (hlow gs hgo2)
         have d0 := (hcg (k * 2 + 0)).trans (hFl k r hr 0 _ rfl)
         have d1 := (hcg (k * 2 + 1)).trans (hFl k r hr 1 _ rfl)
         rw [Nat.add_zero] at d0
         have gj : (0 : Int) ≤ (k : Int) := by omega
         have gj1 : (k : Int) < (it.ss.length : Int) := by omega
         have hjb : k < 1099511627776 := by omega
         have hba := (Below.refl w8.heap.size w8).alloc (Nat.le_refl _) (.cells #[.string r.x, .int .i64 (r.a : Int)] 45)
         obtain ⟨x0, x1⟩ := two_new w8 r.x r.a
         have hsa : Stq (w.heap.size + 1) D2 U2 D2 U2 w8 (w8.alloc (.cells #[.string r.x, .int .i64 (r.a : Int)] 45)) := Stq.below hba
         have hxs : r.x.size ≤ 1000000 := by
          rcases HWF.out.ss r (List.mem_of_getElem? hr) with h | h
          ·rw [h]; decide
          ·have := tkn_size h; omega
         have hxm : r.x.size ≤ maxLen := by unfold maxLen; omega
         have hev2 := HMs.out k
         have hsd : evSd l it.ss k = evChan l r.x r.a ++ (if r.x ≠ noB ∧ (it.ss.take k).any (fun q => decide (q.x = r.x)) = true then [evNo 7 r.x r.a] else []) := by unfold evSd; rw [hr]
         rw [hsd, ← List.append_assoc] at hev2
         have HGl := hid (rn_global (hs2.below hba) (HBd2.out k (by omega)) 1 r.x r.a)
         rw [evG_chan] at HGl
         have hfr := hid (hs2.fresh (w' := w8.alloc (.cells #[.string r.x, .int .i64 (r.a : Int)] 45)) (Nat.le_refl _) (by simp))
         have HK := hid (And.intro (okQ.step hsa hoke) (okQ.step hsa hokh))
         have HM2 := hid (And.intro hm2 hh2)
         have HLk := hid (fun (w9 : World) (h : HdAt w9 bh it.ss k) => hd_look h r.x hxm)
         have HPt := hid (fun (w9 : World) (h : HdAt w9 bh it.ss k) => hd_put h hr (by unfold maxLen; omega) hxm)
         have HL := hid hlt
         have HST := hid (hst2.trans hsa)
         have HB3 := hid (HBd2.out (k + 1) hlt)
         generalize hAn : (it.ss.take k).any (fun q => decide (q.x = r.x)) = an at *
         have HEV := hid hev2
         clear hSh hFl hr hcg hlt hkl hba hsa hst2 hs2 hm2 hoke hh2 hokh hlow hev2 hsd hAn hxm
         by_cases hx : r.x = noB
         ·have gx : r.x.toList.isEmpty = true := by rw [hx, noB_list]; rfl
          rw [if_neg (fun h => h.1 hx), List.append_nil] at HEV
          clear hx
          go_wp2_with (first
           | (go_at_call 57; refine Calls.mono HGl.out ?_; rintro e w9 ⟨rfl, D3, U3, hs3, hst3⟩; have hoke3 := okQ.step hst3 HK.out.1.2; have hokh3 := okQ.step hst3 HK.out.2.2; have hm3 := (HM2.out.1.kept HK.out.1.1).kept hoke3.1; have hh3 := (HM2.out.2.kept HK.out.2.1).kept hokh3.1; have hf3 := okQ.step hst3 hfr.out; have v0 := (World.cell?_of_block (a := ⟨w8.heap.size, 0, none⟩) hf3.1).trans x0; have v1 := (World.cell?_of_block (a := ⟨w8.heap.size, 1, none⟩) hf3.1).trans x1; obtain ⟨w11, hput, hhn, hgr⟩ := HPt.out _ hh3))
          go_roundw
          case rel => exact ⟨k + 1, HL.out, by go_num, D3, U3, by rw [HEV.out]; exact hs3.grown hgr hokh3.2, (HST.out.trans hst3).grown hgr (by omega), hm3.kept (hgr.block b1 hoke3.2.2.1 (fun e => by injection e with e; exact hne e)), ⟨hoke3.2.1, Nat.lt_of_lt_of_le hoke3.2.2.1 hgr.size, hoke3.2.2.2⟩, hhn, ⟨hokh3.2.1, Nat.lt_of_lt_of_le hokh3.2.2.1 hgr.size, hokh3.2.2.2⟩, hne⟩
          case measure => have := HL.out; simp [upN, intOf]; omega
         ·have gx := nonempty_of hx
          cases an
          ·rw [if_neg (fun h => by cases h.2), List.append_nil] at HEV
           clear hx
           go_wp2_with (first
            | (go_at_call 57; refine Calls.mono HGl.out ?_; rintro e w9 ⟨rfl, D3, U3, hs3, hst3⟩; have hoke3 := okQ.step hst3 HK.out.1.2; have hokh3 := okQ.step hst3 HK.out.2.2; have hm3 := (HM2.out.1.kept HK.out.1.1).kept hoke3.1; have hh3 := (HM2.out.2.kept HK.out.2.1).kept hokh3.1; have hf3 := okQ.step hst3 hfr.out; have v0 := (World.cell?_of_block (a := ⟨w8.heap.size, 0, none⟩) hf3.1).trans x0; have v1 := (World.cell?_of_block (a := ⟨w8.heap.size, 1, none⟩) hf3.1).trans x1; have hlk := HLk.out _ hh3; obtain ⟨w11, hput, hhn, hgr⟩ := HPt.out _ hh3))
           go_roundw
           case rel => exact ⟨k + 1, HL.out, by go_num, D3, U3, by rw [HEV.out]; exact hs3.grown hgr hokh3.2, (HST.out.trans hst3).grown hgr (by omega), hm3.kept (hgr.block b1 hoke3.2.2.1 (fun e => by injection e with e; exact hne e)), ⟨hoke3.2.1, Nat.lt_of_lt_of_le hoke3.2.2.1 hgr.size, hoke3.2.2.2⟩, hhn, ⟨hokh3.2.1, Nat.lt_of_lt_of_le hokh3.2.2.1 hgr.size, hokh3.2.2.2⟩, hne⟩
           case measure => have := HL.out; simp [upN, intOf]; omega
          ·rw [if_pos ⟨hx, rfl⟩] at HEV
           have HLn := hid (show (M2 k ++ evChan l r.x r.a).length < 1099511627776 by have h := HB3.out; rw [HEV.out] at h; simp only [List.length_append] at h ⊢; omega)
           clear hx
           go_wp2_with (first
            | (go_at_call 57; refine Calls.mono HGl.out ?_; rintro e w9 ⟨rfl, D3, U3, hs3, hst3⟩; have hoke3 := okQ.step hst3 HK.out.1.2; have hokh3 := okQ.step hst3 HK.out.2.2; have hm3 := (HM2.out.1.kept HK.out.1.1).kept hoke3.1; have hh3 := (HM2.out.2.kept HK.out.2.1).kept hokh3.1; have hf3 := okQ.step hst3 hfr.out; have v0 := (World.cell?_of_block (a := ⟨w8.heap.size, 0, none⟩) hf3.1).trans x0; have v1 := (World.cell?_of_block (a := ⟨w8.heap.size, 1, none⟩) hf3.1).trans x1; have hlk := HLk.out _ hh3; have HBd3 := hid (rn_bad hs3 HLn.out 7 r.x r.a))
            | (go_at_call 55; refine Calls.mono HBd3.out ?_; rintro e w10 ⟨rfl, D4, U4, hs4, hst4⟩; have hoke4 := okQ.step hst4 hoke3.2; have hokh4 := okQ.step hst4 hokh3.2; have hm4 := hm3.kept hoke4.1; have hh4 := hh3.kept hokh4.1; have hf4 := okQ.step hst4 hf3.2; have u0 := (World.cell?_of_block (a := ⟨w8.heap.size, 0, none⟩) hf4.1).trans v0; obtain ⟨w11, hput, hhn, hgr⟩ := HPt.out _ hh4))
           go_roundw
           case rel => exact ⟨k + 1, HL.out, by go_num, D4, U4, by rw [HEV.out]; exact hs4.grown hgr hokh4.2, ((HST.out.trans hst3).trans hst4).grown hgr (by omega), hm4.kept (hgr.block b1 hoke4.2.2.1 (fun e => by injection e with e; exact hne e)), ⟨hoke4.2.1, Nat.lt_of_lt_of_le hoke4.2.2.1 hgr.size, hoke4.2.2.2⟩, hhn, ⟨hokh4.2.1, Nat.lt_of_lt_of_le hokh4.2.2.1 hgr.size, hokh4.2.2.2⟩, hne⟩
           case measure => have := HL.out; simp [upN, intOf]; omega
        ·obtain rfl : k = it.ss.length := by omega
         have q5' := (World.cell?_of_block (a := ⟨w.heap.size + 2, 5, none⟩) hok8.1).trans r5
         have hlow := Stq.low hst2 HP1.out.1
         obtain ⟨nw, hwb⟩ := HWF.out.bd
         have hsl := scP_len it.ps []
         have HC := hid (rn_block nw D2 U2 _ _ (scP [] it.ps) b1 it.bd p3 c3 nb T.length hs2 hm2 hoke (HP1.out.2.2.2.kept hlow (fun _ h => h) (RdS.kept nb hlow (fun _ h => h))) hwb (by rw [List.length_nil] at hsl; omega) hbnd.2.2)
         rw [← HFin.out] at HC
         clear hlt hkl hSh hwb hsl
         go_wp2_with (first
          | (go_at_call 58; refine Calls.mono HC.out ?_; rintro e w9 ⟨rfl, D9, U9, hs9, hst9⟩))
         go_ret
         exact ⟨rfl, ⟨D9, U9, hs9⟩, HBlP.out _ D9 U9 (hst2.trans hst9)⟩

    ·rw [if_neg h2, List.append_nil] at hn ⊢
     have g2 : ((it.k : Int) != 2) = true := by simp; omega
     clear h2 h3
     go_enter Tryz.func27, Tryz.ntmps27
     go_wp2_with (first
      | (go_at_call 13; refine Calls.mono HFi.out ?_; rintro e wF ⟨rfl, hbF⟩; have hstF : Stq (w.heap.size + 1) none none none none _ wF := Stq.below hbF; have hfF := okQ.step hstF HZ.out.2.1; have z0 := (World.cell?_of_block (a := ⟨w.heap.size + 2, 0, none⟩) hfF.1).trans t0; have z1 := (World.cell?_of_block (a := ⟨w.heap.size + 2, 1, none⟩) hfF.1).trans t1; have z3 := (World.cell?_of_block (a := ⟨w.heap.size + 2, 3, none⟩) hfF.1).trans t3; have z4 := (World.cell?_of_block (a := ⟨w.heap.size + 2, 4, none⟩) hfF.1).trans t4; have z5 := (World.cell?_of_block (a := ⟨w.heap.size + 2, 5, none⟩) hfF.1).trans t5; have z8 := (World.cell?_of_block (a := ⟨w.heap.size + 2, 8, none⟩) hfF.1).trans t8))
     go_ret
     exact ⟨rfl, ⟨none, none, HZ.out.1.below hbF⟩, HBl.out _ none none hstF⟩
end Go.Proofs.YtdkpfnohdknldaaGreatDoor
namespace Go.Proofs.YtdkpfnohdknldaaGreatDoor
open Go.RowKit
set_option linter.unusedVariables false
attribute [local go_sem ↓] Go.wp_at_zero Go.wp_at_succ
end Go.Proofs.YtdkpfnohdknldaaGreatDoor
namespace Go.Proofs.YtdkpfnohdknldaaGreatDoor
open Go.RowKit
set_option linter.unusedVariables false
attribute [local go_sem ↓] Go.wp_at_zero Go.wp_at_succ
end Go.Proofs.YtdkpfnohdknldaaGreatDoor


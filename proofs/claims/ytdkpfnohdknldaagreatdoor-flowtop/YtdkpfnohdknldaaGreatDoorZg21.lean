/- Texts of this seat, one behind the other: RnState, RnBad, RnFind, RnMap, RnWith, RnLoc. -/
import Derived.Test.YtdkpfnohdknldaaGreatDoorZg19
import Derived.Deep.AppendLies
import Derived.Maps.Ext
import Derived.Deep.RegionHeld3
import Derived.Maps.RangeWalk
import Derived.BigRegion
namespace Go.Proofs.YtdkpfnohdknldaaGreatDoor
open Go.RowKit
set_option linter.unusedVariables false
attribute [local go_sem ↓] Go.wp_at_zero Go.wp_at_succ
structure Stq (bn : Nat) (Dd Du Dd' Du' : Option Nat) (w w' : World) : Prop where
 os : w'.os = w.os
 tape : w'.tape = w.tape
 output : w'.output = w.output
 size : w.heap.size ≤ w'.heap.size
 block : ∀ k, k < w.heap.size → k ≠ bn → some k ≠ Dd → some k ≠ Du → w'.heap[k]? = w.heap[k]?
 d : Dd' = Dd ∨ ∃ j, Dd' = some j ∧ w.heap.size ≤ j
 u : Du' = Du ∨ ∃ j, Du' = some j ∧ w.heap.size ≤ j
def okQ (bn : Nat) (Dd Du : Option Nat) (w : World) (k : Nat) : Prop := bn < k ∧ k < w.heap.size ∧ some k ≠ Dd ∧ some k ≠ Du
section
variable {bn : Nat} {Dd Du Dd' Du' Dd2 Du2 : Option Nat} {w w' w2 : World}
theorem Stq.refl (bn : Nat) (Dd Du : Option Nat) (w : World) : Stq bn Dd Du Dd Du w w := ⟨rfl, rfl, rfl, Nat.le_refl _, fun _ _ _ _ _ => rfl, .inl rfl, .inl rfl⟩
theorem Stq.fresh (h : Stq bn Dd Du Dd' Du' w w') {k : Nat} (hk : k < w.heap.size) (h1 : some k ≠ Dd) (h2 : some k ≠ Du) : some k ≠ Dd' ∧ some k ≠ Du' := by
 refine ⟨fun e => ?_, fun e => ?_⟩
 ·rcases h.d with e2 | ⟨j, e2, hj⟩
  ·exact h1 (by rw [e, e2])
  ·rw [e2] at e; injection e with e; omega
 ·rcases h.u with e2 | ⟨j, e2, hj⟩
  ·exact h2 (by rw [e, e2])
  ·rw [e2] at e; injection e with e; omega
theorem Stq.trans (h : Stq bn Dd Du Dd' Du' w w') (k : Stq bn Dd' Du' Dd2 Du2 w' w2) : Stq bn Dd Du Dd2 Du2 w w2 where
 os := k.os.trans h.os
 tape := k.tape.trans h.tape
 output := k.output.trans h.output
 size := Nat.le_trans h.size k.size
 block := fun b h1 h2 h3 h4 => (k.block b (Nat.lt_of_lt_of_le h1 h.size) h2 (h.fresh h1 h3 h4).1 (h.fresh h1 h3 h4).2).trans (h.block b h1 h2 h3 h4)
 d := by
  rcases k.d with e | ⟨j, e, hj⟩
  ·rw [e]; exact h.d
  ·exact .inr ⟨j, e, Nat.le_trans h.size hj⟩
 u := by
  rcases k.u with e | ⟨j, e, hj⟩
  ·rw [e]; exact h.u
  ·exact .inr ⟨j, e, Nat.le_trans h.size hj⟩
theorem Stq.below (h : Below w.heap.size w w') : Stq bn Dd Du Dd Du w w' := ⟨h.os, h.tape, h.output, h.size, fun k hk _ _ _ => h.block k hk, .inl rfl, .inl rfl⟩
theorem okQ.step (h : Stq bn Dd Du Dd' Du' w w') {k : Nat} (hk : okQ bn Dd Du w k) : w'.heap[k]? = w.heap[k]? ∧ okQ bn Dd' Du' w' k :=
 ⟨h.block k hk.2.1 (by have := hk.1; omega) hk.2.2.1 hk.2.2.2, hk.1, Nat.lt_of_lt_of_le hk.2.1 h.size, (h.fresh hk.2.1 hk.2.2.1 hk.2.2.2).1, (h.fresh hk.2.1 hk.2.2.1 hk.2.2.2).2⟩
end
structure RS (bn : Nat) (l : List (Int × It)) (i : Nat) (p : Int) (fq : Option Addr) (fc : Nat) (w : World) (L : List Ev) (Dd Du : Option Nat) : Prop where
 blk : ∃ vd vu, w.heap[bn]? = some (.cells #[.slice fq l.length fc, .int .i64 (i : Int), vd, vu] 68 (0, 0)) ∧ w.ownsRow (bn + 1) 65 4 vd (noL L).length ((noL L).flatMap dvC) ∧ vd.ownBlock = Dd ∧ w.ownsRow (bn + 1) 167 3 vu (usI p L).length ((usI p L).flatMap uvC) ∧ vu.ownBlock = Du ∧ RdF (fun k => k < bn) w l (.agg #[.slice fq l.length fc])
 ne : ∀ k, some k = Dd → some k ≠ Du
 at_ : ∃ it, l[i]? = some (p, it)
def TQ (bn : Nat) (l : List (Int × It)) (i : Nat) (p : Int) (fq : Option Addr) (fc : Nat) (Dd Du : Option Nat) (L : List Ev) (w w' : World) : Prop := ∃ Dd' Du', RS bn l i p fq fc w' L Dd' Du' ∧ Stq bn Dd Du Dd' Du' w w'
section
variable {bn : Nat} {l : List (Int × It)} {i : Nat} {p : Int} {fq : Option Addr} {fc : Nat} {L : List Ev} {Dd Du : Option Nat} {w w' : World}
theorem RS.lt (h : RS bn l i p fq fc w L Dd Du) : bn < w.heap.size ∧ (∀ k, some k = Dd → bn < k ∧ k < w.heap.size) ∧ ∀ k, some k = Du → bn < k ∧ k < w.heap.size := by
 obtain ⟨vd, vu, h1, h2, h3, h4, h5, _⟩ := h.blk
 refine ⟨(Array.getElem?_eq_some_iff.1 h1).1, fun k e => ?_, fun k e => ?_⟩
 ·have := h2.lt k (h3.trans e.symm); exact ⟨this.1, this.2⟩
 ·have := h4.lt k (h5.trans e.symm); exact ⟨this.1, this.2⟩
theorem RS.kept (h : RS bn l i p fq fc w L Dd Du) (h0 : ∀ k, k ≤ bn → w'.heap[k]? = w.heap[k]?) (hd : ∀ k, some k = Dd → w'.heap[k]? = w.heap[k]?) (hu : ∀ k, some k = Du → w'.heap[k]? = w.heap[k]?) : RS bn l i p fq fc w' L Dd Du := by
 obtain ⟨vd, vu, h1, h2, h3, h4, h5, h6⟩ := h.blk
 exact ⟨⟨vd, vu, (h0 bn (Nat.le_refl _)).trans h1, own_kept h2 (fun g e => hd g (e.symm.trans h3)), h3, own_kept h4 (fun g e => hu g (e.symm.trans h5)), h5, RdF.kept h6 (fun k hk => h0 k (Nat.le_of_lt hk)) (fun _ h => h)⟩, h.ne, h.at_⟩
theorem RS.below (h : RS bn l i p fq fc w L Dd Du) (hb : Below w.heap.size w w') : RS bn l i p fq fc w' L Dd Du :=
 h.kept (fun k hk => hb.block k (Nat.lt_of_le_of_lt hk h.lt.1)) (fun k e => hb.block k (h.lt.2.1 k e).2) (fun k e => hb.block k (h.lt.2.2 k e).2)
theorem Stq.low {Dd' Du' : Option Nat} (hs : Stq bn Dd Du Dd' Du' w w') (h : RS bn l i p fq fc w L Dd Du) : ∀ k, k < bn → w'.heap[k]? = w.heap[k]? := fun k hk =>
 hs.block k (Nat.lt_trans hk h.lt.1) (by omega) (fun e => by have := (h.lt.2.1 k e).1; omega) (fun e => by have := (h.lt.2.2 k e).1; omega)
theorem RS.fresh (h : RS bn l i p fq fc w L Dd Du) {k : Nat} (h1 : w.heap.size ≤ k) (h2 : k < w'.heap.size) : okQ bn Dd Du w' k :=
 ⟨Nat.lt_of_lt_of_le h.lt.1 h1, h2, fun e => by have := (h.lt.2.1 k e).2; omega, fun e => by have := (h.lt.2.2 k e).2; omega⟩
end
section
variable {bn : Nat} {l : List (Int × It)} {i : Nat} {p : Int} {fq : Option Addr} {fc : Nat} {L : List Ev} {Dd Du : Option Nat} {w : World}
theorem rs_end2 (hs : RS bn l i p fq fc w L Dd Du) {W w2 : World} {vd vu : Value} {g cap e : Nat} {x : ByteArray} {a : Nat} (h1 : w.heap[bn]? = some (.cells #[.slice fq l.length fc, .int .i64 (i : Int), vd, vu] 68 (0, 0))) (h2 : w.ownsRow (bn + 1) 65 4 vd (noL L).length ((noL L).flatMap dvC)) (h3 : vd.ownBlock = Dd) (h4 : w.ownsRow (bn + 1) 167 3 vu (usI p L).length ((usI p L).flatMap uvC)) (h5 : vu.ownBlock = Du) (h6 : RdF (fun k => k < bn) w l (.agg #[.slice fq l.length fc]))
  (hb : Below w.heap.size w W) (hown : w2.ownsRow (bn + 1) 65 4 (.slice (some ⟨g, 0, none⟩) ((noL L).length + 1) cap) ((noL L).length + 1) ((noL L).flatMap dvC ++ dvC (evNo e x a))) (hgrow : W.grownBy w2 vd.ownBlock) (hat : vd.ownBlock = some g ∨ g = W.heap.size) :
  RS bn l i p fq fc (w2.setCell ⟨bn, 2, none⟩ (.slice (some ⟨g, 0, none⟩) ((noL L).length + 1) cap)) (L ++ [evNo e x a]) (some g) Du ∧ Stq bn Dd Du (some g) Du w (w2.setCell ⟨bn, 2, none⟩ (.slice (some ⟨g, 0, none⟩) ((noL L).length + 1) cap)) := by
 have hlt := hs.lt
 have hgg : bn + 1 ≤ g := (hown.lt g rfl).1
 have hW : ∀ k, k < w.heap.size → some k ≠ Dd → w2.heap[k]? = w.heap[k]? := fun k hk hn => (hgrow.block k (Nat.lt_of_lt_of_le hk hb.size) (by rw [h3]; exact hn)).trans (hb.block k hk)
 have hset : ∀ k, k ≠ bn → (w2.setCell ⟨bn, 2, none⟩ (.slice (some ⟨g, 0, none⟩) ((noL L).length + 1) cap)).heap[k]? = w2.heap[k]? := fun k hk => Below.heap_setCell w2 _ _ k hk
 have hneb : some bn ≠ Dd := fun e => by have := (hlt.2.1 bn e).1; omega
 have hgu : some g ≠ Du := fun e2 => by
  rcases hat with e1 | e1
  ·rw [h3] at e1; exact hs.ne g e1.symm e2
  ·have := (hlt.2.2 g e2).2; have := hb.size; omega
 have hbb := (hW bn hlt.1 hneb).trans h1
 have hsz : w.heap.size ≤ w2.heap.size := Nat.le_trans hb.size hgrow.size
 refine ⟨⟨⟨.slice (some ⟨g, 0, none⟩) ((noL L).length + 1) cap, vu, ?_, ?_, rfl, ?_, h5, ?_⟩, fun k e2 => by injection e2 with e2; rw [e2]; exact hgu, hs.at_⟩, hgrow.os.trans hb.os, hgrow.tape.trans hb.tape, hgrow.output.trans hb.output, by simpa using hsz, fun k hk k1 k2 _ => (hset k k1).trans (hW k hk k2), ?_, .inl rfl⟩
 ·simp [World.setCell, Array.getElem?_modify, hbb]
 ·rw [noL_no, List.flatMap_append, List.length_append]
  have := ownsRow_setCell_other hown (a := ⟨bn, 2, none⟩) (by simp [Value.ownBlock]; omega) (.slice (some ⟨g, 0, none⟩) ((noL L).length + 1) cap)
  simpa using this
 ·rw [usI_no]
  exact own_kept h4 (fun k e2 => (hset k (by have := (hlt.2.2 k (e2.symm.trans h5)).1; omega)).trans (hW k (hlt.2.2 k (e2.symm.trans h5)).2 (fun e3 => hs.ne k e3 (e2.symm.trans h5))))
 ·exact RdF.kept h6 (fun k hk => (hset k (by omega)).trans (hW k (by omega) (fun e2 => by have := (hlt.2.1 k e2).1; omega))) (fun _ h => h)
 ·rcases hat with e1 | e1
  ·exact .inl (by rw [← h3, e1])
  ·exact .inr ⟨g, rfl, by rw [e1]; exact hb.size⟩
theorem rs_end3 (hs : RS bn l i p fq fc w L Dd Du) {W w2 : World} {vd vu : Value} {g cap : Nat} {x : ByteArray} {a : Nat} {d : Int} (h1 : w.heap[bn]? = some (.cells #[.slice fq l.length fc, .int .i64 (i : Int), vd, vu] 68 (0, 0))) (h2 : w.ownsRow (bn + 1) 65 4 vd (noL L).length ((noL L).flatMap dvC)) (h3 : vd.ownBlock = Dd) (h5 : vu.ownBlock = Du) (h6 : RdF (fun k => k < bn) w l (.agg #[.slice fq l.length fc]))
  (hb : Below w.heap.size w W) (hown : w2.ownsRow (bn + 1) 167 3 (.slice (some ⟨g, 0, none⟩) ((usI p L).length + 1) cap) ((usI p L).length + 1) ((usI p L).flatMap uvC ++ uvC (p, evYes x a d))) (hgrow : W.grownBy w2 vu.ownBlock) (hat : vu.ownBlock = some g ∨ g = W.heap.size) :
  RS bn l i p fq fc (w2.setCell ⟨bn, 3, none⟩ (.slice (some ⟨g, 0, none⟩) ((usI p L).length + 1) cap)) (L ++ [evYes x a d]) Dd (some g) ∧ Stq bn Dd Du Dd (some g) w (w2.setCell ⟨bn, 3, none⟩ (.slice (some ⟨g, 0, none⟩) ((usI p L).length + 1) cap)) := by
 have hlt := hs.lt
 have hgg : bn + 1 ≤ g := (hown.lt g rfl).1
 have hW : ∀ k, k < w.heap.size → some k ≠ Du → w2.heap[k]? = w.heap[k]? := fun k hk hn => (hgrow.block k (Nat.lt_of_lt_of_le hk hb.size) (by rw [h5]; exact hn)).trans (hb.block k hk)
 have hset : ∀ k, k ≠ bn → (w2.setCell ⟨bn, 3, none⟩ (.slice (some ⟨g, 0, none⟩) ((usI p L).length + 1) cap)).heap[k]? = w2.heap[k]? := fun k hk => Below.heap_setCell w2 _ _ k hk
 have hneb : some bn ≠ Du := fun e => by have := (hlt.2.2 bn e).1; omega
 have hgd : ∀ k, some k = Dd → some k ≠ some g := fun k e1 e2 => by
  injection e2 with e2
  subst e2
  rcases hat with e3 | e3
  ·rw [h5] at e3; exact hs.ne k e1 e3.symm
  ·have := (hlt.2.1 k e1).2; have := hb.size; omega
 have hbb := (hW bn hlt.1 hneb).trans h1
 have hsz : w.heap.size ≤ w2.heap.size := Nat.le_trans hb.size hgrow.size
 refine ⟨⟨⟨vd, .slice (some ⟨g, 0, none⟩) ((usI p L).length + 1) cap, ?_, ?_, h3, ?_, rfl, ?_⟩, hgd, hs.at_⟩, hgrow.os.trans hb.os, hgrow.tape.trans hb.tape, hgrow.output.trans hb.output, by simpa using hsz, fun k hk k1 _ k3 => (hset k k1).trans (hW k hk k3), .inl rfl, ?_⟩
 ·simp [World.setCell, Array.getElem?_modify, hbb]
 ·rw [noL_yes]
  exact own_kept h2 (fun k e2 => (hset k (by have := (hlt.2.1 k (e2.symm.trans h3)).1; omega)).trans (hW k (hlt.2.1 k (e2.symm.trans h3)).2 (fun e3 => hs.ne k (e2.symm.trans h3) e3)))
 ·rw [usI_yes, List.flatMap_append, List.length_append]
  have := ownsRow_setCell_other hown (a := ⟨bn, 3, none⟩) (by simp [Value.ownBlock]; omega) (.slice (some ⟨g, 0, none⟩) ((usI p L).length + 1) cap)
  simpa using this
 ·exact RdF.kept h6 (fun k hk => (hset k (by omega)).trans (hW k (by omega) (fun e2 => by have := (hlt.2.2 k e2).1; omega))) (fun _ h => h)
 ·rcases hat with e1 | e1
  ·exact .inl (by rw [← h5, e1])
  ·exact .inr ⟨g, rfl, by rw [e1]; exact hb.size⟩
end
end Go.Proofs.YtdkpfnohdknldaaGreatDoor
namespace Go.Proofs.YtdkpfnohdknldaaGreatDoor
open Go.RowKit
set_option linter.unusedVariables false
attribute [local go_sem ↓] Go.wp_at_zero Go.wp_at_succ
section
variable {bn : Nat} {l : List (Int × It)} {i : Nat} {p : Int} {fq : Option Addr} {fc : Nat} {L : List Ev} {Dd Du : Option Nat} {w : World}
set_option maxHeartbeats 1000000 in
set_option maxRecDepth 100000 in
theorem rn_bad (hs : RS bn l i p fq fc w L Dd Du) (hn : L.length < 1099511627776) (e : Nat) (x : ByteArray) (a : Nat) :
  Calls Tryz.prog 55 #[.pointer (some ⟨bn, 0, none⟩), .int .i64 (a : Int), .int .i64 (e : Int), .string x] w fun ex w' => ex = .returned (.tuple #[]) ∧ TQ bn l i p fq fc Dd Du (L ++ [evNo e x a]) w w' := by
 obtain ⟨i0, hi0, hz0, hz1, hz2⟩ := info_parts Tryz.infoDg
 obtain ⟨vd, vu, h1, h2, h3, h4, h5, h6⟩ := hs.blk
 have hlt := hs.lt
 have hne : some bn ≠ vd.ownBlock := fun e => by have := (h2.lt bn e.symm).1; omega
 have hbn : bn < w.heap.size := hlt.1
 obtain ⟨c0, c1, c2, c3⟩ := four_at h1
 have hfz : ∀ o, w.frozen? ⟨bn, o, none⟩ = false := fun o => by simp [World.frozen?, h1]
 have d2 := cell_alloc c2
 have hnl := noL_le L
 obtain ⟨T, gw⟩ : ∃ T, IntKind.i64.wrap ((a : Int) + (x.size : Int)) = T := ⟨_, rfl⟩
 have HT : Hid (dvC (evNo e x a) = [.int .i64 (a : Int), .int .i64 T, .int .i64 (e : Int), .string x]) := by show _ = _; rw [← gw]; rfl
 have hmax : (noL L).length + 1 ≤ maxLen := by unfold maxLen; omega
 have hbyt : ((noL L).length + 1) * 40 ≤ 140737488355328 := by omega
 have hb2 := (Below.refl w.heap.size w).alloc (Nat.le_refl _) (.cells #[.int .i64 (a : Int), .int .i64 T, .int .i64 (e : Int), .string x] 65)
 have hsz2 : bn + 1 ≤ (w.alloc (.cells #[.int .i64 (a : Int), .int .i64 T, .int .i64 (e : Int), .string x] 65)).heap.size := by simp; omega
 have HN := hid (World.news_of_block (heap_alloc_new w (.cells #[.int .i64 (a : Int), .int .i64 T, .int .i64 (e : Int), .string x] 65)))
 have HOW := hid (World.ownsRow.alloc h2 (.cells #[.int .i64 (a : Int), .int .i64 T, .int .i64 (e : Int), .string x] 65))
 have HB2 := hid hb2
 clear hb2
 go_enter Tryz.func55, Tryz.ntmps55
 go_wp2_with (first
  | (at_builtin; refine wpList_append_lies _ rfl (.tmp 12) (.tmp 21) 34 rfl (bn + 1) 65 i0 _ 4 40 Tryz.underlying34 hi0 hz0 hz1 hz2 rfl (by decide) _ _ _ rfl HOW.out ⟨w.heap.size, 0, none⟩ 1 1 [.int .i64 (a : Int), .int .i64 T, .int .i64 (e : Int), .string x] rfl rfl HN.out (by intro u hu; simp at hu; rcases hu with rfl | rfl | rfl | rfl <;> rfl) (by decide) hmax hbyt hsz2 _ rfl ?_; intro g6 cap6 w6 hown6 hgrow6 hat6 hlt6; have k6 := World.cell?_of_block (a := ⟨bn, 2, none⟩) ((hgrow6.block bn (by simp; omega) hne).trans (HB2.out.block bn hbn)); have f6 := World.frozen?_of_block (a := ⟨bn, 2, none⟩) ((hgrow6.block bn (by simp; omega) hne).trans (HB2.out.block bn hbn)); rw [c2] at k6; rw [hfz] at f6))
 go_end0
 rw [← HT.out] at hown6
 obtain ⟨r1, r2⟩ := rs_end2 hs h1 h2 h3 h4 h5 h6 HB2.out hown6 hgrow6 hat6
 exact ⟨rfl, some g6, Du, r1, r2⟩
set_option maxHeartbeats 1000000 in
set_option maxRecDepth 100000 in
theorem rn_use (hs : RS bn l i p fq fc w L Dd Du) (hn : L.length < 1099511627776) (x : ByteArray) (a : Nat) (d : Int) :
  Calls Tryz.prog 84 #[.pointer (some ⟨bn, 0, none⟩), .int .i64 (a : Int), .string x, .int .i64 d] w fun ex w' => ex = .returned (.tuple #[]) ∧ TQ bn l i p fq fc Dd Du (L ++ [evYes x a d]) w w' := by
 obtain ⟨i0, hi0, hz0, hz1, hz2⟩ := info_parts Tryz.infoUse
 have hsd := hs.below (Below.drew (Below.refl w.heap.size w))
 obtain ⟨it, hit⟩ := hs.at_
 obtain ⟨vd, vu, h1, h2, h3, h4, h5, h6⟩ := hs.blk
 have hlt := hs.lt
 have hne : some bn ≠ vu.ownBlock := fun e => by have := (h4.lt bn e.symm).1; omega
 have hbn : bn < w.heap.size := hlt.1
 obtain ⟨c0, c1, c2, c3⟩ := four_at h1
 have hfz0 : ∀ o, w.frozen? ⟨bn, o, none⟩ = false := fun o => by simp [World.frozen?, h1]
 have d3 := cell_alloc c3
 have hil := (List.getElem?_eq_some_iff.1 hit).1
 obtain ⟨q', c', hqq, hlen, hits⟩ := id h6
 injection hqq with hqq
 have hqq : Value.slice fq l.length fc = Value.slice q' l.length c' := by simpa using hqq
 injection hqq with hq1 hq2 hq3
 subst hq1 hq3
 clear hq2
 obtain ⟨g, rfl, hgo, hIs⟩ := hits (by omega)
 obtain ⟨v, hcv, hI⟩ := hIs i _ hit
 obtain ⟨p1, c1', p2, c2', p3, c3', p4, c4', rfl, _⟩ := hI
 have i6 := hcv.get 6 _ rfl
 have gk : (0 : Int) ≤ (i : Int) := by omega
 have gk1 : (i : Int) < (l.length : Int) := by omega
 have hib : i < 1099511627776 := by omega
 have hnl := usI_le p L
 obtain ⟨T0, gw0⟩ : ∃ T, IntKind.i64.wrap (p + (a : Int)) = T := ⟨_, rfl⟩
 obtain ⟨T, gw⟩ : ∃ T, IntKind.i64.wrap (T0 + (x.size : Int)) = T := ⟨_, rfl⟩
 have HT : Hid (uvC (p, evYes x a d) = [.int .i64 T0, .int .i64 T, .int .i64 d]) := by show _ = _; rw [← gw, ← gw0]; rfl
 have hmax : (usI p L).length + 1 ≤ maxLen := by unfold maxLen; omega
 have hbyt : ((usI p L).length + 1) * 24 ≤ 140737488355328 := by omega
 have HI := hid (And.intro h1 (And.intro h2 (And.intro h3 (And.intro h5 h6))))
 have HH4 := hid h4
 clear hits hIs hcv hit hil h6 h2
 go_enter Tryz.func84, Tryz.ntmps84
 go_wp2
 go_quiet (fail)
 have hbW := below_drewN (Below.refl w.heap.size w) nq
 have hsz0 : (w.drewN nq).heap.size = w.heap.size := rfl
 have k1 : (w.drewN nq).heap[bn]? = _ := (hbW.block bn hbn).trans HI.out.1
 have HK1 := hid k1
 obtain ⟨k0, _, _, k3⟩ := four_at k1
 have hfz : (w.drewN nq).frozen? ⟨bn, 3, none⟩ = false := (World.frozen?_of_block (a := ⟨bn, 3, none⟩) (hbW.block bn hbn)).trans (hfz0 3)
 have h4 := own_below HH4.out hbW
 have h2 := own_below HI.out.2.1 hbW
 have h6 : RdF (fun k => k < bn) (w.drewN nq) l _ := RdF.kept HI.out.2.2.2.2 (fun k hk => hbW.block k (by omega)) (fun _ h => h)
 have HS := hid (hs.below hbW)
 have HH := hid (And.intro h4 (And.intro h2 h6))
 clear k1 hfz0
 rw [← hsz0] at hbn
 clear hsz0
 generalize w.drewN nq = W at *
 have e3 := cell_alloc k3
 have hb2 := (Below.refl W.heap.size W).alloc (Nat.le_refl _) (.cells #[.int .i64 T0, .int .i64 T, .int .i64 d] 167)
 have hsz2 : bn + 1 ≤ (W.alloc (.cells #[.int .i64 T0, .int .i64 T, .int .i64 d] 167)).heap.size := by simp; omega
 have HN := hid (World.news_of_block (heap_alloc_new W (.cells #[.int .i64 T0, .int .i64 T, .int .i64 d] 167)))
 have HOW := hid (World.ownsRow.alloc HH.out.1 (.cells #[.int .i64 T0, .int .i64 T, .int .i64 d] 167))
 have HB2 := hid hb2
 clear hb2 h4 h2 h6 c0 c1 c2 c3 d3
 go_wp2_with (first
  | (at_builtin; refine wpList_append_lies _ rfl (.tmp 27) (.tmp 35) 66 rfl (bn + 1) 167 i0 _ 3 24 Tryz.underlying66 hi0 hz0 hz1 hz2 rfl (by decide) _ _ _ rfl HOW.out ⟨W.heap.size, 0, none⟩ 1 1 [.int .i64 T0, .int .i64 T, .int .i64 d] rfl rfl HN.out (by intro u hu; simp at hu; rcases hu with rfl | rfl | rfl <;> rfl) (by decide) hmax hbyt hsz2 _ rfl ?_; intro g6 cap6 w6 hown6 hgrow6 hat6 hlt6; have k6 := World.cell?_of_block (a := ⟨bn, 3, none⟩) ((hgrow6.block bn (by simp; omega) hne).trans (HB2.out.block bn hbn)); have f6 := World.frozen?_of_block (a := ⟨bn, 3, none⟩) ((hgrow6.block bn (by simp; omega) hne).trans (HB2.out.block bn hbn)); rw [k3] at k6; rw [hfz] at f6))
 go_end0
 rw [← HT.out] at hown6
 obtain ⟨r1, r2⟩ := rs_end3 HS.out HK1.out HH.out.2.1 HI.out.2.2.1 HI.out.2.2.2.1 HH.out.2.2 HB2.out hown6 hgrow6 hat6
 exact ⟨rfl, Dd, some g6, r1, (Stq.below hbW).trans r2⟩
end
end Go.Proofs.YtdkpfnohdknldaaGreatDoor
namespace Go.Proofs.YtdkpfnohdknldaaGreatDoor
open Go.RowKit
set_option linter.unusedVariables false
attribute [local go_sem ↓] Go.wp_at_zero Go.wp_at_succ
def RelRf (l : List (Int × It)) (kd : Int) (nm : ByteArray) (W : World) (i : Value) (wr : World) : Prop := ∃ k : Nat, k ≤ l.length ∧ i = .int .i64 (k : Int) ∧ (nm ≠ noB → ∀ j e, j < k → l[j]? = some e → isIt kd nm e.2 = false) ∧ Below W.heap.size W wr
theorem nonempty_of {nm : ByteArray} (hn : ¬ nm = noB) : nm.toList.isEmpty = false := by
 have h := (Lib.bytes_beq_false_iff nm noB).2 hn
 rw [noB_list] at h
 cases hl : nm.toList with
 | nil => rw [hl] at h; cases h
 | cons a r => rfl
set_option maxHeartbeats 1000000 in
set_option maxRecDepth 100000 in
theorem rn_find (l : List (Int × It)) (fv : Value) (kd : Int) (nm : ByteArray) (w : World) (ok : Nat → Prop) (hok : ∀ k, ok k → k < w.heap.size) (hf : RdF ok w l fv) :
  Calls Tryz.prog 13 #[fv, .int .i64 kd, .string nm] w fun e w' => e = .returned (.int .i64 (fnd l kd nm)) ∧ Below w.heap.size w w' := by
 obtain ⟨p, c, rfl, hl, hits⟩ := hf
 generalize hr : fnd l kd nm = r
 have HR := hid hr
 clear hr
 have hb0 := (Below.refl w.heap.size w).alloc (Nat.le_refl _) (.cells #[.slice p l.length c] 25)
 go_enter Tryz.func13, Tryz.ntmps13
 go_wp2
 generalize w.alloc (.cells #[.slice p l.length c] 25) = W at *
 go_loopw [12] (fun i wr => RelRf l kd nm W i wr) (fun i _ => upN l.length i)
 case atStart => exact ⟨0, Nat.zero_le _, rfl, fun _ j e h => by omega, Below.refl _ _⟩
 case round =>
  obtain ⟨k, hkl, rfl, hno, hbr⟩ := hrel
  have hbw := hb0.trans (hbr.mono hb0.size)
  by_cases hlt : k < l.length
  ·obtain ⟨g, hpg, hg, hR⟩ := hits (by omega)
   subst hpg
   obtain ⟨e, he⟩ : ∃ e, l[k]? = some e := ⟨_, List.getElem?_eq_getElem hlt⟩
   obtain ⟨v, hcv, hI⟩ := RdIs.at hR (hbw.block g (hok g hg)) (fun b hb => hbw.block b (hok b hb)) (e1 := e.1) (e2 := e.2) he
   obtain ⟨p1, c1, p2, c2, p3, c3, p4, c4, rfl, _⟩ := hI
   have d0 := hcv.get 0 _ rfl
   have d1 := hcv.get 1 _ rfl
   have d2 := hcv.get 2 _ rfl
   have d3 := hcv.get 3 _ rfl
   have d4 := hcv.get 4 _ rfl
   have d5 := hcv.get 5 _ rfl
   have d6 := hcv.get 6 _ rfl
   have d7 := hcv.get 7 _ rfl
   have d8 := hcv.get 8 _ rfl
   have d9 := hcv.get 9 _ rfl
   rw [Nat.add_zero] at d0
   have gk : (0 : Int) ≤ (k : Int) := by omega
   have gk1 : (k : Int) < (l.length : Int) := by omega
   have hkb : k < 1099511627776 := by omega
   have HL := hid hlt
   have HE := hid he
   have HNO := hid hno
   clear hcv hR hits he hno hlt hkl
   by_cases hn : nm = noB
   ·have gx : nm.toList.isEmpty = true := by rw [hn, noB_list]; rfl
    have HN := hid hn
    clear hn
    go_wp2
    go_roundw
    case rel => exact ⟨k + 1, HL.out, by go_num, fun h => absurd HN.out h, hbr.alloc hbr.size _⟩
    case measure => have := HL.out; simp [upN, intOf]; omega
   ·have gx := nonempty_of hn
    have HN := hid hn
    have next : ∀ (hp : isIt kd nm e.2 = false), RelRf l kd nm W (.int .i64 ((k : Int) + 1)) (wr.alloc (.cells #[.int .i64 (e.2.k : Int), .string e.2.x, .int .i64 (e.2.l : Int), .slice p1 e.2.ps.length c1, .slice p2 e.2.ss.length c2, .slice p3 e.2.bd.length c3, .int .i64 e.1, .int .i64 (e.2.sz : Int), .int .i64 (e.2.mrk : Int), .slice p4 e.2.ds.length c4] 36)) := fun hp => by
     refine ⟨k + 1, HL.out, by go_num, fun hx j f hj hf => ?_, hbr.alloc hbr.size _⟩
     rcases Nat.lt_or_ge j k with h | h
     ·exact HNO.out hx j f h hf
     ·obtain rfl : j = k := by omega
      rw [HE.out] at hf
      injection hf with hf
      rw [← hf]
      exact hp
    have HX := hid next
    clear hn next
    by_cases h1 : (e.2.k : Int) = kd
    ·have g1 : ((e.2.k : Int) == kd) = true := by simpa using h1
     by_cases h2 : e.2.x = nm
     ·have g2 : (e.2.x.toList == nm.toList) = true := (Lib.bytes_beq_iff _ _).2 h2
      have hp : isIt kd nm e.2 = true := by unfold isIt; simp [h1, h2]
      have hres : r = (k : Int) := by rw [← HR.out]; unfold fnd fidx; rw [if_neg HN.out, fnd_hit (HNO.out HN.out) HE.out hp]
      have HRES := hid hres
      clear h1 h2 hp hres
      go_wp2
      go_ret
      exact ⟨by rw [HRES.out]; rfl, hb0.trans ((hbr.alloc hbr.size _).mono hb0.size)⟩
     ·have g2 : (e.2.x.toList == nm.toList) = false := (Lib.bytes_beq_false_iff _ _).2 h2
      have hp : isIt kd nm e.2 = false := by unfold isIt; simp [h2]
      have HP := hid hp
      clear h1 h2 hp
      go_wp2
      go_roundw
      case rel => exact HX.out HP.out
      case measure => have := HL.out; simp [upN, intOf]; omega
    ·have g1 : ((e.2.k : Int) == kd) = false := by simpa using h1
     have hp : isIt kd nm e.2 = false := by unfold isIt; simp [h1]
     have HP := hid hp
     clear h1 hp
     go_wp2
     go_roundw
     case rel => exact HX.out HP.out
     case measure => have := HL.out; simp [upN, intOf]; omega
  ·obtain rfl : k = l.length := by omega
   have hres : r = -1 := by
    rw [← HR.out]; unfold fnd
    by_cases hn : nm = noB
    ·rw [if_pos hn]
    ·rw [if_neg hn]; unfold fidx; rw [fnd_miss (hno hn)]
   have HRES := hid hres
   clear hlt hkl hno hres
   go_wp2
   go_ret
   exact ⟨by rw [HRES.out]; rfl, hbw⟩
end Go.Proofs.YtdkpfnohdknldaaGreatDoor
namespace Go.Proofs.YtdkpfnohdknldaaGreatDoor
open Go.RowKit Go.WideMaps Go.Maps
set_option linter.unusedVariables false
attribute [local go_sem ↓] Go.wp_at_zero Go.wp_at_succ
def mpD (p : Int) : Env → DataW Unit
 | [] => .map []
 | (y, a) :: r => (mpD p r).put (kyB y) (.lit (.int .i64 (wI (p + (a : Int)))))
def MpAt (w : World) (b : Nat) (p : Int) (env : Env) : Prop := ∃ n, n ≤ env.length ∧ w.ownsMap Tryz.prog 9 (plainElem (H := Unit) Tryz.prog 3) b n (mpD p env)
theorem MpAt.kept {w w' : World} {b : Nat} {p : Int} {env : Env} (h : MpAt w b p env) (hg : w'.heap[b]? = w.heap[b]?) : MpAt w' b p env := by
 obtain ⟨n, hn, es, clock, h1, h2⟩ := h
 exact ⟨n, hn, es, clock, hg.trans h1, h2⟩
theorem mpD_map (p : Int) (env : Env) : IsMap (mpD p env) := by
 induction env with
 | nil => exact isMap_empty
 | cons e r ih => exact ih.put _ _
theorem mpD_has (p : Int) (env : Env) (x : ByteArray) : has (mpD p env) (kyB x) = (envL env x).isSome := by
 induction env with
 | nil => rfl
 | cons e r ih =>
  obtain ⟨y, a⟩ := e
  unfold envL mpD
  by_cases h : x = y
  ·subst h
   rw [if_pos rfl]
   exact has_put_same (mpD_map p r) (kyB_lit _) _
  ·rw [if_neg h]
   exact (has_put_other (fun e => h (kyB_inj e)) _).trans ih
theorem mpD_at (p : Int) (env : Env) (x : ByteArray) (d : Nat) (h : envL env x = some d) (z : DataW Unit) : (mpD p env).atKey (kyB x) z = .lit (.int .i64 (wI (p + (d : Int)))) := by
 induction env with
 | nil => cases h
 | cons e r ih =>
  obtain ⟨y, a⟩ := e
  unfold envL at h
  unfold mpD
  by_cases hx : x = y
  ·subst hx
   rw [if_pos rfl] at h
   injection h with h
   subst h
   exact atKey_put_same (mpD_map p r) (kyB_lit _) _ _
  ·rw [if_neg hx] at h
   rw [atKey_put_other (fun e => hx (kyB_inj e))]
   exact ih h
theorem keyStr_inv {key : Value} {kl : Lit} (h : keyOf Tryz.prog 9 key = some kl) : ∃ x, key = .string x ∧ kl = kyB x ∧ x.size ≤ maxLen := by
 have hk := Tryz.underlying9
 cases key <;> simp [keyOf, hk, mapKey] at h
 obtain ⟨h1, h2⟩ := h
 exact ⟨_, rfl, h2.symm, h1⟩
theorem wI_wf (x : Int) : (Lit.int .i64 (wI x)).wf = true := by
 refine WalkArith.wf_i64 ?_
 unfold wI
 simp [IntKind.wrap, IntKind.signed, IntKind.bits]
 omega
section
variable {bn : Nat} {l : List (Int × It)} {i : Nat} {p : Int} {fq : Option Addr} {fc : Nat} {L : List Ev} {Dd Du : Option Nat} {w : World}
def MkQ (bn : Nat) (l : List (Int × It)) (i : Nat) (p : Int) (fq : Option Addr) (fc : Nat) (Dd Du : Option Nat) (L : List Ev) (env : Env) (b : Nat) (w w' : World) : Prop := ∃ Dd' Du', RS bn l i p fq fc w' L Dd' Du' ∧ Stq bn Dd Du Dd' Du' w w' ∧ MpAt w' b p env ∧ okQ bn Dd' Du' w' b
def RelW (b n : Nat) (D0 : DataW Unit) (w : World) (wr : World) : Prop := ∃ (left : Lit → Bool) (cnt : Nat) (Dout : DataW Unit), wr.ranges Tryz.prog 9 (plainElem (H := Unit) Tryz.prog 3) b (w.heap.size + 1) n D0 left cnt ∧ cnt ≤ size D0 ∧ wr.ownsMap Tryz.prog 9 (plainElem (H := Unit) Tryz.prog 3) w.heap.size (size D0 - cnt) Dout ∧ Agree Dout D0 left ∧ Below w.heap.size w wr
end
end Go.Proofs.YtdkpfnohdknldaaGreatDoor
namespace Go.Proofs.YtdkpfnohdknldaaGreatDoor
open Go.RowKit Go.WideMaps Go.Maps
set_option linter.unusedVariables false
attribute [local go_sem ↓] Go.wp_at_zero Go.wp_at_succ
section
variable {bn : Nat} {l : List (Int × It)} {i : Nat} {p : Int} {fq : Option Addr} {fc : Nat} {L : List Ev} {Dd Du : Option Nat} {w : World}
theorem RS.cells (h : RS bn l i p fq fc w L Dd Du) : ∃ g, fq = some ⟨g, 0, none⟩ ∧ w.cell? ⟨bn, 0, none⟩ = some (.slice fq l.length fc) ∧ w.cell? ⟨bn, 1, none⟩ = some (.int .i64 (i : Int)) ∧ w.cell? ⟨g, i * 10 + 6, none⟩ = some (.int .i64 p) ∧ i < l.length ∧ l.length ≤ 1099511627776 ∧ RdF (fun k => k < bn) w l (.agg #[.slice fq l.length fc]) := by
 obtain ⟨it, hit⟩ := h.at_
 obtain ⟨vd, vu, h1, _, _, _, _, h6⟩ := h.blk
 obtain ⟨c0, c1, _, _⟩ := four_at h1
 have hil := (List.getElem?_eq_some_iff.1 hit).1
 obtain ⟨q', c', hqq, hlen, hits⟩ := id h6
 injection hqq with hqq
 have hqq : Value.slice fq l.length fc = Value.slice q' l.length c' := by simpa using hqq
 injection hqq with hq1 _ _
 obtain ⟨g, hg, _, hIs⟩ := hits (by omega)
 obtain ⟨v, hcv, hI⟩ := hIs i _ hit
 obtain ⟨_, _, _, _, _, _, _, _, rfl, _⟩ := hI
 exact ⟨g, hq1.trans hg, c0, c1, hcv.get 6 _ rfl, hil, hlen, h6⟩
theorem Stq.grown {Dd' Du' : Option Nat} {w0 w' : World} {b : Nat} (h : Stq bn Dd Du Dd' Du' w0 w) (hg : w.grownBy w' (some b)) (hb : w0.heap.size ≤ b) : Stq bn Dd Du Dd' Du' w0 w' :=
 ⟨hg.os.trans h.os, hg.tape.trans h.tape, hg.output.trans h.output, Nat.le_trans h.size hg.size, fun k hk h1 h2 h3 => (hg.block k (Nat.lt_of_lt_of_le hk h.size) (fun e => by injection e with e; omega)).trans (h.block k hk h1 h2 h3), h.d, h.u⟩
theorem RS.grown {w' : World} {b : Nat} (h : RS bn l i p fq fc w L Dd Du) (hg : w.grownBy w' (some b)) (hb : okQ bn Dd Du w b) : RS bn l i p fq fc w' L Dd Du :=
 h.kept (fun k hk => hg.block k (Nat.lt_of_le_of_lt hk h.lt.1) (fun e => by injection e with e; have := hb.1; omega)) (fun k e => hg.block k (h.lt.2.1 k e).2 (fun e2 => by injection e2 with e2; rw [e2] at e; exact hb.2.2.1 e)) (fun k e => hg.block k (h.lt.2.2 k e).2 (fun e2 => by injection e2 with e2; rw [e2] at e; exact hb.2.2.2 e))
theorem with_end {W w4 : World} {bo n : Nat} {env : Env} {x : ByteArray} {a : Nat} {Dd' Du' : Option Nat} {L' : List Ev} (hs : RS bn l i p fq fc W L' Dd' Du') (hst : Stq bn Dd Du Dd' Du' w W) (hok : okQ bn Dd' Du' W bo) (hbo : w.heap.size ≤ bo) (hn : n ≤ env.length) (hx : ¬ x = noB)
  (hown : w4.ownsMap Tryz.prog 9 (plainElem (H := Unit) Tryz.prog 3) bo (n + 1) ((mpD p env).put (kyB x) (.lit (.int .i64 (wI (p + (a : Int))))))) (hg : W.grownBy w4 (some bo)) : MkQ bn l i p fq fc Dd Du L' (scMk env x a) bo w w4 := by
 refine ⟨Dd', Du', hs.grown hg hok, hst.grown hg hbo, ?_, hok.1, Nat.lt_of_lt_of_le hok.2.1 hg.size, hok.2.2⟩
 unfold scMk
 rw [if_neg hx]
 exact ⟨n + 1, by simp only [List.length_cons]; omega, hown⟩
set_option maxHeartbeats 4000000 in
set_option maxRecDepth 100000 in
theorem rn_with (hs : RS bn l i p fq fc w L Dd Du) (hn : L.length < 1099511627776) {env : Env} {b : Nat} (hm : MpAt w b p env) (hb : okQ bn Dd Du w b) (he : env.length < 1099511627776) (x : ByteArray) (a : Nat) (hx : x.size ≤ 1000000) :
  Calls Tryz.prog 56 #[.pointer (some ⟨bn, 0, none⟩), .map (some b), .string x, .int .i64 (a : Int)] w fun e w' => ∃ b', e = .returned (.map (some b')) ∧ MkQ bn l i p fq fc Dd Du (L ++ evMk env x a) (scMk env x a) b' w w' := by
 have hmm := @run_makeMap Tryz.prog
 obtain ⟨n, hnl, hown⟩ := id hm
 have hbl := hown.lt
 have hsize := hown.size_le
 have hcanon := hid (hown.canon kStr)
 have e1 : (w.alloc (.map #[] 0)).heap.size = w.heap.size + 1 := by simp
 have hbne : b ≠ w.heap.size := by omega
 generalize hD0 : mpD p env = D0 at *
 have HD0 := hid hD0
 clear hD0
 go_enter Tryz.func56, Tryz.ntmps56
 go_wp2_with (first
  | (at_range; refine wpList_range_own _ rfl _ 94 rfl 9 3 kStr Tryz.underlying94 _ b n _ rfl (hown.alloc _) ?_; intro w0 hrg0 hg0 hs0)
  | go_in)
 go_frame
 rw [e1] at hrg0 hs0 ⊢
 go_loopw [17] (fun _ wr => RelW b n D0 w wr) (fun _ wr => wr.rangeLeft b (w.heap.size + 1))
 case atStart =>
  exact ⟨_, _, .map [], hrg0, Nat.le_refl _, ((World.ownsMap_made _ _ _ _).kept hg0 (by simp)).mono (Nat.zero_le _), agree_start D0, ((Below.refl _ _).alloc (Nat.le_refl _) _).grown hg0 (by simp) (fun j hj => by cases hj)⟩
 case round =>
  obtain ⟨left, cnt, Dout, hrg, hcs, hout, hA, hnx⟩ := hrel
  clear hrg0 hg0 hs0
  go_wp2_with (first
   | (at_next; refine wpList_next_ranges _ rfl _ rfl 9 kStr (plainElem (H := Unit) Tryz.prog 3) Value.string (Value.int .i64) (fun key kl h => (let ⟨x, h1, _⟩ := keyStr_inv h; ⟨x, h1⟩)) (fun v y h => (let ⟨c, h1, _⟩ := plainElem_int_inv Tryz.underlying3 h; ⟨c, h1⟩)) b (w.heap.size + 1) n _ _ _ rfl hrg ?_ ?_)
   | go_in)
  ·intro hc0 hl0
   subst hc0
   have e := agree_end hA hl0 (hout.canon kStr) hcanon.out
   subst e
   clear hA hl0 hrg
   have HD1 : Hid (mpD p env = _) := HD0.out
   have hsW := hs.below hnx
   have hstW : Stq bn Dd Du Dd Du w wr := Stq.below hnx
   have hmW := hm.kept (hnx.block b hb.2.1)
   have hokO : okQ bn Dd Du wr w.heap.size := hs.fresh (Nat.le_refl _) hout.lt
   generalize Dout = D1 at *
   by_cases hxn : x = noB
   ·have gx : x.toList.isEmpty = true := by rw [hxn, noB_list]; rfl
    have hev : evMk env x a = [] := by unfold evMk; rw [if_pos hxn]
    have hsc : scMk env x a = env := by unfold scMk; rw [if_pos hxn]
    have HEV := hid (And.intro hev hsc)
    clear hxn hev hsc
    go_wp2
    go_ret
    rw [HEV.out.1, HEV.out.2, List.append_nil]
    exact ⟨_, rfl, Dd, Du, hsW, hstW, ⟨size D1 - 0, by omega, by rw [HD1.out]; exact hout⟩, hokO⟩
   ·have gx := nonempty_of hxn
    have HXN := hid hxn
    have hkey := keyS x (by unfold maxLen; omega)
    obtain ⟨n2, hn2, hown2⟩ := hmW
    rw [HD1.out] at hown2
    have hhas := mpD_has p env x
    rw [HD1.out] at hhas
    obtain ⟨T, hT⟩ : ∃ T, wI (p + (a : Int)) = T := ⟨_, rfl⟩
    have HTT := hid hT
    have HWF := hid (show (Lit.int .i64 T).wf = true by rw [← hT]; exact wI_wf _)
    have gw : IntKind.i64.wrap (p + (a : Int)) = T := hT
    clear hxn hT
    cases henv : envL env x with
    | none =>
     have hev : evMk env x a = [] := by unfold evMk; rw [if_neg HXN.out, henv]
     have HEV := hid (show L ++ evMk env x a = L by rw [hev, List.append_nil])
     rw [henv] at hhas
     have hh : has D1 (kyB x) = false := hhas
     have hsR := hsW
     have hstR := hstW
     have houtR := hout
     have hokR := hokO
     clear henv hev hhas
     go_wp2_with (first
      | (at_lookup; refine wpList_lookup_own_ok_int _ rfl _ _ 94 rfl 9 3 .i64 kStr Tryz.underlying94 Tryz.underlying3 (zeroI _) b n2 _ rfl hown2 _ _ rfl hkey ?_; intro cc hat hwc; rw [hh]; clear hat hwc))
     obtain ⟨g, hfq, c0, c1, i6, hil, hll, _⟩ := RS.cells hsR
     subst hfq
     have gk : (0 : Int) ≤ (i : Int) := by omega
     have gk1 : (i : Int) < (l.length : Int) := by omega
     have hib : i < 1099511627776 := by omega
     obtain ⟨w4, hrun, hown4, hgrow4⟩ := (World.ownsMap.drew houtR).update kStr Tryz.underlying94 (show size D1 - 0 < maxLen by unfold maxLen; omega) hkey (plainElem_int Tryz.underlying3 HWF.out)
     have HG := hid (And.intro hown4 hgrow4)
     clear hown4 hgrow4
     go_region
     go_wp2
     go_ret
     rw [HEV.out]
     refine ⟨_, rfl, with_end (RS.below hsR (Below.drew (Below.refl _ _))) (hstR.trans (Stq.below (Below.drew (Below.refl _ _)))) hokR (Nat.le_refl _) (n := size D1 - 0) (by omega) HXN.out ?_ HG.out.2⟩
     rw [HD1.out, HTT.out]
     exact HG.out.1
    | some d =>
     have hev : evMk env x a = [evNo 7 x a] := by unfold evMk; rw [if_neg HXN.out, henv]
     have HEV := hid (show L ++ evMk env x a = L ++ [evNo 7 x a] by rw [hev])
     rw [henv] at hhas
     have hh : has D1 (kyB x) = true := hhas
     have HBad := hid (rn_bad hsW hn 7 x a)
     clear henv hev hhas
     go_wp2_with (first
      | (at_lookup; refine wpList_lookup_own_ok_int _ rfl _ _ 94 rfl 9 3 .i64 kStr Tryz.underlying94 Tryz.underlying3 (zeroI _) b n2 _ rfl hown2 _ _ rfl hkey ?_; intro cc hat hwc; rw [hh]; clear hat hwc)
      | (go_at_call 55; refine Calls.mono HBad.out ?_; rintro e w3 ⟨rfl, Dd3, Du3, hsR, hst3⟩))
     have hstR := hstW.trans hst3
     have hokR := (okQ.step hst3 hokO).2
     have houtR : w3.ownsMap Tryz.prog 9 (plainElem (H := Unit) Tryz.prog 3) w.heap.size (size D1 - 0) D1 := by
      obtain ⟨es, clock, k1, k2⟩ := hout
      exact ⟨es, clock, (okQ.step hst3 hokO).1.trans k1, k2⟩
     obtain ⟨g, hfq, c0, c1, i6, hil, hll, _⟩ := RS.cells hsR
     subst hfq
     have gk : (0 : Int) ≤ (i : Int) := by omega
     have gk1 : (i : Int) < (l.length : Int) := by omega
     have hib : i < 1099511627776 := by omega
     obtain ⟨w4, hrun, hown4, hgrow4⟩ := (World.ownsMap.drew houtR).update kStr Tryz.underlying94 (show size D1 - 0 < maxLen by unfold maxLen; omega) hkey (plainElem_int Tryz.underlying3 HWF.out)
     have HG := hid (And.intro hown4 hgrow4)
     clear hown4 hgrow4
     go_region
     go_wp2
     go_ret
     rw [HEV.out]
     refine ⟨_, rfl, with_end (RS.below hsR (Below.drew (Below.refl _ _))) (hstR.trans (Stq.below (Below.drew (Below.refl _ _)))) hokR (Nat.le_refl _) (n := size D1 - 0) (by omega) HXN.out ?_ HG.out.2⟩
     rw [HD1.out, HTT.out]
     exact HG.out.1
  ·intro y c kl z zs w1 cnt1 hkx hlx hvc hat hrg1 hlt hg1 hs1 hen
   obtain ⟨y', hy1, hy2, hy3⟩ := keyStr_inv hkx
   injection hy1 with hy1
   subst hy1 hy2
   obtain ⟨c', hc1, hc2, hc3⟩ := plainElem_int_inv Tryz.underlying3 hvc
   injection hc1 with _ hc1
   injection hc2 with hc2 _
   subst hc1 hc2
   have hout1 := hout.kept hg1 (by simp)
   have hlt0 : size D0 - cnt < maxLen := by unfold maxLen; omega
   go_wp2_with (first
    | (at_mapUpdate; refine wpList_mapUpdate_own _ rfl _ _ _ 94 rfl 9 3 kStr Tryz.underlying94 _ w.heap.size _ _ rfl hout1 hlt0 _ _ _ rfl rfl hkx _ [] (plainElem_int Tryz.underlying3 hc3) ?_; intro w2 hout2 hg2; go_frame)
    | go_in)
   have hrg2 := hrg1.kept hg2 (fun e => by have := Option.some.inj e; omega) (fun e => by have := Option.some.inj e; omega)
   go_roundw
   case rel =>
    exact ⟨_, cnt1, _, hrg2, by omega, hout2.mono (by omega), agree_step hA hout.isMap (kyB_lit _) hat,
     (hnx.grown hg1 hnx.size (fun j hj => by cases hj; exact Nat.le_succ _)).grown hg2 (by have := hnx.size; omega) (fun j hj => by cases hj; exact Nat.le_refl _)⟩
   case measure => rw [hrg2.left_eq, hrg.left_eq]; exact hlt
end
end Go.Proofs.YtdkpfnohdknldaaGreatDoor
namespace Go.Proofs.YtdkpfnohdknldaaGreatDoor
open Go.RowKit Go.WideMaps Go.Maps
set_option linter.unusedVariables false
attribute [local go_sem ↓] Go.wp_at_zero Go.wp_at_succ
theorem cellB {w w' : World} (hb : Below w.heap.size w w') {a : Addr} {u : Value} (h : w.cell? a = some u) : w'.cell? a = some u := (hb.cell (World.block_lt_of_cell? w a h)).trans h
theorem RdF.cells3 {ok : Nat → Prop} {w : World} {l : List (Int × It)} {g c : Nat} (h : RdF ok w l (.agg #[.slice (some ⟨g, 0, none⟩) l.length c])) {k : Nat} {e : Int × It} (hk : l[k]? = some e) : ok g ∧ w.cell? ⟨g, k * 10 + 6, none⟩ = some (.int .i64 e.1) ∧ w.cell? ⟨g, k * 10 + 8, none⟩ = some (.int .i64 (e.2.mrk : Int)) ∧ ∃ q d, w.cell? ⟨g, k * 10 + 3, none⟩ = some (.slice q e.2.ps.length d) := by
 obtain ⟨q, d, hv, _, hits⟩ := h
 injection hv with hv
 have hv : Value.slice (some ⟨g, 0, none⟩) l.length c = Value.slice q l.length d := by simpa using hv
 injection hv with h1 _ _
 obtain ⟨g', hg', hgo, hI⟩ := hits (by have := (List.getElem?_eq_some_iff.1 hk).1; omega)
 have hgg : g = g' := by have := h1.trans hg'; injection this with this; injection this
 subst hgg
 obtain ⟨v, hcv, hR⟩ := hI k e hk
 obtain ⟨_, _, _, _, _, _, _, _, rfl, _⟩ := hR
 exact ⟨hgo, hcv.get 6 _ rfl, hcv.get 8 _ rfl, _, _, hcv.get 3 _ rfl⟩
section
variable {bn : Nat} {l : List (Int × It)} {i : Nat} {p : Int} {fq : Option Addr} {fc : Nat} {L : List Ev} {Dd Du : Option Nat} {w : World}
set_option maxHeartbeats 1000000 in
set_option maxRecDepth 100000 in
theorem rn_local (hs : RS bn l i p fq fc w L Dd Du) (hn : L.length < 1099511627776) {env : Env} {b : Nat} (hm : MpAt w b p env) (x : ByteArray) (a : Nat) (hx : x.size ≤ 1000000) (hxn : x ≠ noB) :
  Calls Tryz.prog 86 #[.pointer (some ⟨bn, 0, none⟩), .map (some b), .int .i64 (a : Int), .string x] w fun e w' => e = .returned (.tuple #[]) ∧ TQ bn l i p fq fc Dd Du (L ++ evLocal p env x a) w w' := by
 obtain ⟨n, hnl, hown⟩ := hm
 have hkey := keyS x (by unfold maxLen; omega)
 have hhas := mpD_has p env x
 have gx := nonempty_of hxn
 have hatd := mpD_at p env x
 cases henv : envL env x with
 | none =>
  have hev : evLocal p env x a = [evNo 6 x a] := by unfold evLocal; rw [henv]
  rw [henv] at hhas
  rw [hev]
  clear hev
  have HB := hid (rn_bad hs hn 6 x a)
  generalize mpD p env = D0 at *
  have hh : has D0 (kyB x) = false := hhas
  clear hhas henv hatd hxn
  go_enter Tryz.func86, Tryz.ntmps86
  go_wp2_with (first
   | (at_lookup; refine wpList_lookup_own_ok_int _ rfl _ _ 94 rfl 9 3 .i64 kStr Tryz.underlying94 Tryz.underlying3 (zeroI _) b n _ rfl hown _ _ rfl hkey ?_; intro cc hat hwc; rw [hh]; clear hat hwc)
   | (go_at_call 55; refine Calls.mono HB.out ?_; rintro e w3 ⟨rfl, hT⟩))
  go_end0
  exact ⟨rfl, hT⟩
 | some d =>
  have hev : evLocal p env x a = [evYes x a (wI (p + (d : Int)))] := by unfold evLocal; rw [henv]
  rw [henv] at hhas
  rw [hev]
  clear hev
  have hat0 := hatd d henv (.lit (.int .i64 0))
  have HB := hid (rn_use hs hn x a (wI (p + (d : Int))))
  generalize mpD p env = D0 at *
  generalize wI (p + (d : Int)) = T at *
  have hh : has D0 (kyB x) = true := hhas
  have HAT := hid hat0
  clear hhas henv hatd hxn hat0
  go_enter Tryz.func86, Tryz.ntmps86
  go_wp2_with (first
   | (at_lookup; refine wpList_lookup_own_ok_int _ rfl _ _ 94 rfl 9 3 .i64 kStr Tryz.underlying94 Tryz.underlying3 (zeroI _) b n _ rfl hown _ _ rfl hkey ?_; intro cc hat hwc; rw [hh]; rw [HAT.out] at hat; injection hat with hat; injection hat with _ hat; subst hat; clear hwc)
   | (go_at_call 84; refine Calls.mono HB.out ?_; rintro e w3 ⟨rfl, hT⟩))
  go_end0
  exact ⟨rfl, hT⟩
def evG (l : List (Int × It)) (kd : Nat) (x : ByteArray) (a : Nat) : List Ev := if x = noB then [] else evItem l kd x a
theorem rn_hit_noB (l : List (Int × It)) (kd : Nat) : hit l kd noB = none := by unfold hit fnd; rw [if_pos rfl]; rfl
theorem evG_chan (l : List (Int × It)) (x : ByteArray) (a : Nat) : evG l 1 x a = evChan l x a := rfl
set_option maxHeartbeats 600000 in
set_option maxRecDepth 100000 in
theorem rn_global (hs : RS bn l i p fq fc w L Dd Du) (hn : L.length < 1099511627776) (kd : Nat) (x : ByteArray) (a : Nat) :
  Calls Tryz.prog 57 #[.pointer (some ⟨bn, 0, none⟩), .int .i64 (kd : Int), .int .i64 (a : Int), .string x] w fun e w' => e = .returned (.int .i64 (fnd l kd x)) ∧ TQ bn l i p fq fc Dd Du (L ++ evG l kd x a) w w' := by
 obtain ⟨g, hfq, c0, c1, i6, hil, hll, hR⟩ := RS.cells hs
 subst hfq
 have hbn := hs.lt.1
 have HF := hid (rn_find l _ kd x w (fun k => k < bn) (fun k hk => Nat.lt_trans hk hbn) hR)
 have HR := hid hR
 rcases fnd_cases l kd x with hf | ⟨k, hf, hkl⟩
 ·rw [hf] at HF ⊢
  have hit := hit_none (kd := kd) hf
  by_cases hxn : x = noB
  ·have gx : x.toList.isEmpty = true := by rw [hxn, noB_list]; rfl
   have hev : evG l kd x a = [] := by unfold evG; rw [if_pos hxn]
   rw [hev, List.append_nil]
   clear hf hit hxn hev hR
   go_enter Tryz.func57, Tryz.ntmps57
   go_wp2_with (first
    | (go_at_call 13; refine Calls.mono HF.out ?_; rintro e w2 ⟨rfl, hb2⟩))
   go_ret
   exact ⟨rfl, Dd, Du, hs.below hb2, Stq.below hb2⟩
  ·have gx := nonempty_of hxn
   have hev : evG l kd x a = [evNo 6 x a] := by unfold evG evItem; rw [if_neg hxn, hit]
   rw [hev]
   clear hf hit hxn hev hR
   go_enter Tryz.func57, Tryz.ntmps57
   go_wp2_with (first
    | (go_at_call 13; refine Calls.mono HF.out ?_; rintro e w2 ⟨rfl, hb2⟩; have HB := hid (rn_bad (hs.below hb2) hn 6 x a))
    | (go_at_call 55; refine Calls.mono HB.out ?_; rintro e w3 ⟨rfl, Dd3, Du3, hs3, hst3⟩))
   go_ret
   exact ⟨rfl, Dd3, Du3, hs3, (Stq.below hb2).trans hst3⟩
 ·have hit := hit_some (kd := kd) hf (List.getElem?_eq_getElem hkl)
  have hxn : x ≠ noB := fun e => by rw [e, rn_hit_noB] at hit; cases hit
  generalize hit2 : l[k] = it at *
  have hk0 : l[k]? = some it := by rw [List.getElem?_eq_getElem hkl, hit2]
  obtain ⟨hgo, j6, j8, _, _, _⟩ := RdF.cells3 hR hk0
  have hev : evG l kd x a = [evYes x a (IntKind.i64.wrap (it.1 + (it.2.mrk : Int)))] := by unfold evG evItem; rw [if_neg hxn, hit]; rfl
  rw [hf] at HF ⊢
  have HEV := hid hev
  rw [hev]
  have gk : (0 : Int) ≤ (k : Int) := by omega
  have gk0 : (k : Int) ≥ 0 := by omega
  have gk1 : (k : Int) < (l.length : Int) := by omega
  have hkb : k < 1099511627776 := by omega
  clear hf hit hxn hev hR hk0 hit2
  go_enter Tryz.func57, Tryz.ntmps57
  go_wp2_with (first
   | (go_at_call 13; refine Calls.mono HF.out ?_; rintro e w2 ⟨rfl, hb2⟩))
  have z0 := cellB hb2 c0
  have z6 := cellB hb2 j6
  have z8 := cellB hb2 j8
  have hs2 := hs.below (Below.drew hb2)
  have HB := hid (rn_use hs2 hn x a (IntKind.i64.wrap (it.1 + (it.2.mrk : Int))))
  go_region_held3 (fun w' => w'.cell? ⟨bn, 0, none⟩ = some (.slice (some ⟨g, 0, none⟩) l.length fc) ∧ w'.cell? ⟨g, k * 10 + 6, none⟩ = some (.int .i64 it.1) ∧ w'.cell? ⟨g, k * 10 + 8, none⟩ = some (.int .i64 (it.2.mrk : Int))) (first | go_keep | (with_reducible exact ⟨v0, v6, v8⟩))
   (first
    | (go_at_call 84; refine Calls.mono HB.out ?_; rintro e w3 ⟨rfl, Dd3, Du3, hs3, hst3⟩; have hlo := Stq.low hst3 hs2; have v6 := (World.cell?_of_block (a := ⟨g, k * 10 + 6, none⟩) (hlo g hgo)).trans z6; have v8 := (World.cell?_of_block (a := ⟨g, k * 10 + 8, none⟩) (hlo g hgo)).trans z8; obtain ⟨g3, hg3, v0, _, _, _, _, _⟩ := RS.cells hs3; clear hg3))
  clear v0 v6 v8 hlo
  go_wp2
  go_ret
  exact ⟨rfl, Dd3, Du3, hs3, (Stq.below (Below.drew hb2)).trans hst3⟩
end
end Go.Proofs.YtdkpfnohdknldaaGreatDoor

/- Texts of this seat, one behind the other: LndState, LndA, LndB, LndC, LndD. -/
import Derived.Test.YtfioihehhlpgcaaGreatDoorZb03
import Derived.Test.YtfioihehhlpgcaaGreatDoorZb02
import Derived.Test.YtfioihehhlpgcaaGreatDoorZb01
import Derived.Deep.AppendLies
import Derived.Defers
import Derived.Deep.RegionHeld3
import Derived.BigRegion
import Derived.Test.YtfioihehhlpgcaaGreatDoorZb04
namespace Go.Proofs.YtfioihehhlpgcaaGreatDoor
open Go.RowKit
theorem Tryz.infoDg : (Tryz.prog.info? 81).map (fun i => (i.zero, i.size, i.bytes)) = some (some (.agg #[.int .i64 0, .int .i64 0, .int .i64 0, .string ⟨#[]⟩]), 4, 40) := by kernel_rfl
def dsC (l : List Dg) : List Value := l.flatMap dgC
theorem dsC_snoc (l : List Dg) (t : Dg) : dsC (l ++ [t]) = dsC l ++ dgC t := by simp [dsC]
theorem tok_of {L : List Tok} {sz i : Nat} (h : i < L.length) : L[i]? = some (tk L sz i) := by
  unfold tk
  rw [List.getElem?_eq_getElem h]
  rfl
theorem tok_no {L : List Tok} {sz i : Nat} (h : L.length ≤ i) : tk L sz i = ⟨0, noB, sz⟩ := by
  unfold tk
  rw [List.getElem?_eq_none h]
  rfl
/-- A token as a value. -/
def tkV (t : Tok) : Value := .agg #[.int .i64 (t.k : Int), .string t.x, .int .i64 (t.a : Int)]
/-- The library's variable ErrRange holds an error, or none. -/
def VarOk (w : World) : Prop := ∃ ev, w.cell? ⟨2, 0, none⟩ = some ev ∧ (ev = .nilIface ∨ ∃ te pe, ev = .iface te pe)
theorem VarOk.kept {w w' : World} (h : VarOk w) (hg : w'.heap[2]? = w.heap[2]?) : VarOk w' := by
  obtain ⟨ev, h1, h2⟩ := h
  exact ⟨ev, (World.cell?_of_block (a := ⟨2, 0, none⟩) hg).trans h1, h2⟩
/-- The reader at block gp, ahead of token i, so deep, having found ds wrong so far (its list in block D). -/
structure PSt (gp : Nat) (w : World) (L : List Tok) (sz i dp : Nat) (ds : List Dg) (D : Option Nat) : Prop where
  blk : ∃ p c v, w.heap[gp]? = some (.cells #[.slice p L.length c, .int .i64 (sz : Int), .int .i64 (i : Int), .int .i64 (endT L sz i : Int), .int .i64 (dp : Int), v] 150 (0, 0)) ∧
    (0 < L.length → ∃ g, p = some ⟨g, 0, none⟩ ∧ g < gp ∧ TokAt w g 0 L) ∧ w.ownsRow (gp + 1) 81 4 v ds.length (dsC ds) ∧ v.ownBlock = D
  len : L.length ≤ 1099511627776
  siz : sz ≤ 1099511627776
  end_ : ∀ t ∈ L, t.a + t.x.size ≤ sz ∧ okT t ∧ (t.k = 2 → ∀ j, j < t.x.size → dgt (byt t.x j) = true) ∧ (1 < t.x.size → byt t.x 1 ≠ 44)
  at_ : i ≤ L.length
  dp1 : dp ≤ 12
  var_ : 2 < gp ∧ VarOk w
/-- What a step of the reader leaves as it was: all but the reader itself and the list of what is wrong. -/
structure Stp (gp : Nat) (D D' : Option Nat) (w w' : World) : Prop where
  os : w'.os = w.os
  tape : w'.tape = w.tape
  output : w'.output = w.output
  size : w.heap.size ≤ w'.heap.size
  block : ∀ k, k < w.heap.size → k ≠ gp → some k ≠ D → w'.heap[k]? = w.heap[k]?
  own : D' = D ∨ ∃ j, D' = some j ∧ w.heap.size ≤ j
theorem Stp.refl (gp : Nat) (D : Option Nat) (w : World) : Stp gp D D w w := ⟨rfl, rfl, rfl, Nat.le_refl _, fun _ _ _ _ => rfl, .inl rfl⟩
theorem Stp.trans {gp : Nat} {D D' D'' : Option Nat} {w w' w'' : World} (h : Stp gp D D' w w') (k : Stp gp D' D'' w' w'') : Stp gp D D'' w w'' where
  os := k.os.trans h.os
  tape := k.tape.trans h.tape
  output := k.output.trans h.output
  size := Nat.le_trans h.size k.size
  block := fun b h1 h2 h3 => by
    refine (k.block b (Nat.lt_of_lt_of_le h1 h.size) h2 (fun e => ?_)).trans (h.block b h1 h2 h3)
    rcases h.own with e2 | ⟨j, e2, hj⟩
    · exact h3 (by rw [e, e2])
    · rw [e2] at e; injection e with e; omega
  own := by
    rcases k.own with e | ⟨j, e, hj⟩
    · rw [e]; exact h.own
    · exact .inr ⟨j, e, Nat.le_trans h.size hj⟩
theorem Stp.below {gp : Nat} {D : Option Nat} {w w' : World} (h : Below w.heap.size w w') : Stp gp D D w w' := ⟨h.os, h.tape, h.output, h.size, fun k hk _ _ => h.block k hk, .inl rfl⟩
section
variable {gp : Nat} {w w' : World} {L : List Tok} {sz i dp : Nat} {ds : List Dg} {D : Option Nat}
theorem PSt.gp_lt (h : PSt gp w L sz i dp ds D) : gp < w.heap.size := by
  obtain ⟨p, c, v, hb, _⟩ := h.blk
  exact (Array.getElem?_eq_some_iff.1 hb).1
theorem PSt.D_lt (h : PSt gp w L sz i dp ds D) {k : Nat} (e : some k = D) : gp < k ∧ k < w.heap.size := by
  obtain ⟨p, c, v, h1, h2, h3, h4⟩ := h.blk
  have := h3.lt k (h4.trans e.symm)
  exact ⟨this.1, this.2⟩
theorem TokAt.kept {g o : Nat} {l : List Tok} (h : TokAt w g o l) (hg : w'.heap[g]? = w.heap[g]?) : TokAt w' g o l := by
  intro j t ht
  have e : ∀ k, w'.cell? ⟨g, k, none⟩ = w.cell? ⟨g, k, none⟩ := fun k => World.cell?_of_block (a := ⟨g, k, none⟩) hg
  rw [e, e, e]
  exact h j t ht
theorem PSt.below (h : PSt gp w L sz i dp ds D) (hb : Below w.heap.size w w') : PSt gp w' L sz i dp ds D := by
  have hg := h.gp_lt
  obtain ⟨p, c, v, h1, h2, h3, h4⟩ := h.blk
  refine ⟨⟨p, c, v, (hb.block gp hg).trans h1, fun hl => ?_, own_below h3 hb, h4⟩, h.len, h.siz, h.end_, h.at_, h.dp1, h.var_.1, h.var_.2.kept (hb.block _ (by have := h.var_.1; omega))⟩
  obtain ⟨g, e1, e2, e3⟩ := h2 hl
  exact ⟨g, e1, e2, e3.below hb (by omega)⟩
/-- The reader's cells. -/
theorem PSt.cells (h : PSt gp w L sz i dp ds D) :
    ∃ p c v, w.cell? ⟨gp, 0, none⟩ = some (.slice p L.length c) ∧ w.cell? ⟨gp, 1, none⟩ = some (.int .i64 (sz : Int)) ∧ w.cell? ⟨gp, 2, none⟩ = some (.int .i64 (i : Int)) ∧ w.cell? ⟨gp, 3, none⟩ = some (.int .i64 (endT L sz i : Int)) ∧ w.cell? ⟨gp, 4, none⟩ = some (.int .i64 (dp : Int)) ∧ w.cell? ⟨gp, 5, none⟩ = some v ∧ (∀ o, w.frozen? ⟨gp, o, none⟩ = false) ∧
      (0 < L.length → ∃ g, p = some ⟨g, 0, none⟩ ∧ g < gp ∧ TokAt w g 0 L) ∧ w.ownsRow (gp + 1) 81 4 v ds.length (dsC ds) ∧ v.ownBlock = D := by
  obtain ⟨p, c, v, h1, h2, h3, h4⟩ := h.blk
  exact ⟨p, c, v, cell_of_row _ _ _ _ _ _ h1, cell_of_row _ _ _ _ _ _ h1, cell_of_row _ _ _ _ _ _ h1, cell_of_row _ _ _ _ _ _ h1, cell_of_row _ _ _ _ _ _ h1, cell_of_row _ _ _ _ _ _ h1, fun o => by simp [World.frozen?, h1], h2, h3, h4⟩
/-- How deep the reader is is set. -/
theorem PSt.setDeep (h : PSt gp w L sz i dp ds D) (d : Nat) (hd : d ≤ 12) : PSt gp (w.setCell ⟨gp, 4, none⟩ (.int .i64 (d : Int))) L sz i d ds D ∧ Stp gp D D w (w.setCell ⟨gp, 4, none⟩ (.int .i64 (d : Int))) := by
  obtain ⟨p, c, v, h1, h2, h3, h4⟩ := h.blk
  have hv : v.ownBlock ≠ some gp := fun e => by have := (h3.lt gp e).1; omega
  refine ⟨⟨⟨p, c, v, ?_, fun hl => ?_, ownsRow_setCell_other h3 hv _, h4⟩, h.len, h.siz, h.end_, h.at_, hd, h.var_.1, h.var_.2.kept (Below.heap_setCell w _ _ _ (by have := h.var_.1; simp; omega))⟩, rfl, rfl, rfl, by simp, fun k _ hk _ => Below.heap_setCell w _ _ k hk, .inl rfl⟩
  · simp [World.setCell, Array.getElem?_modify, h1]
  · obtain ⟨g, e1, e2, e3⟩ := h2 hl
    exact ⟨g, e1, e2, e3.kept (Below.heap_setCell w _ _ g (show g ≠ gp by omega))⟩
/-- The reader goes past a token. -/
theorem PSt.setNext (h : PSt gp w L sz i dp ds D) (hi : i < L.length) : PSt gp ((w.setCell ⟨gp, 2, none⟩ (.int .i64 ((i + 1 : Nat) : Int))).setCell ⟨gp, 3, none⟩ (.int .i64 (((tk L sz i).a + (tk L sz i).x.size : Nat) : Int))) L sz (i + 1) dp ds D ∧ Stp gp D D w ((w.setCell ⟨gp, 2, none⟩ (.int .i64 ((i + 1 : Nat) : Int))).setCell ⟨gp, 3, none⟩ (.int .i64 (((tk L sz i).a + (tk L sz i).x.size : Nat) : Int))) := by
  obtain ⟨p, c, v, h1, h2, h3, h4⟩ := h.blk
  have hv : v.ownBlock ≠ some gp := fun e => by have := (h3.lt gp e).1; omega
  have he : endT L sz (i + 1) = (tk L sz i).a + (tk L sz i).x.size := by unfold endT; rw [if_neg (by omega), Nat.add_sub_cancel]
  have hk : ∀ k, k ≠ gp → ((w.setCell ⟨gp, 2, none⟩ (.int .i64 ((i + 1 : Nat) : Int))).setCell ⟨gp, 3, none⟩ (.int .i64 (((tk L sz i).a + (tk L sz i).x.size : Nat) : Int))).heap[k]? = w.heap[k]? := fun k hk => (Below.heap_setCell _ _ _ k hk).trans (Below.heap_setCell w _ _ k hk)
  refine ⟨⟨⟨p, c, v, ?_, fun hl => ?_, ownsRow_setCell_other (ownsRow_setCell_other h3 hv _) hv _, h4⟩, h.len, h.siz, h.end_, hi, h.dp1, h.var_.1, h.var_.2.kept (hk _ (by have := h.var_.1; omega))⟩, rfl, rfl, rfl, by simp, fun k _ hk2 _ => hk k hk2, .inl rfl⟩
  · rw [he]; simp [World.setCell, Array.getElem?_modify, h1]
  · obtain ⟨g, e1, e2, e3⟩ := h2 hl
    exact ⟨g, e1, e2, e3.kept (hk g (by omega))⟩
theorem PSt.set (h : PSt gp w L sz i dp ds D) {b : Nat} (hb : gp < b) (hD : some b ≠ D) (o : Nat) (u : Value) : PSt gp (w.setCell ⟨b, o, none⟩ u) L sz i dp ds D := by
  obtain ⟨p, c, v, h1, h2, h3, h4⟩ := h.blk
  have hv : v.ownBlock ≠ some b := fun e => hD (by rw [← h4, e])
  refine ⟨⟨p, c, v, (Below.heap_setCell w _ _ gp (by simp; omega)).trans h1, fun hl => ?_, ownsRow_setCell_other h3 hv _, h4⟩, h.len, h.siz, h.end_, h.at_, h.dp1, h.var_.1, h.var_.2.kept (Below.heap_setCell w _ _ _ (by have := h.var_.1; simp; omega))⟩
  obtain ⟨g, e1, e2, e3⟩ := h2 hl
  exact ⟨g, e1, e2, e3.kept (Below.heap_setCell w _ _ g (by simp; omega))⟩
theorem Stp.set {D' : Option Nat} (h : Stp gp D D' w w') {b : Nat} (hb : w.heap.size ≤ b) (o : Nat) (u : Value) : Stp gp D D' w (w'.setCell ⟨b, o, none⟩ u) :=
  ⟨h.os, h.tape, h.output, by simpa using h.size, fun k hk h2 h3 => (Below.heap_setCell w' _ _ k (by simp; omega)).trans (h.block k hk h2 h3), h.own⟩
/-- A block that is new is neither the reader's nor the list's. -/
theorem PSt.fresh (h : PSt gp w L sz i dp ds D) {b : Nat} (hb : w.heap.size ≤ b) : gp < b ∧ some b ≠ D := ⟨Nat.lt_of_lt_of_le h.gp_lt hb, fun e => by have := (h.D_lt e).2; omega⟩
/-- Nor is it later. -/
theorem Stp.fresh {D' : Option Nat} (h : Stp gp D D' w w') {b : Nat} (hb : b < w.heap.size) (hD : some b ≠ D) : some b ≠ D' := fun e => by
  rcases h.own with e2 | ⟨j, e2, hj⟩
  · exact hD (by rw [e, e2])
  · rw [e2] at e; injection e with e; omega
theorem tk_small (hp : PSt gp w L sz i dp ds D) (j : Nat) : (tk L sz j).a + (tk L sz j).x.size ≤ sz := by
  rcases Nat.lt_or_ge j L.length with h | h
  · exact (hp.end_ _ (List.mem_of_getElem? (tok_of h))).1
  · rw [tok_no h]; exact Nat.le_refl _
theorem PSt.okL (hp : PSt gp w L sz i dp ds D) : ∀ t ∈ L, okT t := fun t ht => (hp.end_ t ht).2.1
end
theorem tkField (t : Tok) (w : World) : (Instr.field 175 (.agg #[.int .i64 (t.k : Int), .string t.x, .int .i64 (t.a : Int)]) 0).run Tryz.prog w = .ok (.int .i64 (t.k : Int)) w ∧ (Instr.field 175 (.agg #[.int .i64 (t.k : Int), .string t.x, .int .i64 (t.a : Int)]) 1).run Tryz.prog w = .ok (.string t.x) w ∧ (Instr.field 175 (.agg #[.int .i64 (t.k : Int), .string t.x, .int .i64 (t.a : Int)]) 2).run Tryz.prog w = .ok (.int .i64 (t.a : Int)) w := ⟨by kernel_rfl, by kernel_rfl, by kernel_rfl⟩
/-- A token laid down. -/
theorem tokSlot (w : World) (t : Tok) : (w.alloc (.cells #[.int .i64 (t.k : Int), .string t.x, .int .i64 (t.a : Int)] 175)).cell? ⟨w.heap.size, 0, none⟩ = some (.int .i64 (t.k : Int)) ∧ (w.alloc (.cells #[.int .i64 (t.k : Int), .string t.x, .int .i64 (t.a : Int)] 175)).cell? ⟨w.heap.size, 1, none⟩ = some (.string t.x) ∧ (w.alloc (.cells #[.int .i64 (t.k : Int), .string t.x, .int .i64 (t.a : Int)] 175)).cell? ⟨w.heap.size, 2, none⟩ = some (.int .i64 (t.a : Int)) :=
  ⟨cell_of_row _ w.heap.size 0 _ _ (0, 0) (heap_alloc_new w _), cell_of_row _ w.heap.size 1 _ _ (0, 0) (heap_alloc_new w _), cell_of_row _ w.heap.size 2 _ _ (0, 0) (heap_alloc_new w _)⟩
theorem frozen_alloc {w : World} {a : Addr} (h : w.frozen? a = false) (hl : a.block < w.heap.size) : ∀ o, (w.alloc o).frozen? a = false := fun o => (World.frozen?_of_block (Below.heap_alloc w o a.block hl)).trans h
/-- A block that was laid down, and has not been touched since. -/
theorem slot {w w1 : World} {cs : Array Value} {t : TypeId} (h : w1.heap[w.heap.size]? = (w.alloc (.cells cs t)).heap[w.heap.size]?) :
    w1.heap[w.heap.size]? = some (.cells cs t (0, 0)) ∧ (∀ o, w1.frozen? ⟨w.heap.size, o, none⟩ = false) ∧ ∀ j u, cs[j]? = some u → w1.cell? ⟨w.heap.size, j, none⟩ = some u := by
  have h : w1.heap[w.heap.size]? = some (.cells cs t (0, 0)) := h.trans (heap_alloc_new w _)
  exact ⟨h, fun o => by simp [World.frozen?, h], fun j u hj => (cell_of_row _ _ j _ _ _ h).trans hj⟩
theorem slotB {w w1 : World} {cs : Array Value} {t : TypeId} (hb : Below (w.alloc (.cells cs t)).heap.size (w.alloc (.cells cs t)) w1) :
    w1.heap[w.heap.size]? = some (.cells cs t (0, 0)) ∧ (∀ o, w1.frozen? ⟨w.heap.size, o, none⟩ = false) ∧ ∀ j u, cs[j]? = some u → w1.cell? ⟨w.heap.size, j, none⟩ = some u := slot (hb.block _ (by simp))
/-- A step of the reader: it is ahead of token i, told of what is wrong, and left the rest as it was. -/
def Told (gp : Nat) (L : List Tok) (sz dp : Nat) (D : Option Nat) (i : Nat) (ds : List Dg) (w w' : World) : Prop := ∃ D', PSt gp w' L sz i dp ds D' ∧ Stp gp D D' w w'
section
variable {gp : Nat} {w w1 w' : World} {L : List Tok} {sz i dp : Nat} {ds : List Dg} {D : Option Nat}
theorem Told.same (hp : PSt gp w L sz i dp ds D) (hb : Below w.heap.size w w') : Told gp L sz dp D i ds w w' := ⟨D, hp.below hb, Stp.below hb⟩
theorem Told.after (hb : Below w.heap.size w w1) (h : Told gp L sz dp D i ds w1 w') : Told gp L sz dp D i ds w w' := by
  obtain ⟨D', h1, h2⟩ := h
  exact ⟨D', h1, (Stp.below hb).trans h2⟩
theorem Told.below (h : Told gp L sz dp D i ds w w1) (hb : Below w1.heap.size w1 w') : Told gp L sz dp D i ds w w' := by
  obtain ⟨D', h1, h2⟩ := h
  exact ⟨D', h1.below hb, h2.trans (Stp.below hb)⟩
end
end Go.Proofs.YtfioihehhlpgcaaGreatDoor
namespace Go.Proofs.YtfioihehhlpgcaaGreatDoor
open Go.RowKit
attribute [local go_sem ↓] Go.wp_at_zero Go.wp_at_succ
section
variable {gp : Nat} {w : World} {L : List Tok} {sz i dp : Nat} {ds : List Dg} {D : Option Nat}
set_option maxHeartbeats 1000000 in
set_option maxRecDepth 100000 in
theorem left_any (hp : PSt gp w L sz i dp ds D) :
    Calls Tryz.prog 109 #[.pointer (some ⟨gp, 0, none⟩)] w fun e w' => e = .returned (.bool (decide (i < L.length))) ∧ Below w.heap.size w w' := by
  obtain ⟨p, c, v, c0, c1, c2, c3, c4, c5, hf, htok, hown, hD⟩ := hp.cells
  go_enter Tryz.func109, Tryz.ntmps109
  clear htok
  go_wp2
  go_quiet (fail)
  go_wp2
  go_ret
  exact ⟨ret_bool (by simp), below_drewN (Below.refl _ _) _⟩
set_option maxHeartbeats 1000000 in
set_option maxRecDepth 100000 in
theorem peek_any (hp : PSt gp w L sz i dp ds D) :
    Calls Tryz.prog 146 #[.pointer (some ⟨gp, 0, none⟩)] w fun e w' => e = .returned (tkV (tk L sz i)) ∧ Below w.heap.size w w' := by
  have hlen := hp.len
  have hgp := hp.gp_lt
  have hb0 := (Below.refl w.heap.size w).alloc (Nat.le_refl _) (.cells #[.int .i64 0, .string ⟨#[]⟩, .int .i64 0] 175)
  have hp0 := hp.below hb0
  go_enter Tryz.func146, Tryz.ntmps146
  by_cases hlt : i < L.length
  · have hd : decide (i < L.length) = true := by simpa using hlt
    have gi : (0 : Int) ≤ (i : Int) := by omega
    have gj : (i : Int) < (L.length : Int) := by omega
    go_wp2_with (first
      | (go_at_call 109; refine (left_any hp0).mono ?_; rintro e w1 ⟨rfl, hb1⟩; rw [hd]; obtain ⟨p, c, v, c0, c1, c2, c3, c4, c5, hf, htok, hown, hD⟩ := (hp0.below hb1).cells; obtain ⟨g, rfl, hg, ht⟩ := htok (by omega); have ⟨t0, t1, t2⟩ := ht i _ (tok_of (sz := sz) hlt); rw [Nat.zero_add] at t0 t1 t2; clear ht htok hown hD; obtain ⟨s1, s2, s3⟩ := slotB hb1; have r0 := s3 0 _ rfl; have r1 := s3 1 _ rfl; have r2 := s3 2 _ rfl; clear s3))
    go_region
    go_wp2
    exact bodyPost_ret (v := tkV (tk L sz i)) (by unfold tkV; simp [results, Tryz.results146, go_sem, r0, r1, r2]) rfl ⟨rfl, ((below_drewN (hb0.trans (hb1.mono (by simp))) _).setCell (Nat.le_refl _) _).setCell (Nat.le_refl _) _ |>.setCell (Nat.le_refl _) _⟩
  · have hd : decide (i < L.length) = false := by simpa using hlt
    have HL : Hid (L.length ≤ i) := by show _ ≤ _; omega
    clear hlt
    go_wp2_with (first
      | (go_at_call 109; refine (left_any hp0).mono ?_; rintro e w1 ⟨rfl, hb1⟩; rw [hd]; obtain ⟨p, c, v, c0, c1, c2, c3, c4, c5, hf, htok, hown, hD⟩ := (hp0.below hb1).cells; clear htok hown hD; obtain ⟨s1, s2, s3⟩ := slotB hb1; have r0 := s3 0 _ rfl; have r1 := s3 1 _ rfl; have r2 := s3 2 _ rfl; clear s3))
    have e := tok_no (sz := sz) HL.out
    exact bodyPost_ret (v := tkV (tk L sz i)) (by rw [e]; unfold tkV noB; simp [results, Tryz.results146, go_sem, r0, r1, r2]) rfl ⟨rfl, ((hb0.trans (hb1.mono (by simp))).setCell (Nat.le_refl _) _).setCell (Nat.le_refl _) _ |>.setCell (Nat.le_refl _) _⟩
set_option maxHeartbeats 1000000 in
set_option maxRecDepth 100000 in
theorem is_any (hp : PSt gp w L sz i dp ds D) (s : ByteArray) (hs : s ≠ noB) :
    Calls Tryz.prog 144 #[.pointer (some ⟨gp, 0, none⟩), .string s] w fun e w' => e = .returned (.bool (isT L i s)) ∧ Below w.heap.size w w' := by
  have HI : isT L i s = decide ((tk L sz i).x = s) := by
    unfold isT
    rcases Nat.lt_or_ge i L.length with h | h
    · rw [tok_of (sz := sz) h]
    · rw [List.getElem?_eq_none h, tok_no h]
      simp
      exact fun e => hs e.symm
  rw [HI]
  have hfd := fun w2 => (tkField (tk L sz i) w2).2.1
  go_enter Tryz.func144, Tryz.ntmps144
  by_cases he : (tk L sz i).x = s
  · have hb : ((tk L sz i).x.toList == s.toList) = true := (Lib.bytes_beq_iff _ _).2 he
    have HN : Hid ((tk L sz i).x = s) := he
    clear he HI
    go_wp2_with (first
      | (go_at_call 146; refine (peek_any hp).mono ?_; rintro e w1 ⟨rfl, hb1⟩; unfold tkV))
    go_ret
    exact ⟨ret_bool (by simp [HN.out]), hb1⟩
  · have hb : ((tk L sz i).x.toList == s.toList) = false := (Lib.bytes_beq_false_iff _ _).2 he
    have HN : Hid (¬ (tk L sz i).x = s) := he
    clear he HI
    go_wp2_with (first
      | (go_at_call 146; refine (peek_any hp).mono ?_; rintro e w1 ⟨rfl, hb1⟩; unfold tkV))
    go_ret
    exact ⟨ret_bool (by simp [HN.out]), hb1⟩
set_option maxHeartbeats 1000000 in
set_option maxRecDepth 100000 in
theorem pass_any (hp : PSt gp w L sz i dp ds D) (hi : i < L.length) :
    Calls Tryz.prog 145 #[.pointer (some ⟨gp, 0, none⟩)] w fun e w' => e = .returned (tkV (tk L sz i)) ∧ PSt gp w' L sz (i + 1) dp ds D ∧ Stp gp D D w w' := by
  have hlen := hp.len
  have hgp := hp.gp_lt
  have hsm := tk_small hp i
  have hsiz := hp.siz
  have hb0 := (Below.refl w.heap.size w).alloc (Nat.le_refl _) (.cells #[.int .i64 0, .string ⟨#[]⟩, .int .i64 0] 175)
  have hp0 := hp.below hb0
  have hne : ¬ w.heap.size = gp := by omega
  go_enter Tryz.func145, Tryz.ntmps145
  have gw : IntKind.i64.wrap (((tk L sz i).a : Int) + ((tk L sz i).x.size : Int)) = ((tk L sz i).a : Int) + ((tk L sz i).x.size : Int) := wrap_id _ (by omega) (by omega)
  have gw2 : IntKind.i64.wrap ((i : Int) + 1) = (i : Int) + 1 := wrap_id _ (by omega) (by omega)
  go_wp2_with (first
    | (go_at_call 146; refine (peek_any hp0).mono ?_; rintro e w1 ⟨rfl, hb1⟩; unfold tkV; have hp1 := (hp0.below hb1).below ((Below.refl w1.heap.size w1).alloc (Nat.le_refl _) (.cells #[.int .i64 ((tk L sz i).k : Int), .string (tk L sz i).x, .int .i64 ((tk L sz i).a : Int)] 175)); obtain ⟨p, c, v, c0, c1, c2, c3, c4, c5, hf, htok, hown, hD⟩ := hp1.cells; clear htok hown hD; obtain ⟨s1, s2, s3⟩ := slotB hb1; have r0 := cell_alloc (s3 0 _ rfl); have r1 := cell_alloc (s3 1 _ rfl); have r2 := cell_alloc (s3 2 _ rfl); clear s3; have hz : w.heap.size + 1 ≤ w1.heap.size := (by simpa using hb1.size); have s4 : ∀ o k, (w1.alloc o).frozen? ⟨w.heap.size, k, none⟩ = false := fun o k => frozen_alloc (s2 k) (show w.heap.size < w1.heap.size by omega) o; obtain ⟨y0, y1, y2⟩ := tokSlot w1 (tk L sz i); have hn1 : ¬ w1.heap.size = gp := (by omega); have hn2 : ¬ gp = w1.heap.size := (by omega); have hn3 : ¬ w1.heap.size = w.heap.size := (by omega); have hn4 : ¬ w.heap.size = w1.heap.size := (by omega)))
  have hfr := hp.fresh (Nat.le_refl w.heap.size)
  have hN := hp1.setNext hi
  refine bodyPost_ret (v := tkV (tk L sz i)) (by unfold tkV; simp [results, Tryz.results145, go_sem, r0, r1, r2]) rfl ⟨rfl, ?_, ?_⟩
  · exact ((hN.1.set hfr.1 hfr.2 _ _).set hfr.1 hfr.2 _ _).set hfr.1 hfr.2 _ _
  · exact ((((Stp.below hb0).trans (Stp.below hb1)).trans (Stp.below ((Below.refl w1.heap.size w1).alloc (Nat.le_refl _) _))).trans hN.2).set (Nat.le_refl _) _ _ |>.set (Nat.le_refl _) _ _ |>.set (Nat.le_refl _) _ _
set_option maxHeartbeats 1000000 in
set_option maxRecDepth 100000 in
theorem enter_any (hp : PSt gp w L sz i dp ds D) (hd : dp < 12) :
    Calls Tryz.prog 173 #[.pointer (some ⟨gp, 0, none⟩)] w fun e w' => e = .returned (.tuple #[]) ∧ PSt gp w' L sz i (dp + 1) ds D ∧ Stp gp D D w w' := by
  obtain ⟨p, c, v, c0, c1, c2, c3, c4, c5, hf, htok, hown, hD⟩ := hp.cells
  have gw2 : IntKind.i64.wrap ((dp : Int) + 1) = (dp : Int) + 1 := wrap_id _ (by omega) (by omega)
  clear htok hown hD
  go_enter Tryz.func173, Tryz.ntmps173
  go_wp2
  go_end0
  exact ⟨rfl, hp.setDeep (dp + 1) hd⟩
set_option maxHeartbeats 1000000 in
set_option maxRecDepth 100000 in
/-- The deferred call: one less deep. -/
theorem leave_any (hp : PSt gp w L sz i (dp + 1) ds D) (u : FrameMode) :
    CallsD Tryz.prog 174 #[.pointer (some ⟨gp, 0, none⟩)] u w fun e u' w' => u' = u ∧ e = .returned (.tuple #[]) ∧ PSt gp w' L sz i dp ds D ∧ Stp gp D D w w' := by
  obtain ⟨p, c, v, c0, c1, c2, c3, c4, c5, hf, htok, hown, hD⟩ := hp.cells
  have hd := hp.dp1
  have gw2 : IntKind.i64.wrap (((dp + 1 : Nat) : Int) - 1) = (dp : Int) := by rw [wrap_id _ (by omega) (by omega)]; omega
  clear htok hown hD
  go_enter_d Tryz.func174, Tryz.ntmps174
  go_wp2
  go_end0
  exact ⟨rfl, hp.setDeep dp (by omega)⟩
end
end Go.Proofs.YtfioihehhlpgcaaGreatDoor
namespace Go.Proofs.YtfioihehhlpgcaaGreatDoor
open Go.RowKit
attribute [local go_sem ↓] Go.wp_at_zero Go.wp_at_succ
theorem dg_cell (d : Dg) : ∀ u ∈ dgC d, u.oneCell' = true := by
  intro u hu
  simp [dgC] at hu
  rcases hu with rfl | rfl | rfl | rfl <;> rfl
theorem news2d (w : World) (o : Obj) (cs : Array Value) (t : TypeId) : ∀ j u, cs.toList[j]? = some u → ((w.alloc o).alloc (.cells cs t)).drew.cell? ((⟨w.heap.size + 1, 0, none⟩ : Addr).add j) = some u := news2 w o cs t
theorem bad_stay {w1 w2 : World} {o o2 : Obj} {row : Option Nat} (hg : ((w1.alloc o).alloc o2).drew.grownBy w2 row) (b : Nat) (hb : b < w1.heap.size + 1) (hne : some b ≠ row) : (∀ k, w2.cell? ⟨b, k, none⟩ = (w1.alloc o).cell? ⟨b, k, none⟩) ∧ (∀ k, w2.frozen? ⟨b, k, none⟩ = (w1.alloc o).frozen? ⟨b, k, none⟩) := by
  have h1 : w2.heap[b]? = (w1.alloc o).heap[b]? := (hg.block b (by simp; omega) hne).trans (Below.heap_alloc (w1.alloc o) o2 b (by simpa using hb))
  exact ⟨fun k => World.cell?_of_block (a := ⟨b, k, none⟩) h1, fun k => World.frozen?_of_block (a := ⟨b, k, none⟩) h1⟩
/-- append's run, hidden from the walk's own rules. -/
def appR (P : Program) (ts : Array TypeId) (ty : TypeId) (vs : Array Value) (w : World) := (Builtin.append_ ts ty vs).run P w
theorem app_hide (P : Program) (ts : Array TypeId) (ty : TypeId) (vs : Array Value) (w : World) : (Builtin.append_ ts ty vs).run P w = appR P ts ty vs w := rfl
theorem app_hide3 (P : Program) (ρ : Operand → Value) (dst : Option Tmp) (xs : Array Operand) (ats : Array TypeId) (ty : TypeId) (pos : String) (after : Array Edge) (guard : Option (Nat × Bool)) (w : World) :
    (execOp ρ { dst, op := .call { callee := .builtin .append, args := xs, argTypes := ats }, type := ty, pos, after, guard }).run P w = (appR P ats ty (xs.map ρ) w).andThen fun v w' => .ok (.value v) w' := by
  show (do pure (Next.value (← Builtin.append_ ats ty (xs.map ρ))) : Sem Next).run P w = _
  simp only [Sem.run_bind, Sem.run_pure]
  rfl
attribute [local go_sem ↓] app_hide app_hide3
theorem bad_end {gp : Nat} {w w1 w2 : World} {L : List Tok} {sz i dp : Nat} {ds : List Dg} {D : Option Nat} {o o2 : Obj} {v : Value} {g cap : Nat} {d : Dg} (hb1 : Below w.heap.size w w1) (hp1 : PSt gp w1 L sz i dp ds D) (hc : w1.cell? ⟨gp, 5, none⟩ = some v)
    (hown2 : w2.ownsRow (gp + 1) 81 4 (.slice (some ⟨g, 0, none⟩) (ds.length + 1) cap) (ds.length + 1) (dsC ds ++ dgC d)) (hg : ((w1.alloc o).alloc o2).drew.grownBy w2 v.ownBlock)
    (hat : v.ownBlock = some g ∨ g = ((w1.alloc o).alloc o2).drew.heap.size) :
    ∃ D', PSt gp (w2.setCell ⟨gp, 5, none⟩ (.slice (some ⟨g, 0, none⟩) (ds.length + 1) cap)) L sz i dp (ds ++ [d]) D' ∧ Stp gp D D' w (w2.setCell ⟨gp, 5, none⟩ (.slice (some ⟨g, 0, none⟩) (ds.length + 1) cap)) := by
  have hgp := hp1.gp_lt
  have hs1 := hb1.size
  obtain ⟨p, c, v', h1, h2, h3, h4⟩ := hp1.blk
  have hv : v' = v := by
    have e := cell_of_row _ gp 5 _ _ _ h1
    rw [hc] at e
    simpa using e.symm
  subst hv
  have hne : some gp ≠ v'.ownBlock := fun e => by have := (h3.lt gp e.symm).1; omega
  have hgg : gp + 1 ≤ g := (hown2.lt g rfl).1
  have hW : ∀ k, k < w1.heap.size → some k ≠ v'.ownBlock → w2.heap[k]? = w1.heap[k]? := fun k hk hn =>
    ((hg.block k (by simp; omega) hn).trans (Below.heap_alloc (w1.alloc o) o2 k (by simp; omega))).trans (Below.heap_alloc w1 o k hk)
  have hset : ∀ k, k ≠ gp → (w2.setCell ⟨gp, 5, none⟩ (.slice (some ⟨g, 0, none⟩) (ds.length + 1) cap)).heap[k]? = w2.heap[k]? := fun k hk => Below.heap_setCell w2 _ _ k hk
  have hb := (hW gp hgp hne).trans h1
  refine ⟨some g, ⟨⟨p, c, .slice (some ⟨g, 0, none⟩) (ds.length + 1) cap, ?_, fun hl => ?_, ?_, rfl⟩, hp1.len, hp1.siz, hp1.end_, hp1.at_, hp1.dp1, hp1.var_.1, hp1.var_.2.kept ((hset _ (by have := hp1.var_.1; omega)).trans (hW _ (by have := hp1.var_.1; omega) (fun e => by have := (h3.lt _ e.symm).1; have := hp1.var_.1; omega)))⟩, ?_⟩
  · simp [World.setCell, Array.getElem?_modify, hb]
  · obtain ⟨q, e1, e2, e3⟩ := h2 hl
    have hq : some q ≠ v'.ownBlock := fun e => by have := (h3.lt q e.symm).1; omega
    refine ⟨q, e1, e2, fun j t ht => ?_⟩
    have e : ∀ k, (w2.setCell ⟨gp, 5, none⟩ (.slice (some ⟨g, 0, none⟩) (ds.length + 1) cap)).cell? ⟨q, k, none⟩ = w1.cell? ⟨q, k, none⟩ := fun k => World.cell?_of_block (a := ⟨q, k, none⟩) ((hset q (by omega)).trans (hW q (by omega) hq))
    rw [e, e, e]
    exact e3 j t ht
  · have := ownsRow_setCell_other hown2 (a := ⟨gp, 5, none⟩) (by simp [Value.ownBlock]; omega) (.slice (some ⟨g, 0, none⟩) (ds.length + 1) cap)
    rw [dsC_snoc]
    simpa using this
  · refine ⟨?_, ?_, ?_, ?_, fun k hk hk2 hk3 => ?_, ?_⟩
    · exact hg.os.trans hb1.os
    · exact hg.tape.trans hb1.tape
    · exact hg.output.trans hb1.output
    · have := hg.size
      simp at this ⊢
      omega
    · exact ((hset k hk2).trans (hW k (by omega) (by rw [h4]; exact hk3))).trans (hb1.block k hk)
    · rcases hat with e | e
      · exact .inl (by rw [← h4, e])
      · exact .inr ⟨g, rfl, by rw [e]; simp; omega⟩
section
variable {gp : Nat} {w : World} {L : List Tok} {sz i dp : Nat} {ds : List Dg} {D : Option Nat}
set_option maxHeartbeats 1000000 in
set_option maxRecDepth 100000 in
theorem tell_any (hp : PSt gp w L sz i dp ds D) (e0 : Nat) (hds : ds.length + 1 ≤ 1099511627776) :
    Calls Tryz.prog 108 #[.pointer (some ⟨gp, 0, none⟩), .int .i64 (e0 : Int)] w fun e w' => e = .returned (.tuple #[]) ∧ Told gp L sz dp D i (ds ++ [bad L sz i e0]) w w' := by
  obtain ⟨i0, hi0, hz0, hz1, hz2⟩ := info_parts Tryz.infoDg
  have hlen := hp.len
  go_enter Tryz.func108, Tryz.ntmps108
  go_wp2_with (first
    | (go_at_call 146; refine (peek_any hp).mono ?_; rintro e w1 ⟨rfl, hb1⟩; unfold tkV; have hp1 := hp.below hb1))
  obtain ⟨p, c, v, c0, c1, c3, c4, c6, c2, hf, htok, hown, hD⟩ := hp1.cells
  have hgp := hp1.gp_lt
  have x2 := cell_alloc c2
  have y1 := cell_of_row (w1.alloc (Obj.cells #[.int .i64 ((tk L sz i).k : Int), .string (tk L sz i).x, .int .i64 ((tk L sz i).a : Int)] 175)) w1.heap.size 1 _ _ (0, 0) (heap_alloc_new w1 _)
  have y2 := cell_of_row (w1.alloc (Obj.cells #[.int .i64 ((tk L sz i).k : Int), .string (tk L sz i).x, .int .i64 ((tk L sz i).a : Int)] 175)) w1.heap.size 2 _ _ (0, 0) (heap_alloc_new w1 _)
  simp only [List.getElem?_toArray, List.getElem?_cons_succ, List.getElem?_cons_zero] at y1 y2
  generalize (Obj.cells #[.int .i64 ((tk L sz i).k : Int), .string (tk L sz i).x, .int .i64 ((tk L sz i).a : Int)] 175) = o at *
  have hsum : (tk L sz i).a + (tk L sz i).x.size ≤ sz := by
    rcases Nat.lt_or_ge i L.length with h | h
    · exact (hp.end_ _ (List.mem_of_getElem? (tok_of h))).1
    · rw [tok_no h]; exact Nat.le_refl _
  have hsz := hp.siz
  have gw : IntKind.i64.wrap (((tk L sz i).a : Int) + ((tk L sz i).x.size : Int)) = ((tk L sz i).a : Int) + ((tk L sz i).x.size : Int) := wrap_id _ (by omega) (by omega)
  have hne1 : some gp ≠ v.ownBlock := fun e => by have := (hown.lt gp e.symm).1; omega
  have hne2 : some w1.heap.size ≠ v.ownBlock := fun e => by have := (hown.lt _ e.symm).2; omega
  have hf2 : (w1.alloc o).frozen? ⟨gp, 5, none⟩ = false := (World.frozen?_of_block (a := ⟨gp, 5, none⟩) (Below.heap_alloc w1 o gp hgp)).trans (hf 5)
  have hf3 : ∀ o2, ((w1.alloc o).alloc o2).frozen? ⟨gp, 5, none⟩ = false := fun o2 => (World.frozen?_of_block (a := ⟨gp, 5, none⟩) (Below.heap_alloc (w1.alloc o) o2 gp (by simp; omega))).trans hf2
  have hne3 : w1.heap.size ≠ gp := by omega
  have hmax : ds.length + 1 ≤ maxLen := by unfold maxLen; omega
  have hbyt : (ds.length + 1) * 40 ≤ 140737488355328 := by omega
  have hbs : ∀ o2, gp + 1 ≤ ((w1.alloc o).alloc o2).drew.heap.size := fun o2 => by simp; omega
  have hl1 : gp < w1.heap.size + 1 := by omega
  have hl2 : w1.heap.size < w1.heap.size + 1 := by omega
  have hb : dgC (bad L sz i e0) = [.int .i64 ((tk L sz i).a : Int), .int .i64 (((tk L sz i).a : Int) + ((tk L sz i).x.size : Int)), .int .i64 (e0 : Int), .string (tk L sz i).x] := by simp [dgC, bad]
  have HB : Hid (dgC (bad L sz i e0) = [.int .i64 ((tk L sz i).a : Int), .int .i64 (((tk L sz i).a : Int) + ((tk L sz i).x.size : Int)), .int .i64 (e0 : Int), .string (tk L sz i).x]) := hb
  have hone : ∀ u ∈ [Value.int .i64 ((tk L sz i).a : Int), .int .i64 (((tk L sz i).a : Int) + ((tk L sz i).x.size : Int)), .int .i64 (e0 : Int), .string (tk L sz i).x], u.oneCell' = true := by rw [← hb]; exact dg_cell _
  clear hb
  obtain ⟨g, cap, w2, hrun, hown2, hgrow2, hat, hlt⟩ := run_append_lies (P := Tryz.prog) (((w1.alloc o).alloc (.cells #[.int .i64 ((tk L sz i).a : Int), .int .i64 (((tk L sz i).a : Int) + ((tk L sz i).x.size : Int)), .int .i64 (e0 : Int), .string (tk L sz i).x] 81)).drew) 34 34 (gp + 1) 81 i0 _ 4 40 Tryz.underlying34 hi0 hz0 hz1 hz2 rfl (by decide) v ds.length (dsC ds) (((hown.alloc _).alloc _).drew) ⟨w1.heap.size + 1, 0, none⟩ 1 1 [.int .i64 ((tk L sz i).a : Int), .int .i64 (((tk L sz i).a : Int) + ((tk L sz i).x.size : Int)), .int .i64 (e0 : Int), .string (tk L sz i).x] rfl (news2d _ _ _ _) hone (by decide) hmax hbyt (hbs _) _ rfl
  have hA : appR Tryz.prog #[34, 34] 34 #[v, .slice (some ⟨w1.heap.size + 1, 0, none⟩) 1 1] (((w1.alloc o).alloc (.cells #[.int .i64 ((tk L sz i).a : Int), .int .i64 (((tk L sz i).a : Int) + ((tk L sz i).x.size : Int)), .int .i64 (e0 : Int), .string (tk L sz i).x] 81)).drew) = _ := hrun
  have z1 := bad_stay hgrow2 gp hl1 hne1
  have z2 := (z1.1 5).trans (x2 o)
  have z3 := (z1.2 5).trans hf2
  have x3 : ∀ o2, ((w1.alloc o).alloc o2).cell? ⟨gp, 5, none⟩ = some v := cell_alloc (x2 o)
  have y3 : ∀ o2, ((w1.alloc o).alloc o2).cell? ⟨w1.heap.size, 1, none⟩ = some (.string (tk L sz i).x) := cell_alloc y1
  have y4 : ∀ o2, ((w1.alloc o).alloc o2).cell? ⟨w1.heap.size, 2, none⟩ = some (.int .i64 ((tk L sz i).a : Int)) := cell_alloc y2
  have HG : Hid (((w1.alloc o).alloc (.cells #[.int .i64 ((tk L sz i).a : Int), .int .i64 (((tk L sz i).a : Int) + ((tk L sz i).x.size : Int)), .int .i64 (e0 : Int), .string (tk L sz i).x] 81)).drew.grownBy w2 v.ownBlock) := hgrow2
  clear hgrow2 hone z1 hrun
  go_region
  go_wp2
  go_end0
  exact ⟨rfl, bad_end hb1 hp1 c2 (by rw [HB.out]; exact hown2) HG.out hat⟩
end
end Go.Proofs.YtfioihehhlpgcaaGreatDoor
namespace Go.Proofs.YtfioihehhlpgcaaGreatDoor
open Go.RowKit
attribute [local go_sem ↓] Go.wp_at_zero Go.wp_at_succ
section
variable {gp : Nat} {w : World} {L : List Tok} {sz i dp : Nat} {ds : List Dg} {D : Option Nat}
set_option maxHeartbeats 1000000 in
set_option maxRecDepth 100000 in
theorem take_any (hp : PSt gp w L sz i dp ds D) (s : ByteArray) (hs : s ≠ noB) :
    Calls Tryz.prog 105 #[.pointer (some ⟨gp, 0, none⟩), .string s] w fun e w' => e = .returned (.bool (isT L i s)) ∧ PSt gp w' L sz (if isT L i s then i + 1 else i) dp ds D ∧ Stp gp D D w w' := by
  go_enter Tryz.func105, Tryz.ntmps105
  cases hI : isT L i s
  · go_wp2_with (first
      | (go_at_call 144; refine (is_any hp s hs).mono ?_; rintro e w1 ⟨rfl, hb1⟩; rw [hI]))
    go_ret
    exact ⟨rfl, hp.below hb1, Stp.below hb1⟩
  · go_wp2_with (first
      | (go_at_call 144; refine (is_any hp s hs).mono ?_; rintro e w1 ⟨rfl, hb1⟩; rw [hI])
      | (go_at_call 145; refine (pass_any (hp.below hb1) (isT_lt hI).1).mono ?_; rintro e w2 ⟨rfl, hp2, hs2⟩; unfold tkV))
    go_ret
    exact ⟨rfl, hp2, (Stp.below hb1).trans hs2⟩
set_option maxHeartbeats 1000000 in
set_option maxRecDepth 100000 in
theorem need_any (hp : PSt gp w L sz i dp ds D) (s : ByteArray) (hs : s ≠ noB) (hds : ds.length + 1 ≤ 1099511627776) :
    Calls Tryz.prog 148 #[.pointer (some ⟨gp, 0, none⟩), .string s] w fun e w' => e = .returned (.bool (pNeed L sz i s).v) ∧ Told gp L sz dp D (pNeed L sz i s).i (ds ++ (pNeed L sz i s).d) w w' := by
  go_enter Tryz.func148, Tryz.ntmps148
  unfold pNeed
  cases hI : isT L i s
  · go_wp2_with (first
      | (go_at_call 105; refine (take_any hp s hs).mono ?_; rintro e w1 ⟨rfl, hp1, hs1⟩; rw [hI] at hp1; rw [hI])
      | (go_at_call 108; refine (tell_any hp1 2 hds).mono ?_; rintro e w2 ⟨rfl, D2, hp2, hs2⟩))
    go_ret
    exact ⟨rfl, D2, hp2, hs1.trans hs2⟩
  · go_wp2_with (first
      | (go_at_call 105; refine (take_any hp s hs).mono ?_; rintro e w1 ⟨rfl, hp1, hs1⟩; rw [hI] at hp1; rw [hI]))
    go_ret
    exact ⟨rfl, D, by simpa using hp1, hs1⟩
/-- Does a list that has n parts go on? -/
def pMore (L : List Tok) (sz i n m : Nat) (s : ByteArray) : R Bool :=
  if i < L.length ∧ isT L i s = false then if n = m then ⟨false, i, [bad L sz i 5]⟩ else ⟨true, i, []⟩ else ⟨false, i, []⟩
set_option maxHeartbeats 1000000 in
set_option maxRecDepth 100000 in
theorem more_any (hp : PSt gp w L sz i dp ds D) (n m : Nat) (s : ByteArray) (hs : s ≠ noB) (hds : ds.length + 1 ≤ 1099511627776) :
    Calls Tryz.prog 170 #[.pointer (some ⟨gp, 0, none⟩), .int .i64 (n : Int), .int .i64 (m : Int), .string s] w fun e w' => e = .returned (.bool (pMore L sz i n m s).v) ∧ Told gp L sz dp D i (ds ++ (pMore L sz i n m s).d) w w' := by
  go_enter Tryz.func170, Tryz.ntmps170
  unfold pMore
  by_cases hl : i < L.length
  · have hd : decide (i < L.length) = true := by simpa using hl
    cases hI : isT L i s
    · rw [if_pos ⟨hl, rfl⟩]
      have HL : Hid (i < L.length) := hl
      clear hl
      by_cases hn : n = m
      · subst hn
        rw [if_pos rfl]
        go_wp2_with (first
          | (go_at_call 109; refine (left_any hp).mono ?_; rintro e w1 ⟨rfl, hb1⟩; rw [hd])
          | (go_at_call 144; refine (is_any (hp.below hb1) s hs).mono ?_; rintro e w2 ⟨rfl, hb2⟩; rw [hI])
          | (go_at_call 108; refine (tell_any ((hp.below hb1).below hb2) 5 hds).mono ?_; rintro e w3 ⟨rfl, D3, hp3, hs3⟩))
        go_ret
        exact ⟨rfl, D3, hp3, ((Stp.below hb1).trans (Stp.below hb2)).trans hs3⟩
      · rw [if_neg hn]
        have hn2 : ¬ (n : Int) = (m : Int) := by omega
        go_wp2_with (first
          | (go_at_call 109; refine (left_any hp).mono ?_; rintro e w1 ⟨rfl, hb1⟩; rw [hd])
          | (go_at_call 144; refine (is_any (hp.below hb1) s hs).mono ?_; rintro e w2 ⟨rfl, hb2⟩; rw [hI]))
        go_ret
        exact ⟨rfl, D, by simpa using (hp.below hb1).below hb2, (Stp.below hb1).trans (Stp.below hb2)⟩
    · rw [if_neg (by simp)]
      go_wp2_with (first
        | (go_at_call 109; refine (left_any hp).mono ?_; rintro e w1 ⟨rfl, hb1⟩; rw [hd])
        | (go_at_call 144; refine (is_any (hp.below hb1) s hs).mono ?_; rintro e w2 ⟨rfl, hb2⟩; rw [hI]))
      go_ret
      exact ⟨rfl, D, by simpa using (hp.below hb1).below hb2, (Stp.below hb1).trans (Stp.below hb2)⟩
  · have hd : decide (i < L.length) = false := by simpa using hl
    rw [if_neg (fun h => hl h.1)]
    clear hl
    go_wp2_with (first
      | (go_at_call 109; refine (left_any hp).mono ?_; rintro e w1 ⟨rfl, hb1⟩; rw [hd]))
    go_ret
    exact ⟨rfl, D, by simpa using hp.below hb1, Stp.below hb1⟩
/-- A token that was looked at, laid down. -/
theorem peekd {w1 : World} (hp : PSt gp w L sz i dp ds D) (hb1 : Below w.heap.size w w1) (t : Tok) : PSt gp (w1.alloc (.cells #[.int .i64 (t.k : Int), .string t.x, .int .i64 (t.a : Int)] 175)) L sz i dp ds D ∧ Below w.heap.size w (w1.alloc (.cells #[.int .i64 (t.k : Int), .string t.x, .int .i64 (t.a : Int)] 175)) ∧ w.heap.size ≤ w1.heap.size ∧ gp < w1.heap.size ∧ some w1.heap.size ≠ D :=
  ⟨(hp.below hb1).below ((Below.refl _ _).alloc (Nat.le_refl _) _), hb1.trans ((Below.refl w.heap.size w1).alloc hb1.size _), hb1.size, (hp.below hb1).gp_lt, ((hp.below hb1).fresh (Nat.le_refl _)).2⟩
theorem nm_kind (hp : PSt gp w L sz i dp ds D) (h : nmB (tk L sz i).x = true) : (tk L sz i).k = 1 := by
  have hl := nm_lt h
  rw [(hp.okL _ (List.mem_of_getElem? (tok_of (sz := sz) hl))).2]
  unfold tkd
  rw [if_pos (nm_ltr h)]
set_option maxHeartbeats 1000000 in
set_option maxRecDepth 100000 in
theorem nameR_any (hp : PSt gp w L sz i dp ds D) (hds : ds.length + 1 ≤ 1099511627776) :
    Calls Tryz.prog 147 #[.pointer (some ⟨gp, 0, none⟩)] w fun e w' => e = .returned (.string (pNamed L sz i).v) ∧ Told gp L sz dp D (pNamed L sz i).i (ds ++ (pNamed L sz i).d) w w' := by
  have hsz := hp.siz
  have htk := tk_small hp i
  have hx : (tk L sz i).x.size ≤ maxLen := by unfold maxLen; omega
  have hfd := fun w2 => (tkField (tk L sz i) w2).2.1
  go_enter Tryz.func147, Tryz.ntmps147
  unfold pNamed
  by_cases hk : (tk L sz i).k = 1
  · have hlt : i < L.length := by
      rcases Nat.lt_or_ge i L.length with h1 | h1
      · exact h1
      · rw [tok_no h1] at hk; cases hk
    have hK : (((tk L sz i).k : Int) == 1) = true := by rw [hk]; rfl
    cases hN : nmB (tk L sz i).x
    · rw [if_neg (by simp), if_pos hk]
      clear hk
      go_wp2_with (first
        | (go_at_call 146; refine (peek_any hp).mono ?_; rintro e w1 ⟨rfl, hb1⟩; unfold tkV; obtain ⟨q1, q2, q3, q4, q5⟩ := peekd hp hb1 (tk L sz i); obtain ⟨y0, y1, y2⟩ := tokSlot w1 (tk L sz i))
        | (go_at_call 169; refine (name_any _ _ hx).mono ?_; rintro e w2 ⟨rfl, hb2⟩; rw [hN])
        | (go_at_call 108; refine (tell_any (q1.below hb2) 7 hds).mono ?_; rintro e w3 ⟨rfl, D3, hp3, hs3⟩)
        | (go_at_call 145; refine (pass_any hp3 hlt).mono ?_; rintro e w4 ⟨rfl, hp4, hs4⟩; unfold tkV))
      go_ret
      exact ⟨rfl, D3, hp4, (((Stp.below q2).trans (Stp.below hb2)).trans hs3).trans hs4⟩
    · rw [if_pos rfl]
      clear hk
      go_wp2_with (first
        | (go_at_call 146; refine (peek_any hp).mono ?_; rintro e w1 ⟨rfl, hb1⟩; unfold tkV; obtain ⟨q1, q2, q3, q4, q5⟩ := peekd hp hb1 (tk L sz i); obtain ⟨y0, y1, y2⟩ := tokSlot w1 (tk L sz i))
        | (go_at_call 169; refine (name_any _ _ hx).mono ?_; rintro e w2 ⟨rfl, hb2⟩; rw [hN])
        | (go_at_call 145; refine (pass_any (q1.below hb2) hlt).mono ?_; rintro e w4 ⟨rfl, hp4, hs4⟩; unfold tkV))
      go_ret
      exact ⟨rfl, D, by simpa using hp4, ((Stp.below q2).trans (Stp.below hb2)).trans hs4⟩
  · have hN : nmB (tk L sz i).x = false := by
      cases h : nmB (tk L sz i).x
      · rfl
      · exact absurd (nm_kind hp h) hk
    have hK : (((tk L sz i).k : Int) == 1) = false := by simp; omega
    rw [if_neg (by simp [hN]), if_neg hk]
    clear hk
    go_wp2_with (first
      | (go_at_call 146; refine (peek_any hp).mono ?_; rintro e w1 ⟨rfl, hb1⟩; unfold tkV; obtain ⟨q1, q2, q3, q4, q5⟩ := peekd hp hb1 (tk L sz i); obtain ⟨y0, y1, y2⟩ := tokSlot w1 (tk L sz i))
      | (go_at_call 108; refine (tell_any q1 2 hds).mono ?_; rintro e w3 ⟨rfl, D3, hp3, hs3⟩))
    go_ret
    exact ⟨rfl, D3, hp3, (Stp.below q2).trans hs3⟩
end
end Go.Proofs.YtfioihehhlpgcaaGreatDoor
namespace Go.Proofs.YtfioihehhlpgcaaGreatDoor
open Go.RowKit
attribute [local go_sem ↓] Go.wp_at_zero Go.wp_at_succ
section
variable {gp : Nat} {w : World} {L : List Tok} {sz i dp : Nat} {ds : List Dg} {D : Option Nat}
theorem tk_comma (hp : PSt gp w L sz i dp ds D) (j : Nat) : 1 < (tk L sz j).x.size → byt (tk L sz j).x 1 ≠ 44 := by
  rcases Nat.lt_or_ge j L.length with h | h
  · exact (hp.end_ _ (List.mem_of_getElem? (tok_of h))).2.2.2
  · rw [tok_no h]; intro h1; exact absurd (show 1 < 0 from h1) (by omega)
set_option maxHeartbeats 1000000 in
set_option maxRecDepth 100000 in
theorem tag_any (hp : PSt gp w L sz i dp ds D) :
    Calls Tryz.prog 171 #[.pointer (some ⟨gp, 0, none⟩)] w fun e w' => e = .returned (.int .i64 (tgN (tk L sz i).x : Nat)) ∧ Below w.heap.size w w' := by
  have hsz := hp.siz
  have htk := tk_small hp i
  have hx : (tk L sz i).x.size ≤ maxLen := by unfold maxLen; omega
  have hbs : (brc (tk L sz i).x).size ≤ maxLen := by rw [brc_size]; unfold maxLen; omega
  have hfd := fun w2 => (tkField (tk L sz i) w2).2.1
  rw [← tag_lb _ (tk_comma hp i)]
  go_enter Tryz.func171, Tryz.ntmps171
  go_wp2_with (first
    | (go_at_call 146; refine (peek_any hp).mono ?_; rintro e w1 ⟨rfl, hb1⟩; unfold tkV)
    | (go_at_call 190; refine (parse_any (brc (tk L sz i).x) w1 hbs).mono ?_; rintro e w2 ⟨rfl, hw2⟩; subst w2))
  go_ret
  exact ⟨rfl, hb1⟩
/-- Where the reading of a label stands: tag is the next token's label, n what was read. -/
def RelL (gp : Nat) (L : List Tok) (sz dp : Nat) (D : Option Nat) (ds : List Dg) (w : World) (r : R Nat) (n t : Value) (wr : World) : Prop :=
  ∃ j m da, n = .int .i64 (m : Nat) ∧ m < 256 ∧ t = .int .i64 (tgN (tk L sz j).x : Nat) ∧ j ≤ L.length ∧ Told gp L sz dp D j (ds ++ da) w wr ∧ r = ⟨(pLr L sz j m).v, (pLr L sz j m).i, da ++ (pLr L sz j m).d⟩
def msL (L : List Tok) (gp : Nat) (wr : World) : Nat := match wr.cell? ⟨gp, 2, none⟩ with
  | some (.int _ i) => L.length + 1 - i.toNat
  | _ => 0
theorem msL_at (hp : PSt gp w L sz i dp ds D) : msL L gp w = L.length + 1 - i := by
  obtain ⟨p, c, v, c0, c1, c2, _⟩ := hp.cells
  unfold msL
  rw [c2]
  simp
set_option maxHeartbeats 1000000 in
set_option maxRecDepth 100000 in
theorem labelR_any (hp : PSt gp w L sz i dp ds D) (hds : ds.length + (pLab L sz i).d.length + 1 ≤ 1099511627776) :
    Calls Tryz.prog 150 #[.pointer (some ⟨gp, 0, none⟩)] w fun e w' => e = .returned (.int .i64 ((pLab L sz i).v : Nat)) ∧ Told gp L sz dp D (pLab L sz i).i (ds ++ (pLab L sz i).d) w w' := by
  go_enter Tryz.func150, Tryz.ntmps150
  cases hI : isT L i (bs1 123)
  · have hN : pNeed L sz i (bs1 123) = ⟨false, i, [bad L sz i 2]⟩ := by unfold pNeed; rw [hI]; rfl
    have hE : pLab L sz i = ⟨0, i, [bad L sz i 2]⟩ := by unfold pLab; rw [hI]; rfl
    rw [hE]
    go_wp2_with (first
      | (go_at_call 148; refine (need_any hp (bs1 123) (by decide) (by omega)).mono ?_; rintro e w1 ⟨rfl, ht⟩; rw [hN] at ht ⊢))
    go_ret
    exact ⟨rfl, ht⟩
  · have hN : pNeed L sz i (bs1 123) = ⟨true, i + 1, []⟩ := by unfold pNeed; rw [hI]; rfl
    have hil := (isT_lt hI).1
    have hE : pLab L sz i = pLr L sz (i + 1) 0 := by
      unfold pLab pLr
      rw [hI]
      simp only [if_true]
      exact labs_fuel _ _ _ _ (by omega) (by omega) (by omega)
    have HE : Hid (∀ wr, Told gp L sz dp D (i + 1) ds w wr → RelL gp L sz dp D ds w (pLab L sz i) (.int .i64 ((0 : Nat) : Int)) (.int .i64 (tgN (tk L sz (i + 1)).x : Nat)) wr) := fun wr h => ⟨i + 1, 0, [], rfl, by omega, rfl, by omega, by rw [List.append_nil]; exact h, by rw [hE]; rfl⟩
    clear hE
    generalize pLab L sz i = r at *
    go_wp2_with (first
      | (go_at_call 148; refine (need_any hp (bs1 123) (by decide) (by omega)).mono ?_; rintro e w1 ⟨rfl, ht⟩; rw [hN] at ht ⊢; rw [List.append_nil] at ht)
      | (go_at_call 171; obtain ⟨D1, hp1, hs1⟩ := ht; refine (tag_any hp1).mono ?_; rintro e w2 ⟨rfl, hb2⟩; have ht2 : Told gp L sz dp D (i + 1) ds w w2 := ⟨D1, hp1.below hb2, hs1.trans (Stp.below hb2)⟩))
    go_loopw [3, 4] (fun n t wr => RelL gp L sz dp D ds w r n t wr) (fun _ _ wr => msL L gp wr)
    case atStart => exact HE.out _ ht2
    case round =>
      obtain ⟨j, m, da, rfl, hm, rfl, hj, ⟨D1, hp1, hs1⟩, hr⟩ := hrel
      have HR : Hid (r = ⟨(pLr L sz j m).v, (pLr L sz j m).i, da ++ (pLr L sz j m).d⟩) := hr
      clear hr
      cases hT : tagB (tk L sz j).x
      · have h0 : tgN (tk L sz j).x = 0 := tgN_no hT
        have hQ : r = ⟨m, (pNeed L sz j (bs1 125)).i, da ++ (pNeed L sz j (bs1 125)).d⟩ := by rw [HR.out, pLr_end hj hT]
        subst hQ
        clear HR
        rw [h0]
        have hl : (ds ++ da).length + 1 ≤ 1099511627776 := by simp at hds ⊢; omega
        go_wp2_with (first
          | (go_at_call 148; refine (need_any hp1 (bs1 125) (by decide) hl).mono ?_; rintro e w3 ⟨rfl, D3, hp3, hs3⟩))
        go_ret
        exact ⟨rfl, D3, by simpa using hp3, hs1.trans hs3⟩
      · have hjl := tag_lt hT
        obtain ⟨k, hk, e1, e2⟩ := tgN_k hT
        obtain ⟨b1, b2, b3⟩ := tag_bits k hk m hm
        rw [← e1] at b1 b2 b3
        have hp256 : tgN (tk L sz j).x < 256 := by rw [e1]; exact pow_lt8 k hk
        have hpos : ((tgN (tk L sz j).x : Nat) : Int) ≠ 0 := by
          have : 0 < 2 ^ k := Nat.two_pow_pos k
          rw [e1]; omega
        have HT : Hid (_ = _) := pLr_tag (L := L) (sz := sz) (j := j) hm hT
        have HB : Hid ((m ||| tgN (tk L sz j).x) < 256) := b3
        clear e1 e2 b1 b2 b3 hk
        have hl : (ds ++ da).length + 1 ≤ 1099511627776 := by rw [HR.out] at hds; simp only [List.length_append] at hds ⊢; omega
        cases hF : fl (tgN (tk L sz j).x) m
        · have hd : dupD L sz j m = [] := by unfold dupD; rw [hF]; rfl
          have hl2 : (ds ++ da).length + 1 ≤ 1099511627776 := hl
          cases hC : isT L (j + 1) (bs1 44)
          · go_wp2_with (first
              | (go_at_call 43; refine (flows_any _ _ _ hp256 hm).mono ?_; rintro e w2 ⟨rfl, hw2⟩; subst w2; rw [hF])
              | (go_at_call 172; refine (join_any _ _ _ hm hp256).mono ?_; rintro e w4 ⟨rfl, hw4⟩; subst w4)
              | (go_at_call 145; refine (pass_any hp1 hjl).mono ?_; rintro e w5 ⟨rfl, hp5, hs5⟩; unfold tkV)
              | (go_at_call 105; refine (take_any hp5 (bs1 44) (by decide)).mono ?_; rintro e w6 ⟨rfl, hp6, hs6⟩; rw [hC] at hp6 ⊢)
              | (go_at_call 148; refine (need_any hp6 (bs1 125) (by decide) hl2).mono ?_; rintro e w7 ⟨rfl, D7, hp7, hs7⟩))
            go_ret
            refine ⟨ret_int (by rw [HR.out, HT.out, hC]; simp), D7, ?_, ((hs1.trans hs5).trans hs6).trans hs7⟩
            rw [HR.out, HT.out, hC, hd]
            simpa using hp7
          · go_wp2_with (first
              | (go_at_call 43; refine (flows_any _ _ _ hp256 hm).mono ?_; rintro e w2 ⟨rfl, hw2⟩; subst w2; rw [hF])
              | (go_at_call 172; refine (join_any _ _ _ hm hp256).mono ?_; rintro e w4 ⟨rfl, hw4⟩; subst w4)
              | (go_at_call 145; refine (pass_any hp1 hjl).mono ?_; rintro e w5 ⟨rfl, hp5, hs5⟩; unfold tkV)
              | (go_at_call 105; refine (take_any hp5 (bs1 44) (by decide)).mono ?_; rintro e w6 ⟨rfl, hp6, hs6⟩; rw [hC] at hp6 ⊢)
              | (go_at_call 171; refine (tag_any hp6).mono ?_; rintro e w7 ⟨rfl, hb7⟩))
            go_roundw
            case rel =>
              refine ⟨j + 2, _, da ++ dupD L sz j m, rfl, HB.out, rfl, (isT_lt hC).1, ⟨D1, ?_, ?_⟩, ?_⟩
              · rw [hd]; simpa using hp6.below hb7
              · exact ((hs1.trans hs5).trans hs6).trans (Stp.below hb7)
              · rw [HR.out, HT.out, hC]; simp
            case measure =>
              rw [msL_at (hp6.below hb7), msL_at hp1]
              simp only [if_true]
              omega
        · have hd : dupD L sz j m = [bad L sz j 7] := by unfold dupD; rw [hF]; rfl
          have hl2 : (ds ++ da ++ [bad L sz j 7]).length + 1 ≤ 1099511627776 := by
            rw [HR.out, HT.out, hd] at hds
            split at hds <;> (simp only [List.length_append] at hds ⊢; omega)
          cases hC : isT L (j + 1) (bs1 44)
          · go_wp2_with (first
              | (go_at_call 43; refine (flows_any _ _ _ hp256 hm).mono ?_; rintro e w2 ⟨rfl, hw2⟩; subst w2; rw [hF])
              | (go_at_call 108; refine (tell_any hp1 7 hl).mono ?_; rintro e w3 ⟨rfl, D3, hp3, hs3⟩)
              | (go_at_call 172; refine (join_any _ _ _ hm hp256).mono ?_; rintro e w4 ⟨rfl, hw4⟩; subst w4)
              | (go_at_call 145; refine (pass_any hp3 hjl).mono ?_; rintro e w5 ⟨rfl, hp5, hs5⟩; unfold tkV)
              | (go_at_call 105; refine (take_any hp5 (bs1 44) (by decide)).mono ?_; rintro e w6 ⟨rfl, hp6, hs6⟩; rw [hC] at hp6 ⊢)
              | (go_at_call 148; refine (need_any hp6 (bs1 125) (by decide) hl2).mono ?_; rintro e w7 ⟨rfl, D7, hp7, hs7⟩))
            go_ret
            refine ⟨ret_int (by rw [HR.out, HT.out, hC]; simp), D7, ?_, (((hs1.trans hs3).trans hs5).trans hs6).trans hs7⟩
            rw [HR.out, HT.out, hC, hd]
            simpa using hp7
          · go_wp2_with (first
              | (go_at_call 43; refine (flows_any _ _ _ hp256 hm).mono ?_; rintro e w2 ⟨rfl, hw2⟩; subst w2; rw [hF])
              | (go_at_call 108; refine (tell_any hp1 7 hl).mono ?_; rintro e w3 ⟨rfl, D3, hp3, hs3⟩)
              | (go_at_call 172; refine (join_any _ _ _ hm hp256).mono ?_; rintro e w4 ⟨rfl, hw4⟩; subst w4)
              | (go_at_call 145; refine (pass_any hp3 hjl).mono ?_; rintro e w5 ⟨rfl, hp5, hs5⟩; unfold tkV)
              | (go_at_call 105; refine (take_any hp5 (bs1 44) (by decide)).mono ?_; rintro e w6 ⟨rfl, hp6, hs6⟩; rw [hC] at hp6 ⊢)
              | (go_at_call 171; refine (tag_any hp6).mono ?_; rintro e w7 ⟨rfl, hb7⟩))
            go_roundw
            case rel =>
              refine ⟨j + 2, _, da ++ dupD L sz j m, rfl, HB.out, rfl, (isT_lt hC).1, ⟨D3, ?_, ?_⟩, ?_⟩
              · rw [hd]; simpa using hp6.below hb7
              · exact (((hs1.trans hs3).trans hs5).trans hs6).trans (Stp.below hb7)
              · rw [HR.out, HT.out, hC]; simp
            case measure =>
              rw [msL_at (hp6.below hb7), msL_at hp1]
              simp only [if_true]
              omega
end
end Go.Proofs.YtfioihehhlpgcaaGreatDoor

/- Texts of this seat, one behind the other: FloMem, EffMath, EffState, EffExpr, EffStmt. -/
import Derived.Test.YtjpmnholpeidmaaZb16
import Derived.Test.YtjpmnholpeidmaaZb18
import Derived.Test.YtjpmnholpeidmaaZb24
import Derived.Test.YtjpmnholpeidmaaZb19
import Derived.Test.YtjpmnholpeidmaaZb07
namespace Go.Proofs.Ytjpmnholpeidmaa
open Go.RowKit
set_option linter.unusedVariables false
attribute [local go_sem ↓] Go.wp_at_zero Go.wp_at_succ
theorem one_new (w : World) (v : Value) (T : TypeId) : (w.alloc (.cells #[v] T)).cell? ⟨w.heap.size, 0, none⟩ = some v := cell_of_row _ _ 0 _ _ _ (heap_alloc_new w (.cells #[v] T))
theorem five_at {w1 : World} {b : Nat} {u0 u1 u2 u3 u4 : Value} {t : TypeId} (h : w1.heap[b]? = some (.cells #[u0, u1, u2, u3, u4] t (0, 0))) : w1.cell? ⟨b, 0, none⟩ = some u0 ∧ w1.cell? ⟨b, 1, none⟩ = some u1 ∧ w1.cell? ⟨b, 2, none⟩ = some u2 ∧ w1.cell? ⟨b, 3, none⟩ = some u3 ∧ w1.cell? ⟨b, 4, none⟩ = some u4 :=
  ⟨cell_of_row _ _ _ _ _ _ h, cell_of_row _ _ _ _ _ _ h, cell_of_row _ _ _ _ _ _ h, cell_of_row _ _ _ _ _ _ h, cell_of_row _ _ _ _ _ _ h⟩
theorem sixF_at {w1 : World} {b : Nat} {u0 u1 u2 u3 u4 u5 : Value} {t : TypeId} (h : w1.heap[b]? = some (.cells #[u0, u1, u2, u3, u4, u5] t (0, 0))) : w1.cell? ⟨b, 0, none⟩ = some u0 ∧ w1.cell? ⟨b, 1, none⟩ = some u1 ∧ w1.cell? ⟨b, 2, none⟩ = some u2 ∧ w1.cell? ⟨b, 3, none⟩ = some u3 ∧ w1.cell? ⟨b, 4, none⟩ = some u4 ∧ w1.cell? ⟨b, 5, none⟩ = some u5 :=
  ⟨cell_of_row _ _ _ _ _ _ h, cell_of_row _ _ _ _ _ _ h, cell_of_row _ _ _ _ _ _ h, cell_of_row _ _ _ _ _ _ h, cell_of_row _ _ _ _ _ _ h, cell_of_row _ _ _ _ _ _ h⟩
theorem cell_onF {w w' : World} (hb : Below w.heap.size w w') {a : Addr} {u : Value} (h : w.cell? a = some u) : w'.cell? a = some u := (hb.cell (World.block_lt_of_cell? w a h)).trans h
theorem fnd_casesF (l : List (Int × It)) (kd : Int) (x : ByteArray) : fnd l kd x = -1 ∨ ∃ k : Nat, fnd l kd x = (k : Int) ∧ k < l.length := by
  unfold fnd
  split
  · exact .inl rfl
  · unfold fidx
    split
    next i h => exact .inr ⟨i, rfl, (List.findIdx?_eq_some_iff_findIdx_eq.1 h).1⟩
    next => exact .inl rfl
theorem RdF.itemF {ok : Nat → Prop} {w : World} {l : List (Int × It)} {p : Option Addr} {c : Nat} (h : RdF ok w l (.agg #[.slice p l.length c])) {k : Nat} {e : Int × It} (hk : l[k]? = some e) : ∃ g v, p = some ⟨g, 0, none⟩ ∧ ok g ∧ CellsV w g (k * 10) v ∧ RdI ok w e.1 e.2 v := by
  obtain ⟨q, d, hv, _, hits⟩ := h
  injection hv with hv
  have hv : Value.slice p l.length c = Value.slice q l.length d := by simpa using hv
  injection hv with h1 _ _
  obtain ⟨g, e1, e2, e3⟩ := hits (by have := (List.getElem?_eq_some_iff.1 hk).1; omega)
  obtain ⟨v, h2, h3⟩ := e3 k e hk
  exact ⟨g, v, h1.trans e1, e2, h2, h3⟩
theorem tenF_at {w1 : World} {b : Nat} {u0 u1 u2 u3 u4 u5 u6 u7 u8 u9 : Value} {t : TypeId} (h : w1.heap[b]? = some (.cells #[u0, u1, u2, u3, u4, u5, u6, u7, u8, u9] t (0, 0))) : w1.cell? ⟨b, 0, none⟩ = some u0 ∧ w1.cell? ⟨b, 1, none⟩ = some u1 ∧ w1.cell? ⟨b, 2, none⟩ = some u2 ∧ w1.cell? ⟨b, 3, none⟩ = some u3 ∧ w1.cell? ⟨b, 4, none⟩ = some u4 ∧ w1.cell? ⟨b, 5, none⟩ = some u5 ∧ w1.cell? ⟨b, 6, none⟩ = some u6 ∧ w1.cell? ⟨b, 7, none⟩ = some u7 ∧ w1.cell? ⟨b, 8, none⟩ = some u8 ∧ w1.cell? ⟨b, 9, none⟩ = some u9 ∧ ∀ o, w1.frozen? ⟨b, o, none⟩ = false :=
  ⟨cell_of_row _ _ _ _ _ _ h, cell_of_row _ _ _ _ _ _ h, cell_of_row _ _ _ _ _ _ h, cell_of_row _ _ _ _ _ _ h, cell_of_row _ _ _ _ _ _ h, cell_of_row _ _ _ _ _ _ h, cell_of_row _ _ _ _ _ _ h, cell_of_row _ _ _ _ _ _ h, cell_of_row _ _ _ _ _ _ h, cell_of_row _ _ _ _ _ _ h, fun o => by simp [World.frozen?, h]⟩
theorem set10_at {w : World} {b : Nat} {u0 u1 u2 u3 u4 u5 u6 u7 u8 u9 v0 v1 v2 v3 v4 v5 v6 v7 v8 v9 : Value} {t : TypeId} (h : w.heap[b]? = some (.cells #[u0, u1, u2, u3, u4, u5, u6, u7, u8, u9] t (0, 0))) :
    (((((((((((w.setCell ⟨b, 0, none⟩ v0).setCell ⟨b, 1, none⟩ v1).setCell ⟨b, 2, none⟩ v2).setCell ⟨b, 3, none⟩ v3).setCell ⟨b, 4, none⟩ v4).setCell ⟨b, 5, none⟩ v5).setCell ⟨b, 6, none⟩ v6).setCell ⟨b, 7, none⟩ v7).setCell ⟨b, 8, none⟩ v8).setCell ⟨b, 9, none⟩ v9).drew).heap[b]? = some (.cells #[v0, v1, v2, v3, v4, v5, v6, v7, v8, v9] t (0, 0)) := by
  have e : ∀ W : World, W.drew.heap = W.heap := fun _ => rfl
  rw [e]
  simp [World.setCell, Array.getElem?_modify, h]
theorem set10_below {B : Nat} {w w1 : World} {b : Nat} {v0 v1 v2 v3 v4 v5 v6 v7 v8 v9 : Value} (hb : Below B w w1) (h : B ≤ b) :
    Below B w (((((((((((w1.setCell ⟨b, 0, none⟩ v0).setCell ⟨b, 1, none⟩ v1).setCell ⟨b, 2, none⟩ v2).setCell ⟨b, 3, none⟩ v3).setCell ⟨b, 4, none⟩ v4).setCell ⟨b, 5, none⟩ v5).setCell ⟨b, 6, none⟩ v6).setCell ⟨b, 7, none⟩ v7).setCell ⟨b, 8, none⟩ v8).setCell ⟨b, 9, none⟩ v9).drew) :=
  ((((((((((hb.setCell h _).setCell h _).setCell h _).setCell h _).setCell h _).setCell h _).setCell h _).setCell h _).setCell h _).setCell h _).drew
end Go.Proofs.Ytjpmnholpeidmaa

namespace Go.Proofs.Ytjpmnholpeidmaa
open Go.RowKit
set_option linter.unusedVariables false
/-- A name to which one sends (s), or that is called. -/
structure Nv where
  s : Bool
  x : ByteArray
def sdN (L : List Nv) : List ByteArray := (L.filter (·.s)).map (·.x)
def clN (L : List Nv) : List ByteArray := (L.filter (fun e => !e.s)).map (·.x)
theorem sdN_app (a b : List Nv) : sdN (a ++ b) = sdN a ++ sdN b := by unfold sdN; rw [List.filter_append, List.map_append]
theorem clN_app (a b : List Nv) : clN (a ++ b) = clN a ++ clN b := by unfold clN; rw [List.filter_append, List.map_append]
theorem sdN_s (L : List Nv) (x : ByteArray) : sdN (L ++ [⟨true, x⟩]) = sdN L ++ [x] := sdN_app L _
theorem sdN_c (L : List Nv) (x : ByteArray) : sdN (L ++ [⟨false, x⟩]) = sdN L := by rw [sdN_app]; exact List.append_nil _
theorem clN_c (L : List Nv) (x : ByteArray) : clN (L ++ [⟨false, x⟩]) = clN L ++ [x] := clN_app L _
theorem clN_s (L : List Nv) (x : ByteArray) : clN (L ++ [⟨true, x⟩]) = clN L := by rw [clN_app]; exact List.append_nil _
theorem sdN_len (L : List Nv) : (sdN L).length ≤ L.length := by unfold sdN; rw [List.length_map]; exact List.length_filter_le _ _
theorem clN_len (L : List Nv) : (clN L).length ≤ L.length := by unfold clN; rw [List.length_map]; exact List.length_filter_le _ _
def esE : Nat → Tr → List Nv
  | 0, _ => []
  | n + 1, e => if exK e = 3 then (exA e).flatMap (esE n) else if exK e = 4 then ⟨false, exX e⟩ :: (exA e).flatMap (esE n) else []
theorem esE_fuel (n : Nat) : ∀ (m : Nat) (e : Tr), szT e ≤ n → szT e ≤ m → esE n e = esE m e := by
  induction n with
  | zero => intro m e h; have := szT_pos e; omega
  | succ n ih =>
    intro m e h1 h2
    cases m with
    | zero => have := szT_pos e; omega
    | succ m =>
      have hh : ∀ a ∈ exA e, esE n a = esE m a := fun a ha => ih m a (by have := exA_less e a ha; omega) (by have := exA_less e a ha; omega)
      unfold esE
      rw [flat_same hh]
/-- Of an expression. -/
def esX (e : Tr) : List Nv := esE (szT e) e
theorem esX_eq (e : Tr) : esX e = if exK e = 3 then (exA e).flatMap esX else if exK e = 4 then ⟨false, exX e⟩ :: (exA e).flatMap esX else [] := by
  have hh : ∀ a ∈ exA e, esE (szT e) a = esX a := fun a ha => esE_fuel _ _ a (by have := exA_less e a ha; omega) (Nat.le_refl _)
  have h1 : esX e = esE (szT e + 1) e := esE_fuel _ _ e (Nat.le_refl _) (by omega)
  rw [h1]
  conv => lhs; unfold esE
  rw [flat_same hh]
theorem esX_mk (k : Nat) (x : ByteArray) (n : Nat) (al : List Tr) (f t : Nat) : esX (exMk k x n al f t) = if k = 3 then al.flatMap esX else if k = 4 then ⟨false, x⟩ :: al.flatMap esX else [] := by
  rw [esX_eq, exK_mk, exX_mk, exA_mk]
def esS : Nat → Tr → List Nv
  | 0, _ => []
  | n + 1, s => if exK s = 1 ∨ exK s = 2 ∨ exK s = 6 ∨ exK s = 7 then esX (stE s) else if exK s = 5 then esX (stE s) ++ [⟨true, exX s⟩] else if exK s = 3 then esX (stE s) ++ (stTh s).flatMap (esS n) ++ (stEl s).flatMap (esS n) else if exK s = 4 then esX (stE s) ++ (stTh s).flatMap (esS n) else []
theorem esS_fuel (n : Nat) : ∀ (m : Nat) (s : Tr), szT s ≤ n → szT s ≤ m → esS n s = esS m s := by
  induction n with
  | zero => intro m e h; have := szT_pos e; omega
  | succ n ih =>
    intro m e h1 h2
    cases m with
    | zero => have := szT_pos e; omega
    | succ m =>
      have h3 : ∀ a ∈ stTh e, esS n a = esS m a := fun a ha => ih m a (by have := stTh_less e a ha; omega) (by have := stTh_less e a ha; omega)
      have h4 : ∀ a ∈ stEl e, esS n a = esS m a := fun a ha => ih m a (by have := stEl_less e a ha; omega) (by have := stEl_less e a ha; omega)
      unfold esS
      rw [flat_same h3, flat_same h4]
/-- Of a statement, and of a block. -/
def esY (s : Tr) : List Nv := esS (szT s) s
def esB (l : List Tr) : List Nv := l.flatMap esY
theorem esY_eq (s : Tr) : esY s = if exK s = 1 ∨ exK s = 2 ∨ exK s = 6 ∨ exK s = 7 then esX (stE s) else if exK s = 5 then esX (stE s) ++ [⟨true, exX s⟩] else if exK s = 3 then esX (stE s) ++ esB (stTh s) ++ esB (stEl s) else if exK s = 4 then esX (stE s) ++ esB (stTh s) else [] := by
  have h3 : ∀ a ∈ stTh s, esS (szT s) a = esY a := fun a ha => esS_fuel _ _ a (by have := stTh_less s a ha; omega) (Nat.le_refl _)
  have h4 : ∀ a ∈ stEl s, esS (szT s) a = esY a := fun a ha => esS_fuel _ _ a (by have := stEl_less s a ha; omega) (Nat.le_refl _)
  have h1 : esY s = esS (szT s + 1) s := esS_fuel _ _ s (Nat.le_refl _) (by omega)
  rw [h1]
  conv => lhs; unfold esS
  rw [flat_same h3, flat_same h4]
  rfl
theorem esY_mk (k : Nat) (x : ByteArray) (a lb : Nat) (o : Bool) (e : Tr) (th el : List Tr) (f t : Nat) : esY (stMk k x a lb o e th el f t) = if k = 1 ∨ k = 2 ∨ k = 6 ∨ k = 7 then esX e else if k = 5 then esX e ++ [⟨true, x⟩] else if k = 3 then esX e ++ esB th ++ esB el else if k = 4 then esX e ++ esB th else [] := by
  rw [esY_eq, stK_mk, stX_mk, stE_mk, stTh_mk, stEl_mk]
theorem flat_take {α : Type} (F : Tr → List α) {al : List Tr} {k : Nat} {a : Tr} (h : al[k]? = some a) : (al.take (k + 1)).flatMap F = (al.take k).flatMap F ++ F a := by
  rw [List.take_add_one, h]
  simp
theorem flat_less {α : Type} (F : Tr → List α) (al : List Tr) (k : Nat) : ((al.take k).flatMap F).length ≤ (al.flatMap F).length := by
  have h : al.flatMap F = (al.take k).flatMap F ++ (al.drop k).flatMap F := by rw [← List.flatMap_append, List.take_append_drop]
  rw [h, List.length_append]
  omega
end Go.Proofs.Ytjpmnholpeidmaa

namespace Go.Proofs.Ytjpmnholpeidmaa
open Go.RowKit
set_option linter.unusedVariables false
attribute [local go_sem ↓] Go.wp_at_zero Go.wp_at_succ
theorem Try.infoStr : (Try.prog.info? 9).map (fun i => (i.zero, i.size, i.bytes)) = some (some (.string ⟨#[]⟩), 1, 16) := by kernel_rfl
/-- What a step leaves as it was: all but two variables and their lists. -/
structure Stz (bs bc : Nat) (Ds Dc Ds' Dc' : Option Nat) (w w' : World) : Prop where
  os : w'.os = w.os
  tape : w'.tape = w.tape
  output : w'.output = w.output
  size : w.heap.size ≤ w'.heap.size
  block : ∀ k, k < w.heap.size → k ≠ bs → k ≠ bc → some k ≠ Ds → some k ≠ Dc → w'.heap[k]? = w.heap[k]?
  s : Ds' = Ds ∨ ∃ j, Ds' = some j ∧ w.heap.size ≤ j
  c : Dc' = Dc ∨ ∃ j, Dc' = some j ∧ w.heap.size ≤ j
def okZ (bs bc : Nat) (Ds Dc : Option Nat) (w : World) (k : Nat) : Prop := k < w.heap.size ∧ k ≠ bs ∧ k ≠ bc ∧ some k ≠ Ds ∧ some k ≠ Dc
section
variable {bs bc : Nat} {Ds Dc Ds' Dc' Ds2 Dc2 : Option Nat} {w w' w2 : World}
theorem Stz.refl (bs bc : Nat) (Ds Dc : Option Nat) (w : World) : Stz bs bc Ds Dc Ds Dc w w := ⟨rfl, rfl, rfl, Nat.le_refl _, fun _ _ _ _ _ _ => rfl, .inl rfl, .inl rfl⟩
theorem Stz.fresh (h : Stz bs bc Ds Dc Ds' Dc' w w') {k : Nat} (hk : k < w.heap.size) (h1 : some k ≠ Ds) (h2 : some k ≠ Dc) : some k ≠ Ds' ∧ some k ≠ Dc' := by
  refine ⟨fun e => ?_, fun e => ?_⟩
  · rcases h.s with e2 | ⟨j, e2, hj⟩
    · exact h1 (by rw [e, e2])
    · rw [e2] at e; injection e with e; omega
  · rcases h.c with e2 | ⟨j, e2, hj⟩
    · exact h2 (by rw [e, e2])
    · rw [e2] at e; injection e with e; omega
theorem Stz.trans (h : Stz bs bc Ds Dc Ds' Dc' w w') (k : Stz bs bc Ds' Dc' Ds2 Dc2 w' w2) : Stz bs bc Ds Dc Ds2 Dc2 w w2 where
  os := k.os.trans h.os
  tape := k.tape.trans h.tape
  output := k.output.trans h.output
  size := Nat.le_trans h.size k.size
  block := fun b h1 h2 h3 h4 h5 => (k.block b (Nat.lt_of_lt_of_le h1 h.size) h2 h3 (h.fresh h1 h4 h5).1 (h.fresh h1 h4 h5).2).trans (h.block b h1 h2 h3 h4 h5)
  s := by
    rcases k.s with e | ⟨j, e, hj⟩
    · rw [e]; exact h.s
    · exact .inr ⟨j, e, Nat.le_trans h.size hj⟩
  c := by
    rcases k.c with e | ⟨j, e, hj⟩
    · rw [e]; exact h.c
    · exact .inr ⟨j, e, Nat.le_trans h.size hj⟩
theorem Stz.below (h : Below w.heap.size w w') : Stz bs bc Ds Dc Ds Dc w w' := ⟨h.os, h.tape, h.output, h.size, fun k hk _ _ _ _ => h.block k hk, .inl rfl, .inl rfl⟩
theorem okZ.step (h : Stz bs bc Ds Dc Ds' Dc' w w') {k : Nat} (hk : okZ bs bc Ds Dc w k) : w'.heap[k]? = w.heap[k]? ∧ okZ bs bc Ds' Dc' w' k :=
  ⟨h.block k hk.1 hk.2.1 hk.2.2.1 hk.2.2.2.1 hk.2.2.2.2, Nat.lt_of_lt_of_le hk.1 h.size, hk.2.1, hk.2.2.1, h.fresh hk.1 hk.2.2.2.1 hk.2.2.2.2⟩
theorem okZ_cell (h : Stz bs bc Ds Dc Ds' Dc' w w') {b : Nat} (hb : okZ bs bc Ds Dc w b) (o : Nat) : w'.cell? ⟨b, o, none⟩ = w.cell? ⟨b, o, none⟩ := World.cell?_of_block (a := ⟨b, o, none⟩) (okZ.step h hb).1
end
def stC (x : ByteArray) : List Value := [.string x]
/-- Both lists, in memory. -/
structure GE (bs bc : Nat) (w : World) (L : List Nv) (Ds Dc : Option Nat) : Prop where
  s : Cpt 36 9 1 bs w ((sdN L).flatMap stC) (sdN L).length Ds
  c : Cpt 36 9 1 bc w ((clN L).flatMap stC) (clN L).length Dc
  ne : bs ≠ bc
  sc : some bs ≠ Dc
  cs : some bc ≠ Ds
  dd : ∀ k, some k = Ds → some k ≠ Dc
def TZ (bs bc : Nat) (Ds Dc : Option Nat) (L : List Nv) (w w' : World) : Prop := ∃ Ds' Dc', GE bs bc w' L Ds' Dc' ∧ Stz bs bc Ds Dc Ds' Dc' w w'
section
variable {bs bc : Nat} {Ds Dc : Option Nat} {w w' : World} {L : List Nv}
theorem GE.lt (h : GE bs bc w L Ds Dc) : (bs < w.heap.size ∧ ∀ k, some k = Ds → k < w.heap.size) ∧ bc < w.heap.size ∧ ∀ k, some k = Dc → k < w.heap.size :=
  ⟨⟨h.s.lt.1, fun k e => (h.s.lt.2 k e).2⟩, h.c.lt.1, fun k e => (h.c.lt.2 k e).2⟩
theorem GE.below (h : GE bs bc w L Ds Dc) (hb : Below w.heap.size w w') : GE bs bc w' L Ds Dc :=
  ⟨h.s.kept (hb.block bs h.lt.1.1) (fun k e => hb.block k (h.lt.1.2 k e)), h.c.kept (hb.block bc h.lt.2.1) (fun k e => hb.block k (h.lt.2.2 k e)), h.ne, h.sc, h.cs, h.dd⟩
theorem GE.fresh (h : GE bs bc w L Ds Dc) {k : Nat} (h1 : w.heap.size ≤ k) (h2 : k < w'.heap.size) : okZ bs bc Ds Dc w' k :=
  ⟨h2, by have := h.lt.1.1; omega, by have := h.lt.2.1; omega, fun e => by have := h.lt.1.2 k e; omega, fun e => by have := h.lt.2.2 k e; omega⟩
set_option maxHeartbeats 1000000 in
set_option maxRecDepth 100000 in
theorem hear_send (hg : GE bs bc w L Ds Dc) (hn : L.length < 1099511627776) (x : ByteArray) :
    Calls Try.prog 20 #[.string x, .pointer (some ⟨bs, 0, none⟩)] w fun ex w' => ex = .returned (.tuple #[]) ∧ TZ bs bc Ds Dc (L ++ [⟨true, x⟩]) w w' := by
  obtain ⟨i0, hi0, hz0, hz1, hz2⟩ := info_parts Try.infoStr
  obtain ⟨v, h1, h2, h3⟩ := hg.s
  subst h3
  have hbo : bs < w.heap.size := (Array.getElem?_eq_some_iff.1 h1).1
  have hne : some bs ≠ v.ownBlock := fun e => by have := (h2.lt bs e.symm).1; omega
  have c0 : w.cell? ⟨bs, 0, none⟩ = some v := cell_of_row _ _ 0 _ _ _ h1
  have hfz : w.frozen? ⟨bs, 0, none⟩ = false := by simp [World.frozen?, h1]
  have hsl := sdN_len L
  have hmax : (sdN L).length + 1 ≤ maxLen := by unfold maxLen; omega
  have hbyt : ((sdN L).length + 1) * 16 ≤ 140737488355328 := by omega
  have hb2 := (Below.refl w.heap.size w).alloc (Nat.le_refl _) (.cells #[.string x] 9)
  have hsz2 : bs + 1 ≤ (w.alloc (.cells #[.string x] 9)).heap.size := by simp; omega
  have HN := hid (World.news_of_block (heap_alloc_new w (.cells #[.string x] 9)))
  have HOW := hid (World.ownsRow.alloc h2 (.cells #[.string x] 9))
  have HB2 := hid hb2
  clear hb2
  go_enter Try.func20, Try.ntmps20
  go_wp2_with (first
    | (at_builtin; refine wpList_append_lies _ rfl (.tmp 3) (.tmp 5) 36 rfl (bs + 1) 9 i0 _ 1 16 Try.underlying36 hi0 hz0 hz1 hz2 rfl (by decide) _ _ _ rfl HOW.out ⟨w.heap.size, 0, none⟩ 1 1 [.string x] rfl rfl HN.out (by intro u hu; simp at hu; subst hu; rfl) (by decide) hmax hbyt hsz2 _ rfl ?_; intro g6 cap6 w6 hown6 hgrow6 hat6 hlt6; have k6 := World.cell?_of_block (a := ⟨bs, 0, none⟩) ((hgrow6.block bs (by simp; omega) hne).trans (HB2.out.block bs hbo)); have f6 := World.frozen?_of_block (a := ⟨bs, 0, none⟩) ((hgrow6.block bs (by simp; omega) hne).trans (HB2.out.block bs hbo)); rw [c0] at k6; rw [hfz] at f6))
  go_end0
  obtain ⟨q1, q2⟩ := Cpt.put h1 h2 HB2.out hown6 hgrow6 hat6
  have hcl := hg.lt.2
  have hg6 : some g6 ≠ Dc := fun e => by
    rcases hat6 with e3 | e3
    · exact hg.dd g6 e3.symm e
    · have := hcl.2 g6 e; have := HB2.out.size; omega
  have hbc6 : some bc ≠ some g6 := fun e => by
    injection e with e
    rcases hat6 with e3 | e3
    · rw [← e] at e3; exact hg.cs e3.symm
    · have := hcl.1; have := HB2.out.size; omega
  refine ⟨rfl, some g6, Dc, ⟨?_, ?_, hg.ne, hg.sc, hbc6, fun k e => by injection e with e; rw [e]; exact hg6⟩, q2.os, q2.tape, q2.output, q2.size, fun k hk k1 _ k3 _ => q2.block k hk k1 k3, q2.own, .inl rfl⟩
  · rw [sdN_s, List.flatMap_append, List.length_append, List.flatMap_cons, List.flatMap_nil, List.append_nil]
    exact q1
  · rw [clN_s]
    exact hg.c.kept (q2.block bc hcl.1 (Ne.symm hg.ne) hg.cs) (fun k e => q2.block k (hcl.2 k e) (fun e2 => hg.sc (by rw [← e2]; exact e)) (fun e2 => hg.dd k e2 e))
set_option maxHeartbeats 1000000 in
set_option maxRecDepth 100000 in
theorem hear_call (hg : GE bs bc w L Ds Dc) (hn : L.length < 1099511627776) (x : ByteArray) :
    Calls Try.prog 21 #[.string x, .pointer (some ⟨bc, 0, none⟩)] w fun ex w' => ex = .returned (.tuple #[]) ∧ TZ bs bc Ds Dc (L ++ [⟨false, x⟩]) w w' := by
  obtain ⟨i0, hi0, hz0, hz1, hz2⟩ := info_parts Try.infoStr
  obtain ⟨v, h1, h2, h3⟩ := hg.c
  subst h3
  have hbo : bc < w.heap.size := (Array.getElem?_eq_some_iff.1 h1).1
  have hne : some bc ≠ v.ownBlock := fun e => by have := (h2.lt bc e.symm).1; omega
  have c0 : w.cell? ⟨bc, 0, none⟩ = some v := cell_of_row _ _ 0 _ _ _ h1
  have hfz : w.frozen? ⟨bc, 0, none⟩ = false := by simp [World.frozen?, h1]
  have hsl := clN_len L
  have hmax : (clN L).length + 1 ≤ maxLen := by unfold maxLen; omega
  have hbyt : ((clN L).length + 1) * 16 ≤ 140737488355328 := by omega
  have hb2 := (Below.refl w.heap.size w).alloc (Nat.le_refl _) (.cells #[.string x] 9)
  have hsz2 : bc + 1 ≤ (w.alloc (.cells #[.string x] 9)).heap.size := by simp; omega
  have HN := hid (World.news_of_block (heap_alloc_new w (.cells #[.string x] 9)))
  have HOW := hid (World.ownsRow.alloc h2 (.cells #[.string x] 9))
  have HB2 := hid hb2
  clear hb2
  go_enter Try.func21, Try.ntmps21
  go_wp2_with (first
    | (at_builtin; refine wpList_append_lies _ rfl (.tmp 3) (.tmp 5) 36 rfl (bc + 1) 9 i0 _ 1 16 Try.underlying36 hi0 hz0 hz1 hz2 rfl (by decide) _ _ _ rfl HOW.out ⟨w.heap.size, 0, none⟩ 1 1 [.string x] rfl rfl HN.out (by intro u hu; simp at hu; subst hu; rfl) (by decide) hmax hbyt hsz2 _ rfl ?_; intro g6 cap6 w6 hown6 hgrow6 hat6 hlt6; have k6 := World.cell?_of_block (a := ⟨bc, 0, none⟩) ((hgrow6.block bc (by simp; omega) hne).trans (HB2.out.block bc hbo)); have f6 := World.frozen?_of_block (a := ⟨bc, 0, none⟩) ((hgrow6.block bc (by simp; omega) hne).trans (HB2.out.block bc hbo)); rw [c0] at k6; rw [hfz] at f6))
  go_end0
  obtain ⟨q1, q2⟩ := Cpt.put h1 h2 HB2.out hown6 hgrow6 hat6
  have hsl := hg.lt.1
  have hg6 : ∀ k, some k = Ds → some k ≠ some g6 := fun k e e2 => by
    injection e2 with e2
    rcases hat6 with e3 | e3
    · exact hg.dd k e (by rw [e2]; exact e3.symm)
    · have := hsl.2 k e; have := HB2.out.size; omega
  have hbs6 : some bs ≠ some g6 := fun e => by
    injection e with e
    rcases hat6 with e3 | e3
    · rw [← e] at e3; exact hg.sc e3.symm
    · have := hsl.1; have := HB2.out.size; omega
  refine ⟨rfl, Ds, some g6, ⟨?_, ?_, hg.ne, hbs6, hg.cs, hg6⟩, q2.os, q2.tape, q2.output, q2.size, fun k hk _ k2 _ k4 => q2.block k hk k2 k4, .inl rfl, q2.own⟩
  · rw [sdN_c]
    exact hg.s.kept (q2.block bs hsl.1 hg.ne hg.sc) (fun k e => q2.block k (hsl.2 k e) (fun e2 => hg.cs (by rw [← e2]; exact e)) (hg.dd k e))
  · rw [clN_c, List.flatMap_append, List.length_append, List.flatMap_cons, List.flatMap_nil, List.append_nil]
    exact q1
end
end Go.Proofs.Ytjpmnholpeidmaa

namespace Go.Proofs.Ytjpmnholpeidmaa
open Go.RowKit
set_option linter.unusedVariables false
attribute [local go_sem ↓] Go.wp_at_zero Go.wp_at_succ

def CEf (bs bc n : Nat) : Prop := ∀ (Ds Dc : Option Nat) (w : World) (L : List Nv) (e : Tr) (v : Value), GE bs bc w L Ds Dc → RdE n (okZ bs bc Ds Dc w) w e v → (L ++ esX e).length < 1099511627776 →
  Calls Try.prog 69 #[.agg #[.func (.func 20) #[] #[.pointer (some ⟨bs, 0, none⟩)], .func (.func 21) #[] #[.pointer (some ⟨bc, 0, none⟩)]], v] w fun ex w' => ex = .returned (.tuple #[]) ∧ TZ bs bc Ds Dc (L ++ esX e) w w'
def CEfs (bs bc n : Nat) : Prop := ∀ (Ds Dc : Option Nat) (w : World) (L : List Nv) (al : List Tr) (q : Option Addr) (cq : Nat), GE bs bc w L Ds Dc → SlT (okZ bs bc Ds Dc w) (RdE n (okZ bs bc Ds Dc w) w) w 6 al q → (L ++ al.flatMap esX).length < 1099511627776 →
  Calls Try.prog 82 #[.agg #[.func (.func 20) #[] #[.pointer (some ⟨bs, 0, none⟩)], .func (.func 21) #[] #[.pointer (some ⟨bc, 0, none⟩)]], .slice q al.length cq] w fun ex w' => ex = .returned (.tuple #[]) ∧ TZ bs bc Ds Dc (L ++ al.flatMap esX) w w'
def RelEx (bs bc : Nat) (Ds Dc : Option Nat) (w : World) (M : Nat → List Nv) (n : Nat) (j : Value) (wr : World) : Prop := ∃ k : Nat, k ≤ n ∧ j = .int .i64 (k : Int) ∧ TZ bs bc Ds Dc (M k) w wr
section
variable {bs bc : Nat} {Ds Dc Ds' Dc' : Option Nat} {w w' : World}
theorem RdE.stz {n : Nat} {e : Tr} {v : Value} (h : RdE n (okZ bs bc Ds Dc w) w e v) (hs : Stz bs bc Ds Dc Ds' Dc' w w') : RdE n (okZ bs bc Ds' Dc' w') w' e v := RdE.kept n (fun k hk => (okZ.step hs hk).1) (fun k hk => (okZ.step hs hk).2) e v h
theorem SlE.stz {n : Nat} {al : List Tr} {q : Option Addr} (h : SlT (okZ bs bc Ds Dc w) (RdE n (okZ bs bc Ds Dc w) w) w 6 al q) (hs : Stz bs bc Ds Dc Ds' Dc' w w') : SlT (okZ bs bc Ds' Dc' w') (RdE n (okZ bs bc Ds' Dc' w') w') w' 6 al q := SlT.kept h (fun k hk => (okZ.step hs hk).1) (fun k hk => (okZ.step hs hk).2) (fun a v ha => RdE.stz ha hs)
theorem two_at {b : Nat} {u0 u1 : Value} {t : TypeId} (h : w.heap[b]? = some (.cells #[u0, u1] t (0, 0))) : w.cell? ⟨b, 0, none⟩ = some u0 ∧ w.cell? ⟨b, 1, none⟩ = some u1 := ⟨cell_of_row _ _ _ _ _ _ h, cell_of_row _ _ _ _ _ _ h⟩
end
section
variable {bs bc : Nat}
set_option maxHeartbeats 2000000 in
set_option maxRecDepth 100000 in
theorem eff_exprs {n : Nat} (ih : CEf bs bc n) : CEfs bs bc n := by
  intro Ds Dc w L al q cq hg hA hn
  have hb1 := (Below.refl w.heap.size w).alloc (Nat.le_refl _) (.cells #[.func (.func 20) #[] #[.pointer (some ⟨bs, 0, none⟩)], .func (.func 21) #[] #[.pointer (some ⟨bc, 0, none⟩)]] 51)
  have hs1 : Stz bs bc Ds Dc Ds Dc w (w.alloc (.cells #[.func (.func 20) #[] #[.pointer (some ⟨bs, 0, none⟩)], .func (.func 21) #[] #[.pointer (some ⟨bc, 0, none⟩)]] 51)) := Stz.below hb1
  have hg1 := hg.below hb1
  have hA1 := SlE.stz hA hs1
  obtain ⟨y0, y1⟩ := two_at (heap_alloc_new w (.cells #[.func (.func 20) #[] #[.pointer (some ⟨bs, 0, none⟩)], .func (.func 21) #[] #[.pointer (some ⟨bc, 0, none⟩)]] 51))
  have HFW := hid (hg.fresh (w' := (w.alloc (.cells #[.func (.func 20) #[] #[.pointer (some ⟨bs, 0, none⟩)], .func (.func 21) #[] #[.pointer (some ⟨bc, 0, none⟩)]] 51))) (k := w.heap.size) (Nat.le_refl _) (by simp))
  have HM := hid (fun k a (h : al[k]? = some a) => show L ++ (al.take (k + 1)).flatMap esX = L ++ (al.take k).flatMap esX ++ esX a by rw [flat_take esX h, List.append_assoc])
  have HB := hid (fun k => Nat.lt_of_le_of_lt (show (L ++ (al.take k).flatMap esX).length ≤ (L ++ al.flatMap esX).length by rw [List.length_append, List.length_append]; have := flat_less esX al k; omega) hn)
  have HZ : Hid (L ++ (al.take al.length).flatMap esX = L ++ al.flatMap esX) := by show _ = _; rw [List.take_length]
  have H0 : Hid (L ++ (al.take 0).flatMap esX = L) := by show _ = _; rw [List.take_zero]; exact List.append_nil _
  generalize hM : (fun k => L ++ (al.take k).flatMap esX) = M
  have hMk : ∀ k, L ++ (al.take k).flatMap esX = M k := fun k => by rw [← hM]
  simp only [hMk] at HM HB HZ H0
  rw [← HZ.out]
  have HS0 := hid (show TZ bs bc Ds Dc (M 0) (w.alloc (.cells #[.func (.func 20) #[] #[.pointer (some ⟨bs, 0, none⟩)], .func (.func 21) #[] #[.pointer (some ⟨bc, 0, none⟩)]] 51)) (w.alloc (.cells #[.func (.func 20) #[] #[.pointer (some ⟨bs, 0, none⟩)], .func (.func 21) #[] #[.pointer (some ⟨bc, 0, none⟩)]] 51)) from ⟨Ds, Dc, by rw [H0.out]; exact hg1, Stz.refl _ _ _ _ _⟩)
  have HS1 := hid hs1
  obtain ⟨hlen, hits⟩ := hA1
  clear hM hMk HZ H0 hn hg hA hb1 hs1 hg1
  go_enter Try.func82, Try.ntmps82
  go_wp2
  generalize (w.alloc (.cells #[.func (.func 20) #[] #[.pointer (some ⟨bs, 0, none⟩)], .func (.func 21) #[] #[.pointer (some ⟨bc, 0, none⟩)]] 51)) = W at *
  go_loopw [8] (fun j wr => RelEx bs bc Ds Dc W M al.length j wr) (fun j _ => upN al.length j)
  case atStart => exact ⟨0, Nat.zero_le _, rfl, HS0.out⟩
  case round =>
    obtain ⟨j, hjl, rfl, D1, U1, hgr, hsr⟩ := hrel
    clear HS0
    by_cases hlt : j < al.length
    · obtain ⟨g, rfl, hgo, hLA⟩ := hits (by omega)
      obtain ⟨a, ha⟩ : ∃ a, al[j]? = some a := ⟨_, List.getElem?_eq_getElem hlt⟩
      obtain ⟨v1, hcv, hR1⟩ := hLA j a ha
      have hcv := hcv.kept (okZ.step hsr hgo).1
      have hR1 := RdE.stz hR1 hsr
      obtain ⟨k1, x1, m1, al1, f1, t1, q1, c1, e1, rfl⟩ := RdE.form hR1
      have d0 := hcv.get 0 _ rfl
      have d1 := hcv.get 1 _ rfl
      have d2 := hcv.get 2 _ rfl
      have d3 := hcv.get 3 _ rfl
      have d4 := hcv.get 4 _ rfl
      have d5 := hcv.get 5 _ rfl
      rw [Nat.add_zero] at d0
      have gj : (0 : Int) ≤ (j : Int) := by omega
      have gj1 : (j : Int) < (al.length : Int) := by omega
      have hjb : j < 1099511627776 := by omega
      have hba := (Below.refl wr.heap.size wr).alloc (Nat.le_refl _) (.cells #[.int .i64 (k1 : Int), .string x1, .int .i64 (m1 : Int), .slice q1 al1.length c1, .int .i64 (f1 : Int), .int .i64 (t1 : Int)] 102)
      have hsa : Stz bs bc D1 U1 D1 U1 wr (wr.alloc (.cells #[.int .i64 (k1 : Int), .string x1, .int .i64 (m1 : Int), .slice q1 al1.length c1, .int .i64 (f1 : Int), .int .i64 (t1 : Int)] 102)) := Stz.below hba
      have z0 := cell_alloc ((okZ_cell hsr HFW.out 0).trans y0) (.cells #[.int .i64 (k1 : Int), .string x1, .int .i64 (m1 : Int), .slice q1 al1.length c1, .int .i64 (f1 : Int), .int .i64 (t1 : Int)] 102)
      have z1 := cell_alloc ((okZ_cell hsr HFW.out 1).trans y1) (.cells #[.int .i64 (k1 : Int), .string x1, .int .i64 (m1 : Int), .slice q1 al1.length c1, .int .i64 (f1 : Int), .int .i64 (t1 : Int)] 102)
      have hnx := HM.out j a ha
      have HC := hid (ih D1 U1 _ (M j) a _ (hgr.below hba) (RdE.stz hR1 hsa) (by rw [← hnx]; exact HB.out (j + 1)))
      have HNX := hid hnx
      have HST := hid (hsr.trans hsa)
      have HL := hid hlt
      clear hLA hcv hR1 ha hlt hjl hba hsa hnx hgr hsr e1
      go_wp2_with (first
        | (go_at_call 69; refine Calls.mono HC.out ?_; rintro e w5 ⟨rfl, D5, U5, hg5, hs5⟩))
      go_roundw
      case rel => exact ⟨j + 1, HL.out, by go_num, D5, U5, by rw [HNX.out]; exact hg5, HST.out.trans hs5⟩
      case measure => have := HL.out; simp [upN, intOf]; omega
    · obtain rfl : j = al.length := by omega
      clear hlt hjl
      go_wp2
      go_end0
      exact ⟨rfl, D1, U1, hgr, HS1.out.trans hsr⟩
set_option maxHeartbeats 2000000 in
set_option maxRecDepth 100000 in
theorem eff_expr {n : Nat} (ih : CEfs bs bc n) : CEf bs bc (n + 1) := by
  intro Ds Dc w L e v hg hR hn
  obtain ⟨k, x, mN, al, f, t, q, cq, rfl, rfl, hA⟩ := hR
  rw [esX_mk] at hn ⊢
  have hb1 := (Below.refl w.heap.size w).alloc (Nat.le_refl _) (.cells #[.func (.func 20) #[] #[.pointer (some ⟨bs, 0, none⟩)], .func (.func 21) #[] #[.pointer (some ⟨bc, 0, none⟩)]] 51)
  have hb2 := hb1.alloc (by simp) (.cells #[.int .i64 (k : Int), .string x, .int .i64 (mN : Int), .slice q al.length cq, .int .i64 (f : Int), .int .i64 (t : Int)] 102)
  have e1 : (w.alloc (.cells #[.func (.func 20) #[] #[.pointer (some ⟨bs, 0, none⟩)], .func (.func 21) #[] #[.pointer (some ⟨bc, 0, none⟩)]] 51)).heap.size = w.heap.size + 1 := by simp
  have hs2 : Stz bs bc Ds Dc Ds Dc w ((w.alloc (.cells #[.func (.func 20) #[] #[.pointer (some ⟨bs, 0, none⟩)], .func (.func 21) #[] #[.pointer (some ⟨bc, 0, none⟩)]] 51)).alloc (.cells #[.int .i64 (k : Int), .string x, .int .i64 (mN : Int), .slice q al.length cq, .int .i64 (f : Int), .int .i64 (t : Int)] 102)) := Stz.below hb2
  have hg2 := hg.below hb2
  have hA2 := SlE.stz hA hs2
  obtain ⟨y0, y1⟩ := two_at ((Below.heap_alloc (w.alloc (.cells #[.func (.func 20) #[] #[.pointer (some ⟨bs, 0, none⟩)], .func (.func 21) #[] #[.pointer (some ⟨bc, 0, none⟩)]] 51)) (.cells #[.int .i64 (k : Int), .string x, .int .i64 (mN : Int), .slice q al.length cq, .int .i64 (f : Int), .int .i64 (t : Int)] 102) w.heap.size (by simp)).trans (heap_alloc_new w (.cells #[.func (.func 20) #[] #[.pointer (some ⟨bs, 0, none⟩)], .func (.func 21) #[] #[.pointer (some ⟨bc, 0, none⟩)]] 51)))
  have hne := heap_alloc_new (w.alloc (.cells #[.func (.func 20) #[] #[.pointer (some ⟨bs, 0, none⟩)], .func (.func 21) #[] #[.pointer (some ⟨bc, 0, none⟩)]] 51)) (.cells #[.int .i64 (k : Int), .string x, .int .i64 (mN : Int), .slice q al.length cq, .int .i64 (f : Int), .int .i64 (t : Int)] 102)
  rw [e1] at hne
  obtain ⟨x0, x1, x2, x3, x4, x5⟩ := sixF_at hne
  have HFW := hid (hg.fresh (w' := ((w.alloc (.cells #[.func (.func 20) #[] #[.pointer (some ⟨bs, 0, none⟩)], .func (.func 21) #[] #[.pointer (some ⟨bc, 0, none⟩)]] 51)).alloc (.cells #[.int .i64 (k : Int), .string x, .int .i64 (mN : Int), .slice q al.length cq, .int .i64 (f : Int), .int .i64 (t : Int)] 102))) (k := w.heap.size) (Nat.le_refl _) (by simp; omega))
  have HFE := hid (hg.fresh (w' := ((w.alloc (.cells #[.func (.func 20) #[] #[.pointer (some ⟨bs, 0, none⟩)], .func (.func 21) #[] #[.pointer (some ⟨bc, 0, none⟩)]] 51)).alloc (.cells #[.int .i64 (k : Int), .string x, .int .i64 (mN : Int), .slice q al.length cq, .int .i64 (f : Int), .int .i64 (t : Int)] 102))) (k := w.heap.size + 1) (by omega) (by simp))
  have HS2 := hid hs2
  have HG2 := hid hg2
  clear hg hA hb1 hb2 hne e1 hs2
  by_cases h3 : k = 3
  · rw [if_pos h3] at hn ⊢
    have g3 : ((k : Int) == 3) = true := by rw [h3]; rfl
    have HC := hid (ih Ds Dc _ L al q cq hg2 hA2 hn)
    clear h3 hA2 hg2
    go_enter Try.func69, Try.ntmps69
    go_wp2_with (first
      | (go_at_call 82; refine Calls.mono HC.out ?_; rintro e w5 ⟨rfl, D5, U5, hg5, hs5⟩))
    go_end0
    exact ⟨rfl, D5, U5, hg5, HS2.out.trans hs5⟩
  · rw [if_neg h3] at hn ⊢
    have g3 : ((k : Int) == 3) = false := by simp; omega
    by_cases h4 : k = 4
    · rw [if_pos h4] at hn ⊢
      have g4 : ((k : Int) == 4) = true := by rw [h4]; rfl
      have hn1 : L.length < 1099511627776 := by rw [List.length_append] at hn; omega
      have hcons : L ++ (⟨false, x⟩ : Nv) :: al.flatMap esX = L ++ [⟨false, x⟩] ++ al.flatMap esX := by simp
      rw [hcons] at hn ⊢
      have ew := Try.call21
      have HH := hid (hear_call hg2 hn1 x)
      have HCf := hid (fun (D5 U5 : Option Nat) (w5 : World) (h1 : GE bs bc w5 (L ++ [⟨false, x⟩]) D5 U5) (h2 : Stz bs bc Ds Dc D5 U5 ((w.alloc (.cells #[.func (.func 20) #[] #[.pointer (some ⟨bs, 0, none⟩)], .func (.func 21) #[] #[.pointer (some ⟨bc, 0, none⟩)]] 51)).alloc (.cells #[.int .i64 (k : Int), .string x, .int .i64 (mN : Int), .slice q al.length cq, .int .i64 (f : Int), .int .i64 (t : Int)] 102)) w5) => ih D5 U5 w5 _ al q cq h1 (SlE.stz hA2 h2) hn)
      clear h3 h4 hA2 hg2 hcons hn hn1
      go_enter Try.func69, Try.ntmps69
      go_wp2_with (first
        | ((with_reducible refine Calls.mono HH.out ?_); rintro e w5 ⟨rfl, D5, U5, hg5, hs5⟩; have z0 := (okZ_cell hs5 HFW.out 0).trans y0; have z1 := (okZ_cell hs5 HFW.out 1).trans y1; have v3 := (okZ_cell hs5 HFE.out 3).trans x3; have HC := hid (HCf.out D5 U5 w5 hg5 hs5))
        | (go_at_call 82; refine Calls.mono HC.out ?_; rintro e w6 ⟨rfl, D6, U6, hg6, hs6⟩))
      go_end0
      exact ⟨rfl, D6, U6, hg6, (HS2.out.trans hs5).trans hs6⟩
    · rw [if_neg h4, List.append_nil] at hn ⊢
      have g4 : ((k : Int) == 4) = false := by simp; omega
      clear h3 h4 hA2 hg2
      go_enter Try.func69, Try.ntmps69
      go_wp2
      go_end0
      exact ⟨rfl, Ds, Dc, HG2.out, HS2.out⟩
theorem eff_expr_any (n : Nat) : CEf bs bc n := by
  induction n with
  | zero => intro _ _ _ _ _ _ _ h; exact h.elim
  | succ n ih => exact eff_expr (eff_exprs ih)
end
end Go.Proofs.Ytjpmnholpeidmaa

namespace Go.Proofs.Ytjpmnholpeidmaa
open Go.RowKit
set_option linter.unusedVariables false
attribute [local go_sem ↓] Go.wp_at_zero Go.wp_at_succ

def CEs (bs bc n : Nat) : Prop := ∀ (Ds Dc : Option Nat) (w : World) (L : List Nv) (e : Tr) (v : Value), GE bs bc w L Ds Dc → RdS n (okZ bs bc Ds Dc w) w e v → (L ++ esY e).length < 1099511627776 →
  Calls Try.prog 45 #[.agg #[.func (.func 20) #[] #[.pointer (some ⟨bs, 0, none⟩)], .func (.func 21) #[] #[.pointer (some ⟨bc, 0, none⟩)]], v] w fun ex w' => ex = .returned (.tuple #[]) ∧ TZ bs bc Ds Dc (L ++ esY e) w w'
def CEb (bs bc n : Nat) : Prop := ∀ (Ds Dc : Option Nat) (w : World) (L : List Nv) (al : List Tr) (q : Option Addr) (cq : Nat), GE bs bc w L Ds Dc → SlT (okZ bs bc Ds Dc w) (RdS n (okZ bs bc Ds Dc w) w) w 15 al q → (L ++ esB al).length < 1099511627776 →
  Calls Try.prog 22 #[.agg #[.func (.func 20) #[] #[.pointer (some ⟨bs, 0, none⟩)], .func (.func 21) #[] #[.pointer (some ⟨bc, 0, none⟩)]], .slice q al.length cq] w fun ex w' => ex = .returned (.tuple #[]) ∧ TZ bs bc Ds Dc (L ++ esB al) w w'
section
variable {bs bc : Nat} {Ds Dc Ds' Dc' : Option Nat} {w w' : World}
theorem RdS.stz {n : Nat} {e : Tr} {v : Value} (h : RdS n (okZ bs bc Ds Dc w) w e v) (hs : Stz bs bc Ds Dc Ds' Dc' w w') : RdS n (okZ bs bc Ds' Dc' w') w' e v := RdS.kept n (fun k hk => (okZ.step hs hk).1) (fun k hk => (okZ.step hs hk).2) e v h
theorem SlS.stz {n : Nat} {al : List Tr} {q : Option Addr} (h : SlT (okZ bs bc Ds Dc w) (RdS n (okZ bs bc Ds Dc w) w) w 15 al q) (hs : Stz bs bc Ds Dc Ds' Dc' w w') : SlT (okZ bs bc Ds' Dc' w') (RdS n (okZ bs bc Ds' Dc' w') w') w' 15 al q := SlT.kept h (fun k hk => (okZ.step hs hk).1) (fun k hk => (okZ.step hs hk).2) (fun a v ha => RdS.stz ha hs)
end
section
variable {bs bc : Nat}
set_option maxHeartbeats 2000000 in
set_option maxRecDepth 100000 in
theorem eff_block {n : Nat} (ih : CEs bs bc n) : CEb bs bc n := by
  intro Ds Dc w L al q cq hg hA hn
  have hb1 := (Below.refl w.heap.size w).alloc (Nat.le_refl _) (.cells #[.func (.func 20) #[] #[.pointer (some ⟨bs, 0, none⟩)], .func (.func 21) #[] #[.pointer (some ⟨bc, 0, none⟩)]] 51)
  have hs1 : Stz bs bc Ds Dc Ds Dc w (w.alloc (.cells #[.func (.func 20) #[] #[.pointer (some ⟨bs, 0, none⟩)], .func (.func 21) #[] #[.pointer (some ⟨bc, 0, none⟩)]] 51)) := Stz.below hb1
  have hg1 := hg.below hb1
  have hA1 := SlS.stz hA hs1
  obtain ⟨y0, y1⟩ := two_at (heap_alloc_new w (.cells #[.func (.func 20) #[] #[.pointer (some ⟨bs, 0, none⟩)], .func (.func 21) #[] #[.pointer (some ⟨bc, 0, none⟩)]] 51))
  have HFW := hid (hg.fresh (w' := (w.alloc (.cells #[.func (.func 20) #[] #[.pointer (some ⟨bs, 0, none⟩)], .func (.func 21) #[] #[.pointer (some ⟨bc, 0, none⟩)]] 51))) (k := w.heap.size) (Nat.le_refl _) (by simp))
  unfold esB at hn ⊢
  have HM := hid (fun k a (h : al[k]? = some a) => show L ++ (al.take (k + 1)).flatMap esY = L ++ (al.take k).flatMap esY ++ esY a by rw [flat_take esY h, List.append_assoc])
  have HB := hid (fun k => Nat.lt_of_le_of_lt (show (L ++ (al.take k).flatMap esY).length ≤ (L ++ al.flatMap esY).length by rw [List.length_append, List.length_append]; have := flat_less esY al k; omega) hn)
  have HZ : Hid (L ++ (al.take al.length).flatMap esY = L ++ al.flatMap esY) := by show _ = _; rw [List.take_length]
  have H0 : Hid (L ++ (al.take 0).flatMap esY = L) := by show _ = _; rw [List.take_zero]; exact List.append_nil _
  generalize hM : (fun k => L ++ (al.take k).flatMap esY) = M
  have hMk : ∀ k, L ++ (al.take k).flatMap esY = M k := fun k => by rw [← hM]
  simp only [hMk] at HM HB HZ H0
  rw [← HZ.out]
  have HS0 := hid (show TZ bs bc Ds Dc (M 0) (w.alloc (.cells #[.func (.func 20) #[] #[.pointer (some ⟨bs, 0, none⟩)], .func (.func 21) #[] #[.pointer (some ⟨bc, 0, none⟩)]] 51)) (w.alloc (.cells #[.func (.func 20) #[] #[.pointer (some ⟨bs, 0, none⟩)], .func (.func 21) #[] #[.pointer (some ⟨bc, 0, none⟩)]] 51)) from ⟨Ds, Dc, by rw [H0.out]; exact hg1, Stz.refl _ _ _ _ _⟩)
  have HS1 := hid hs1
  obtain ⟨hlen, hits⟩ := hA1
  clear hM hMk HZ H0 hn hg hA hb1 hs1 hg1
  go_enter Try.func22, Try.ntmps22
  go_wp2
  generalize (w.alloc (.cells #[.func (.func 20) #[] #[.pointer (some ⟨bs, 0, none⟩)], .func (.func 21) #[] #[.pointer (some ⟨bc, 0, none⟩)]] 51)) = W at *
  go_loopw [8] (fun j wr => RelEx bs bc Ds Dc W M al.length j wr) (fun j _ => upN al.length j)
  case atStart => exact ⟨0, Nat.zero_le _, rfl, HS0.out⟩
  case round =>
    obtain ⟨j, hjl, rfl, D1, U1, hgr, hsr⟩ := hrel
    clear HS0
    by_cases hlt : j < al.length
    · obtain ⟨g, rfl, hgo, hLA⟩ := hits (by omega)
      obtain ⟨a, ha⟩ : ∃ a, al[j]? = some a := ⟨_, List.getElem?_eq_getElem hlt⟩
      obtain ⟨v1, hcv, hR1⟩ := hLA j a ha
      have hcv := hcv.kept (okZ.step hsr hgo).1
      have hR1 := RdS.stz hR1 hsr
      obtain ⟨k1, x1, a1, lb1, o1, ek, ex, en, ep, eln, ec, ef, et, q1, n1, g1, q2, n2, g2, f1, t1, hv⟩ := hR1.shape
      subst hv
      have e0 := hcv.get 0 _ rfl
      have e1 := hcv.get 1 _ rfl
      have e2 := hcv.get 2 _ rfl
      have e3 := hcv.get 3 _ rfl
      have e4 := hcv.get 4 _ rfl
      have e5 := hcv.get 5 _ rfl
      have e6 := hcv.get 6 _ rfl
      have e7 := hcv.get 7 _ rfl
      have e8 := hcv.get 8 _ rfl
      have e9 := hcv.get 9 _ rfl
      have e10 := hcv.get 10 _ rfl
      have e11 := hcv.get 11 _ rfl
      have e12 := hcv.get 12 _ rfl
      have e13 := hcv.get 13 _ rfl
      have e14 := hcv.get 14 _ rfl
      rw [Nat.add_zero] at e0
      have gj : (0 : Int) ≤ (j : Int) := by omega
      have gj1 : (j : Int) < (al.length : Int) := by omega
      have hjb : j < 1099511627776 := by omega
      have hba := (Below.refl wr.heap.size wr).alloc (Nat.le_refl _) (.cells #[.int .i64 (k1 : Int), .string x1, .int .i64 (a1 : Int), .int .i64 (lb1 : Int), .bool o1, .int .i64 ek, .string ex, .int .i64 en, .slice ep eln ec, .int .i64 ef, .int .i64 et, .slice q1 n1 g1, .slice q2 n2 g2, .int .i64 (f1 : Int), .int .i64 (t1 : Int)] 104)
      have hsa : Stz bs bc D1 U1 D1 U1 wr (wr.alloc (.cells #[.int .i64 (k1 : Int), .string x1, .int .i64 (a1 : Int), .int .i64 (lb1 : Int), .bool o1, .int .i64 ek, .string ex, .int .i64 en, .slice ep eln ec, .int .i64 ef, .int .i64 et, .slice q1 n1 g1, .slice q2 n2 g2, .int .i64 (f1 : Int), .int .i64 (t1 : Int)] 104)) := Stz.below hba
      have z0 := cell_alloc ((okZ_cell hsr HFW.out 0).trans y0) (.cells #[.int .i64 (k1 : Int), .string x1, .int .i64 (a1 : Int), .int .i64 (lb1 : Int), .bool o1, .int .i64 ek, .string ex, .int .i64 en, .slice ep eln ec, .int .i64 ef, .int .i64 et, .slice q1 n1 g1, .slice q2 n2 g2, .int .i64 (f1 : Int), .int .i64 (t1 : Int)] 104)
      have z1 := cell_alloc ((okZ_cell hsr HFW.out 1).trans y1) (.cells #[.int .i64 (k1 : Int), .string x1, .int .i64 (a1 : Int), .int .i64 (lb1 : Int), .bool o1, .int .i64 ek, .string ex, .int .i64 en, .slice ep eln ec, .int .i64 ef, .int .i64 et, .slice q1 n1 g1, .slice q2 n2 g2, .int .i64 (f1 : Int), .int .i64 (t1 : Int)] 104)
      have hnx := HM.out j a ha
      have HC := hid (ih D1 U1 _ (M j) a _ (hgr.below hba) (RdS.stz hR1 hsa) (by rw [← hnx]; exact HB.out (j + 1)))
      have HNX := hid hnx
      have HST := hid (hsr.trans hsa)
      have HL := hid hlt
      clear hLA hcv hR1 ha hlt hjl hba hsa hnx hgr hsr
      go_wp2_with (first
        | (go_at_call 45; refine Calls.mono HC.out ?_; rintro e w5 ⟨rfl, D5, U5, hg5, hs5⟩))
      go_roundw
      case rel => exact ⟨j + 1, HL.out, by go_num, D5, U5, by rw [HNX.out]; exact hg5, HST.out.trans hs5⟩
      case measure => have := HL.out; simp [upN, intOf]; omega
    · obtain rfl : j = al.length := by omega
      clear hlt hjl
      go_wp2
      go_end0
      exact ⟨rfl, D1, U1, hgr, HS1.out.trans hsr⟩
set_option maxHeartbeats 2000000 in
set_option maxRecDepth 100000 in
theorem eff_stmt {n : Nat} (ih : CEb bs bc n) : CEs bs bc (n + 1) := by
  intro Ds Dc w L e v hg hR hn
  obtain ⟨k, x, a, lb, op, e, th, el, f, t, d0, d1, d2, d3, d4, d5, p1, c1, p2, c2, rfl, rfl, ⟨me, hE⟩, hT, hX⟩ := hR
  obtain ⟨ek, ex, en, eal, ef, et, ep, ec, rfl, hv⟩ := RdE.form hE
  injection hv with hv
  have hv : [d0, d1, d2, d3, d4, d5] = [.int .i64 (ek : Int), .string ex, .int .i64 (en : Int), .slice ep eal.length ec, .int .i64 (ef : Int), .int .i64 (et : Int)] := by simpa using congrArg Array.toList hv
  simp only [List.cons.injEq, and_true] at hv
  obtain ⟨rfl, rfl, rfl, rfl, rfl, rfl⟩ := hv
  rw [esY_mk] at hn ⊢
  have hb1 := (Below.refl w.heap.size w).alloc (Nat.le_refl _) (.cells #[.func (.func 20) #[] #[.pointer (some ⟨bs, 0, none⟩)], .func (.func 21) #[] #[.pointer (some ⟨bc, 0, none⟩)]] 51)
  have hb2 := hb1.alloc (by simp) (.cells #[.int .i64 (k : Int), .string x, .int .i64 (a : Int), .int .i64 (lb : Int), .bool op, .int .i64 (ek : Int), .string ex, .int .i64 (en : Int), .slice ep eal.length ec, .int .i64 (ef : Int), .int .i64 (et : Int), .slice p1 th.length c1, .slice p2 el.length c2, .int .i64 (f : Int), .int .i64 (t : Int)] 104)
  have e1 : (w.alloc (.cells #[.func (.func 20) #[] #[.pointer (some ⟨bs, 0, none⟩)], .func (.func 21) #[] #[.pointer (some ⟨bc, 0, none⟩)]] 51)).heap.size = w.heap.size + 1 := by simp
  have hs2 : Stz bs bc Ds Dc Ds Dc w ((w.alloc (.cells #[.func (.func 20) #[] #[.pointer (some ⟨bs, 0, none⟩)], .func (.func 21) #[] #[.pointer (some ⟨bc, 0, none⟩)]] 51)).alloc (.cells #[.int .i64 (k : Int), .string x, .int .i64 (a : Int), .int .i64 (lb : Int), .bool op, .int .i64 (ek : Int), .string ex, .int .i64 (en : Int), .slice ep eal.length ec, .int .i64 (ef : Int), .int .i64 (et : Int), .slice p1 th.length c1, .slice p2 el.length c2, .int .i64 (f : Int), .int .i64 (t : Int)] 104)) := Stz.below hb2
  have hg2 := hg.below hb2
  have HE2 := hid (RdE.stz hE hs2)
  have HT2 := hid (And.intro (SlS.stz hT hs2) (SlS.stz hX hs2))
  obtain ⟨y0, y1⟩ := two_at ((Below.heap_alloc (w.alloc (.cells #[.func (.func 20) #[] #[.pointer (some ⟨bs, 0, none⟩)], .func (.func 21) #[] #[.pointer (some ⟨bc, 0, none⟩)]] 51)) (.cells #[.int .i64 (k : Int), .string x, .int .i64 (a : Int), .int .i64 (lb : Int), .bool op, .int .i64 (ek : Int), .string ex, .int .i64 (en : Int), .slice ep eal.length ec, .int .i64 (ef : Int), .int .i64 (et : Int), .slice p1 th.length c1, .slice p2 el.length c2, .int .i64 (f : Int), .int .i64 (t : Int)] 104) w.heap.size (by simp)).trans (heap_alloc_new w (.cells #[.func (.func 20) #[] #[.pointer (some ⟨bs, 0, none⟩)], .func (.func 21) #[] #[.pointer (some ⟨bc, 0, none⟩)]] 51)))
  have hne := heap_alloc_new (w.alloc (.cells #[.func (.func 20) #[] #[.pointer (some ⟨bs, 0, none⟩)], .func (.func 21) #[] #[.pointer (some ⟨bc, 0, none⟩)]] 51)) (.cells #[.int .i64 (k : Int), .string x, .int .i64 (a : Int), .int .i64 (lb : Int), .bool op, .int .i64 (ek : Int), .string ex, .int .i64 (en : Int), .slice ep eal.length ec, .int .i64 (ef : Int), .int .i64 (et : Int), .slice p1 th.length c1, .slice p2 el.length c2, .int .i64 (f : Int), .int .i64 (t : Int)] 104)
  rw [e1] at hne
  obtain ⟨q0, q1, q2, q3, q4, q5, q6, q7, q8, q9, q10, q11, q12, q13, q14, _⟩ := fif_at hne
  have HFW := hid (hg.fresh (w' := ((w.alloc (.cells #[.func (.func 20) #[] #[.pointer (some ⟨bs, 0, none⟩)], .func (.func 21) #[] #[.pointer (some ⟨bc, 0, none⟩)]] 51)).alloc (.cells #[.int .i64 (k : Int), .string x, .int .i64 (a : Int), .int .i64 (lb : Int), .bool op, .int .i64 (ek : Int), .string ex, .int .i64 (en : Int), .slice ep eal.length ec, .int .i64 (ef : Int), .int .i64 (et : Int), .slice p1 th.length c1, .slice p2 el.length c2, .int .i64 (f : Int), .int .i64 (t : Int)] 104))) (k := w.heap.size) (Nat.le_refl _) (by simp; omega))
  have HFE := hid (hg.fresh (w' := ((w.alloc (.cells #[.func (.func 20) #[] #[.pointer (some ⟨bs, 0, none⟩)], .func (.func 21) #[] #[.pointer (some ⟨bc, 0, none⟩)]] 51)).alloc (.cells #[.int .i64 (k : Int), .string x, .int .i64 (a : Int), .int .i64 (lb : Int), .bool op, .int .i64 (ek : Int), .string ex, .int .i64 (en : Int), .slice ep eal.length ec, .int .i64 (ef : Int), .int .i64 (et : Int), .slice p1 th.length c1, .slice p2 el.length c2, .int .i64 (f : Int), .int .i64 (t : Int)] 104))) (k := w.heap.size + 1) (by omega) (by simp))
  have HS2 := hid hs2
  have HG2 := hid hg2
  have hX1 : ∀ Z, (L ++ (esX (exMk ek ex en eal ef et) ++ Z)).length < 1099511627776 → (L ++ esX (exMk ek ex en eal ef et)).length < 1099511627776 := fun Z h => by simp only [List.length_append] at h ⊢; omega
  have HEx := hid (fun h => eff_expr_any (bs := bs) (bc := bc) me Ds Dc _ L _ _ hg2 HE2.out h)
  have ew := Try.call20
  generalize esX (exMk ek ex en eal ef et) = X at *
  clear hg hT hX hE hb1 hb2 hne e1 hs2 hg2
  by_cases h1267 : k = 1 ∨ k = 2 ∨ k = 6 ∨ k = 7
  · rw [if_pos h1267] at hn ⊢
    rcases h1267 with hk | hk | hk | hk
    · have HE := hid (HEx.out hn)
      clear hn
      have g1 : ((k : Int) == 1) = true := by rw [hk]; rfl
      have g2 : ((k : Int) == 2) = false := by rw [hk]; rfl
      have g6 : ((k : Int) == 6) = false := by rw [hk]; rfl
      have g7 : ((k : Int) == 7) = false := by rw [hk]; rfl
      clear hk
      go_enter Try.func45, Try.ntmps45
      go_wp2_with (first
        | (go_at_call 69; refine Calls.mono HE.out ?_; rintro e w5 ⟨rfl, D5, U5, hg5, hs5⟩; have z0 := (okZ_cell hs5 HFW.out 0).trans y0; have z1 := (okZ_cell hs5 HFW.out 1).trans y1; have u1 := (okZ_cell hs5 HFE.out 1).trans q1; have u11 := (okZ_cell hs5 HFE.out 11).trans q11; have u12 := (okZ_cell hs5 HFE.out 12).trans q12))
      go_end0
      exact ⟨rfl, D5, U5, hg5, HS2.out.trans hs5⟩
    · have HE := hid (HEx.out hn)
      clear hn
      have g1 : ((k : Int) == 1) = false := by rw [hk]; rfl
      have g2 : ((k : Int) == 2) = true := by rw [hk]; rfl
      have g6 : ((k : Int) == 6) = false := by rw [hk]; rfl
      have g7 : ((k : Int) == 7) = false := by rw [hk]; rfl
      clear hk
      go_enter Try.func45, Try.ntmps45
      go_wp2_with (first
        | (go_at_call 69; refine Calls.mono HE.out ?_; rintro e w5 ⟨rfl, D5, U5, hg5, hs5⟩; have z0 := (okZ_cell hs5 HFW.out 0).trans y0; have z1 := (okZ_cell hs5 HFW.out 1).trans y1; have u1 := (okZ_cell hs5 HFE.out 1).trans q1; have u11 := (okZ_cell hs5 HFE.out 11).trans q11; have u12 := (okZ_cell hs5 HFE.out 12).trans q12))
      go_end0
      exact ⟨rfl, D5, U5, hg5, HS2.out.trans hs5⟩
    · have HE := hid (HEx.out hn)
      clear hn
      have g1 : ((k : Int) == 1) = false := by rw [hk]; rfl
      have g2 : ((k : Int) == 2) = false := by rw [hk]; rfl
      have g6 : ((k : Int) == 6) = true := by rw [hk]; rfl
      have g7 : ((k : Int) == 7) = false := by rw [hk]; rfl
      clear hk
      go_enter Try.func45, Try.ntmps45
      go_wp2_with (first
        | (go_at_call 69; refine Calls.mono HE.out ?_; rintro e w5 ⟨rfl, D5, U5, hg5, hs5⟩; have z0 := (okZ_cell hs5 HFW.out 0).trans y0; have z1 := (okZ_cell hs5 HFW.out 1).trans y1; have u1 := (okZ_cell hs5 HFE.out 1).trans q1; have u11 := (okZ_cell hs5 HFE.out 11).trans q11; have u12 := (okZ_cell hs5 HFE.out 12).trans q12))
      go_end0
      exact ⟨rfl, D5, U5, hg5, HS2.out.trans hs5⟩
    · have HE := hid (HEx.out hn)
      clear hn
      have g1 : ((k : Int) == 1) = false := by rw [hk]; rfl
      have g2 : ((k : Int) == 2) = false := by rw [hk]; rfl
      have g6 : ((k : Int) == 6) = false := by rw [hk]; rfl
      have g7 : ((k : Int) == 7) = true := by rw [hk]; rfl
      clear hk
      go_enter Try.func45, Try.ntmps45
      go_wp2_with (first
        | (go_at_call 69; refine Calls.mono HE.out ?_; rintro e w5 ⟨rfl, D5, U5, hg5, hs5⟩; have z0 := (okZ_cell hs5 HFW.out 0).trans y0; have z1 := (okZ_cell hs5 HFW.out 1).trans y1; have u1 := (okZ_cell hs5 HFE.out 1).trans q1; have u11 := (okZ_cell hs5 HFE.out 11).trans q11; have u12 := (okZ_cell hs5 HFE.out 12).trans q12))
      go_end0
      exact ⟨rfl, D5, U5, hg5, HS2.out.trans hs5⟩
  · rw [if_neg h1267] at hn ⊢
    have g1 : ((k : Int) == 1) = false := by simp; omega
    have g2 : ((k : Int) == 2) = false := by simp; omega
    have g6 : ((k : Int) == 6) = false := by simp; omega
    have g7 : ((k : Int) == 7) = false := by simp; omega
    by_cases h5 : k = 5
    · rw [if_pos h5] at hn ⊢
      have g5 : ((k : Int) == 5) = true := by rw [h5]; rfl
      have HE := hid (HEx.out (hX1 _ hn))
      have hnX := hX1 _ hn
      clear h1267 h5 hn
      go_enter Try.func45, Try.ntmps45
      go_wp2_with (first
        | (go_at_call 69; refine Calls.mono HE.out ?_; rintro e w5 ⟨rfl, D5, U5, hg5, hs5⟩; have z0 := (okZ_cell hs5 HFW.out 0).trans y0; have z1 := (okZ_cell hs5 HFW.out 1).trans y1; have u1 := (okZ_cell hs5 HFE.out 1).trans q1; have u11 := (okZ_cell hs5 HFE.out 11).trans q11; have u12 := (okZ_cell hs5 HFE.out 12).trans q12; have HH := hid (hear_send hg5 hnX x))
        | ((with_reducible refine Calls.mono HH.out ?_); rintro e w6 ⟨rfl, D6, U6, hg6, hs6⟩))
      go_end0
      exact ⟨rfl, D6, U6, by rw [← List.append_assoc]; exact hg6, (HS2.out.trans hs5).trans hs6⟩
    · rw [if_neg h5] at hn ⊢
      have g5 : ((k : Int) == 5) = false := by simp; omega
      by_cases h3 : k = 3
      · rw [if_pos h3] at hn ⊢
        have g3 : ((k : Int) == 3) = true := by rw [h3]; rfl
        rw [← List.append_assoc, ← List.append_assoc] at hn ⊢
        have hn2 : (L ++ X ++ esB th).length < 1099511627776 := by simp only [List.length_append] at hn ⊢; omega
        have hn1 : (L ++ X).length < 1099511627776 := by simp only [List.length_append] at hn ⊢; omega
        have HE := hid (HEx.out hn1)
        have HBf := hid (fun (D5 U5 : Option Nat) (w5 : World) (h1 : GE bs bc w5 (L ++ X) D5 U5) (h2 : Stz bs bc Ds Dc D5 U5 ((w.alloc (.cells #[.func (.func 20) #[] #[.pointer (some ⟨bs, 0, none⟩)], .func (.func 21) #[] #[.pointer (some ⟨bc, 0, none⟩)]] 51)).alloc (.cells #[.int .i64 (k : Int), .string x, .int .i64 (a : Int), .int .i64 (lb : Int), .bool op, .int .i64 (ek : Int), .string ex, .int .i64 (en : Int), .slice ep eal.length ec, .int .i64 (ef : Int), .int .i64 (et : Int), .slice p1 th.length c1, .slice p2 el.length c2, .int .i64 (f : Int), .int .i64 (t : Int)] 104)) w5) => ih D5 U5 w5 _ th p1 c1 h1 (SlS.stz HT2.out.1 h2) hn2)
        have HBg := hid (fun (D5 U5 : Option Nat) (w5 : World) (h1 : GE bs bc w5 (L ++ X ++ esB th) D5 U5) (h2 : Stz bs bc Ds Dc D5 U5 ((w.alloc (.cells #[.func (.func 20) #[] #[.pointer (some ⟨bs, 0, none⟩)], .func (.func 21) #[] #[.pointer (some ⟨bc, 0, none⟩)]] 51)).alloc (.cells #[.int .i64 (k : Int), .string x, .int .i64 (a : Int), .int .i64 (lb : Int), .bool op, .int .i64 (ek : Int), .string ex, .int .i64 (en : Int), .slice ep eal.length ec, .int .i64 (ef : Int), .int .i64 (et : Int), .slice p1 th.length c1, .slice p2 el.length c2, .int .i64 (f : Int), .int .i64 (t : Int)] 104)) w5) => ih D5 U5 w5 _ el p2 c2 h1 (SlS.stz HT2.out.2 h2) hn)
        have F1 : Hid (1 = 1) := rfl
        clear h1267 h5 h3 hn hn1 hn2
        go_enter Try.func45, Try.ntmps45
        go_wp2_with (first
          | (go_at_call 69; refine Calls.mono HE.out ?_; rintro e w5 ⟨rfl, D5, U5, hg5, hs5⟩; have z0 := (okZ_cell hs5 HFW.out 0).trans y0; have z1 := (okZ_cell hs5 HFW.out 1).trans y1; have u1 := (okZ_cell hs5 HFE.out 1).trans q1; have u11 := (okZ_cell hs5 HFE.out 11).trans q11; have u12 := (okZ_cell hs5 HFE.out 12).trans q12; have HC := hid (HBf.out D5 U5 w5 hg5 hs5))
          | (go_at_call 22; have ff := F1; clear ff F1; refine Calls.mono HC.out ?_; rintro e w6 ⟨rfl, D6, U6, hg6, hs6q⟩; have hs6 := hs5.trans hs6q; have r0 := (okZ_cell hs6 HFW.out 0).trans y0; have r1 := (okZ_cell hs6 HFW.out 1).trans y1; have r12 := (okZ_cell hs6 HFE.out 12).trans q12; have HD := hid (HBg.out D6 U6 w6 hg6 hs6))
          | (go_at_call 22; refine Calls.mono HD.out ?_; rintro e w7 ⟨rfl, D7, U7, hg7, hs7⟩))
        go_end0
        exact ⟨rfl, D7, U7, hg7, (HS2.out.trans hs6).trans hs7⟩
      · rw [if_neg h3] at hn ⊢
        have g3 : ((k : Int) == 3) = false := by simp; omega
        by_cases h4 : k = 4
        · rw [if_pos h4] at hn ⊢
          have g4 : ((k : Int) == 4) = true := by rw [h4]; rfl
          rw [← List.append_assoc] at hn ⊢
          have hn1 : (L ++ X).length < 1099511627776 := by simp only [List.length_append] at hn ⊢; omega
          have HE := hid (HEx.out hn1)
          have HBf := hid (fun (D5 U5 : Option Nat) (w5 : World) (h1 : GE bs bc w5 (L ++ X) D5 U5) (h2 : Stz bs bc Ds Dc D5 U5 ((w.alloc (.cells #[.func (.func 20) #[] #[.pointer (some ⟨bs, 0, none⟩)], .func (.func 21) #[] #[.pointer (some ⟨bc, 0, none⟩)]] 51)).alloc (.cells #[.int .i64 (k : Int), .string x, .int .i64 (a : Int), .int .i64 (lb : Int), .bool op, .int .i64 (ek : Int), .string ex, .int .i64 (en : Int), .slice ep eal.length ec, .int .i64 (ef : Int), .int .i64 (et : Int), .slice p1 th.length c1, .slice p2 el.length c2, .int .i64 (f : Int), .int .i64 (t : Int)] 104)) w5) => ih D5 U5 w5 _ th p1 c1 h1 (SlS.stz HT2.out.1 h2) hn)
          clear h1267 h5 h3 h4 hn hn1
          go_enter Try.func45, Try.ntmps45
          go_wp2_with (first
            | (go_at_call 69; refine Calls.mono HE.out ?_; rintro e w5 ⟨rfl, D5, U5, hg5, hs5⟩; have z0 := (okZ_cell hs5 HFW.out 0).trans y0; have z1 := (okZ_cell hs5 HFW.out 1).trans y1; have u1 := (okZ_cell hs5 HFE.out 1).trans q1; have u11 := (okZ_cell hs5 HFE.out 11).trans q11; have u12 := (okZ_cell hs5 HFE.out 12).trans q12; have HC := hid (HBf.out D5 U5 w5 hg5 hs5))
            | (go_at_call 22; refine Calls.mono HC.out ?_; rintro e w6 ⟨rfl, D6, U6, hg6, hs6⟩))
          go_end0
          exact ⟨rfl, D6, U6, hg6, (HS2.out.trans hs5).trans hs6⟩
        · rw [if_neg h4, List.append_nil] at hn ⊢
          have g4 : ((k : Int) == 4) = false := by simp; omega
          clear h1267 h5 h3 h4 hn
          go_enter Try.func45, Try.ntmps45
          go_wp2
          go_end0
          exact ⟨rfl, Ds, Dc, HG2.out, HS2.out⟩
theorem eff_block_any (n : Nat) : CEb bs bc n := by
  induction n with
  | zero => exact eff_block (fun _ _ _ _ _ _ _ h => h.elim)
  | succ n ih => exact eff_block (eff_stmt ih)
end
end Go.Proofs.Ytjpmnholpeidmaa


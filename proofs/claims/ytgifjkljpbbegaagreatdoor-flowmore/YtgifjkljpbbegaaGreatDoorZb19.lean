/- Texts of this seat, one behind the other: NamHear, NamDiags, NamUses, NamGood, NamAt, LawAlive4. -/
import Derived.Test.YtgifjkljpbbegaaGreatDoorZb18
import Derived.Deep.AppendLies
import Derived.Test.YtgifjkljpbbegaaGreatDoorZb16
import Derived.Test.YtgifjkljpbbegaaGreatDoorZb01b
import Derived.Test.YtgifjkljpbbegaaGreatDoorZb12
namespace Go.Proofs.YtgifjkljpbbegaaGreatDoor
open Go.RowKit
attribute [local go_sem ↓] Go.wp_at_zero Go.wp_at_succ
/-- The variable at block bo holds a list of n parts, whose cells are xs, in block D. -/
def Cpt (T TE : TypeId) (st bo : Nat) (w : World) (xs : List Value) (n : Nat) (D : Option Nat) : Prop := ∃ v, w.heap[bo]? = some (.cells #[v] T (0, 0)) ∧ w.ownsRow (bo + 1) TE st v n xs ∧ v.ownBlock = D
section
variable {T TE : TypeId} {st bo : Nat} {w w' : World} {xs : List Value} {n : Nat} {D : Option Nat}
theorem Cpt.lt (h : Cpt T TE st bo w xs n D) : bo < w.heap.size ∧ ∀ k, some k = D → bo < k ∧ k < w.heap.size := by
  obtain ⟨v, h1, h2, h3⟩ := h
  exact ⟨(Array.getElem?_eq_some_iff.1 h1).1, fun k e => by have := h2.lt k (h3.trans e.symm); exact ⟨this.1, this.2⟩⟩
theorem Cpt.kept (h : Cpt T TE st bo w xs n D) (h0 : w'.heap[bo]? = w.heap[bo]?) (hD : ∀ k, some k = D → w'.heap[k]? = w.heap[k]?) : Cpt T TE st bo w' xs n D := by
  obtain ⟨v, h1, h2, h3⟩ := h
  exact ⟨v, h0.trans h1, own_kept h2 (fun g e => hD g (e.symm.trans h3)), h3⟩
theorem Cpt.nil (w : World) : Cpt T TE st w.heap.size (w.alloc (.cells #[.slice none 0 0] T)) [] 0 none := ⟨_, heap_alloc_new w _, World.ownsRow_nil _ _ _ _, rfl⟩
/-- A part more. -/
theorem Cpt.put {W w6 : World} {v : Value} {g cap : Nat} {c : List Value} (h1 : w.heap[bo]? = some (.cells #[v] T (0, 0))) (h2 : w.ownsRow (bo + 1) TE st v n xs) (hb : Below w.heap.size w W) (hown : w6.ownsRow (bo + 1) TE st (.slice (some ⟨g, 0, none⟩) (n + 1) cap) (n + 1) (xs ++ c)) (hgrow : W.grownBy w6 v.ownBlock) (hat : v.ownBlock = some g ∨ g = W.heap.size) :
    Cpt T TE st bo (w6.setCell ⟨bo, 0, none⟩ (.slice (some ⟨g, 0, none⟩) (n + 1) cap)) (xs ++ c) (n + 1) (some g) ∧ Stp bo v.ownBlock (some g) w (w6.setCell ⟨bo, 0, none⟩ (.slice (some ⟨g, 0, none⟩) (n + 1) cap)) := by
  have hbo : bo < w.heap.size := (Array.getElem?_eq_some_iff.1 h1).1
  have hne : some bo ≠ v.ownBlock := fun e => by have := (h2.lt bo e.symm).1; omega
  have hgg : bo + 1 ≤ g := (hown.lt g rfl).1
  have hW : ∀ k, k < w.heap.size → some k ≠ v.ownBlock → w6.heap[k]? = w.heap[k]? := fun k hk hn => (hgrow.block k (Nat.lt_of_lt_of_le hk hb.size) hn).trans (hb.block k hk)
  have hset : ∀ k, k ≠ bo → (w6.setCell ⟨bo, 0, none⟩ (.slice (some ⟨g, 0, none⟩) (n + 1) cap)).heap[k]? = w6.heap[k]? := fun k hk => Below.heap_setCell w6 _ _ k hk
  have hbb := (hW bo hbo hne).trans h1
  refine ⟨⟨.slice (some ⟨g, 0, none⟩) (n + 1) cap, by simp [World.setCell, Array.getElem?_modify, hbb], ownsRow_setCell_other hown (a := ⟨bo, 0, none⟩) (by simp [Value.ownBlock]; omega) _, rfl⟩, hgrow.os.trans hb.os, hgrow.tape.trans hb.tape, hgrow.output.trans hb.output, ?_, fun k hk hk2 hk3 => (hset k hk2).trans (hW k hk hk3), ?_⟩
  · have := hgrow.size
    have := hb.size
    simp
    omega
  · rcases hat with e | e
    · exact .inl e.symm
    · exact .inr ⟨g, rfl, by rw [e]; exact hb.size⟩
end
/-- A diag's cells; those that are told. -/
def dvC (e : Ev) : List Value := [.int .i64 (e.a : Int), .int .i64 (wI ((e.a : Int) + (e.x.size : Int))), .int .i64 (e.e : Int), .string e.x]
def noL (L : List Ev) : List Ev := L.filter (fun e => e.b)
def yesL (L : List Ev) : List Ev := L.filter (fun e => !e.b)
theorem noL_no (L : List Ev) (e : Nat) (x : ByteArray) (a : Nat) : noL (L ++ [evNo e x a]) = noL L ++ [evNo e x a] := by unfold noL; rw [List.filter_append]; rfl
theorem noL_yes (L : List Ev) (x : ByteArray) (a : Nat) (d : Int) : noL (L ++ [evYes x a d]) = noL L := by unfold noL; rw [List.filter_append]; exact List.append_nil _
theorem yesL_no (L : List Ev) (e : Nat) (x : ByteArray) (a : Nat) : yesL (L ++ [evNo e x a]) = yesL L := by unfold yesL; rw [List.filter_append]; exact List.append_nil _
theorem yesL_yes (L : List Ev) (x : ByteArray) (a : Nat) (d : Int) : yesL (L ++ [evYes x a d]) = yesL L ++ [evYes x a d] := by unfold yesL; rw [List.filter_append]; rfl
theorem noL_le (L : List Ev) : (noL L).length ≤ L.length := List.length_filter_le _ _
theorem yesL_le (L : List Ev) : (yesL L).length ≤ L.length := List.length_filter_le _ _
def GD (bo b0 : Nat) (w : World) (L : List Ev) (D : Option Nat) : Prop := b0 ≤ w.heap.size ∧ Cpt 30 79 4 bo w ((noL L).flatMap dvC) (noL L).length D
set_option maxHeartbeats 1000000 in
set_option maxRecDepth 100000 in
theorem hear_wrong (bo b0 : Nat) (w : World) (L : List Ev) (D : Option Nat) (e : Nat) (x : ByteArray) (a : Nat) (hg : GD bo b0 w L D) (hn : L.length < 1099511627776) :
    Calls Tryz.prog 39 #[.int .i64 (e : Int), .agg #[.string x, .int .i64 (a : Int)], .pointer (some ⟨bo, 0, none⟩)] w fun ex w' => ex = .returned (.tuple #[]) ∧ Tl bo (GD bo b0) D (L ++ [evNo e x a]) w w' := by
  obtain ⟨i0, hi0, hz0, hz1, hz2⟩ := info_parts Tryz.infoDg
  obtain ⟨hsz, v, h1, h2, rfl⟩ := hg
  have hbo : bo < w.heap.size := (Array.getElem?_eq_some_iff.1 h1).1
  have hne : some bo ≠ v.ownBlock := fun e => by have := (h2.lt bo e.symm).1; omega
  have hb1 := (Below.refl w.heap.size w).alloc (Nat.le_refl _) (.cells #[.string x, .int .i64 (a : Int)] 58)
  have c0 : w.cell? ⟨bo, 0, none⟩ = some v := cell_of_row _ _ 0 _ _ _ h1
  have d0 := cell_alloc c0
  have hfz : w.frozen? ⟨bo, 0, none⟩ = false := by simp [World.frozen?, h1]
  have hnl := noL_le L
  obtain ⟨T, gw⟩ : ∃ T, IntKind.i64.wrap ((a : Int) + (x.size : Int)) = T := ⟨_, rfl⟩
  have HT : Hid (dvC (evNo e x a) = [.int .i64 (a : Int), .int .i64 T, .int .i64 (e : Int), .string x]) := by show _ = _; rw [← gw]; rfl
  have hmax : (noL L).length + 1 ≤ maxLen := by unfold maxLen; omega
  have hbyt : ((noL L).length + 1) * 40 ≤ 140737488355328 := by omega
  have HL := hid (noL_no L e x a)
  have hb2 := hb1.alloc (by simp) (.cells #[.int .i64 (a : Int), .int .i64 T, .int .i64 (e : Int), .string x] 79)
  have hsz2 : bo + 1 ≤ ((w.alloc (.cells #[.string x, .int .i64 (a : Int)] 58)).alloc (.cells #[.int .i64 (a : Int), .int .i64 T, .int .i64 (e : Int), .string x] 79)).heap.size := by simp; omega
  have hnew := World.news_of_block (heap_alloc_new (w.alloc (.cells #[.string x, .int .i64 (a : Int)] 58)) (.cells #[.int .i64 (a : Int), .int .i64 T, .int .i64 (e : Int), .string x] 79))
  have e1 : (w.alloc (.cells #[.string x, .int .i64 (a : Int)] 58)).heap.size = w.heap.size + 1 := by simp
  rw [e1] at hnew
  have HN := hid hnew
  have HOW := hid (World.ownsRow.alloc (World.ownsRow.alloc h2 (.cells #[.string x, .int .i64 (a : Int)] 58)) (.cells #[.int .i64 (a : Int), .int .i64 T, .int .i64 (e : Int), .string x] 79))
  have HB2 := hid hb2
  clear hnew hb2 e1
  go_enter Tryz.func39, Tryz.ntmps39
  go_wp2_with (first
    | (at_builtin; refine wpList_append_lies _ rfl (.tmp 5) (.tmp 18) 30 rfl (bo + 1) 79 i0 _ 4 40 Tryz.underlying30 hi0 hz0 hz1 hz2 rfl (by decide) _ _ _ rfl HOW.out ⟨w.heap.size + 1, 0, none⟩ 1 1 [.int .i64 (a : Int), .int .i64 T, .int .i64 (e : Int), .string x] rfl rfl HN.out (by intro u hu; simp at hu; rcases hu with rfl | rfl | rfl | rfl <;> rfl) (by decide) hmax hbyt hsz2 _ rfl ?_; intro g6 cap6 w6 hown6 hgrow6 hat6 hlt6; have k6 := World.cell?_of_block (a := ⟨bo, 0, none⟩) ((hgrow6.block bo (by simp; omega) hne).trans (HB2.out.block bo hbo)); have f6 := World.frozen?_of_block (a := ⟨bo, 0, none⟩) ((hgrow6.block bo (by simp; omega) hne).trans (HB2.out.block bo hbo)); rw [c0] at k6; rw [hfz] at f6))
  go_end0
  obtain ⟨q1, q2⟩ := Cpt.put h1 h2 HB2.out hown6 hgrow6 hat6
  refine ⟨rfl, some g6, ⟨?_, ?_⟩, q2⟩
  · have := q2.size; omega
  · show Cpt _ _ _ _ _ ((noL (L ++ [evNo e x a])).flatMap dvC) (noL (L ++ [evNo e x a])).length _
    rw [HL.out, List.flatMap_append, List.length_append, List.flatMap_cons, List.flatMap_nil, List.append_nil, HT.out]
    exact q1
end Go.Proofs.YtgifjkljpbbegaaGreatDoor
namespace Go.Proofs.YtgifjkljpbbegaaGreatDoor
open Go.RowKit
attribute [local go_sem ↓] Go.wp_at_zero Go.wp_at_succ
theorem GD.kept {bo b0 : Nat} {w w' : World} {L : List Ev} {D : Option Nat} (hb0 : bo < b0) (h : GD bo b0 w L D) (hs : w.heap.size ≤ w'.heap.size) (hk : ∀ k, k < b0 ∨ some k = D → w'.heap[k]? = w.heap[k]?) : GD bo b0 w' L D :=
  ⟨Nat.le_trans h.1 hs, h.2.kept (hk bo (.inl hb0)) (fun k e => hk k (.inr e))⟩
set_option maxHeartbeats 1000000 in
set_option maxRecDepth 100000 in
theorem hear_none2 (w : World) (x : ByteArray) (a : Nat) (d : Int) : Calls Tryz.prog 41 #[.agg #[.string x, .int .i64 (a : Int)], .int .i64 d] w fun ex w' => ex = .returned (.tuple #[]) ∧ Below w.heap.size w w' := by
  have hb1 := (Below.refl w.heap.size w).alloc (Nat.le_refl _) (.cells #[.string x, .int .i64 (a : Int)] 58)
  go_enter Tryz.func41, Tryz.ntmps41
  go_wp2
  go_end0
  exact ⟨rfl, hb1⟩
theorem lsnD (bo b0 : Nat) (hb0 : bo < b0) : Lsn bo b0 39 41 #[.pointer (some ⟨bo, 0, none⟩)] #[] (GD bo b0) where
  ew := Tryz.call39
  eu := Tryz.call41
  lo := hb0
  lt := fun w l D h => ⟨h.1, fun k e => (h.2.lt.2 k e).2⟩
  kept := fun w w' l D h hs hk => h.kept hb0 hs hk
  wrong := fun w l D e x a hg hn => hear_wrong bo b0 w l D e x a hg hn
  used := fun w l D x a d hg hn => (hear_none2 w x a d).mono fun ex w' h => ⟨h.1, D, by
    have h2 : GD bo b0 w' l D := hg.kept hb0 h.2.size (fun k hk => h.2.block k (by rcases hk with hk | hk; exact Nat.lt_of_lt_of_le hk hg.1; exact (hg.2.lt.2 k hk).2))
    refine ⟨h2.1, ?_⟩
    rw [noL_yes]
    exact h2.2, Stp.below h.2⟩
set_option maxHeartbeats 1000000 in
set_option maxRecDepth 100000 in
theorem Diags_any (l : List (Int × It)) (fv : Value) (w : World) (ok : Nat → Prop) (hok : ∀ k, ok k → k < w.heap.size) (hR : RdF ok w l fv) (i : Nat) (hi : i < l.length) (hx : ∀ e ∈ l, ∀ r ∈ e.2.ss, r.x.size ≤ 1000000) (hn : (evI l i).length < 1099511627776) :
    Calls Tryz.prog 13 #[fv, .int .i64 (i : Int)] w fun e w' => ∃ v, e = .returned v ∧ w'.ownsRow w.heap.size 79 4 v (noL (evI l i)).length ((noL (evI l i)).flatMap dvC) ∧ Below w.heap.size w w' := by
  have hmf : ∀ (fn : Go.Fn) (first cap : Array Value) (w : World), (Instr.makeFunc fn first cap).run Tryz.prog w = .ok (.func fn first cap) w := fun _ _ _ _ => rfl
  have hR0 := hR
  obtain ⟨q, c, rfl, hlen, _⟩ := hR
  have hb1 := (Below.refl w.heap.size w).alloc (Nat.le_refl _) (.cells #[.slice q l.length c] 24)
  have hb2 := hb1.alloc (by simp) (.cells #[.slice none 0 0] 30)
  have hC := Cpt.nil (T := 30) (TE := 79) (st := 4) (w.alloc (.cells #[.slice q l.length c] 24))
  have e1 : (w.alloc (.cells #[.slice q l.length c] 24)).heap.size = w.heap.size + 1 := by simp
  rw [e1] at hC
  have hG : GD (w.heap.size + 1) (w.heap.size + 2) ((w.alloc (.cells #[.slice q l.length c] 24)).alloc (.cells #[.slice none 0 0] 30)) [] none := ⟨by simp, hC⟩
  have hR1 : RdF (okS 0 (w.heap.size + 1) none ((w.alloc (.cells #[.slice q l.length c] 24)).alloc (.cells #[.slice none 0 0] 30))) ((w.alloc (.cells #[.slice q l.length c] 24)).alloc (.cells #[.slice none 0 0] 30)) l (.agg #[.slice q l.length c]) := RdF.kept hR0 (fun k hk => hb2.block k (hok k hk)) (fun k hk => ⟨Nat.zero_le _, Nat.lt_of_lt_of_le (hok k hk) hb2.size, by have := hok k hk; omega, fun e => by cases e⟩)
  have HC := hid (nm_walk_any (lsnD (w.heap.size + 1) (w.heap.size + 2) (by omega)) hG _ hR1 i hi hx (by rw [List.nil_append]; exact hn))
  rw [List.nil_append] at HC
  have gi : ¬ (i : Int) < 0 := by omega
  have gi1 : ¬ (i : Int) ≥ (l.length : Int) := by omega
  have HB := hid hb2
  clear hR0 hR1 hC hG e1 hi hb2 hb1
  go_enter Tryz.func13, Tryz.ntmps13
  go_wp2_with (first
    | (go_at_call 40; refine Calls.mono HC.out ?_; rintro e w2 ⟨rfl, D2, ⟨hs2, v2, k1, k2, k3⟩, hS2⟩; have z2 : w2.cell? ⟨w.heap.size + 1, 0, none⟩ = some v2 := cell_of_row _ _ 0 _ _ _ k1))
  go_ret
  refine ⟨v2, rfl, own_base (base := w.heap.size + 1 + 1) (base' := w.heap.size) k2 (by omega), HB.out.trans ⟨hS2.os, hS2.tape, hS2.output, hS2.size, fun k hk => hS2.block k (Nat.lt_of_lt_of_le hk HB.out.size) (by omega) (fun e => by cases e)⟩⟩
end Go.Proofs.YtgifjkljpbbegaaGreatDoor
namespace Go.Proofs.YtgifjkljpbbegaaGreatDoor
open Go.RowKit
attribute [local go_sem ↓] Go.wp_at_zero Go.wp_at_succ
theorem Tryz.infoUse : (Tryz.prog.info? 39).map (fun i => (i.zero, i.size, i.bytes)) = some (some (.agg #[.int .i64 0, .int .i64 0, .int .i64 0]), 3, 24) := by kernel_rfl
/-- A use's cells: of an item that stands at u.1. -/
def uvC (u : Int × Ev) : List Value := [.int .i64 (wI (u.1 + (u.2.a : Int))), .int .i64 (wI (wI (u.1 + (u.2.a : Int)) + (u.2.x.size : Int))), .int .i64 u.2.d]
def usI (p : Int) (L : List Ev) : List (Int × Ev) := (yesL L).map (fun e => (p, e))
/-- The uses of the first k items. -/
def usE (l : List (Int × It)) : Nat → List (Int × Ev)
  | 0 => []
  | k + 1 => usE l k ++ (match l[k]? with | some q => usI q.1 (evI l k) | none => [])
theorem usE_succ {l : List (Int × It)} {k : Nat} {q : Int × It} (h : l[k]? = some q) : usE l (k + 1) = usE l k ++ usI q.1 (evI l k) := by
  conv => lhs; unfold usE
  rw [h]
def GU (bo b0 bi : Nat) (p : Int) (X : List (Int × Ev)) (w : World) (L : List Ev) (D : Option Nat) : Prop := b0 ≤ w.heap.size ∧ Cpt 32 39 3 bo w ((X ++ usI p L).flatMap uvC) (X ++ usI p L).length D ∧ w.cell? ⟨bi, 6, none⟩ = some (.int .i64 p) ∧ some bi ≠ D
section
variable {bo b0 bi : Nat} {p : Int} {X : List (Int × Ev)}
theorem GU.kept {w w' : World} {L : List Ev} {D : Option Nat} (hb0 : bo < b0) (hbi : bi < b0) (h : GU bo b0 bi p X w L D) (hs : w.heap.size ≤ w'.heap.size) (hk : ∀ k, k < b0 ∨ some k = D → w'.heap[k]? = w.heap[k]?) : GU bo b0 bi p X w' L D :=
  ⟨Nat.le_trans h.1 hs, h.2.1.kept (hk bo (.inl hb0)) (fun k e => hk k (.inr e)), (World.cell?_of_block (a := ⟨bi, 6, none⟩) (hk bi (.inl hbi))).trans h.2.2.1, h.2.2.2⟩
theorem usI_yes (p : Int) (L : List Ev) (x : ByteArray) (a : Nat) (d : Int) : usI p (L ++ [evYes x a d]) = usI p L ++ [(p, evYes x a d)] := by unfold usI; rw [yesL_yes, List.map_append]; rfl
theorem usI_no (p : Int) (L : List Ev) (e : Nat) (x : ByteArray) (a : Nat) : usI p (L ++ [evNo e x a]) = usI p L := by unfold usI; rw [yesL_no]
theorem usI_le (p : Int) (L : List Ev) : (usI p L).length ≤ L.length := by unfold usI; rw [List.length_map]; exact yesL_le L
set_option maxHeartbeats 1000000 in
set_option maxRecDepth 100000 in
theorem hear_none1 (w : World) (e : Int) (x : ByteArray) (a : Nat) : Calls Tryz.prog 47 #[.int .i64 e, .agg #[.string x, .int .i64 (a : Int)]] w fun ex w' => ex = .returned (.tuple #[]) ∧ Below w.heap.size w w' := by
  have hb1 := (Below.refl w.heap.size w).alloc (Nat.le_refl _) (.cells #[.string x, .int .i64 (a : Int)] 58)
  go_enter Tryz.func47, Tryz.ntmps47
  go_wp2
  go_end0
  exact ⟨rfl, hb1⟩
set_option maxHeartbeats 1000000 in
set_option maxRecDepth 100000 in
theorem hear_used (hbi : bi < b0) (hne0 : bi ≠ bo) (hX : X.length ≤ 1099511627776) (w : World) (L : List Ev) (D : Option Nat) (x : ByteArray) (a : Nat) (d : Int) (hg : GU bo b0 bi p X w L D) (hn : L.length < 1099511627776) :
    Calls Tryz.prog 46 #[.agg #[.string x, .int .i64 (a : Int)], .int .i64 d, .pointer (some ⟨bi, 0, none⟩), .pointer (some ⟨bo, 0, none⟩)] w fun ex w' => ex = .returned (.tuple #[]) ∧ Tl bo (GU bo b0 bi p X) D (L ++ [evYes x a d]) w w' := by
  obtain ⟨i0, hi0, hz0, hz1, hz2⟩ := info_parts Tryz.infoUse
  obtain ⟨hsz, ⟨v, h1, h2, rfl⟩, h3, h4⟩ := hg
  have hbo : bo < w.heap.size := (Array.getElem?_eq_some_iff.1 h1).1
  have hne : some bo ≠ v.ownBlock := fun e => by have := (h2.lt bo e.symm).1; omega
  have hb1 := (Below.refl w.heap.size w).alloc (Nat.le_refl _) (.cells #[.string x, .int .i64 (a : Int)] 58)
  have c0 : w.cell? ⟨bo, 0, none⟩ = some v := cell_of_row _ _ 0 _ _ _ h1
  have d0 := cell_alloc c0
  have d6 := cell_alloc h3
  have hfz : w.frozen? ⟨bo, 0, none⟩ = false := by simp [World.frozen?, h1]
  have hnl := usI_le p L
  have hll : (X ++ usI p L).length < 2199023255552 := by rw [List.length_append]; omega
  obtain ⟨T0, gw0⟩ : ∃ T, IntKind.i64.wrap (p + (a : Int)) = T := ⟨_, rfl⟩
  obtain ⟨T, gw⟩ : ∃ T, IntKind.i64.wrap (T0 + (x.size : Int)) = T := ⟨_, rfl⟩
  have HT : Hid (uvC (p, evYes x a d) = [.int .i64 T0, .int .i64 T, .int .i64 d]) := by show _ = _; rw [← gw, ← gw0]; rfl
  have HL := hid (usI_yes p L x a d)
  generalize hA : X ++ usI p L = A at *
  have HA := hid hA
  clear hA
  have hmax : A.length + 1 ≤ maxLen := by unfold maxLen; omega
  have hbyt : (A.length + 1) * 24 ≤ 140737488355328 := by omega
  have hb2 := hb1.alloc (by simp) (.cells #[.int .i64 T0, .int .i64 T, .int .i64 d] 39)
  have hsz2 : bo + 1 ≤ ((w.alloc (.cells #[.string x, .int .i64 (a : Int)] 58)).alloc (.cells #[.int .i64 T0, .int .i64 T, .int .i64 d] 39)).heap.size := by simp; omega
  have hnew := World.news_of_block (heap_alloc_new (w.alloc (.cells #[.string x, .int .i64 (a : Int)] 58)) (.cells #[.int .i64 T0, .int .i64 T, .int .i64 d] 39))
  have e1 : (w.alloc (.cells #[.string x, .int .i64 (a : Int)] 58)).heap.size = w.heap.size + 1 := by simp
  rw [e1] at hnew
  have HN := hid hnew
  have HOW := hid (World.ownsRow.alloc (World.ownsRow.alloc h2 (.cells #[.string x, .int .i64 (a : Int)] 58)) (.cells #[.int .i64 T0, .int .i64 T, .int .i64 d] 39))
  have HB2 := hid hb2
  clear hnew hb2 e1
  go_enter Tryz.func46, Tryz.ntmps46
  go_wp2_with (first
    | (at_builtin; refine wpList_append_lies _ rfl (.tmp 12) (.tmp 21) 32 rfl (bo + 1) 39 i0 _ 3 24 Tryz.underlying32 hi0 hz0 hz1 hz2 rfl (by decide) _ _ _ rfl HOW.out ⟨w.heap.size + 1, 0, none⟩ 1 1 [.int .i64 T0, .int .i64 T, .int .i64 d] rfl rfl HN.out (by intro u hu; simp at hu; rcases hu with rfl | rfl | rfl <;> rfl) (by decide) hmax hbyt hsz2 _ rfl ?_; intro g6 cap6 w6 hown6 hgrow6 hat6 hlt6; have k6 := World.cell?_of_block (a := ⟨bo, 0, none⟩) ((hgrow6.block bo (by simp; omega) hne).trans (HB2.out.block bo hbo)); have f6 := World.frozen?_of_block (a := ⟨bo, 0, none⟩) ((hgrow6.block bo (by simp; omega) hne).trans (HB2.out.block bo hbo)); rw [c0] at k6; rw [hfz] at f6))
  go_end0
  obtain ⟨q1, q2⟩ := Cpt.put h1 h2 HB2.out hown6 hgrow6 hat6
  refine ⟨rfl, some g6, ⟨?_, ?_, ?_, ?_⟩, q2⟩
  · have := q2.size; omega
  · rw [HL.out, ← List.append_assoc, HA.out, List.flatMap_append, List.length_append, List.flatMap_cons, List.flatMap_nil, List.append_nil, HT.out]
    exact q1
  · exact (World.cell?_of_block (a := ⟨bi, 6, none⟩) (q2.block bi (by omega) hne0 h4)).trans h3
  · exact q2.fresh (by omega) h4
theorem lsnU (hb0 : bo < b0) (hbi : bi < b0) (hne0 : bi ≠ bo) (hX : X.length ≤ 1099511627776) : Lsn bo b0 47 46 #[] #[.pointer (some ⟨bi, 0, none⟩), .pointer (some ⟨bo, 0, none⟩)] (GU bo b0 bi p X) where
  ew := Tryz.call47
  eu := Tryz.call46
  lo := hb0
  lt := fun w l D h => ⟨h.1, fun k e => (h.2.1.lt.2 k e).2⟩
  kept := fun w w' l D h hs hk => h.kept hb0 hbi hs hk
  used := fun w l D x a d hg hn => hear_used hbi hne0 hX w l D x a d hg hn
  wrong := fun w l D e x a hg hn => (hear_none1 w e x a).mono fun ex w' h => ⟨h.1, D, by
    have h2 : GU bo b0 bi p X w' l D := hg.kept hb0 hbi h.2.size (fun k hk => h.2.block k (by rcases hk with hk | hk; exact Nat.lt_of_lt_of_le hk hg.1; exact (hg.2.1.lt.2 k hk).2))
    unfold GU at h2 ⊢
    rw [usI_no]
    exact h2, Stp.below h.2⟩
end
def RelU (bo : Nat) (l : List (Int × It)) (W : World) (i : Value) (wr : World) : Prop := ∃ k : Nat, k ≤ l.length ∧ i = .int .i64 (k : Int) ∧ ∃ D', Cpt 32 39 3 bo wr ((usE l k).flatMap uvC) (usE l k).length D' ∧ Stp bo none D' W wr
set_option maxHeartbeats 2000000 in
set_option maxRecDepth 100000 in
theorem Uses_any (l : List (Int × It)) (fv : Value) (w : World) (ok : Nat → Prop) (hok : ∀ k, ok k → k < w.heap.size) (hR : RdF ok w l fv) (hx : ∀ e ∈ l, ∀ r ∈ e.2.ss, r.x.size ≤ 1000000) (hn : ∀ i, i < l.length → (evI l i).length < 1099511627776) (hm : ∀ k, k ≤ l.length → (usE l k).length ≤ 1099511627776) :
    Calls Tryz.prog 15 #[fv] w fun e w' => ∃ v, e = .returned v ∧ w'.ownsRow w.heap.size 39 3 v (usE l l.length).length ((usE l l.length).flatMap uvC) ∧ Below w.heap.size w w' := by
  have hmf : ∀ (fn : Go.Fn) (first cap : Array Value) (w : World), (Instr.makeFunc fn first cap).run Tryz.prog w = .ok (.func fn first cap) w := fun _ _ _ _ => rfl
  have hR0 := hR
  obtain ⟨q, c, rfl, hlen, hits⟩ := hR
  have hb1 := (Below.refl w.heap.size w).alloc (Nat.le_refl _) (.cells #[.slice q l.length c] 24)
  have hb2 := hb1.alloc (by simp) (.cells #[.slice none 0 0] 32)
  have x0 : (w.alloc (.cells #[.slice q l.length c] 24)).cell? ⟨w.heap.size, 0, none⟩ = some (.slice q l.length c) := cell_of_row _ _ 0 _ _ _ (heap_alloc_new w _)
  have x0 := cell_alloc x0 (.cells #[.slice none 0 0] 32)
  have hC := Cpt.nil (T := 32) (TE := 39) (st := 3) (w.alloc (.cells #[.slice q l.length c] 24))
  have e1 : (w.alloc (.cells #[.slice q l.length c] 24)).heap.size = w.heap.size + 1 := by simp
  have e2 : ((w.alloc (.cells #[.slice q l.length c] 24)).alloc (.cells #[.slice none 0 0] 32)).heap.size = w.heap.size + 2 := by simp
  rw [e1] at hC
  have hokW : ∀ k, ok k → okS 0 (w.heap.size + 1) none ((w.alloc (.cells #[.slice q l.length c] 24)).alloc (.cells #[.slice none 0 0] 32)) k := fun k hk => ⟨Nat.zero_le _, Nat.lt_of_lt_of_le (hok k hk) hb2.size, by have := hok k hk; omega, fun e => by cases e⟩
  have hRW : RdF (okS 0 (w.heap.size + 1) none ((w.alloc (.cells #[.slice q l.length c] 24)).alloc (.cells #[.slice none 0 0] 32))) ((w.alloc (.cells #[.slice q l.length c] 24)).alloc (.cells #[.slice none 0 0] 32)) l (.agg #[.slice q l.length c]) := RdF.kept hR0 (fun k hk => hb2.block k (hok k hk)) hokW
  have hfW : okS 0 (w.heap.size + 1) none ((w.alloc (.cells #[.slice q l.length c] 24)).alloc (.cells #[.slice none 0 0] 32)) w.heap.size := ⟨Nat.zero_le _, by rw [e2]; omega, by omega, fun e => by cases e⟩
  have HX := hid hx
  have HN := hid hn
  have HMm := hid hm
  have HB := hid hb2
  clear hits hR0 hb1 e1 hb2 hx hn hm hok hokW
  go_enter Tryz.func15, Tryz.ntmps15
  go_wp2
  generalize (w.alloc (.cells #[.slice q l.length c] 24)).alloc (.cells #[.slice none 0 0] 32) = W at *
  go_loopw [10] (fun i wr => RelU (w.heap.size + 1) l W i wr) (fun i _ => upN l.length i)
  case atStart => exact ⟨0, Nat.zero_le _, rfl, none, hC, Stp.refl _ _ _⟩
  case round =>
    obtain ⟨k, hkl, rfl, D1, hC1, hS1⟩ := hrel
    clear hC
    by_cases hlt : k < l.length
    · have hR1 : RdF (okS 0 (w.heap.size + 1) D1 wr) wr l (.agg #[.slice q l.length c]) := RdF.kept hRW (okS.step hS1).1 (okS.step hS1).2
      have hR2 := hR1
      obtain ⟨q', c', hqq, _, hits⟩ := hR1
      injection hqq with hqq
      have hqq : Value.slice q l.length c = Value.slice q' l.length c' := by simpa using hqq
      injection hqq with hq1 hq2 hq3
      subst hq1 hq3
      clear hq2
      obtain ⟨g, rfl, hgo, hIs⟩ := hits (by omega)
      obtain ⟨e0, he0⟩ : ∃ e, l[k]? = some e := ⟨_, List.getElem?_eq_getElem hlt⟩
      obtain ⟨at_, it⟩ := e0
      obtain ⟨v, hcv, hI⟩ := hIs k _ he0
      obtain ⟨p1, c1, p2, c2, p3, c3, p4, c4, rfl, _⟩ := hI
      have i0 := hcv.get 0 _ rfl
      have i1 := hcv.get 1 _ rfl
      have i2 := hcv.get 2 _ rfl
      have i3 := hcv.get 3 _ rfl
      have i4 := hcv.get 4 _ rfl
      have i5 := hcv.get 5 _ rfl
      have i6 := hcv.get 6 _ rfl
      have i7 := hcv.get 7 _ rfl
      have i8 := hcv.get 8 _ rfl
      have i9 := hcv.get 9 _ rfl
      rw [Nat.add_zero] at i0
      have gk : (0 : Int) ≤ (k : Int) := by omega
      have gk1 : (k : Int) < (l.length : Int) := by omega
      have hkb : k < 1099511627776 := by omega
      have y0 := (okS_cell hS1 hfW 0).trans x0
      have hba := (Below.refl wr.heap.size wr).alloc (Nat.le_refl _) (.cells #[.int .i64 (it.k : Int), .string it.x, .int .i64 (it.l : Int), .slice p1 it.ps.length c1, .slice p2 it.ss.length c2, .slice p3 it.bd.length c3, .int .i64 at_, .int .i64 (it.sz : Int), .int .i64 (it.mrk : Int), .slice p4 it.ds.length c4] 50)
      obtain ⟨_, _, _, _, _, _, t6, _, _, _, _⟩ := ten_at (heap_alloc_new wr (.cells #[.int .i64 (it.k : Int), .string it.x, .int .i64 (it.l : Int), .slice p1 it.ps.length c1, .slice p2 it.ss.length c2, .slice p3 it.bd.length c3, .int .i64 at_, .int .i64 (it.sz : Int), .int .i64 (it.mrk : Int), .slice p4 it.ds.length c4] 50))
      have hlt1 := hC1.lt
      have hsa : Stp (w.heap.size + 1) D1 D1 wr _ := Stp.below hba
      have hC2 := hC1.kept (hba.block _ hlt1.1) (fun k e => hba.block _ (hlt1.2 k e).2)
      have hG : GU (w.heap.size + 1) (wr.heap.size + 1) wr.heap.size at_ (usE l k) (wr.alloc (.cells #[.int .i64 (it.k : Int), .string it.x, .int .i64 (it.l : Int), .slice p1 it.ps.length c1, .slice p2 it.ss.length c2, .slice p3 it.bd.length c3, .int .i64 at_, .int .i64 (it.sz : Int), .int .i64 (it.mrk : Int), .slice p4 it.ds.length c4] 50)) [] D1 := ⟨by simp, by simpa [usI, yesL] using hC2, t6, fun e => by have := (hlt1.2 _ e).2; omega⟩
      have HC := hid (nm_walk_any (lsnU (by omega) (by omega) (by omega) (HMm.out k hkl)) hG _ (RdF.kept hR2 (okS.step hsa).1 (okS.step hsa).2) k hlt HX.out (by rw [List.nil_append]; exact HN.out k hlt))
      rw [List.nil_append] at HC
      have HU := hid (usE_succ he0)
      have HL := hid hlt
      have z0 := cell_alloc y0
      have HS := hid (hS1.trans hsa)
      clear hits hIs hcv hlt hkl hba hsa hC2 hG hR2 he0 t6 hlt1
      go_wp2_with (first
        | (go_at_call 40; refine Calls.mono HC.out ?_; rintro e w2 ⟨rfl, D2, ⟨_, hC3, _, _⟩, hS2⟩))
      go_roundw
      case rel => exact ⟨k + 1, HL.out, by go_num, D2, by rw [HU.out]; exact hC3, HS.out.trans hS2⟩
      case measure => have := HL.out; simp [upN, intOf]; omega
    · obtain rfl : k = l.length := by omega
      obtain ⟨v2, k1, k2, k3⟩ := hC1
      have z2 : wr.cell? ⟨w.heap.size + 1, 0, none⟩ = some v2 := cell_of_row _ _ 0 _ _ _ k1
      clear hlt hkl
      go_wp2
      go_ret
      refine ⟨v2, rfl, own_base (base := w.heap.size + 1 + 1) (base' := w.heap.size) k2 (by omega), HB.out.trans ⟨hS1.os, hS1.tape, hS1.output, hS1.size, fun k hk => hS1.block k (by omega) (by omega) (fun e => by cases e)⟩⟩
end Go.Proofs.YtgifjkljpbbegaaGreatDoor
namespace Go.Proofs.YtgifjkljpbbegaaGreatDoor
theorem ext_in (s : ByteArray) (P Q a b : Nat) (hb : P + b ≤ Q) : (s.extract P Q).extract a b = s.extract (P + a) (P + b) := by
  apply ByteArray.ext
  simp only [ByteArray.data_extract, Array.extract_extract]
  congr 1
  omega
theorem tok_text (s : ByteArray) (t : Tok) (h : t ∈ tks s) : t.a + t.x.size ≤ s.size ∧ s.extract t.a (t.a + t.x.size) = t.x := by
  obtain ⟨k, hk⟩ := List.mem_iff_getElem?.1 h
  obtain ⟨_, h2, h3⟩ := tok_at s _ k t hk
  have hx : t.x = s.extract t.a (tnd s t.a) := congrArg Tok.x h3
  have h4 := tnd_gt s t.a h2
  have h5 := tnd_le s t.a h2
  have h6 : t.x.size = tnd s t.a - t.a := by rw [hx, ext_size' _ _ _ h5]
  rw [h6, show t.a + (tnd s t.a - t.a) = tnd s t.a by omega]
  exact ⟨h5, hx.symm⟩
theorem tkn_text {s x : ByteArray} {a : Nat} (h : tkn (tks s) x a) : 0 < x.size ∧ a + x.size ≤ s.size ∧ s.extract a (a + x.size) = x := by
  obtain ⟨h1, t, h2, rfl, rfl⟩ := h
  have := tok_text s t h2
  refine ⟨?_, this.1, this.2⟩
  unfold nmB wdB at h1
  simp at h1
  exact h1.1.1.1
theorem tkn_no {L : List Tok} {x : ByteArray} {a : Nat} (h : tkn L x a) : x ≠ noB := fun e => by rw [e] at h; have := h.1; rw [nm_none] at this; cases this
theorem tkn_size {L : List Tok} {x : ByteArray} {a : Nat} (h : tkn L x a) : x.size ≤ 12 := by
  have h1 := h.1
  unfold nmB wdB at h1
  simp at h1
  exact h1.1.1.2
/-- What is told of a name is right. -/
def EvOk (L : List Tok) (l : List (Int × It)) (p : Int) (ev : Ev) : Prop := ev.b = false → tkn L ev.x ev.a ∧ ((∃ d : Nat, ev.d = wI (p + (d : Int)) ∧ tkn L ev.x d) ∨ ∃ kd q, hit l kd ev.x = some q ∧ ev.d = wI (q.1 + (q.2.mrk : Int)))
def EnvOk (L : List Tok) (env : Env) : Prop := ∀ y d, envL env y = some d → tkn L y d
section
variable {L : List Tok} {l : List (Int × It)} {p : Int}
theorem EnvOk.nil : EnvOk L [] := fun y d h => by cases h
theorem EnvOk.mk {env : Env} (h : EnvOk L env) {x : ByteArray} {a : Nat} (hx : x = noB ∨ tkn L x a) : EnvOk L (scMk env x a) := by
  unfold scMk
  split
  · exact h
  · rename_i hn
    intro y d hy
    unfold envL at hy
    split at hy
    · rename_i e
      injection hy with hy
      subst e hy
      rcases hx with hx | hx
      · exact absurd hx hn
      · exact hx
    · exact h y d hy
theorem ok_local {env : Env} (he : EnvOk L env) {x : ByteArray} {a : Nat} (hx : tkn L x a) : ∀ ev ∈ evLocal p env x a, EvOk L l p ev := by
  unfold evLocal
  split
  · rename_i d h
    intro ev hev
    rw [List.mem_singleton] at hev
    subst hev
    exact fun _ => ⟨hx, .inl ⟨d, rfl, he x d h⟩⟩
  · intro ev hev
    rw [List.mem_singleton] at hev
    subst hev
    exact fun h => by cases h
theorem ok_no {e : Nat} {x : ByteArray} {a : Nat} : EvOk L l p (evNo e x a) := fun h => by cases h
theorem ok_item {kd : Nat} {x : ByteArray} {a : Nat} (hx : tkn L x a) : ∀ ev ∈ evItem l kd x a, EvOk L l p ev := by
  unfold evItem
  split
  · rename_i q h
    intro ev hev
    rw [List.mem_singleton] at hev
    subst hev
    exact fun _ => ⟨hx, .inr ⟨kd, q, h, rfl⟩⟩
  · intro ev hev
    rw [List.mem_singleton] at hev
    subst hev
    exact ok_no
theorem ok_call {x : ByteArray} {a n : Nat} (hx : tkn L x a) : ∀ ev ∈ evCall l x a n, EvOk L l p ev := by
  unfold evCall
  intro ev hev
  rcases List.mem_append.1 hev with h | h
  · exact ok_item hx ev h
  · split at h
    · split at h
      · exact absurd h (List.not_mem_nil)
      · rw [List.mem_singleton] at h; subst h; exact ok_no
    · exact absurd h (List.not_mem_nil)
theorem ok_chan {x : ByteArray} {a : Nat} (hx : x = noB ∨ tkn L x a) : ∀ ev ∈ evChan l x a, EvOk L l p ev := by
  unfold evChan
  split
  · exact fun ev h => absurd h (List.not_mem_nil)
  · rename_i hn
    exact ok_item (hx.resolve_left hn)
theorem ok_mk {env : Env} {x : ByteArray} {a : Nat} : ∀ ev ∈ evMk env x a, EvOk L l p ev := by
  unfold evMk
  intro ev hev
  split at hev
  · exact absurd hev (List.not_mem_nil)
  · split at hev
    · rw [List.mem_singleton] at hev; subst hev; exact ok_no
    · exact absurd hev (List.not_mem_nil)
/-- How many. -/
theorem len_local (env : Env) (x : ByteArray) (a : Nat) : (evLocal p env x a).length ≤ 1 := by unfold evLocal; split <;> simp
theorem len_item (kd : Nat) (x : ByteArray) (a : Nat) : (evItem l kd x a).length ≤ 1 := by unfold evItem; split <;> simp
theorem len_call (x : ByteArray) (a n : Nat) : (evCall l x a n).length ≤ 2 := by
  have := len_item (l := l) 2 x a
  unfold evCall
  rw [List.length_append]
  split
  · split <;> simp <;> omega
  · simp; omega
theorem len_chan (x : ByteArray) (a : Nat) : (evChan l x a).length ≤ 1 := by
  unfold evChan
  split
  · simp
  · exact len_item 1 x a
theorem len_mk (env : Env) (x : ByteArray) (a : Nat) : (evMk env x a).length ≤ 1 := by
  unfold evMk
  split
  · simp
  · split <;> simp
theorem ok_flat {P : Nat → Tr → Prop} {f : Tr → List Ev} (h : ∀ c a, P c a → (∀ ev ∈ f a, EvOk L l p ev) ∧ (f a).length ≤ 2 * c) : ∀ (al : List Tr) (c : Nat), wfL P c al → (∀ ev ∈ al.flatMap f, EvOk L l p ev) ∧ (al.flatMap f).length ≤ 2 * c := by
  intro al
  induction al with
  | nil => intro c _; exact ⟨fun ev h => absurd h (List.not_mem_nil), by simp⟩
  | cons a r ih =>
    intro c hl
    obtain ⟨c1, c2, h1, h2, h3⟩ := hl
    have ha := h c1 a h2
    have hr := ih c2 h3
    rw [List.flatMap_cons]
    refine ⟨fun ev hev => ?_, by rw [List.length_append]; omega⟩
    rcases List.mem_append.1 hev with hev | hev
    · exact ha.1 ev hev
    · exact hr.1 ev hev
theorem ok_expr (n : Nat) : ∀ (c : Nat) (e : Tr) (env : Env), EnvOk L env → wfE L n c e → (∀ ev ∈ evX l p env e, EvOk L l p ev) ∧ (evX l p env e).length ≤ 2 * c := by
  induction n with
  | zero => intro c e env _ h; exact h.elim
  | succ n ih =>
    intro c e env he h
    obtain ⟨k, x, m, al, f, t, rfl, h⟩ := h
    rw [evX_mk]
    rcases h with ⟨h1, h2, h3, h4⟩ | ⟨h1, h2, h3, h4⟩ | ⟨h1, h2, h3⟩ | ⟨h1, h2, c2, h3, h4⟩
    · rw [if_neg h1, if_neg h2, if_neg h3]
      exact ⟨fun ev h => absurd h (List.not_mem_nil), by simp⟩
    · rw [if_pos h1]
      have := len_local (p := p) env x f
      exact ⟨ok_local he h2, by omega⟩
    · rw [if_neg (by omega), if_pos h1]
      exact ok_flat (fun c a ha => ih c a env he ha) al c h3
    · rw [if_neg (by omega), if_neg (by omega), if_pos h1]
      have hf := ok_flat (fun c a ha => ih c a env he ha) al c2 h4
      have hl := len_call (l := l) x f al.length
      refine ⟨fun ev hev => ?_, by rw [List.length_append]; omega⟩
      rcases List.mem_append.1 hev with hev | hev
      · exact ok_call h2 ev hev
      · exact hf.1 ev hev
theorem ok_block {P : Nat → Tr → Prop} (h : ∀ c s env, EnvOk L env → P c s → EnvOk L (scS env s) ∧ (∀ ev ∈ evY l p env s, EvOk L l p ev) ∧ (evY l p env s).length ≤ 2 * c) : ∀ (al : List Tr) (c : Nat) (env : Env), EnvOk L env → wfL P c al → (∀ ev ∈ evB l p env al, EvOk L l p ev) ∧ (evB l p env al).length ≤ 2 * c := by
  intro al
  induction al with
  | nil => intro c env _ _; exact ⟨fun ev h => absurd h (List.not_mem_nil), by simp [evB_nil]⟩
  | cons a r ih =>
    intro c env he hl
    obtain ⟨c1, c2, h1, h2, h3⟩ := hl
    have ha := h c1 a env he h2
    have hr := ih c2 _ ha.1 h3
    rw [evB_cons]
    refine ⟨fun ev hev => ?_, by rw [List.length_append]; omega⟩
    rcases List.mem_append.1 hev with hev | hev
    · exact ha.2.1 ev hev
    · exact hr.1 ev hev
theorem ok_stmt (n : Nat) : ∀ (c : Nat) (s : Tr) (env : Env), EnvOk L env → wfS L n c s → EnvOk L (scS env s) ∧ (∀ ev ∈ evY l p env s, EvOk L l p ev) ∧ (evY l p env s).length ≤ 2 * c := by
  induction n with
  | zero => intro c e env _ h; exact h.elim
  | succ n ih =>
    intro c s env he h
    obtain ⟨k, x, a, lb, o, e, th, el, f, t, ce, ct, cl, rfl, ⟨m, hE⟩, hT, hX, hnm, hk2, hkx, _, _, _, _⟩ := h
    have hx : x = noB ∨ tkn L x a := by rcases hnm with h | h; exact .inl h.1; exact .inr h.1
    have h0 := ok_expr (l := l) (p := p) m ce e env he hE
    have hT := ok_block (fun c s env he h => ih c s env he h) th ct env he hT
    have hX := ok_block (fun c s env he h => ih c s env he h) el cl env he hX
    rw [evY_mk, scS_mk]
    refine ⟨?_, ?_⟩
    · split
      · exact he.mk hx
      · exact he
    · have key : ∀ (A : List Ev) (b : Nat), (∀ ev ∈ A, EvOk L l p ev) → A.length ≤ 2 * (c - ce) → (∀ ev ∈ evX l p env e ++ A, EvOk L l p ev) ∧ (evX l p env e ++ A).length ≤ 2 * c := by
        intro A _ h1 h2
        refine ⟨fun ev hev => ?_, ?_⟩
        · rcases List.mem_append.1 hev with hev | hev
          · exact h0.1 ev hev
          · exact h1 ev hev
        · rw [List.length_append]
          have : ce ≤ c := by rcases hnm with h | h <;> omega
          omega
      split
      · refine key _ 0 ok_mk ?_
        rcases hnm with h | h
        · unfold evMk; rw [if_pos h.1]; simp
        · have := len_mk env x a; omega
      · split
        · rename_i h2
          have hn := hk2 h2
          refine key _ 0 (ok_local he (hx.resolve_left hn)) ?_
          have := len_local (p := p) env x a
          rcases hnm with h | h
          · exact absurd h.1 hn
          · omega
        · split
          · refine key _ 0 (ok_chan hx) ?_
            rcases hnm with h | h
            · unfold evChan; rw [if_pos h.1]; simp
            · have := len_chan (l := l) x a; omega
          · split
            · refine key _ 0 (fun ev hev => ?_) ?_
              · rcases List.mem_append.1 hev with hev | hev
                · exact hT.1 ev hev
                · exact hX.1 ev hev
              · rw [List.length_append]
                rcases hnm with h | h <;> omega
            · split
              · refine key _ 0 hT.1 ?_
                rcases hnm with h | h <;> omega
              · refine key _ 0 (fun ev h => absurd h (List.not_mem_nil)) (by simp)
theorem ok_par : ∀ (ps : List Pm) (env : Env), (∀ q ∈ ps, q.x = noB ∨ tkn L q.x q.a) → EnvOk L env → EnvOk L (scP env ps) ∧ (∀ ev ∈ evP env ps, EvOk L l p ev) ∧ (evP env ps).length ≤ ps.length := by
  intro ps
  induction ps with
  | nil => intro env _ he; exact ⟨he, fun ev h => absurd h (List.not_mem_nil), Nat.le_refl _⟩
  | cons q r ih =>
    intro env hq he
    have h1 := he.mk (hq q (List.mem_cons_self))
    obtain ⟨i1, i2, i3⟩ := ih (scMk env q.x q.a) (fun q h => hq q (List.mem_cons_of_mem _ h)) h1
    refine ⟨i1, fun ev hev => ?_, ?_⟩
    · unfold evP at hev
      rcases List.mem_append.1 hev with hev | hev
      · exact ok_mk ev hev
      · exact i2 ev hev
    · unfold evP
      have := len_mk env q.x q.a
      rw [List.length_append, List.length_cons]
      omega
theorem ok_send (ss : List Rf) (hs : ∀ q ∈ ss, q.x = noB ∨ tkn L q.x q.a) (k : Nat) : (∀ ev ∈ evSk l ss k, EvOk L l p ev) ∧ (evSk l ss k).length ≤ 2 * k := by
  induction k with
  | zero => exact ⟨fun ev h => absurd h (List.not_mem_nil), Nat.le_refl _⟩
  | succ k ih =>
    have hd : (∀ ev ∈ evSd l ss k, EvOk L l p ev) ∧ (evSd l ss k).length ≤ 2 := by
      unfold evSd
      split
      · exact ⟨fun ev h => absurd h (List.not_mem_nil), by simp⟩
      · rename_i r hr
        have h1 := ok_chan (l := l) (p := p) (hs r (List.mem_of_getElem? hr))
        have h2 := len_chan (l := l) r.x r.a
        refine ⟨fun ev hev => ?_, ?_⟩
        · rcases List.mem_append.1 hev with hev | hev
          · exact h1 ev hev
          · split at hev
            · rw [List.mem_singleton] at hev; subst hev; exact ok_no
            · exact absurd hev (List.not_mem_nil)
        · rw [List.length_append]
          split
          · rw [List.length_singleton]; omega
          · simp; omega
    unfold evSk
    refine ⟨fun ev hev => ?_, by rw [List.length_append]; omega⟩
    rcases List.mem_append.1 hev with hev | hev
    · exact ih.1 ev hev
    · exact hd.1 ev hev
end
/-- Of an item that was read. -/
theorem ok_it {L : List Tok} {l : List (Int × It)} {i : Nat} {q : Int × It} (h : l[i]? = some q) (hw : WfI L q.2) : (∀ ev ∈ evI l i, EvOk L l q.1 ev) ∧ (evI l i).length ≤ 22 + 2 * L.length := by
  obtain ⟨n, hb⟩ := hw.bd
  obtain ⟨a1, a2, a3⟩ := ok_par (l := l) (p := q.1) q.2.ps [] hw.ps EnvOk.nil
  obtain ⟨s1, s2⟩ := ok_send (l := l) (p := q.1) q.2.ss hw.ss q.2.ss.length
  obtain ⟨b1, b2⟩ := ok_block (fun c s env he h => ok_stmt (l := l) (p := q.1) n c s env he h) q.2.bd L.length _ a1 hb
  have e1 := hw.pn
  have e2 := hw.sn
  unfold evI
  rw [h]
  simp only
  have hF : (∀ ev ∈ evF l q.1 q.2, EvOk L l q.1 ev) ∧ (evF l q.1 q.2).length ≤ 21 + 2 * L.length := by
    unfold evF
    refine ⟨fun ev hev => ?_, by rw [List.length_append, List.length_append]; omega⟩
    rcases List.mem_append.1 hev with hev | hev
    · rcases List.mem_append.1 hev with hev | hev
      · exact a2 ev hev
      · exact s1 ev hev
    · exact b1 ev hev
  refine ⟨fun ev hev => ?_, ?_⟩
  · rcases List.mem_append.1 hev with hev | hev
    · split at hev
      · rw [List.mem_singleton] at hev; subst hev; exact ok_no
      · exact absurd hev (List.not_mem_nil)
    · split at hev
      · exact hF.1 ev hev
      · exact absurd hev (List.not_mem_nil)
  · rw [List.length_append]
    split <;> split <;> simp only [List.length_singleton, List.length_nil] <;> omega
theorem itI_wf (s : ByteArray) (i : Nat) : WfI (tks (txI s i)) (itI s i) := itm_wf (txI s i)
theorem txI_len (s : ByteArray) (i : Nat) : (tks (txI s i)).length ≤ s.size := by
  have h1 := tks_len (txI s i)
  have h2 : (txI s i).size ≤ s.size := by
    unfold txI
    have := cn_le s (i + 1)
    rw [ext_size' _ _ _ this]
    omega
  omega
theorem fil_mem {s : ByteArray} {q : Int × It} (h : q ∈ fil s) : ∃ i, i < (cts s).length ∧ q = ((cn s i : Int), itI s i) := by
  unfold fil at h
  obtain ⟨i, h1, h2⟩ := List.mem_map.1 h
  exact ⟨i, List.mem_range.1 h1, h2.symm⟩
theorem fil_ev (s : ByteArray) (i : Nat) (hi : i < (cts s).length) : (∀ ev ∈ evI (fil s) i, EvOk (tks (txI s i)) (fil s) (cn s i : Int) ev) ∧ (evI (fil s) i).length ≤ 22 + 2 * s.size := by
  have hg := fil_get s i hi
  have hw := itI_wf s i
  have hl := txI_len s i
  generalize itI s i = it at hg hw
  generalize tks (txI s i) = T at hw hl ⊢
  have h := ok_it hg hw
  exact ⟨h.1, by have := h.2; omega⟩
theorem fil_sends (s : ByteArray) : ∀ e ∈ fil s, ∀ r ∈ e.2.ss, r.x.size ≤ 1000000 := by
  intro e he r hr
  obtain ⟨i, _, rfl⟩ := fil_mem he
  rcases (itI_wf s i).ss r hr with h | h
  · rw [h]; decide
  · have := tkn_size h; omega
theorem usE_len (s : ByteArray) (k : Nat) : (usE (fil s) k).length ≤ k * (22 + 2 * s.size) := by
  induction k with
  | zero => simp [usE]
  | succ k ih =>
    unfold usE
    rw [List.length_append, Nat.succ_mul]
    rcases Nat.lt_or_ge k (cts s).length with h | h
    · rw [fil_get s k h]
      have := usI_le (cn s k : Int) (evI (fil s) k)
      have := (fil_ev s k h).2
      simp only
      omega
    · rw [List.getElem?_eq_none (by rw [fil_len]; exact h)]
      simp only [List.length_nil]
      omega
/-- A use stands in the text, and so does what it means. -/
def UsOk (s : ByteArray) (u : Int × Ev) : Prop := ∃ P d : Nat, u.1 = (P : Int) ∧ u.2.d = (d : Int) ∧ 0 < u.2.x.size ∧ P + u.2.a + u.2.x.size ≤ s.size ∧ d + u.2.x.size ≤ s.size ∧ s.extract (P + u.2.a) (P + u.2.a + u.2.x.size) = u.2.x ∧ s.extract d (d + u.2.x.size) = u.2.x
theorem wI_id {x : Int} (h1 : -9223372036854775808 ≤ x) (h2 : x ≤ 9223372036854775807) : wI x = x := by unfold wI; simp [IntKind.wrap, IntKind.signed, IntKind.bits]; omega
theorem tx_text (s : ByteArray) (i : Nat) {x : ByteArray} {a : Nat} (h : tkn (tks (txI s i)) x a) : cn s i + a + x.size ≤ s.size ∧ s.extract (cn s i + a) (cn s i + a + x.size) = x := by
  obtain ⟨h1, h2, h3⟩ := tkn_text h
  have e1 := cn_le s (i + 1)
  have e2 : (txI s i).size = cn s (i + 1) - cn s i := by unfold txI; exact ext_size' _ _ _ e1
  have e3 : cn s i + (a + x.size) ≤ cn s (i + 1) := by omega
  unfold txI at h3
  rw [ext_in s (cn s i) (cn s (i + 1)) a (a + x.size) e3] at h3
  exact ⟨by omega, by rw [Nat.add_assoc]; exact h3⟩
theorem hit_nm {l : List (Int × It)} {kd : Nat} {x : ByteArray} {q : Int × It} (h : hit l kd x = some q) : q ∈ l ∧ q.2.x = x ∧ q.2.k = kd := by
  unfold hit fnd at h
  by_cases hx : x = noB
  · rw [if_pos hx, if_pos (by decide)] at h
    cases h
  · rw [if_neg hx] at h
    unfold fidx at h
    cases hi : l.findIdx? (fun e => isIt kd x e.2) with
    | none => rw [hi, if_pos (by decide)] at h; cases h
    | some i =>
      rw [hi] at h
      simp only at h
      rw [if_neg (by omega), Int.toNat_natCast] at h
      obtain ⟨g1, g2, _⟩ := List.findIdx?_eq_some_iff_getElem.1 hi
      rw [List.getElem?_eq_getElem g1] at h
      injection h with h
      subst h
      unfold isIt at g2
      simp at g2
      exact ⟨List.getElem_mem g1, g2.2, by omega⟩
theorem fil_us (s : ByteArray) (hs : s.size ≤ 4000) (k : Nat) : ∀ u ∈ usE (fil s) k, UsOk s u := by
  induction k with
  | zero => intro u h; exact absurd h (List.not_mem_nil)
  | succ k ih =>
    intro u hu
    unfold usE at hu
    rcases List.mem_append.1 hu with hu | hu
    · exact ih u hu
    · rcases Nat.lt_or_ge k (cts s).length with hk | hk
      · rw [fil_get s k hk] at hu
        simp only at hu
        unfold usI yesL at hu
        obtain ⟨ev, h1, rfl⟩ := List.mem_map.1 hu
        obtain ⟨h2, h3⟩ := List.mem_filter.1 h1
        have hb : ev.b = false := by simpa using h3
        obtain ⟨g1, g2⟩ := (fil_ev s k hk).1 ev h2 hb
        obtain ⟨t1, t2⟩ := tx_text s k g1
        have t0 := (tkn_text g1).1
        rcases g2 with ⟨d, e1, e2⟩ | ⟨kd, q, e1, e2⟩
        · obtain ⟨r1, r2⟩ := tx_text s k e2
          refine ⟨cn s k, cn s k + d, rfl, ?_, t0, t1, r1, t2, r2⟩
          show ev.d = _
          rw [e1, wI_id (by omega) (by omega)]
          simp
        · obtain ⟨m1, m2, _⟩ := hit_nm e1
          obtain ⟨j, hj, rfl⟩ := fil_mem m1
          have hw := (itI_wf s j).nm
          simp only at m2 e2
          rw [m2] at hw
          have hw := hw.resolve_left (tkn_no g1)
          obtain ⟨r1, r2⟩ := tx_text s j hw
          refine ⟨cn s k, cn s j + (itI s j).mrk, rfl, ?_, t0, t1, r1, t2, r2⟩
          show ev.d = _
          rw [e2, wI_id (by omega) (by omega)]
          simp
      · rw [List.getElem?_eq_none (by rw [fil_len]; exact hk)] at hu
        exact absurd hu (List.not_mem_nil)
end Go.Proofs.YtgifjkljpbbegaaGreatDoor
namespace Go.Proofs.YtgifjkljpbbegaaGreatDoor
open Go.RowKit
attribute [local go_sem ↓] Go.wp_at_zero Go.wp_at_succ
/-- A row of parts is a slice of them. -/
theorem row_read {α : Type} {c : α → List Value} {us : List α} {w : World} {base st : Nat} {TE : TypeId} {v : Value} (hc : ∀ a, (c a).length = st) (h : w.ownsRow base TE st v us.length (us.flatMap c)) : ∃ p cap, v = .slice p us.length cap ∧ (0 < us.length → ∃ g, p = some ⟨g, 0, none⟩ ∧ (base ≤ g ∧ g < w.heap.size) ∧ FlAt w g st c us) := by
  have hcells : ∀ g, v.ownBlock = some g → ∀ j u, (us.flatMap c)[j]? = some u → w.cell? ((⟨g, 0, none⟩ : Addr).add j) = some u := fun g hg => h.cells hg
  have hlt := fun g e => h.lt g e
  obtain ⟨_, ⟨rfl, h0⟩ | ⟨g, cap, cur, rfl, hb, hg, hcap, _⟩⟩ := h
  · exact ⟨none, 0, by rw [h0], fun hl => by omega⟩
  · have e : ∀ i, (⟨g, 0, none⟩ : Addr).add i = ⟨g, i, none⟩ := by intro i; simp only [Addr.add, Nat.zero_add]; split <;> simp_all
    refine ⟨_, cap, rfl, fun _ => ⟨g, rfl, hlt g rfl, fun j t hj i u hi => ?_⟩⟩
    have hfl : (us.flatMap c)[j * st + i]? = some u := by
      have := flat_at (vs := us.map c) (st := st) (fun x hx => by obtain ⟨a, _, rfl⟩ := List.mem_map.1 hx; exact hc a) j (c t) (by rw [List.getElem?_map, hj]; rfl) i u hi
      exact this
    have := hcells g rfl _ _ hfl
    rwa [e] at this
def frU (u : Int × Ev) : Int := wI (u.1 + (u.2.a : Int))
def toU (u : Int × Ev) : Int := wI (frU u + (u.2.x.size : Int))
theorem uvC_eq (u : Int × Ev) : uvC u = [.int .i64 (frU u), .int .i64 (toU u), .int .i64 u.2.d] := rfl
def inU (at_ : Int) (u : Int × Ev) : Bool := decide (frU u ≤ at_) && decide (at_ < toU u)
def atR (us : List (Int × Ev)) (at_ : Int) : Value := match us.find? (inU at_) with
  | some u => .tuple #[.agg #[.int .i64 (frU u), .int .i64 (toU u), .int .i64 u.2.d], .bool true]
  | none => .tuple #[.agg #[.int .i64 0, .int .i64 0, .int .i64 0], .bool false]
theorem three_at {w1 : World} {b : Nat} {u0 u1 u2 : Value} {t : TypeId} (h : w1.heap[b]? = some (.cells #[u0, u1, u2] t (0, 0))) : w1.cell? ⟨b, 0, none⟩ = some u0 ∧ w1.cell? ⟨b, 1, none⟩ = some u1 ∧ w1.cell? ⟨b, 2, none⟩ = some u2 ∧ ∀ o, w1.frozen? ⟨b, o, none⟩ = false :=
  ⟨cell_of_row _ _ _ _ _ _ h, cell_of_row _ _ _ _ _ _ h, cell_of_row _ _ _ _ _ _ h, fun o => by simp [World.frozen?, h]⟩
def RelAt (us : List (Int × Ev)) (at_ : Int) (W : World) (i : Value) (wr : World) : Prop := ∃ k : Nat, k ≤ us.length ∧ i = .int .i64 (k : Int) ∧ (∀ j u, j < k → us[j]? = some u → inU at_ u = false) ∧ Below W.heap.size W wr
theorem find_hit {us : List (Int × Ev)} {at_ : Int} {k : Nat} {u : Int × Ev} (h : ∀ j u, j < k → us[j]? = some u → inU at_ u = false) (hk : us[k]? = some u) (hu : inU at_ u = true) : us.find? (inU at_) = some u := by
  obtain ⟨h1, h2⟩ := List.getElem?_eq_some_iff.1 hk
  rw [List.find?_eq_some_iff_getElem]
  refine ⟨hu, k, h1, h2, fun j hj => ?_⟩
  have := h j us[j] hj (List.getElem?_eq_getElem (by omega))
  simp [this]
theorem find_miss {us : List (Int × Ev)} {at_ : Int} (h : ∀ j u, j < us.length → us[j]? = some u → inU at_ u = false) : us.find? (inU at_) = none := by
  rw [List.find?_eq_none]
  intro x hx
  obtain ⟨j, hj⟩ := List.mem_iff_getElem?.1 hx
  simp [h j x (List.getElem?_eq_some_iff.1 hj).1 hj]
set_option maxHeartbeats 2000000 in
set_option maxRecDepth 100000 in
theorem At_any (l : List (Int × It)) (fv : Value) (w : World) (ok : Nat → Prop) (hok : ∀ k, ok k → k < w.heap.size) (hR : RdF ok w l fv) (hx : ∀ e ∈ l, ∀ r ∈ e.2.ss, r.x.size ≤ 1000000) (hn : ∀ i, i < l.length → (evI l i).length < 1099511627776) (hm : ∀ k, k ≤ l.length → (usE l k).length ≤ 1099511627776) (at_ : Int) :
    Calls Tryz.prog 17 #[fv, .int .i64 at_] w fun e w' => e = .returned (atR (usE l l.length) at_) ∧ Below w.heap.size w w' := by
  have hR0 := hR
  obtain ⟨q, c, rfl, hlen, _⟩ := hR
  have hb1 := (Below.refl w.heap.size w).alloc (Nat.le_refl _) (.cells #[.slice q l.length c] 24)
  have hb2 := hb1.alloc (by simp) (.cells #[.int .i64 0, .int .i64 0, .int .i64 0] 39)
  have hnw := heap_alloc_new (w.alloc (.cells #[.slice q l.length c] 24)) (.cells #[.int .i64 0, .int .i64 0, .int .i64 0] 39)
  have e1 : (w.alloc (.cells #[.slice q l.length c] 24)).heap.size = w.heap.size + 1 := by simp
  have e2 : ((w.alloc (.cells #[.slice q l.length c] 24)).alloc (.cells #[.int .i64 0, .int .i64 0, .int .i64 0] 39)).heap.size = w.heap.size + 2 := by simp
  rw [e1] at hnw
  have HU := hid (Uses_any l _ ((w.alloc (.cells #[.slice q l.length c] 24)).alloc (.cells #[.int .i64 0, .int .i64 0, .int .i64 0] 39)) ok (fun k hk => Nat.lt_of_lt_of_le (hok k hk) hb2.size) (RdF.kept hR0 (fun k hk => hb2.block k (hok k hk)) (fun _ h => h)) hx hn hm)
  have hlu := hm l.length (Nat.le_refl _)
  have HB := hid hb2
  clear hR0 hb1 hb2 e1 hx hn hm hok
  generalize usE l l.length = us at *
  generalize hr : atR us at_ = r
  have HR := hid hr
  clear hr
  go_enter Tryz.func17, Tryz.ntmps17
  go_wp2_with (first
    | (go_at_call 15; refine Calls.mono HU.out ?_; rintro e w1 ⟨v, rfl, hrow, hb3⟩; obtain ⟨pu, cu, hv, hits⟩ := row_read (fun a => by rw [uvC_eq]; rfl) hrow; subst hv; clear hrow))
  have hn1 := (hb3.block (w.heap.size + 1) (by rw [e2]; omega)).trans hnw
  have hB1 := HB.out.trans (hb3.mono HB.out.size)
  have hsz1 : w.heap.size + 2 ≤ w1.heap.size := by have := hb3.size; omega
  clear hnw e2
  go_loopw [11] (fun i wr => RelAt us at_ w1 i wr) (fun i _ => upN us.length i)
  case atStart => exact ⟨0, Nat.zero_le _, rfl, fun j u h => by omega, Below.refl _ _⟩
  case round =>
    obtain ⟨k, hkl, rfl, hno, hbr⟩ := hrel
    have hszr := hbr.size
    obtain ⟨r0, r1, r2, rf⟩ := three_at ((hbr.block (w.heap.size + 1) (by omega)).trans hn1)
    have hBr := hB1.trans (hbr.mono hB1.size)
    by_cases hlt : k < us.length
    · obtain ⟨g, hpg, hg, hF⟩ := hits (by omega)
      subst hpg
      obtain ⟨u, hu⟩ : ∃ u, us[k]? = some u := ⟨_, List.getElem?_eq_getElem hlt⟩
      have hcg : ∀ o, wr.cell? ⟨g, o, none⟩ = w1.cell? ⟨g, o, none⟩ := fun o => World.cell?_of_block (a := ⟨g, o, none⟩) (hbr.block g hg.2)
      have d0 := (hcg (k * 3 + 0)).trans (hF k u hu 0 (.int .i64 (frU u)) rfl)
      have d1 := (hcg (k * 3 + 1)).trans (hF k u hu 1 (.int .i64 (toU u)) rfl)
      have d2 := (hcg (k * 3 + 2)).trans (hF k u hu 2 (.int .i64 u.2.d) rfl)
      rw [Nat.add_zero] at d0
      have gk : (0 : Int) ≤ (k : Int) := by omega
      have gk1 : (k : Int) < (us.length : Int) := by omega
      have hkb : k < 1099511627776 := by omega
      have HL := hid hlt
      have HE := hid hu
      have HNO := hid hno
      have q0 := cell_alloc r0
      have q1 := cell_alloc r1
      have q2 := cell_alloc r2
      have qf : ∀ (o : Obj) (j : Nat), (wr.alloc o).frozen? ⟨w.heap.size + 1, j, none⟩ = false := fun o j => (World.frozen?_of_block (a := ⟨w.heap.size + 1, j, none⟩) (Below.heap_alloc wr o (w.heap.size + 1) (by omega))).trans (rf j)
      have hinU : inU at_ u = (decide (frU u ≤ at_) && decide (at_ < toU u)) := rfl
      generalize hF0 : frU u = F0 at *
      generalize hT0 : toU u = T0 at *
      generalize hD0 : u.2.d = D0 at *
      have HFT := hid (And.intro hF0 (And.intro hT0 hD0))
      clear hits hF hcg hu hno hlt hkl hF0 hT0 hD0
      by_cases h1 : F0 ≤ at_
      · by_cases h2 : at_ < T0
        · have hit : inU at_ u = true := by rw [hinU]; simp [h1, h2]
          have hres : r = .tuple #[.agg #[.int .i64 F0, .int .i64 T0, .int .i64 D0], .bool true] := by
            rw [← HR.out]; unfold atR; rw [find_hit HNO.out HE.out hit]; simp only [HFT.out.1, HFT.out.2.1, HFT.out.2.2]
          have HRES := hid hres
          clear hit hres hinU
          go_wp2
          exact bodyPost_ret (v := .tuple #[.agg #[.int .i64 F0, .int .i64 T0, .int .i64 D0], .bool true]) (by simp [results, Tryz.results17, go_sem, q0, q1, q2]) rfl ⟨by rw [HRES.out], (((hBr.alloc (by omega) _).setCell (by simp) _).setCell (by simp) _).setCell (by simp) _⟩
        · have hit : inU at_ u = false := by rw [hinU]; simp [h2]
          have HIT := hid hit
          clear hit hinU
          go_wp2
          go_roundw
          case rel =>
            refine ⟨k + 1, by have := HL.out; omega, by go_num, fun j f hj hf => ?_, hbr.alloc hbr.size _⟩
            rcases Nat.lt_or_ge j k with h | h
            · exact HNO.out j f h hf
            · obtain rfl : j = k := by omega
              rw [HE.out] at hf
              injection hf with hf
              rw [← hf]
              exact HIT.out
          case measure => have := HL.out; simp [upN, intOf]; omega
      · have hit : inU at_ u = false := by rw [hinU]; simp [h1]
        have HIT := hid hit
        clear hit hinU
        go_wp2
        go_roundw
        case rel =>
          refine ⟨k + 1, by have := HL.out; omega, by go_num, fun j f hj hf => ?_, hbr.alloc hbr.size _⟩
          rcases Nat.lt_or_ge j k with h | h
          · exact HNO.out j f h hf
          · obtain rfl : j = k := by omega
            rw [HE.out] at hf
            injection hf with hf
            rw [← hf]
            exact HIT.out
        case measure => have := HL.out; simp [upN, intOf]; omega
    · obtain rfl : k = us.length := by omega
      have hres : r = .tuple #[.agg #[.int .i64 0, .int .i64 0, .int .i64 0], .bool false] := by
        rw [← HR.out]; unfold atR; rw [find_miss hno]
      have HRES := hid hres
      clear hres hlt hkl hno
      go_wp2
      exact bodyPost_ret (v := .tuple #[.agg #[.int .i64 0, .int .i64 0, .int .i64 0], .bool false]) (by simp [results, Tryz.results17, go_sem, r0, r1, r2]) rfl ⟨by rw [HRES.out], ((hBr.setCell (by simp) _).setCell (by simp) _).setCell (by simp) _⟩
end Go.Proofs.YtgifjkljpbbegaaGreatDoor
namespace Go.Proofs.YtgifjkljpbbegaaGreatDoor
open Go.RowKit
attribute [local go_sem ↓] Go.wp_at_zero Go.wp_at_succ
/-- fn f, of x. -/
def alU : ByteArray := ⟨#[102, 110, 32, 102, 40, 120, 58, 32, 123, 125, 41, 58, 32, 123, 125, 32, 123, 32, 108, 101, 116, 32, 121, 32, 61, 32, 120, 59, 32, 121, 32, 61, 32, 102, 40, 121, 41, 59, 32, 125]⟩
theorem alU_err : flE alU = 0 := by decide +kernel
def alI : It := ⟨2, ⟨#[102]⟩, 0, [⟨⟨#[120]⟩, 0, 5⟩], [], [stMk 1 ⟨#[121]⟩ 22 0 true (exMk 2 ⟨#[120]⟩ 0 [] 26 27) [] [] 18 28, stMk 2 ⟨#[121]⟩ 29 0 false (exMk 4 ⟨#[102]⟩ 0 [exMk 2 ⟨#[121]⟩ 0 [] 35 36] 33 37) [] [] 29 38], 40, 3, []⟩
theorem alU_fil : fil alU = [(0, alI)] := by kernel_rfl
def alE : List Ev := [evYes ⟨#[120]⟩ 26 5, evYes ⟨#[102]⟩ 33 3, evYes ⟨#[121]⟩ 35 22, evYes ⟨#[121]⟩ 29 22]
theorem eqM {α : Type} {a b : α} (h : a = b) : a = b := h
theorem alU_ev : evI [(0, alI)] 0 = alE := by
  have h1 : evI [(0, alI)] 0 = evF [(0, alI)] 0 alI := by kernel_rfl
  have h2 : evF [(0, alI)] 0 alI = evP [] [⟨⟨#[120]⟩, 0, 5⟩] ++ evSk [(0, alI)] [] 0 ++ evB [(0, alI)] 0 (scP [] [⟨⟨#[120]⟩, 0, 5⟩]) [stMk 1 ⟨#[121]⟩ 22 0 true (exMk 2 ⟨#[120]⟩ 0 [] 26 27) [] [] 18 28, stMk 2 ⟨#[121]⟩ 29 0 false (exMk 4 ⟨#[102]⟩ 0 [exMk 2 ⟨#[121]⟩ 0 [] 35 36] 33 37) [] [] 29 38] := rfl
  rw [h1, h2]
  clear h1 h2
  rw [evB_cons, evB_cons, evB_nil, evY_mk, evY_mk, evX_mk, evX_mk, List.flatMap_cons, List.flatMap_nil, evX_mk, scS_mk]
  refine eqM ?_
  kernel_rfl
theorem alU_us : usE [(0, alI)] 1 = alE.map (fun e => ((0 : Int), e)) := by
  have h : usE [(0, alI)] 1 = [] ++ usI 0 (evI [(0, alI)] 0) := rfl
  rw [h, alU_ev]
  refine eqM ?_
  kernel_rfl
theorem alU_x : ∀ e ∈ [((0 : Int), alI)], ∀ r ∈ e.2.ss, r.x.size ≤ 1000000 := by
  intro e he r hr
  rw [List.mem_singleton] at he
  subst he
  exact absurd hr (List.not_mem_nil)
theorem alU_n : ∀ i, i < [((0 : Int), alI)].length → (evI [(0, alI)] i).length < 1099511627776 := by
  intro i hi
  obtain rfl : i = 0 := by simpa using hi
  rw [alU_ev]
  decide
theorem alU_m : ∀ k, k ≤ [((0 : Int), alI)].length → (usE [(0, alI)] k).length ≤ 1099511627776 := by
  intro k hk
  have hk : k ≤ 1 := hk
  rcases Nat.lt_or_ge k 1 with h | h
  · obtain rfl : k = 0 := by omega
    decide
  · obtain rfl : k = 1 := by omega
    rw [alU_us]
    decide
/-- What is asked of it. -/
theorem alU_calls (W : World) (p : Option Addr) (c : Nat) (ok : Nat → Prop) (hok : ∀ k, ok k → k < W.heap.size) (hR : RdF ok W [(0, alI)] (.agg #[.slice p 1 c])) :
    (Calls Tryz.prog 17 #[.agg #[.slice p 1 c], .int .i64 26] W fun e w' => e = .returned (.tuple #[.agg #[.int .i64 26, .int .i64 27, .int .i64 5], .bool true]) ∧ Below W.heap.size W w') ∧
    (Calls Tryz.prog 15 #[.agg #[.slice p 1 c]] W fun e w' => ∃ q d, e = .returned (.slice q 4 d) ∧ Below W.heap.size W w') ∧
    (Calls Tryz.prog 13 #[.agg #[.slice p 1 c], .int .i64 0] W fun e w' => ∃ q d, e = .returned (.slice q 0 d) ∧ Below W.heap.size W w') ∧
    (Calls Tryz.prog 10 #[.agg #[.slice p 1 c], .int .i64 2, .string ⟨#[102]⟩] W fun e w' => e = .returned (.int .i64 0) ∧ Below W.heap.size W w') := by
  refine ⟨?_, ?_, ?_, ?_⟩
  · refine (At_any _ _ W ok hok hR alU_x alU_n alU_m 26).mono ?_
    rintro e w' ⟨rfl, hb⟩
    refine ⟨?_, hb⟩
    show Ending.returned (atR (usE [(0, alI)] 1) 26) = _
    rw [alU_us]
    refine eqM ?_
    kernel_rfl
  · refine (Uses_any _ _ W ok hok hR alU_x alU_n alU_m).mono ?_
    rintro e w' ⟨v, rfl, hrow, hb⟩
    obtain ⟨q, d, rfl⟩ := own_len hrow
    refine ⟨q, d, ?_, hb⟩
    show Ending.returned (.slice q (usE [(0, alI)] 1).length d) = _
    rw [alU_us]
    rfl
  · refine (Diags_any _ _ W ok hok hR 0 (by decide) alU_x (alU_n 0 (by decide))).mono ?_
    rintro e w' ⟨v, rfl, hrow, hb⟩
    obtain ⟨q, d, rfl⟩ := own_len hrow
    refine ⟨q, d, ?_, hb⟩
    show Ending.returned (.slice q (noL (evI [(0, alI)] 0)).length d) = _
    rw [alU_ev]
    rfl
  · refine (Find_any _ _ 2 ⟨#[102]⟩ W ok hok hR).mono ?_
    rintro e w' ⟨rfl, hb⟩
    refine ⟨?_, hb⟩
    refine eqM ?_
    kernel_rfl
theorem cell_on {w w' : World} (hb : Below w.heap.size w w') {a : Addr} {u : Value} (h : w.cell? a = some u) : w'.cell? a = some u := (hb.cell (World.block_lt_of_cell? w a h)).trans h
end Go.Proofs.YtgifjkljpbbegaaGreatDoor


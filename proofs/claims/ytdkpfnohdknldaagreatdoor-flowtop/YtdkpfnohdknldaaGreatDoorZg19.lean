/- Texts of this seat, one behind the other: NamHear, NamDiags, NamUses, NamGood, NamAt, LawAlive4. -/
import Derived.Test.YtdkpfnohdknldaaGreatDoorZg18
import Derived.Deep.AppendLies
import Derived.Test.YtdkpfnohdknldaaGreatDoorZg16
import Derived.Test.YtdkpfnohdknldaaGreatDoorZb01b
import Derived.Test.YtdkpfnohdknldaaGreatDoorZb12
namespace Go.Proofs.YtdkpfnohdknldaaGreatDoor
open Go.RowKit
attribute [local go_sem ↓] Go.wp_at_zero Go.wp_at_succ
def Cpt (T TE : TypeId) (st bo : Nat) (w : World) (xs : List Value) (n : Nat) (D : Option Nat) : Prop := ∃ v, w.heap[bo]? = some (.cells #[v] T (0, 0)) ∧ w.ownsRow (bo + 1) TE st v n xs ∧ v.ownBlock = D
section
variable {T TE : TypeId} {st bo : Nat} {w w' : World} {xs : List Value} {n : Nat} {D : Option Nat}
theorem Cpt.lt (h : Cpt T TE st bo w xs n D) : bo < w.heap.size ∧ ∀ k, some k = D → bo < k ∧ k < w.heap.size := by
 obtain ⟨v, h1, h2, h3⟩ := h
 exact ⟨(Array.getElem?_eq_some_iff.1 h1).1, fun k e => by have := h2.lt k (h3.trans e.symm); exact ⟨this.1, this.2⟩⟩
theorem Cpt.kept (h : Cpt T TE st bo w xs n D) (h0 : w'.heap[bo]? = w.heap[bo]?) (hD : ∀ k, some k = D → w'.heap[k]? = w.heap[k]?) : Cpt T TE st bo w' xs n D := by
 obtain ⟨v, h1, h2, h3⟩ := h
 exact ⟨v, h0.trans h1, own_kept h2 (fun g e => hD g (e.symm.trans h3)), h3⟩
theorem Cpt.nil (w : World) : Cpt T TE st w.heap.size (w.alloc (.cells #[.slice none 0 0] T)) [] 0 none := ⟨_, heap_alloc_new w _, World.ownsRow_nil _ _ _ _, rfl⟩
theorem Cpt.put {W w6 : World} {v : Value} {g cap : Nat} {c : List Value} (h1 : w.heap[bo]? = some (.cells #[v] T (0, 0))) (h2 : w.ownsRow (bo + 1) TE st v n xs) (hb : Below w.heap.size w W) (hown : w6.ownsRow (bo + 1) TE st (.slice (some ⟨g, 0, none⟩) (n + 1) cap) (n + 1) (xs ++ c)) (hgrow : W.grownBy w6 v.ownBlock) (hat : v.ownBlock = some g ∨ g = W.heap.size) :
  Cpt T TE st bo (w6.setCell ⟨bo, 0, none⟩ (.slice (some ⟨g, 0, none⟩) (n + 1) cap)) (xs ++ c) (n + 1) (some g) ∧ Stp bo v.ownBlock (some g) w (w6.setCell ⟨bo, 0, none⟩ (.slice (some ⟨g, 0, none⟩) (n + 1) cap)) := by
 have hbo : bo < w.heap.size := (Array.getElem?_eq_some_iff.1 h1).1
 have hne : some bo ≠ v.ownBlock := fun e => by have := (h2.lt bo e.symm).1; omega
 have hgg : bo + 1 ≤ g := (hown.lt g rfl).1
 have hW : ∀ k, k < w.heap.size → some k ≠ v.ownBlock → w6.heap[k]? = w.heap[k]? := fun k hk hn => (hgrow.block k (Nat.lt_of_lt_of_le hk hb.size) hn).trans (hb.block k hk)
 have hset : ∀ k, k ≠ bo → (w6.setCell ⟨bo, 0, none⟩ (.slice (some ⟨g, 0, none⟩) (n + 1) cap)).heap[k]? = w6.heap[k]? := fun k hk => Below.heap_setCell w6 _ _ k hk
 have hbb := (hW bo hbo hne).trans h1
 refine ⟨⟨.slice (some ⟨g, 0, none⟩) (n + 1) cap, by simp [World.setCell, Array.getElem?_modify, hbb], ownsRow_setCell_other hown (a := ⟨bo, 0, none⟩) (by simp [Value.ownBlock]; omega) _, rfl⟩, hgrow.os.trans hb.os, hgrow.tape.trans hb.tape, hgrow.output.trans hb.output, ?_, fun k hk hk2 hk3 => (hset k hk2).trans (hW k hk hk3), ?_⟩
 ·have := hgrow.size
  have := hb.size
  simp
  omega
 ·rcases hat with e | e
  ·exact .inl e.symm
  ·exact .inr ⟨g, rfl, by rw [e]; exact hb.size⟩
end
def dvC (e : Ev) : List Value := [.int .i64 (e.a : Int), .int .i64 (wI ((e.a : Int) + (e.x.size : Int))), .int .i64 (e.e : Int), .string e.x]
def noL (L : List Ev) : List Ev := L.filter (fun e => e.b)
def yesL (L : List Ev) : List Ev := L.filter (fun e => !e.b)
theorem noL_no (L : List Ev) (e : Nat) (x : ByteArray) (a : Nat) : noL (L ++ [evNo e x a]) = noL L ++ [evNo e x a] := by unfold noL; rw [List.filter_append]; rfl
theorem noL_yes (L : List Ev) (x : ByteArray) (a : Nat) (d : Int) : noL (L ++ [evYes x a d]) = noL L := by unfold noL; rw [List.filter_append]; exact List.append_nil _
theorem yesL_no (L : List Ev) (e : Nat) (x : ByteArray) (a : Nat) : yesL (L ++ [evNo e x a]) = yesL L := by unfold yesL; rw [List.filter_append]; exact List.append_nil _
theorem yesL_yes (L : List Ev) (x : ByteArray) (a : Nat) (d : Int) : yesL (L ++ [evYes x a d]) = yesL L ++ [evYes x a d] := by unfold yesL; rw [List.filter_append]; rfl
theorem noL_le (L : List Ev) : (noL L).length ≤ L.length := List.length_filter_le _ _
theorem yesL_le (L : List Ev) : (yesL L).length ≤ L.length := List.length_filter_le _ _
end Go.Proofs.YtdkpfnohdknldaaGreatDoor
namespace Go.Proofs.YtdkpfnohdknldaaGreatDoor
open Go.RowKit
attribute [local go_sem ↓] Go.wp_at_zero Go.wp_at_succ
end Go.Proofs.YtdkpfnohdknldaaGreatDoor
namespace Go.Proofs.YtdkpfnohdknldaaGreatDoor
open Go.RowKit
attribute [local go_sem ↓] Go.wp_at_zero Go.wp_at_succ
theorem Tryz.infoUse : (Tryz.prog.info? 167).map (fun i => (i.zero, i.size, i.bytes)) = some (some (.agg #[.int .i64 0, .int .i64 0, .int .i64 0]), 3, 24) := by kernel_rfl
def uvC (u : Int × Ev) : List Value := [.int .i64 (wI (u.1 + (u.2.a : Int))), .int .i64 (wI (wI (u.1 + (u.2.a : Int)) + (u.2.x.size : Int))), .int .i64 u.2.d]
def usI (p : Int) (L : List Ev) : List (Int × Ev) := (yesL L).map (fun e => (p, e))
section
variable {bo b0 bi : Nat} {p : Int} {X : List (Int × Ev)}
theorem usI_yes (p : Int) (L : List Ev) (x : ByteArray) (a : Nat) (d : Int) : usI p (L ++ [evYes x a d]) = usI p L ++ [(p, evYes x a d)] := by unfold usI; rw [yesL_yes, List.map_append]; rfl
theorem usI_no (p : Int) (L : List Ev) (e : Nat) (x : ByteArray) (a : Nat) : usI p (L ++ [evNo e x a]) = usI p L := by unfold usI; rw [yesL_no]
theorem usI_le (p : Int) (L : List Ev) : (usI p L).length ≤ L.length := by unfold usI; rw [List.length_map]; exact yesL_le L
end
end Go.Proofs.YtdkpfnohdknldaaGreatDoor

namespace Go.Proofs.YtdkpfnohdknldaaGreatDoor
theorem tkn_no {L : List Tok} {x : ByteArray} {a : Nat} (h : tkn L x a) : x ≠ noB := fun e => by rw [e] at h; have := h.1; rw [nm_none] at this; cases this
theorem tkn_size {L : List Tok} {x : ByteArray} {a : Nat} (h : tkn L x a) : x.size ≤ 12 := by
 have h1 := h.1
 unfold nmB wdB at h1
 simp at h1
 exact h1.1.1.2
def EvOk (L : List Tok) (l : List (Int × It)) (p : Int) (ev : Ev) : Prop := ev.b = false → tkn L ev.x ev.a ∧ ((∃ d : Nat, ev.d = wI (p + (d : Int)) ∧ tkn L ev.x d) ∨ ∃ kd q, hit l kd ev.x = some q ∧ ev.d = wI (q.1 + (q.2.mrk : Int)))
def EnvOk (L : List Tok) (env : Env) : Prop := ∀ y d, envL env y = some d → tkn L y d
section
variable {L : List Tok} {l : List (Int × It)} {p : Int}
theorem EnvOk.nil : EnvOk L [] := fun y d h => by cases h
theorem EnvOk.mk {env : Env} (h : EnvOk L env) {x : ByteArray} {a : Nat} (hx : x = noB ∨ tkn L x a) : EnvOk L (scMk env x a) := by
 unfold scMk
 split
 ·exact h
 ·rename_i hn
  intro y d hy
  unfold envL at hy
  split at hy
  ·rename_i e
   injection hy with hy
   subst e hy
   rcases hx with hx | hx
   ·exact absurd hx hn
   ·exact hx
  ·exact h y d hy
theorem ok_local {env : Env} (he : EnvOk L env) {x : ByteArray} {a : Nat} (hx : tkn L x a) : ∀ ev ∈ evLocal p env x a, EvOk L l p ev := by
 unfold evLocal
 split
 ·rename_i d h
  intro ev hev
  rw [List.mem_singleton] at hev
  subst hev
  exact fun _ => ⟨hx, .inl ⟨d, rfl, he x d h⟩⟩
 ·intro ev hev
  rw [List.mem_singleton] at hev
  subst hev
  exact fun h => by cases h
theorem ok_no {e : Nat} {x : ByteArray} {a : Nat} : EvOk L l p (evNo e x a) := fun h => by cases h
theorem ok_item {kd : Nat} {x : ByteArray} {a : Nat} (hx : tkn L x a) : ∀ ev ∈ evItem l kd x a, EvOk L l p ev := by
 unfold evItem
 split
 ·rename_i q h
  intro ev hev
  rw [List.mem_singleton] at hev
  subst hev
  exact fun _ => ⟨hx, .inr ⟨kd, q, h, rfl⟩⟩
 ·intro ev hev
  rw [List.mem_singleton] at hev
  subst hev
  exact ok_no
theorem ok_call {x : ByteArray} {a n : Nat} (hx : tkn L x a) : ∀ ev ∈ evCall l x a n, EvOk L l p ev := by
 unfold evCall
 intro ev hev
 rcases List.mem_append.1 hev with h | h
 ·exact ok_item hx ev h
 ·split at h
  ·split at h
   ·exact absurd h (List.not_mem_nil)
   ·rw [List.mem_singleton] at h; subst h; exact ok_no
  ·exact absurd h (List.not_mem_nil)
theorem ok_chan {x : ByteArray} {a : Nat} (hx : x = noB ∨ tkn L x a) : ∀ ev ∈ evChan l x a, EvOk L l p ev := by
 unfold evChan
 split
 ·exact fun ev h => absurd h (List.not_mem_nil)
 ·rename_i hn
  exact ok_item (hx.resolve_left hn)
theorem ok_mk {env : Env} {x : ByteArray} {a : Nat} : ∀ ev ∈ evMk env x a, EvOk L l p ev := by
 unfold evMk
 intro ev hev
 split at hev
 ·exact absurd hev (List.not_mem_nil)
 ·split at hev
  ·rw [List.mem_singleton] at hev; subst hev; exact ok_no
  ·exact absurd hev (List.not_mem_nil)
theorem len_local (env : Env) (x : ByteArray) (a : Nat) : (evLocal p env x a).length ≤ 1 := by unfold evLocal; split <;> simp
theorem len_item (kd : Nat) (x : ByteArray) (a : Nat) : (evItem l kd x a).length ≤ 1 := by unfold evItem; split <;> simp
theorem len_call (x : ByteArray) (a n : Nat) : (evCall l x a n).length ≤ 2 := by
 have := len_item (l := l) 2 x a
 unfold evCall
 rw [List.length_append]
 split
 ·split <;> simp <;> omega
 ·simp; omega
theorem len_chan (x : ByteArray) (a : Nat) : (evChan l x a).length ≤ 1 := by
 unfold evChan
 split
 ·simp
 ·exact len_item 1 x a
theorem len_mk (env : Env) (x : ByteArray) (a : Nat) : (evMk env x a).length ≤ 1 := by
 unfold evMk
 split
 ·simp
 ·split <;> simp
theorem ok_flat {P : Nat → Tr → Prop} {f : Tr → List Ev} (h : ∀ c a, P c a → (∀ ev ∈ f a, EvOk L l p ev) ∧ (f a).length ≤ 2 * c) : ∀ (al : List Tr) (c : Nat), wfL P c al → (∀ ev ∈ al.flatMap f, EvOk L l p ev) ∧ (al.flatMap f).length ≤ 2 * c := by
 intro al
 induction al with
 | nil => intro c _; exact ⟨fun ev h => absurd h (List.not_mem_nil), by simp⟩
 | cons a r ih =>
  intro c hl
  obtain ⟨c1, c2, h1, h2, h3⟩ := hl
  have ha := h c1 a h2
  have hr := ih c2 h3
  rw [List.flatMap_cons]
  refine ⟨fun ev hev => ?_, by rw [List.length_append]; omega⟩
  rcases List.mem_append.1 hev with hev | hev
  ·exact ha.1 ev hev
  ·exact hr.1 ev hev
theorem ok_expr (n : Nat) : ∀ (c : Nat) (e : Tr) (env : Env), EnvOk L env → wfE L n c e → (∀ ev ∈ evX l p env e, EvOk L l p ev) ∧ (evX l p env e).length ≤ 2 * c := by
 induction n with
 | zero => intro c e env _ h; exact h.elim
 | succ n ih =>
  intro c e env he h
  obtain ⟨k, x, m, al, f, t, rfl, h⟩ := h
  rw [evX_mk]
  rcases h with ⟨h1, h2, h3, h4⟩ | ⟨h1, h2, h3, h4⟩ | ⟨h1, h2, h3⟩ | ⟨h1, h2, c2, h3, h4⟩
  ·rw [if_neg h1, if_neg h2, if_neg h3]
   exact ⟨fun ev h => absurd h (List.not_mem_nil), by simp⟩
  ·rw [if_pos h1]
   have := len_local (p := p) env x f
   exact ⟨ok_local he h2, by omega⟩
  ·rw [if_neg (by omega), if_pos h1]
   exact ok_flat (fun c a ha => ih c a env he ha) al c h3
  ·rw [if_neg (by omega), if_neg (by omega), if_pos h1]
   have hf := ok_flat (fun c a ha => ih c a env he ha) al c2 h4
   have hl := len_call (l := l) x f al.length
   refine ⟨fun ev hev => ?_, by rw [List.length_append]; omega⟩
   rcases List.mem_append.1 hev with hev | hev
   ·exact ok_call h2 ev hev
   ·exact hf.1 ev hev
theorem ok_block {P : Nat → Tr → Prop} (h : ∀ c s env, EnvOk L env → P c s → EnvOk L (scS env s) ∧ (∀ ev ∈ evY l p env s, EvOk L l p ev) ∧ (evY l p env s).length ≤ 2 * c) : ∀ (al : List Tr) (c : Nat) (env : Env), EnvOk L env → wfL P c al → (∀ ev ∈ evB l p env al, EvOk L l p ev) ∧ (evB l p env al).length ≤ 2 * c := by
 intro al
 induction al with
 | nil => intro c env _ _; exact ⟨fun ev h => absurd h (List.not_mem_nil), by simp [evB_nil]⟩
 | cons a r ih =>
  intro c env he hl
  obtain ⟨c1, c2, h1, h2, h3⟩ := hl
  have ha := h c1 a env he h2
  have hr := ih c2 _ ha.1 h3
  rw [evB_cons]
  refine ⟨fun ev hev => ?_, by rw [List.length_append]; omega⟩
  rcases List.mem_append.1 hev with hev | hev
  ·exact ha.2.1 ev hev
  ·exact hr.1 ev hev
theorem ok_stmt (n : Nat) : ∀ (c : Nat) (s : Tr) (env : Env), EnvOk L env → wfS L n c s → EnvOk L (scS env s) ∧ (∀ ev ∈ evY l p env s, EvOk L l p ev) ∧ (evY l p env s).length ≤ 2 * c := by
 induction n with
 | zero => intro c e env _ h; exact h.elim
 | succ n ih =>
  intro c s env he h
  obtain ⟨k, x, a, lb, o, e, th, el, f, t, ce, ct, cl, rfl, ⟨m, hE⟩, hT, hX, hnm, hk2, hkx, _, _, _, _⟩ := h
  have hx : x = noB ∨ tkn L x a := by rcases hnm with h | h; exact .inl h.1; exact .inr h.1
  have h0 := ok_expr (l := l) (p := p) m ce e env he hE
  have hT := ok_block (fun c s env he h => ih c s env he h) th ct env he hT
  have hX := ok_block (fun c s env he h => ih c s env he h) el cl env he hX
  rw [evY_mk, scS_mk]
  refine ⟨?_, ?_⟩
  ·split
   ·exact he.mk hx
   ·exact he
  ·have key : ∀ (A : List Ev) (b : Nat), (∀ ev ∈ A, EvOk L l p ev) → A.length ≤ 2 * (c - ce) → (∀ ev ∈ evX l p env e ++ A, EvOk L l p ev) ∧ (evX l p env e ++ A).length ≤ 2 * c := by
    intro A _ h1 h2
    refine ⟨fun ev hev => ?_, ?_⟩
    ·rcases List.mem_append.1 hev with hev | hev
     ·exact h0.1 ev hev
     ·exact h1 ev hev
    ·rw [List.length_append]
     have : ce ≤ c := by rcases hnm with h | h <;> omega
     omega
   split
   ·refine key _ 0 ok_mk ?_
    rcases hnm with h | h
    ·unfold evMk; rw [if_pos h.1]; simp
    ·have := len_mk env x a; omega
   ·split
    ·rename_i h2
     have hn := hk2 h2
     refine key _ 0 (ok_local he (hx.resolve_left hn)) ?_
     have := len_local (p := p) env x a
     rcases hnm with h | h
     ·exact absurd h.1 hn
     ·omega
    ·split
     ·refine key _ 0 (ok_chan hx) ?_
      rcases hnm with h | h
      ·unfold evChan; rw [if_pos h.1]; simp
      ·have := len_chan (l := l) x a; omega
     ·split
      ·refine key _ 0 (fun ev hev => ?_) ?_
       ·rcases List.mem_append.1 hev with hev | hev
        ·exact hT.1 ev hev
        ·exact hX.1 ev hev
       ·rw [List.length_append]
        rcases hnm with h | h <;> omega
      ·split
       ·refine key _ 0 hT.1 ?_
        rcases hnm with h | h <;> omega
       ·refine key _ 0 (fun ev h => absurd h (List.not_mem_nil)) (by simp)
theorem ok_par : ∀ (ps : List Pm) (env : Env), (∀ q ∈ ps, q.x = noB ∨ tkn L q.x q.a) → EnvOk L env → EnvOk L (scP env ps) ∧ (∀ ev ∈ evP env ps, EvOk L l p ev) ∧ (evP env ps).length ≤ ps.length := by
 intro ps
 induction ps with
 | nil => intro env _ he; exact ⟨he, fun ev h => absurd h (List.not_mem_nil), Nat.le_refl _⟩
 | cons q r ih =>
  intro env hq he
  have h1 := he.mk (hq q (List.mem_cons_self))
  obtain ⟨i1, i2, i3⟩ := ih (scMk env q.x q.a) (fun q h => hq q (List.mem_cons_of_mem _ h)) h1
  refine ⟨i1, fun ev hev => ?_, ?_⟩
  ·unfold evP at hev
   rcases List.mem_append.1 hev with hev | hev
   ·exact ok_mk ev hev
   ·exact i2 ev hev
  ·unfold evP
   have := len_mk env q.x q.a
   rw [List.length_append, List.length_cons]
   omega
theorem ok_send (ss : List Rf) (hs : ∀ q ∈ ss, q.x = noB ∨ tkn L q.x q.a) (k : Nat) : (∀ ev ∈ evSk l ss k, EvOk L l p ev) ∧ (evSk l ss k).length ≤ 2 * k := by
 induction k with
 | zero => exact ⟨fun ev h => absurd h (List.not_mem_nil), Nat.le_refl _⟩
 | succ k ih =>
  have hd : (∀ ev ∈ evSd l ss k, EvOk L l p ev) ∧ (evSd l ss k).length ≤ 2 := by
   unfold evSd
   split
   ·exact ⟨fun ev h => absurd h (List.not_mem_nil), by simp⟩
   ·rename_i r hr
    have h1 := ok_chan (l := l) (p := p) (hs r (List.mem_of_getElem? hr))
    have h2 := len_chan (l := l) r.x r.a
    refine ⟨fun ev hev => ?_, ?_⟩
    ·rcases List.mem_append.1 hev with hev | hev
     ·exact h1 ev hev
     ·split at hev
      ·rw [List.mem_singleton] at hev; subst hev; exact ok_no
      ·exact absurd hev (List.not_mem_nil)
    ·rw [List.length_append]
     split
     ·rw [List.length_singleton]; omega
     ·simp; omega
  unfold evSk
  refine ⟨fun ev hev => ?_, by rw [List.length_append]; omega⟩
  rcases List.mem_append.1 hev with hev | hev
  ·exact ih.1 ev hev
  ·exact hd.1 ev hev
end
theorem ok_it {L : List Tok} {l : List (Int × It)} {i : Nat} {q : Int × It} (h : l[i]? = some q) (hw : WfI L q.2) : (∀ ev ∈ evI l i, EvOk L l q.1 ev) ∧ (evI l i).length ≤ 22 + 2 * L.length := by
 obtain ⟨n, hb⟩ := hw.bd
 obtain ⟨a1, a2, a3⟩ := ok_par (l := l) (p := q.1) q.2.ps [] hw.ps EnvOk.nil
 obtain ⟨s1, s2⟩ := ok_send (l := l) (p := q.1) q.2.ss hw.ss q.2.ss.length
 obtain ⟨b1, b2⟩ := ok_block (fun c s env he h => ok_stmt (l := l) (p := q.1) n c s env he h) q.2.bd L.length _ a1 hb
 have e1 := hw.pn
 have e2 := hw.sn
 unfold evI
 rw [h]
 simp only
 have hF : (∀ ev ∈ evF l q.1 q.2, EvOk L l q.1 ev) ∧ (evF l q.1 q.2).length ≤ 21 + 2 * L.length := by
  unfold evF
  refine ⟨fun ev hev => ?_, by rw [List.length_append, List.length_append]; omega⟩
  rcases List.mem_append.1 hev with hev | hev
  ·rcases List.mem_append.1 hev with hev | hev
   ·exact a2 ev hev
   ·exact s1 ev hev
  ·exact b1 ev hev
 refine ⟨fun ev hev => ?_, ?_⟩
 ·rcases List.mem_append.1 hev with hev | hev
  ·split at hev
   ·rw [List.mem_singleton] at hev; subst hev; exact ok_no
   ·exact absurd hev (List.not_mem_nil)
  ·split at hev
   ·exact hF.1 ev hev
   ·exact absurd hev (List.not_mem_nil)
 ·rw [List.length_append]
  split <;> split <;> simp only [List.length_singleton, List.length_nil] <;> omega
theorem itI_wf (s : ByteArray) (i : Nat) : WfI (tks (txI s i)) (itI s i) := itm_wf (txI s i)
theorem txI_len (s : ByteArray) (i : Nat) : (tks (txI s i)).length ≤ s.size := by
 have h1 := tks_len (txI s i)
 have h2 : (txI s i).size ≤ s.size := by
  unfold txI
  have := cn_le s (i + 1)
  rw [ext_size' _ _ _ this]
  omega
 omega
theorem fil_mem {s : ByteArray} {q : Int × It} (h : q ∈ fil s) : ∃ i, i < (cts s).length ∧ q = ((cn s i : Int), itI s i) := by
 unfold fil at h
 obtain ⟨i, h1, h2⟩ := List.mem_map.1 h
 exact ⟨i, List.mem_range.1 h1, h2.symm⟩
theorem fil_ev (s : ByteArray) (i : Nat) (hi : i < (cts s).length) : (∀ ev ∈ evI (fil s) i, EvOk (tks (txI s i)) (fil s) (cn s i : Int) ev) ∧ (evI (fil s) i).length ≤ 22 + 2 * s.size := by
 have hg := fil_get s i hi
 have hw := itI_wf s i
 have hl := txI_len s i
 generalize itI s i = it at hg hw
 generalize tks (txI s i) = T at hw hl ⊢
 have h := ok_it hg hw
 exact ⟨h.1, by have := h.2; omega⟩
end Go.Proofs.YtdkpfnohdknldaaGreatDoor
namespace Go.Proofs.YtdkpfnohdknldaaGreatDoor
open Go.RowKit
attribute [local go_sem ↓] Go.wp_at_zero Go.wp_at_succ
theorem row_read {α : Type} {c : α → List Value} {us : List α} {w : World} {base st : Nat} {TE : TypeId} {v : Value} (hc : ∀ a, (c a).length = st) (h : w.ownsRow base TE st v us.length (us.flatMap c)) : ∃ p cap, v = .slice p us.length cap ∧ (0 < us.length → ∃ g, p = some ⟨g, 0, none⟩ ∧ (base ≤ g ∧ g < w.heap.size) ∧ FlAt w g st c us) := by
 have hcells : ∀ g, v.ownBlock = some g → ∀ j u, (us.flatMap c)[j]? = some u → w.cell? ((⟨g, 0, none⟩ : Addr).add j) = some u := fun g hg => h.cells hg
 have hlt := fun g e => h.lt g e
 obtain ⟨_, ⟨rfl, h0⟩ | ⟨g, cap, cur, rfl, hb, hg, hcap, _⟩⟩ := h
 ·exact ⟨none, 0, by rw [h0], fun hl => by omega⟩
 ·have e : ∀ i, (⟨g, 0, none⟩ : Addr).add i = ⟨g, i, none⟩ := by intro i; simp only [Addr.add, Nat.zero_add]; split <;> simp_all
  refine ⟨_, cap, rfl, fun _ => ⟨g, rfl, hlt g rfl, fun j t hj i u hi => ?_⟩⟩
  have hfl : (us.flatMap c)[j * st + i]? = some u := by
   have := flat_at (vs := us.map c) (st := st) (fun x hx => by obtain ⟨a, _, rfl⟩ := List.mem_map.1 hx; exact hc a) j (c t) (by rw [List.getElem?_map, hj]; rfl) i u hi
   exact this
  have := hcells g rfl _ _ hfl
  rwa [e] at this
end Go.Proofs.YtdkpfnohdknldaaGreatDoor

namespace Go.Proofs.YtdkpfnohdknldaaGreatDoor
open Go.RowKit
attribute [local go_sem ↓] Go.wp_at_zero Go.wp_at_succ
theorem eqM {α : Type} {a b : α} (h : a = b) : a = b := h
theorem cell_on {w w' : World} (hb : Below w.heap.size w w') {a : Addr} {u : Value} (h : w.cell? a = some u) : w'.cell? a = some u := (hb.cell (World.block_lt_of_cell? w a h)).trans h
end Go.Proofs.YtdkpfnohdknldaaGreatDoor


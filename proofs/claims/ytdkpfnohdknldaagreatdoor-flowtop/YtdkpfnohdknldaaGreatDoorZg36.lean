/- Texts of this seat, one behind the other: FloMor2, FloTop, OwnApt, TopMem. -/
import Derived.Test.YtdkpfnohdknldaaGreatDoorZg24
import Derived.Test.YtdkpfnohdknldaaGreatDoorZg29
import Derived.Test.YtdkpfnohdknldaaGreatDoorZg19
import Derived.Test.YtdkpfnohdknldaaGreatDoorZg27
import Derived.Test.YtdkpfnohdknldaaGreatDoorZg15
namespace Go.Proofs.YtdkpfnohdknldaaGreatDoor
open Go.RowKit
set_option linter.unusedVariables false
end Go.Proofs.YtdkpfnohdknldaaGreatDoor
namespace Go.Proofs.YtdkpfnohdknldaaGreatDoor
open Go.RowKit
set_option linter.unusedVariables false
def topF : Nat → Tr → Tr
 | 0, s => s
 | n + 1, s => stMk (exK s) (exX s) (stA s) 255 false (stE s) ((stTh s).map (topF n)) ((stEl s).map (topF n)) (stF s) (stT s)
theorem topF_fuel (n : Nat) : ∀ (m : Nat) (e : Tr), szT e ≤ n → szT e ≤ m → topF n e = topF m e := by
 induction n with
 | zero => intro m e h; have := szT_pos e; omega
 | succ n ih =>
  intro m e h1 h2
  cases m with
  | zero => have := szT_pos e; omega
  | succ m =>
   unfold topF
   rw [List.map_congr_left (fun a ha => ih m a (by have := stTh_less e a ha; omega) (by have := stTh_less e a ha; omega)), List.map_congr_left (fun a ha => ih m a (by have := stEl_less e a ha; omega) (by have := stEl_less e a ha; omega))]
def topX (s : Tr) : Tr := topF (szT s) s
theorem topX_eq (s : Tr) : topX s = stMk (exK s) (exX s) (stA s) 255 false (stE s) ((stTh s).map topX) ((stEl s).map topX) (stF s) (stT s) := by
 have h1 : topX s = topF (szT s + 1) s := topF_fuel _ _ s (Nat.le_refl _) (by omega)
 rw [h1]
 conv => lhs; unfold topF
 have e1 : (stTh s).map (topF (szT s)) = (stTh s).map topX := List.map_congr_left (fun a ha => topF_fuel _ (szT a) a (by have := stTh_less s a ha; omega) (Nat.le_refl _))
 have e2 : (stEl s).map (topF (szT s)) = (stEl s).map topX := List.map_congr_left (fun a ha => topF_fuel _ (szT a) a (by have := stEl_less s a ha; omega) (Nat.le_refl _))
 rw [e1, e2]
theorem topX_mk (k : Nat) (x : ByteArray) (a lb : Nat) (o : Bool) (e : Tr) (th el : List Tr) (f t : Nat) : topX (stMk k x a lb o e th el f t) = stMk k x a 255 false e (th.map topX) (el.map topX) f t := by
 rw [topX_eq, stK_mk, stX_mk, stA_mk, stE_mk, stTh_mk, stEl_mk, stF_mk, stT_mk]
theorem flw_top (a : Nat) : flw a 255 = true := by
 unfold flw
 have h : tg a &&& tg 255 = tg a := by
  have e : tg 255 = 2 ^ 8 - 1 := by decide
  rw [e, Nat.and_two_pow_sub_one_eq_mod]
  exact Nat.mod_eq_of_lt (tg_lt a)
 rw [h]
 exact beq_self_eq_true _
theorem opF_top (a f t : Nat) (x : ByteArray) : opF a 255 f t x = [] := by unfold opF; rw [flw_top]; rfl
structure AllTop (l : List (Int × It)) (fs : List Nat) : Prop where
 ps : ∀ x, ∀ p ∈ fnP l x, p.l = 255
 ch : ∀ x b, chL l x = some b → b = 255
 fl : ∀ x, fnF l fs x = 255
theorem as_top {F : Tr → List Fv} {B : Tr → Nat} : ∀ (L : List Tr) (ps : List Pm), (∀ p ∈ ps, p.l = 255) → (∀ a ∈ L, noF (F a) = []) → noF (fvAs F B ps L) = [] := by
 intro L
 induction L with
 | nil => intro ps _ _; cases ps <;> rfl
 | cons a r ih =>
  intro ps hp h
  have h1 := h a (List.mem_cons_self)
  cases ps with
  | nil => unfold fvAs; rw [noF_app, h1, ih [] (fun _ h => absurd h List.not_mem_nil) (fun b hb => h b (List.mem_cons_of_mem _ hb))]; rfl
  | cons p ps => unfold fvAs; rw [noF_app, noF_app, h1, hp p (List.mem_cons_self), opF_top, ih ps (fun q hq => hp q (List.mem_cons_of_mem _ hq)) (fun b hb => h b (List.mem_cons_of_mem _ hb))]; rfl
section
variable {l l' : List (Int × It)} {fs : List Nat} {p : Int}
theorem AllTop.expr (h : AllTop l' fs) (env : Env) (u : Nat) : ∀ (n : Nat) (e : Tr), szT e ≤ n → noF (fvX l' fs env u e) = [] := by
 intro n
 induction n with
 | zero => intro e h; have := szT_pos e; omega
 | succ n ih =>
  intro e hs
  have hh : ∀ a ∈ exA e, noF (fvX l' fs env u a) = [] := fun a ha => ih a (by have := exA_less e a ha; omega)
  rw [fvX_eq, noF_app, noF_say, List.append_nil]
  split
  ·exact noF_flat hh
  ·split
   ·rw [noF_app, h.fl, opF_top, as_top _ _ (h.ps _) hh]; rfl
   ·rfl
def DomT (ne env : Env) : Prop := ∀ x, (envL ne x).isSome = true → envN env x = 255
theorem DomT.mk {ne env : Env} (h : DomT ne env) (x : ByteArray) (a : Nat) : DomT (scMk ne x a) (scMk env x 255) := by
 unfold scMk
 split
 ·exact h
 ·intro y hy
  by_cases e : y = x
  ·subst e
   unfold envN envL
   rw [if_pos rfl]
   rfl
  ·have h1 := h y (by unfold envL at hy; rw [if_neg e] at hy; exact hy)
   unfold envN at h1 ⊢
   conv => lhs; unfold envL
   rw [if_neg e]
   exact h1
theorem DomT.ps : ∀ (L L' : List Pm) (ne env : Env), L.length = L'.length → (∀ (j : Nat) (a b : Pm), L[j]? = some a → L'[j]? = some b → b.x = a.x ∧ b.l = 255) → DomT ne env → DomT (scP ne L) (scQ env L') := by
 intro L
 induction L with
 | nil => intro L' ne env h _ hd; cases L' with | nil => exact hd | cons b r => cases h
 | cons a r ih =>
  intro L' ne env h hx hd
  cases L' with
  | nil => cases h
  | cons b r' =>
   obtain ⟨h1, h2⟩ := hx 0 a b rfl rfl
   have h3 : DomT (scMk ne a.x a.a) (scMk env b.x b.l) := by rw [h1, h2]; exact hd.mk _ _
   exact ih r' _ _ (by simpa using h) (fun j c d hc hd => hx (j + 1) c d (by simpa using hc) (by simpa using hd)) h3
theorem noL_two {a b : List Ev} (h : noL (a ++ b) = []) : noL a = [] ∧ noL b = [] := by
 unfold noL at h ⊢
 rw [List.filter_append, List.append_eq_nil_iff] at h
 exact h
theorem top_block {F : Env → Tr → List Fv} {E : Env → Tr → List Ev} {u : Nat} : ∀ (L : List Tr), (∀ a ∈ L, ∀ ne env, DomT ne env → noL (E ne a) = [] → noF (F env (topX a)) = [] ∧ DomT (scS ne a) (scF l' env u (topX a))) → ∀ ne env, DomT ne env → noL (runB E ne L) = [] → noF (runF l' F u env (L.map topX)) = [] := by
 intro L
 induction L with
 | nil => intro _ ne env _ _; rfl
 | cons a r ih =>
  intro h ne env hd hn
  unfold runB at hn
  obtain ⟨n1, n2⟩ := noL_two hn
  obtain ⟨f1, d1⟩ := h a (List.mem_cons_self) ne env hd n1
  rw [List.map_cons]
  unfold runF
  rw [noF_app, f1, ih (fun b hb => h b (List.mem_cons_of_mem _ hb)) _ _ d1 n2]
  rfl
theorem top_scope (s : Tr) {ne env : Env} (u : Nat) (hd : DomT ne env) : DomT (scS ne s) (scF l' env u (topX s)) := by
 unfold scS scF
 rw [topX_eq, stK_mk]
 split
 ·rw [stX_mk, stO_mk, stL_mk]
  exact hd.mk _ _
 ·exact hd
theorem local_made {ne : Env} {x : ByteArray} {a : Nat} (h : noL (evLocal p ne x a) = []) : (envL ne x).isSome = true := by
 unfold evLocal at h
 cases he : envL ne x with
 | some d => rfl
 | none => rw [he] at h; cases h
theorem AllTop.stmt (h : AllTop l' fs) : ∀ (n : Nat) (s : Tr), szT s ≤ n → ∀ u ne env, DomT ne env → noL (evY l p ne s) = [] → noF (fvY l' fs 255 u env (topX s)) = [] := by
 intro n
 induction n with
 | zero => intro e h; have := szT_pos e; omega
 | succ n ih =>
  intro s hs u ne env hd hn
  have hx : ∀ v, noF (fvX l' fs env v (stE s)) = [] := fun v => h.expr env v _ _ (Nat.le_refl _)
  have hB : ∀ (L : List Tr), (∀ a ∈ L, szT a < szT s) → ∀ v, noL (evB l p ne L) = [] → noF (fvB l' fs 255 v env (L.map topX)) = [] := fun L hL v hL2 => top_block L (fun a ha ne' env' hd' hn' => ⟨ih a (by have := hL a ha; omega) v ne' env' hd' hn', top_scope a v hd'⟩) ne env hd hL2
  rw [evY_eq] at hn
  obtain ⟨_, hn⟩ := noL_two hn
  rw [topX_eq, fvY_mk]
  split
  ·rw [noF_app, hx, opF_top]; rfl
  ·next c1 =>
   rw [if_neg c1] at hn
   split
   ·next c2 =>
    rw [if_pos c2] at hn
    rw [noF_app, hx, hd _ (local_made hn), opF_top]; rfl
   ·next c2 =>
    rw [if_neg c2] at hn
    split
    ·rw [noF_app, hx]
     split
     ·next b hb => rw [h.ch _ b hb, opF_top]; rfl
     ·rfl
    ·next c5 =>
     rw [if_neg c5] at hn
     split
     ·rw [noF_app, hx, opF_top]; rfl
     ·split
      ·exact hx _
      ·split
       ·next c3 =>
        rw [if_pos c3] at hn
        obtain ⟨m1, m2⟩ := noL_two hn
        rw [noF_app, noF_app, hx, hB _ (fun a ha => stTh_less s a ha) _ m1, hB _ (fun a ha => stEl_less s a ha) _ m2]; rfl
       ·next c3 =>
        rw [if_neg c3] at hn
        split
        ·next c4 =>
         rw [if_pos c4] at hn
         rw [noF_app, hx, hB _ (fun a ha => stTh_less s a ha) _ hn]; rfl
        ·rfl
theorem top_item (h : AllTop l' fs) {i : Nat} {q q' : Int × It} (h1 : l[i]? = some q) (h2 : l'[i]? = some q') (hk : q'.2.k = q.2.k) (hl : q'.2.l = 255) (hp : q.2.ps.length = q'.2.ps.length ∧ ∀ (j : Nat) (a b : Pm), q.2.ps[j]? = some a → q'.2.ps[j]? = some b → b.x = a.x ∧ b.l = 255) (hb : q'.2.bd = q.2.bd.map topX) (hn : noL (evI l i) = []) : noF (fvJ l' fs i) = [] := by
 unfold fvJ
 rw [h2]
 show noF (if q'.2.k = 2 then _ else _) = []
 split
 ·next hk2 =>
  have hev : evI l i = (if q.2.k ≠ 3 ∧ 0 ≤ fnd l q.2.k q.2.x ∧ fnd l q.2.k q.2.x < (i : Int) then [evNo 7 q.2.x q.2.mrk] else []) ++ (if q.2.k = 2 then evF l q.1 q.2 else []) := by unfold evI; rw [h1]
  rw [hev] at hn
  obtain ⟨_, hn⟩ := noL_two hn
  rw [if_pos (by rw [← hk]; exact hk2)] at hn
  unfold evF at hn
  obtain ⟨_, hn⟩ := noL_two hn
  rw [hl, hb]
  have hd : DomT (scP [] q.2.ps) (scQ [] q'.2.ps) := DomT.ps _ _ _ _ hp.1 hp.2 (fun x hx => by cases hx)
  exact top_block q.2.bd (fun a ha ne env hd hn => ⟨h.stmt _ a (Nat.le_refl _) 0 ne env hd hn, top_scope a 0 hd⟩) _ _ hd hn
 ·rfl
end
end Go.Proofs.YtdkpfnohdknldaaGreatDoor
namespace Go.Proofs.YtdkpfnohdknldaaGreatDoor
open Go.RowKit
set_option linter.unusedVariables false
attribute [local go_sem ↓] Go.wp_at_zero Go.wp_at_succ
def SlA (rd : Nat → Nat → World → Tr → Value → Prop) (lo hi : Nat) (w : World) (l : List Tr) (p : Option Addr) : Prop := l.length ≤ 1099511627776 ∧ (0 < l.length → ∃ g, p = some ⟨g, 0, none⟩ ∧ lo ≤ g ∧ g < hi ∧ (∃ cur, w.heap[g]? = some (.cells cur 111 (0, 0))) ∧ ∃ b : Nat → Nat, (∀ j, b j ≤ b (j + 1)) ∧ g < b 0 ∧ b l.length ≤ hi ∧ ∀ (j : Nat) (a : Tr), l[j]? = some a → ∃ v, CellsV w g (j * 15) v ∧ rd (b j) (b (j + 1)) w a v)
def RdA : Nat → Nat → Nat → World → Tr → Value → Prop
 | 0, _, _, _, _, _ => False
 | n + 1, lo, hi, w, s, v => ∃ (k : Nat) (x : ByteArray) (a lb : Nat) (op : Bool) (e : Tr) (th el : List Tr) (f t : Nat) (d0 d1 d2 d3 d4 d5 : Value) (p1 : Option Addr) (c1 : Nat) (p2 : Option Addr) (c2 : Nat) (m1 m2 : Nat), s = stMk k x a lb op e th el f t ∧ v = .agg #[.int .i64 (k : Int), .string x, .int .i64 (a : Int), .int .i64 (lb : Int), .bool op, d0, d1, d2, d3, d4, d5, .slice p1 th.length c1, .slice p2 el.length c2, .int .i64 (f : Int), .int .i64 (t : Int)] ∧ (∃ m, RdE m (fun k => lo ≤ k ∧ k < m1) w e (.agg #[d0, d1, d2, d3, d4, d5])) ∧ lo ≤ m1 ∧ m1 ≤ m2 ∧ m2 ≤ hi ∧
  SlA (RdA n) m1 m2 w th p1 ∧ SlA (RdA n) m2 hi w el p2
def bstep (b : Nat → Nat) (i z j : Nat) : Nat := if j ≤ i then b j else z
theorem bstep_le {b : Nat → Nat} {i z j : Nat} (h : j ≤ i) : bstep b i z j = b j := if_pos h
theorem bstep_gt {b : Nat → Nat} {i z j : Nat} (h : ¬ j ≤ i) : bstep b i z j = z := if_neg h
theorem mono_le {b : Nat → Nat} (h : ∀ j, b j ≤ b (j + 1)) : ∀ (i j : Nat), i ≤ j → b i ≤ b j := by
 intro i j hij
 induction j with
 | zero => rw [Nat.le_zero.1 hij]; exact Nat.le_refl _
 | succ j ih =>
  rcases Nat.lt_or_ge i (j + 1) with h1 | h1
  ·exact Nat.le_trans (ih (by omega)) (h j)
  ·rw [show i = j + 1 by omega]; exact Nat.le_refl _
theorem SlA.kept {rd : Nat → Nat → World → Tr → Value → Prop} {lo hi : Nat} {w w' : World} {l : List Tr} {p : Option Addr} (h : SlA rd lo hi w l p) (hw : ∀ k, lo ≤ k → k < hi → w'.heap[k]? = w.heap[k]?) (hr : ∀ lo' hi', lo ≤ lo' → hi' ≤ hi → ∀ a v, rd lo' hi' w a v → rd lo' hi' w' a v) : SlA rd lo hi w' l p := by
 refine ⟨h.1, fun hl => ?_⟩
 obtain ⟨g, e1, e2, e3, ⟨cur, e4⟩, b, m1, m2, m3, e5⟩ := h.2 hl
 refine ⟨g, e1, e2, e3, ⟨cur, (hw g e2 e3).trans e4⟩, b, m1, m2, m3, fun j a hj => ?_⟩
 obtain ⟨v, h1, h2⟩ := e5 j a hj
 have hj2 := (List.getElem?_eq_some_iff.1 hj).1
 exact ⟨v, h1.kept (hw g e2 e3), hr _ _ (by have := mono_le m1 0 j (Nat.zero_le _); omega) (by have := mono_le m1 (j + 1) l.length hj2; omega) a v h2⟩
theorem RdA.kept (n : Nat) : ∀ {lo hi : Nat} {w w' : World} (_ : ∀ k, lo ≤ k → k < hi → w'.heap[k]? = w.heap[k]?) (s : Tr) (v : Value), RdA n lo hi w s v → RdA n lo hi w' s v := by
 induction n with
 | zero => intro lo hi w w' _ s v h; exact h.elim
 | succ n ih =>
  intro lo hi w w' hw s v h
  obtain ⟨k, x, a, lb, op, e, th, el, f, t, d0, d1, d2, d3, d4, d5, p1, c1, p2, c2, m1, m2, h1, h2, ⟨m, h3⟩, h4, h5, h6, h7, h8⟩ := h
  exact ⟨k, x, a, lb, op, e, th, el, f, t, d0, d1, d2, d3, d4, d5, p1, c1, p2, c2, m1, m2, h1, h2, ⟨m, RdE.kept m (fun k hk => hw k hk.1 (by omega)) (fun _ h => h) _ _ h3⟩, h4, h5, h6, h7.kept (fun k a b => hw k (by omega) (by omega)) (fun lo' hi' a b => ih (fun k c d => hw k (by omega) (by omega))), h8.kept (fun k a b => hw k (by omega) (by omega)) (fun lo' hi' a b => ih (fun k c d => hw k (by omega) (by omega)))⟩
theorem SlA.slT {n lo hi : Nat} {w : World} {l : List Tr} {p : Option Addr} {ok : Nat → Prop} (h : SlA (RdA n) lo hi w l p) (hok : ∀ k, lo ≤ k → k < hi → ok k) (hr : ∀ lo' hi', lo ≤ lo' → hi' ≤ hi → ∀ a v, RdA n lo' hi' w a v → RdS n ok w a v) : SlT ok (RdS n ok w) w 15 l p := by
 refine ⟨h.1, fun hl => ?_⟩
 obtain ⟨g, e1, e2, e3, _, b, m1, m2, m3, e5⟩ := h.2 hl
 refine ⟨g, e1, hok g e2 e3, fun j a hj => ?_⟩
 obtain ⟨v, h1, h2⟩ := e5 j a hj
 have hj2 := (List.getElem?_eq_some_iff.1 hj).1
 exact ⟨v, h1, hr _ _ (by have := mono_le m1 0 j (Nat.zero_le _); omega) (by have := mono_le m1 (j + 1) l.length hj2; omega) a v h2⟩
theorem RdA.rdS (n : Nat) : ∀ {lo hi : Nat} {w : World} {ok : Nat → Prop} (_ : ∀ k, lo ≤ k → k < hi → ok k) (s : Tr) (v : Value), RdA n lo hi w s v → RdS n ok w s v := by
 induction n with
 | zero => intro lo hi w ok _ s v h; exact h.elim
 | succ n ih =>
  intro lo hi w ok hok s v h
  obtain ⟨k, x, a, lb, op, e, th, el, f, t, d0, d1, d2, d3, d4, d5, p1, c1, p2, c2, m1, m2, h1, h2, ⟨m, h3⟩, h4, h5, h6, h7, h8⟩ := h
  exact ⟨k, x, a, lb, op, e, th, el, f, t, d0, d1, d2, d3, d4, d5, p1, c1, p2, c2, h1, h2, ⟨m, RdE.kept m (fun _ _ => rfl) (fun k hk => hok k hk.1 (by omega)) _ _ h3⟩, h7.slT (fun k a b => hok k (by omega) (by omega)) (fun lo' hi' a b => ih (fun k c d => hok k (by omega) (by omega))), h8.slT (fun k a b => hok k (by omega) (by omega)) (fun lo' hi' a b => ih (fun k c d => hok k (by omega) (by omega)))⟩
structure OwnA (n : Nat) (ok : Nat → Prop) (g : Nat) (w wr : World) (l : List Tr) (i : Nat) : Prop where
 blk : ∃ cur, wr.heap[g]? = some (.cells cur 111 (0, 0))
 bs : ∃ b : Nat → Nat, (∀ j, b j ≤ b (j + 1)) ∧ g < b 0 ∧ b i ≤ wr.heap.size ∧ ∀ (j : Nat) (a : Tr), l[j]? = some a → ∃ v, CellsV wr g (j * 15) v ∧ (j < i → RdA n (b j) (b (j + 1)) wr a v) ∧ (i ≤ j → RdS n ok wr a v)
 bel : Below w.heap.size w wr
 low : w.heap.size ≤ g
section
variable {n : Nat} {ok : Nat → Prop} {g : Nat} {w wr : World} {l : List Tr} {i : Nat}
theorem OwnA.lt (h : OwnA n ok g w wr l i) : g < wr.heap.size := by
 obtain ⟨cur, hb⟩ := h.blk
 exact (Array.getElem?_eq_some_iff.1 hb).1
theorem OwnA.start (h : OwnR (RdS n) 111 15 ok g w wr l 0) : OwnA n ok g w wr l 0 := by
 have hlt := h.lt
 refine ⟨h.blk, ⟨fun _ => g + 1, fun _ => Nat.le_refl _, by show g < g + 1; omega, by show g + 1 ≤ _; omega, fun j a hj => ?_⟩, h.bel, h.low⟩
 obtain ⟨v, h1, _, h3⟩ := h.els j a hj
 exact ⟨v, h1, fun h => by omega, fun h => h3 h⟩
theorem OwnA.els (h : OwnA n ok g w wr l i) : ∀ (j : Nat) (a : Tr), l[j]? = some a → ∃ v, CellsV wr g (j * 15) v ∧ True ∧ (i ≤ j → RdS n ok wr a v) := by
 intro j a hj
 obtain ⟨b, _, _, _, h4⟩ := h.bs
 obtain ⟨v, h1, _, h3⟩ := h4 j a hj
 exact ⟨v, h1, trivial, h3⟩
theorem OwnA.done (h : OwnA n ok g w wr l l.length) (hl : l.length ≤ 1099511627776) : SlA (RdA n) w.heap.size wr.heap.size wr l (some ⟨g, 0, none⟩) := by
 obtain ⟨b, h1, h2, h3, h4⟩ := h.bs
 refine ⟨hl, fun _ => ⟨g, rfl, h.low, h.lt, h.blk, b, h1, h2, h3, fun j a hj => ?_⟩⟩
 obtain ⟨v, g1, g2, _⟩ := h4 j a hj
 exact ⟨v, g1, g2 (List.getElem?_eq_some_iff.1 hj).1⟩
end
theorem rdA_size (n : Nat) {lo hi : Nat} {w : World} {a : Tr} {cs : Array Value} (h : RdA n lo hi w a (.agg cs)) : cs.size = 15 := rdS_size n _ w a cs (RdA.rdS n (ok := fun _ => True) (fun _ _ _ => trivial) a _ h)
section
variable {n : Nat} {ok : Nat → Prop} {g : Nat} {w wr w5 w6 w7 W5 W6 W7 : World} {l : List Tr} {i : Nat} {k0 a0 b0 ek em ef et f0 t0 : Nat} {x0 ex : ByteArray} {o0 : Bool} {eal th el : List Tr} {q5 q6 q7 : Option Addr} {c5 c6 c7 : Nat}
theorem ownA_step (hok : ∀ k, ok k → k < w.heap.size) (h : OwnA (n + 1) ok g w wr l i) (ha : l[i]? = some (stMk k0 x0 a0 b0 o0 (exMk ek ex em eal ef et) th el f0 t0))
  (hM : Mid g w wr W7 i #[.int .i64 (k0 : Int), .string x0, .int .i64 (a0 : Int), .int .i64 (b0 : Int), .bool o0, .int .i64 (ek : Int), .string ex, .int .i64 (em : Int), .slice q5 eal.length c5, .int .i64 (ef : Int), .int .i64 (et : Int), .slice q6 th.length c6, .slice q7 el.length c7, .int .i64 (f0 : Int), .int .i64 (t0 : Int)]) (s5 : wr.heap.size ≤ W5.heap.size) (s6 : W5.heap.size ≤ W6.heap.size) (s7 : W6.heap.size ≤ W7.heap.size)
  (e5 : ∀ k, g < k → k < W5.heap.size → W7.heap[k]? = W5.heap[k]?) (e6 : ∀ k, g < k → k < W6.heap.size → W7.heap[k]? = W6.heap[k]?)
  {m : Nat} (h5 : SlT (fun k => wr.heap.size ≤ k ∧ k < W5.heap.size) (RdE m (fun k => wr.heap.size ≤ k ∧ k < W5.heap.size) W5) W5 6 eal q5)
  (h6 : SlA (RdA n) W5.heap.size W6.heap.size W6 th q6) (h7 : SlA (RdA n) W6.heap.size W7.heap.size W7 el q7) : OwnA (n + 1) ok g w W7 l (i + 1) := by
 have hlt := h.lt
 have hlow := h.low
 have hwl := h.bel.size
 obtain ⟨b, h1, h2, h3, h4⟩ := h.bs
 refine ⟨hM.blk, ⟨bstep b i W7.heap.size, fun j => ?_, by rw [bstep_le (Nat.zero_le _)]; exact h2, by rw [bstep_gt (by omega)]; exact Nat.le_refl _, fun j a hj => ?_⟩, hM.bel, hlow⟩
 ·have := h1 j
  by_cases hj : j + 1 ≤ i
  ·rw [bstep_le hj, bstep_le (show j ≤ i by omega)]; exact this
  ·rw [bstep_gt hj]
   by_cases hj2 : j ≤ i
   ·rw [bstep_le hj2, show j = i by omega]; omega
   ·rw [bstep_gt hj2]; exact Nat.le_refl _
 ·by_cases hji : j = i
  ·subst hji
   rw [ha] at hj
   injection hj with hj
   subst hj
   refine ⟨_, hM.els, fun _ => ?_, fun h => by omega⟩
   rw [bstep_le (Nat.le_refl _), bstep_gt (show ¬ j + 1 ≤ j by omega)]
   have a5 : ∀ k, (wr.heap.size ≤ k ∧ k < W5.heap.size) → W7.heap[k]? = W5.heap[k]? := fun k hk => e5 k (by omega) hk.2
   have b5 : ∀ k, (wr.heap.size ≤ k ∧ k < W5.heap.size) → (b j ≤ k ∧ k < W5.heap.size) := fun k hk => ⟨by omega, hk.2⟩
   exact ⟨k0, x0, a0, b0, o0, exMk ek ex em eal ef et, th, el, f0, t0, _, _, _, _, _, _, q6, c6, q7, c7, W5.heap.size, W6.heap.size, rfl, rfl, ⟨m + 1, ek, ex, em, eal, ef, et, q5, c5, rfl, rfl, SlT.kept h5 a5 b5 (RdE.kept m a5 b5)⟩, by omega, s6, s7, h6.kept (fun k c d => e6 k (by omega) d) (fun lo' hi' c d => RdA.kept n (fun k c2 d2 => e6 k (by omega) (by omega))), h7⟩
  ·obtain ⟨u, g1, g2, g3⟩ := h4 j a hj
   have hsize : ∀ cs, u = .agg cs → cs.size = 15 := fun cs e => by
    subst e
    by_cases hl : j < i
    ·exact rdA_size (n + 1) (g2 hl)
    ·exact rdS_size (n + 1) _ _ _ _ (g3 (by omega))
   refine ⟨u, g1.off (fun m cs e hm => hM.out _ ?_), fun hl => ?_, fun hl => ?_⟩
   ·have := hsize cs e
    omega
   ·have hl2 : j < i := by omega
    rw [bstep_le (show j ≤ i by omega), bstep_le (show j + 1 ≤ i by omega)]
    have q1 := mono_le h1 0 j (Nat.zero_le _)
    have q2 := mono_le h1 (j + 1) i (by omega)
    exact RdA.kept (n + 1) (fun k c d => hM.hW k (by omega) (by omega)) _ _ (g2 hl2)
   ·exact RdS.kept (n + 1) (fun k hk => hM.hW k (by have := hok k hk; omega) (by have := hok k hk; omega)) (fun _ h => h) _ _ (g3 (by omega))
end
theorem SlA_set {A g m : Nat} {w5 : World} {l : List Tr} {q : Option Addr} (h : SlA (RdA m) A w5.heap.size w5 l q) (hg : g < A) (o : Nat) (u : Value) : SlA (RdA m) A (w5.setCell ⟨g, o, none⟩ u).heap.size (w5.setCell ⟨g, o, none⟩ u) l q := by
 have e : (w5.setCell ⟨g, o, none⟩ u).heap.size = w5.heap.size := by simp
 rw [e]
 exact h.kept (fun k a b => Below.heap_setCell w5 _ _ k (by simp; omega)) (fun lo' hi' a b => RdA.kept m (fun k c d => Below.heap_setCell w5 _ _ k (by simp; omega)))
def COA (n : Nat) : Prop := ∀ (l : List Tr) (p : Option Addr) (c : Nat) (w : World) (ok : Nat → Prop), (∀ k, ok k → k < w.heap.size) → smL l → SlT ok (RdS n ok w) w 15 l p →
 Calls Tryz.prog 53 #[.slice p l.length c] w fun e w' => ∃ q c', e = .returned (.slice q l.length c') ∧ SlA (RdA n) w.heap.size w'.heap.size w' l q ∧ Below w.heap.size w w'
def RelOA (n : Nat) (ok : Nat → Prop) (g : Nat) (w : World) (l : List Tr) (i : Value) (wr : World) : Prop := ∃ k : Nat, k ≤ l.length ∧ i = .int .i64 (k : Int) ∧ OwnA n ok g w wr l k
set_option maxHeartbeats 2000000 in
set_option maxRecDepth 100000 in
theorem ownStmtsA_any (n : Nat) : COA n := by
 induction n with
 | zero =>
  intro al p c w ok hok _ h
  have h0 : al.length = 0 := by
   rcases Nat.eq_zero_or_pos al.length with h1 | h1
   ·exact h1
   ·obtain ⟨g, _, _, hl⟩ := h.2 h1
    obtain ⟨va, _, hr⟩ := hl 0 _ (List.getElem?_eq_getElem h1)
    exact hr.elim
  rw [h0]
  go_enter Tryz.func53, Tryz.ntmps53
  go_wp2_with (first
   | (go_at_call 82; refine (cloneSt_none p c _).mono ?_; rintro e w1 ⟨q, c1, rfl, hb1⟩))
  go_loopw [10] (fun i wr => i = .int .i64 0 ∧ wr = w1) (fun _ _ => 0)
  case atStart => exact ⟨rfl, rfl⟩
  case round =>
   obtain ⟨rfl, rfl⟩ := hrel
   go_wp2
   go_ret
   exact ⟨q, c1, rfl, ⟨by omega, fun h => absurd h (by omega)⟩, hb1⟩
 | succ n ih =>
  intro l p c w ok hok hsm h
  by_cases h0 : l.length = 0
  ·rw [h0]
   go_enter Tryz.func53, Tryz.ntmps53
   go_wp2_with (first
    | (go_at_call 82; refine (cloneSt_none p c _).mono ?_; rintro e w1 ⟨q, c1, rfl, hb1⟩))
   go_loopw [10] (fun i wr => i = .int .i64 0 ∧ wr = w1) (fun _ _ => 0)
   case atStart => exact ⟨rfl, rfl⟩
   case round =>
    obtain ⟨rfl, rfl⟩ := hrel
    go_wp2
    go_ret
    exact ⟨q, c1, rfl, ⟨by omega, fun h => absurd h (by omega)⟩, hb1⟩
  ·obtain ⟨g, rfl, hg, hL⟩ := h.2 (by omega)
   have hlen := hsm.1
   obtain ⟨xs, x1, x2, x3, x4⟩ := flat_cells (rdS_size (n + 1)) (rdS_agg (n + 1)) (rdS_one (n + 1)) l 0 (fun j a hj => by rw [Nat.zero_add]; exact hL j a hj)
   have x3' : ∀ j u, xs[j]? = some u → w.cell? ⟨g, j, none⟩ = some u := fun j u hj => by have := x3 j u hj; rwa [Nat.zero_add] at this
   have hpos : 0 < l.length := by omega
   have HL : Hid (l.length ≤ 40) := hlen
   have HSM : Hid (smL l) := hsm
   clear x3 hL h h0 hlen hsm
   go_enter Tryz.func53, Tryz.ntmps53
   go_wp2_with (first
    | (go_at_call 82; refine (cloneSt_any g l.length c xs _ hpos (by have := HL.out; omega) x1 x2 x3').mono ?_; rintro e w1 ⟨g1, c1, rfl, hown, hb1⟩; have hst := OwnA.start (OwnR.start (kept_S (n + 1)) hok hown hb1 x4); clear hown x4 x3' x2 x1))
   go_loopw [10] (fun i wr => RelOA (n + 1) ok g1 w l i wr) (fun i _ => upN l.length i)
   case atStart => exact ⟨0, Nat.zero_le _, rfl, hst⟩
   case round =>
    obtain ⟨k, hk, rfl, hR⟩ := hrel
    clear hst
    by_cases hlt : k < l.length
    ·obtain ⟨a, ha⟩ : ∃ a, l[k]? = some a := ⟨_, List.getElem?_eq_getElem hlt⟩
     obtain ⟨v, hcv, _, hold⟩ := hR.els k a ha
     obtain ⟨k0, x0, a0, b0, o0, e, th, el, f0, t0, d0, d1, d2, d3, d4, d5, p1, c1', p2, c2, rfl, rfl, ⟨me, hE⟩, hT, hU⟩ := hold (Nat.le_refl _)
     cases me with
     | zero => exact hE.elim
     | succ me =>
     obtain ⟨ek, ex, em, eal, ef, et, ep, ec, rfl, hv, hS⟩ := hE
     injection hv with hv
     simp only [Array.mk.injEq, List.cons.injEq, and_true] at hv
     obtain ⟨rfl, rfl, rfl, rfl, rfl, rfl⟩ := hv
     have hsmk := HSM.out.2 _ (List.mem_of_getElem? ha)
     have hsT : smL th := ⟨(hsmk 1 _ _ _ _ _ _ _ _ _ _ rfl).1, fun u hu m => (hsmk (m + 1) _ _ _ _ _ _ _ _ _ _ rfl).2.2.1 u hu⟩
     have hsU : smL el := ⟨(hsmk 1 _ _ _ _ _ _ _ _ _ _ rfl).2.1, fun u hu m => (hsmk (m + 1) _ _ _ _ _ _ _ _ _ _ rfl).2.2.2 u hu⟩
     have hM : Mid g1 w wr wr k _ := ⟨fun _ _ _ => rfl, hR.bel, Nat.le_refl _, hR.blk, fun _ _ => rfl, hcv, hR.low⟩
     have y8 := hcv.get 8 _ rfl
     have y11 := hcv.get 11 _ rfl
     have y12 := hcv.get 12 _ rfl
     have gk : (0 : Int) ≤ (k : Int) := by omega
     have gk1 : (k : Int) < (l.length : Int) := by omega
     have HK : Hid (k < l.length) := hlt
     have hk40 : k < 1099511627776 := by have := HL.out; omega
     have HOK : Hid (∀ W : World, w.heap.size ≤ W.heap.size → ∀ k, ok k → k < W.heap.size) := fun W hW k hk => Nat.lt_of_lt_of_le (hok k hk) hW
     have HS : Hid (SlT ok (RdE me ok wr) wr 6 eal ep) := hS
     have HT : Hid (SlT ok (RdS n ok wr) wr 15 th p1) := hT
     have HU : Hid (SlT ok (RdS n ok wr) wr 15 el p2) := hU
     have hgl := hR.lt
     have hwl := hR.bel.size
     have hglow := hR.low
     have HO1 : Hid (∀ W : World, (∀ j, j < wr.heap.size → j ≠ g1 → W.heap[j]? = wr.heap[j]?) → ∀ j, ok j → W.heap[j]? = wr.heap[j]?) := fun W h j hj => h j (by have := hok j hj; omega) (by have := hok j hj; omega)
     have F1 : Hid (1 = 1) := rfl
     have F2 : Hid (1 = 1) := rfl
     clear hold hS hT hU hlt hk hsmk
     go_wp2_with (first
      | (go_at_call 83; refine (ownExprs_any me eal ep ec _ ok (HOK.out _ hwl) HS.out).mono ?_; rintro e w5 ⟨q5, c5, rfl, hS5, hb5⟩; have z8 := cell_on' hb5 y8; have f5 := (hM.call hb5).fro; have hM5 := (hM.call hb5).put 8 (by omega) rfl (.slice q5 eal.length c5); have h5 := SlE_set hS5 hgl (k * 15 + 8) (.slice q5 eal.length c5); have v11 := hM5.els.get 11 _ rfl; clear y8 y11 hS5)
      | (go_at_call 53; have f := F1; clear f F1; refine (ih th p1 c1' _ ok (HOK.out _ hM5.bel.size) hsT (SlT.kept HT.out (HO1.out _ hM5.hW) (fun _ h => h) (RdS.kept n (HO1.out _ hM5.hW) (fun _ h => h)))).mono ?_; rintro e w6 ⟨q6, c6, rfl, hS6, hb6⟩; have z11 := cell_on' hb6 v11; have f6 := (hM5.call hb6).fro; have hM6 := (hM5.call hb6).put 11 (by omega) rfl (.slice q6 th.length c6); have h6 := SlA_set hS6 hM5.lt (k * 15 + 11) (.slice q6 th.length c6); have v12 := hM6.els.get 12 _ rfl; clear v11 y12 hS6)
      | (go_at_call 53; have f := F2; clear f F2; refine (ih el p2 c2 _ ok (HOK.out _ hM6.bel.size) hsU (SlT.kept HU.out (HO1.out _ hM6.hW) (fun _ h => h) (RdS.kept n (HO1.out _ hM6.hW) (fun _ h => h)))).mono ?_; rintro e w7 ⟨q7, c7, rfl, hS7, hb7⟩; have z12 := cell_on' hb7 v12; have f7 := (hM6.call hb7).fro; have hM7 := (hM6.call hb7).put 12 (by omega) rfl (.slice q7 el.length c7); have h7 := SlA_set hS7 hM6.lt (k * 15 + 12) (.slice q7 el.length c7); clear v12 hS7))
     go_roundw
     case rel =>
      refine ⟨k + 1, by have := HK.out; omega, by go_num, ownA_step hok hR ha hM7 (by have := hb5.size; simpa using this) (by have := hb6.size; simpa using this) (by have := hb7.size; simpa using this) (fun j h1 h2 => ?_) (fun j h1 h2 => ?_) h5 h6 h7⟩
      ·exact (Below.heap_setCell _ _ _ j (by simp; omega)).trans ((hb7.block j (Nat.lt_of_lt_of_le h2 (by have := hb6.size; simpa using this))).trans ((Below.heap_setCell _ _ _ j (by simp; omega)).trans (hb6.block j h2)))
      ·exact (Below.heap_setCell _ _ _ j (by simp; omega)).trans (hb7.block j h2)
     case measure => have := HK.out; simp [upN, intOf]; omega
    ·obtain rfl : k = l.length := by omega
     clear hlt hk
     go_wp2
     go_ret
     exact ⟨some ⟨g1, 0, none⟩, c1, rfl, hR.done (by have := HL.out; omega), hR.bel⟩
end Go.Proofs.YtdkpfnohdknldaaGreatDoor
namespace Go.Proofs.YtdkpfnohdknldaaGreatDoor
open Go.RowKit
set_option linter.unusedVariables false
attribute [local go_sem ↓] Go.wp_at_zero Go.wp_at_succ
structure Outs (lo hi : Nat) (w w' : World) : Prop where
 os : w'.os = w.os
 tape : w'.tape = w.tape
 output : w'.output = w.output
 size : w'.heap.size = w.heap.size
 block : ∀ k, (k < lo ∨ hi ≤ k) → w'.heap[k]? = w.heap[k]?
theorem Outs.refl (lo hi : Nat) (w : World) : Outs lo hi w w := ⟨rfl, rfl, rfl, rfl, fun _ _ => rfl⟩
structure TopR (n lo hi g : Nat) (b : Nat → Nat) (w wr : World) (l : List Tr) (k : Nat) : Prop where
 blk : ∃ cur, wr.heap[g]? = some (.cells cur 111 (0, 0))
 els : ∀ (j : Nat) (a : Tr), l[j]? = some a → ∃ v, CellsV wr g (j * 15) v ∧ (j < k → RdA n (b j) (b (j + 1)) wr (topX a) v) ∧ (k ≤ j → RdA n (b j) (b (j + 1)) wr a v)
 out : Outs lo hi w wr
def RelTop (n lo hi g : Nat) (b : Nat → Nat) (w : World) (l : List Tr) (i : Value) (wr : World) : Prop := ∃ k : Nat, k ≤ l.length ∧ i = .int .i64 (k : Int) ∧ TopR n lo hi g b w wr l k
def CTop (n : Nat) : Prop := ∀ (l : List Tr) (q : Option Addr) (c : Nat) (w : World) (lo hi : Nat), SlA (RdA n) lo hi w l q → Calls Tryz.prog 26 #[.slice q l.length c] w fun ex w' => ex = .returned (.tuple #[]) ∧ SlA (RdA n) lo hi w' (l.map topX) q ∧ Outs lo hi w w'
section
variable {n lo hi g : Nat} {b : Nat → Nat} {w wr w2 w3 : World} {l : List Tr} {k : Nat}
theorem top_step {k0 a0 lb0 f0 t0 : Nat} {x0 : ByteArray} {o0 : Bool} {e : Tr} {th el : List Tr} {d0 d1 d2 d3 d4 d5 : Value} {p1 p2 : Option Addr} {c1 c2 m1 m2 me : Nat} (h1 : ∀ j, b j ≤ b (j + 1)) (h2 : g < b 0) (h3 : b l.length ≤ hi) (hlo : lo ≤ g) (h : TopR (n + 1) lo hi g b w wr l k) (ha : l[k]? = some (stMk k0 x0 a0 lb0 o0 e th el f0 t0))
  (hcv : CellsV wr g (k * 15) (.agg #[.int .i64 (k0 : Int), .string x0, .int .i64 (a0 : Int), .int .i64 (lb0 : Int), .bool o0, d0, d1, d2, d3, d4, d5, .slice p1 th.length c1, .slice p2 el.length c2, .int .i64 (f0 : Int), .int .i64 (t0 : Int)])) (hE : RdE me (fun z => b k ≤ z ∧ z < m1) wr e (.agg #[d0, d1, d2, d3, d4, d5])) (hm1 : b k ≤ m1) (hm2 : m1 ≤ m2) (hm3 : m2 ≤ b (k + 1))
  (hT : SlA (RdA n) m1 m2 w2 (th.map topX) p1) (o2 : Outs m1 m2 ((wr.setCell ⟨g, k * 15 + 3, none⟩ (.int .i64 255)).setCell ⟨g, k * 15 + 4, none⟩ (.bool false)) w2) (hU : SlA (RdA n) m2 (b (k + 1)) w3 (el.map topX) p2) (o3 : Outs m2 (b (k + 1)) w2 w3) : TopR (n + 1) lo hi g b w w3 l (k + 1) := by
 have hk := (List.getElem?_eq_some_iff.1 ha).1
 have q0 := mono_le h1 0 k (Nat.zero_le _)
 have q1 := mono_le h1 (k + 1) l.length hk
 have hoth : ∀ o, o ≠ k * 15 + 3 → o ≠ k * 15 + 4 → ((wr.setCell ⟨g, k * 15 + 3, none⟩ (.int .i64 255)).setCell ⟨g, k * 15 + 4, none⟩ (.bool false)).cell? ⟨g, o, none⟩ = wr.cell? ⟨g, o, none⟩ := fun o h3 h4 => (World.cell?_setCell_other _ _ _ _ (by intro e; simp only [Addr.mk.injEq] at e; omega)).trans (World.cell?_setCell_other _ _ _ _ (by intro e; simp only [Addr.mk.injEq] at e; omega))
 have hblk : ∀ z, z ≠ g → ((wr.setCell ⟨g, k * 15 + 3, none⟩ (.int .i64 255)).setCell ⟨g, k * 15 + 4, none⟩ (.bool false)).heap[z]? = wr.heap[z]? := fun z hz => (Below.heap_setCell _ _ _ z hz).trans (Below.heap_setCell _ _ _ z hz)
 have hg3 : w3.heap[g]? = ((wr.setCell ⟨g, k * 15 + 3, none⟩ (.int .i64 255)).setCell ⟨g, k * 15 + 4, none⟩ (.bool false)).heap[g]? := (o3.block g (by omega)).trans (o2.block g (by omega))
 have hz : ∀ z, z ≠ g → (z < b k ∨ b (k + 1) ≤ z) → w3.heap[z]? = wr.heap[z]? := fun z h4 h5 => (o3.block z (by omega)).trans ((o2.block z (by omega)).trans (hblk z h4))
 have hzE : ∀ z, b k ≤ z → z < m1 → w3.heap[z]? = wr.heap[z]? := fun z h4 h5 => (o3.block z (by omega)).trans ((o2.block z (by omega)).trans (hblk z (by omega)))
 have hcell : ∀ o, w3.cell? ⟨g, o, none⟩ = ((wr.setCell ⟨g, k * 15 + 3, none⟩ (.int .i64 255)).setCell ⟨g, k * 15 + 4, none⟩ (.bool false)).cell? ⟨g, o, none⟩ := fun o => World.cell?_of_block (a := ⟨g, o, none⟩) hg3
 refine ⟨?_, fun j a hj => ?_, ?_⟩
 ·obtain ⟨cur, hc⟩ := h.blk
  rw [hg3]
  exact ⟨(cur.setIfInBounds (k * 15 + 3) (.int .i64 255)).setIfInBounds (k * 15 + 4) (.bool false), by simp [World.setCell, Array.getElem?_modify, hc]⟩
 ·by_cases hjk : j = k
  ·subst hjk
   rw [ha] at hj
   injection hj with hj
   subst hj
   have c3 : ((wr.setCell ⟨g, j * 15 + 3, none⟩ (.int .i64 255)).setCell ⟨g, j * 15 + 4, none⟩ (.bool false)).cell? ⟨g, j * 15 + 3, none⟩ = some (.int .i64 ((255 : Nat) : Int)) := (World.cell?_setCell_other _ _ _ _ (by intro e; simp only [Addr.mk.injEq] at e; omega)).trans (World.cell?_setCell_same _ _ _ (hcv.get 3 _ rfl))
   have c4 : ((wr.setCell ⟨g, j * 15 + 3, none⟩ (.int .i64 255)).setCell ⟨g, j * 15 + 4, none⟩ (.bool false)).cell? ⟨g, j * 15 + 4, none⟩ = some (.bool false) := World.cell?_setCell_same _ _ _ ((World.cell?_setCell_other _ _ _ _ (by intro e; simp only [Addr.mk.injEq] at e; omega)).trans (hcv.get 4 _ rfl))
   refine ⟨.agg #[.int .i64 (k0 : Int), .string x0, .int .i64 (a0 : Int), .int .i64 ((255 : Nat) : Int), .bool false, d0, d1, d2, d3, d4, d5, .slice p1 th.length c1, .slice p2 el.length c2, .int .i64 (f0 : Int), .int .i64 (t0 : Int)], ⟨_, rfl, fun m u hm => ?_⟩, fun _ => ?_, fun h => by omega⟩
   ·rw [hcell]
    by_cases h33 : m = 3
    ·subst h33
     simp at hm
     subst hm
     exact c3
    ·by_cases h44 : m = 4
     ·subst h44
      simp at hm
      subst hm
      exact c4
     ·rw [hoth _ (by omega) (by omega)]
      refine hcv.get m u ?_
      match m, h33, h44, hm with
      | 0, _, _, hm => exact hm
      | 1, _, _, hm => exact hm
      | 2, _, _, hm => exact hm
      | 5, _, _, hm => exact hm
      | 6, _, _, hm => exact hm
      | 7, _, _, hm => exact hm
      | 8, _, _, hm => exact hm
      | 9, _, _, hm => exact hm
      | 10, _, _, hm => exact hm
      | 11, _, _, hm => exact hm
      | 12, _, _, hm => exact hm
      | 13, _, _, hm => exact hm
      | 14, _, _, hm => exact hm
      | m + 15, _, _, hm => simp at hm
   ·refine ⟨k0, x0, a0, 255, false, e, th.map topX, el.map topX, f0, t0, d0, d1, d2, d3, d4, d5, p1, c1, p2, c2, m1, m2, topX_mk .., by rw [List.length_map, List.length_map], ⟨me, RdE.kept me (fun z hz2 => hzE z hz2.1 hz2.2) (fun _ h => h) _ _ hE⟩, hm1, hm2, hm3, hT.kept (fun z c d => o3.block z (by omega)) (fun lo' hi' c d => RdA.kept n (fun z c2 d2 => o3.block z (by omega))), hU⟩
  ·obtain ⟨v, g1, g2, g3⟩ := h.els j a hj
   have hjl := (List.getElem?_eq_some_iff.1 hj).1
   have hsize : ∀ cs, v = .agg cs → cs.size = 15 := fun cs e => by
    subst e
    by_cases hl : j < k
    ·exact rdA_size (n + 1) (g2 hl)
    ·exact rdA_size (n + 1) (g3 (by omega))
   have r0 := mono_le h1 0 j (Nat.zero_le _)
   have hint : ∀ z, b j ≤ z → z < b (j + 1) → w3.heap[z]? = wr.heap[z]? := fun z h4 h5 => hz z (by omega) (by
    rcases Nat.lt_or_gt_of_ne hjk with hl | hl
    ·have := mono_le h1 (j + 1) k hl; omega
    ·have := mono_le h1 (k + 1) j hl; omega)
   refine ⟨v, g1.off (fun m cs e hm => ?_), fun hl => RdA.kept (n + 1) hint _ _ (g2 (by omega)), fun hl => RdA.kept (n + 1) hint _ _ (g3 (by omega))⟩
   have := hsize cs e
   rw [hcell, hoth _ (by omega) (by omega)]
 ·have h0 := h.out
  refine ⟨o3.os.trans (o2.os.trans h0.os), o3.tape.trans (o2.tape.trans h0.tape), o3.output.trans (o2.output.trans h0.output), o3.size.trans (o2.size.trans (by simpa using h0.size)), fun z hz2 => (hz z (by omega) (by omega)).trans (h0.block z hz2)⟩
end
set_option maxHeartbeats 2000000 in
set_option maxRecDepth 100000 in
theorem top_any (n : Nat) : CTop n := by
 induction n with
 | zero =>
  intro l q c w lo hi h
  have h0 : l.length = 0 := by
   rcases Nat.eq_zero_or_pos l.length with h1 | h1
   ·exact h1
   ·obtain ⟨g, _, _, _, _, b, _, _, _, hl⟩ := h.2 h1
    obtain ⟨va, _, hr⟩ := hl 0 _ (List.getElem?_eq_getElem h1)
    exact hr.elim
  have hl0 : l = [] := List.eq_nil_of_length_eq_zero h0
  subst hl0
  have h00 : ([] : List Tr).length = 0 := rfl
  rw [h00]
  go_enter Tryz.func26, Tryz.ntmps26
  go_wp2
  go_loopw [5] (fun i wr => i = .int .i64 0 ∧ wr = w) (fun _ _ => 0)
  case atStart => exact ⟨rfl, rfl⟩
  case round =>
   obtain ⟨rfl, rfl⟩ := hrel
   go_wp2
   go_end0
   exact ⟨rfl, ⟨by simp, fun h => by simp at h⟩, Outs.refl _ _ _⟩
 | succ n ih =>
  intro l q c w lo hi h
  by_cases h0 : l.length = 0
  ·have hl0 : l = [] := List.eq_nil_of_length_eq_zero h0
   subst hl0
   have h00 : ([] : List Tr).length = 0 := rfl
   rw [h00]
   go_enter Tryz.func26, Tryz.ntmps26
   go_wp2
   go_loopw [5] (fun i wr => i = .int .i64 0 ∧ wr = w) (fun _ _ => 0)
   case atStart => exact ⟨rfl, rfl⟩
   case round =>
    obtain ⟨rfl, rfl⟩ := hrel
    go_wp2
    go_end0
    exact ⟨rfl, ⟨by simp, fun h => by simp at h⟩, Outs.refl _ _ _⟩
  ·obtain ⟨hlen, hits⟩ := h
   obtain ⟨g, rfl, e2, e3, e4, b, m1, m2, m3, e5⟩ := hits (by omega)
   have HS0 := hid (show TopR (n + 1) lo hi g b w w l 0 from ⟨e4, fun j a hj => by
    obtain ⟨v, h1, h2⟩ := e5 j a hj
    exact ⟨v, h1, fun h => by omega, fun _ => h2⟩, Outs.refl _ _ _⟩)
   have HMo := hid m1
   clear hits e4 e5 h0 m1
   go_enter Tryz.func26, Tryz.ntmps26
   go_wp2
   go_loopw [5] (fun i wr => RelTop (n + 1) lo hi g b w l i wr) (fun i _ => upN l.length i)
   case atStart => exact ⟨0, Nat.zero_le _, rfl, HS0.out⟩
   case round =>
    obtain ⟨k, hk, rfl, hR⟩ := hrel
    clear HS0
    by_cases hlt : k < l.length
    ·obtain ⟨a, ha⟩ : ∃ a, l[k]? = some a := ⟨_, List.getElem?_eq_getElem hlt⟩
     obtain ⟨v, hcv, _, hold⟩ := hR.els k a ha
     obtain ⟨k0, x0, a0, lb0, o0, e, th, el, f0, t0, d0, d1, d2, d3, d4, d5, p1, c1, p2, c2, n1, n2, rfl, rfl, ⟨me, hE⟩, r1, r2, r3, hT, hU⟩ := hold (Nat.le_refl _)
     obtain ⟨cur, hcur⟩ := hR.blk
     have fz : ∀ o, wr.frozen? ⟨g, o, none⟩ = false := fun o => by simp [World.frozen?, hcur]
     have y3 := hcv.get 3 _ rfl
     have y4 := hcv.get 4 _ rfl
     have y11 := hcv.get 11 _ rfl
     have y12 := hcv.get 12 _ rfl
     have gk : (0 : Int) ≤ (k : Int) := by omega
     have gk1 : (k : Int) < (l.length : Int) := by omega
     have hkb : k < 1099511627776 := by omega
     have q0 := mono_le HMo.out 0 k (Nat.zero_le _)
     have hblk : ∀ z, z ≠ g → ((wr.setCell ⟨g, k * 15 + 3, none⟩ (.int .i64 255)).setCell ⟨g, k * 15 + 4, none⟩ (.bool false)).heap[z]? = wr.heap[z]? := fun z hz => (Below.heap_setCell _ _ _ z hz).trans (Below.heap_setCell _ _ _ z hz)
     have hT1 : SlA (RdA n) n1 n2 ((wr.setCell ⟨g, k * 15 + 3, none⟩ (.int .i64 255)).setCell ⟨g, k * 15 + 4, none⟩ (.bool false)) th p1 := hT.kept (fun z c d => hblk z (by omega)) (fun lo' hi' c d => RdA.kept n (fun z c2 d2 => hblk z (by omega)))
     have hU1 : SlA (RdA n) n2 (b (k + 1)) ((wr.setCell ⟨g, k * 15 + 3, none⟩ (.int .i64 255)).setCell ⟨g, k * 15 + 4, none⟩ (.bool false)) el p2 := hU.kept (fun z c d => hblk z (by omega)) (fun lo' hi' c d => RdA.kept n (fun z c2 d2 => hblk z (by omega)))
     have z12 : ((wr.setCell ⟨g, k * 15 + 3, none⟩ (.int .i64 255)).setCell ⟨g, k * 15 + 4, none⟩ (.bool false)).cell? ⟨g, k * 15 + 12, none⟩ = some (.slice p2 el.length c2) := (World.cell?_setCell_other _ _ _ _ (by intro e; simp only [Addr.mk.injEq] at e; omega)).trans ((World.cell?_setCell_other _ _ _ _ (by intro e; simp only [Addr.mk.injEq] at e; omega)).trans y12)
     have HC1 := hid (ih th p1 c1 _ n1 n2 hT1)
     have HC2 := hid (fun (w2 : World) (o2 : Outs n1 n2 ((wr.setCell ⟨g, k * 15 + 3, none⟩ (.int .i64 255)).setCell ⟨g, k * 15 + 4, none⟩ (.bool false)) w2) => ih el p2 c2 w2 n2 (b (k + 1)) (hU1.kept (fun z c d => o2.block z (by omega)) (fun lo' hi' c d => RdA.kept n (fun z c2 d2 => o2.block z (by omega)))))
     have HZ := hid z12
     have HA := hid (And.intro ha (And.intro hcv (And.intro hE (And.intro r1 (And.intro r2 r3)))))
     have HK := hid hlt
     have F1 : Hid (1 = 1) := rfl
     have HG := hid (show g < n1 by omega)
     clear hold hT hU hlt hk ha hcv hE hcur hblk hT1 hU1 z12 y12
     go_wp2_with (first
      | (go_at_call 26; have ff := F1; clear ff F1; refine Calls.mono HC1.out ?_; rintro ex w2 ⟨rfl, hT2, o2⟩; have z12 := (World.cell?_of_block (a := ⟨g, k * 15 + 12, none⟩) (o2.block g (Or.inl HG.out))).trans HZ.out; have HC3 := hid (HC2.out w2 o2))
      | (go_at_call 26; refine Calls.mono HC3.out ?_; rintro ex w3 ⟨rfl, hU3, o3⟩))
     go_roundw
     case rel => exact ⟨k + 1, by have := HK.out; omega, by go_num, top_step HMo.out m2 m3 e2 hR HA.out.1 HA.out.2.1 HA.out.2.2.1 HA.out.2.2.2.1 HA.out.2.2.2.2.1 HA.out.2.2.2.2.2 hT2 o2 hU3 o3⟩
     case measure => have := HK.out; simp [upN, intOf]; omega
    ·obtain rfl : k = l.length := by omega
     clear hlt hk
     go_wp2
     go_end0
     refine ⟨rfl, ⟨by rw [List.length_map]; exact hlen, fun _ => ⟨g, rfl, e2, e3, hR.blk, b, HMo.out, m2, by rw [List.length_map]; exact m3, fun j a hj => ?_⟩⟩, hR.out⟩
     rw [List.getElem?_map] at hj
     obtain ⟨a', ha', rfl⟩ := Option.map_eq_some_iff.1 hj
     obtain ⟨v, h1, h2, _⟩ := hR.els j a' ha'
     exact ⟨v, h1, h2 (List.getElem?_eq_some_iff.1 ha').1⟩
end Go.Proofs.YtdkpfnohdknldaaGreatDoor

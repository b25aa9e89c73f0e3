/- Texts of this seat, one behind the other: FloScope, FloState, FloExpr. -/
import Derived.Test.YtdkpfnohdknldaaGreatDoorZg24
import Derived.Test.YtdkpfnohdknldaaGreatDoorZg16
namespace Go.Proofs.YtdkpfnohdknldaaGreatDoor
open Go.RowKit
set_option linter.unusedVariables false
attribute [local go_sem ↓] Go.wp_at_zero Go.wp_at_succ
def SfAt (ok : Nat → Prop) (w : World) : Env → Value → Prop
 | [], v => v = .func (.func 79) #[] #[]
 | (y, a) :: r, v => ∃ bn ba bi v', v = .func (.func 99) #[] #[.pointer (some ⟨bn, 0, none⟩), .pointer (some ⟨ba, 0, none⟩), .pointer (some ⟨bi, 0, none⟩)] ∧ ok bn ∧ ok ba ∧ ok bi ∧ w.cell? ⟨bn, 0, none⟩ = some (.string y) ∧ w.cell? ⟨ba, 0, none⟩ = some (.int .i64 (a : Int)) ∧ w.cell? ⟨bi, 0, none⟩ = some v' ∧ SfAt ok w r v'
theorem SfAt.kept {ok ok' : Nat → Prop} {w w' : World} (hw : ∀ k, ok k → w'.heap[k]? = w.heap[k]?) (ho : ∀ k, ok k → ok' k) : ∀ (env : Env) (v : Value), SfAt ok w env v → SfAt ok' w' env v := by
 intro env
 induction env with
 | nil => intro v h; exact h
 | cons e r ih =>
  obtain ⟨y, a⟩ := e
  intro v h
  obtain ⟨bn, ba, bi, v', h1, h2, h3, h3', h4, h5, h6, h7⟩ := h
  exact ⟨bn, ba, bi, v', h1, ho _ h2, ho _ h3, ho _ h3', (World.cell?_of_block (a := ⟨bn, 0, none⟩) (hw _ h2)).trans h4, (World.cell?_of_block (a := ⟨ba, 0, none⟩) (hw _ h3)).trans h5, (World.cell?_of_block (a := ⟨bi, 0, none⟩) (hw _ h3')).trans h6, ih v' h7⟩
theorem SfAt.step {bo : Nat} {D D' : Option Nat} {w w' : World} {env : Env} {v : Value} (h : SfAt (okS 0 bo D w) w env v) (hs : Stp bo D D' w w') : SfAt (okS 0 bo D' w') w' env v := SfAt.kept (okS.step hs).1 (okS.step hs).2 env v h
set_option maxHeartbeats 1000000 in
set_option maxRecDepth 100000 in
theorem fnothing_any (x : ByteArray) (w : World) : Calls Tryz.prog 79 #[.string x] w fun e w' => e = .returned (.int .i64 ((0 : Nat) : Int)) ∧ w' = w := by
 go_enter Tryz.func79, Tryz.ntmps79
 go_wp2
 go_ret
 exact ⟨rfl, rfl⟩
theorem envN_hit (x : ByteArray) (a : Nat) (r : Env) : envN ((x, a) :: r) x = a := by unfold envN envL; rw [if_pos rfl]; rfl
theorem envN_miss {x y : ByteArray} (h : ¬ x = y) (a : Nat) (r : Env) : envN ((y, a) :: r) x = envN r x := by unfold envN; conv => lhs; unfold envL; rw [if_neg h]
set_option maxHeartbeats 1000000 in
set_option maxRecDepth 100000 in
theorem fwith1_any (x : ByteArray) (ok : Nat → Prop) (w : World) : ∀ (r : Env) (y : ByteArray) (a bn ba bi : Nat) (v' : Value), w.cell? ⟨bn, 0, none⟩ = some (.string y) → w.cell? ⟨ba, 0, none⟩ = some (.int .i64 (a : Int)) → w.cell? ⟨bi, 0, none⟩ = some v' → SfAt ok w r v' →
  Calls Tryz.prog 99 #[.string x, .pointer (some ⟨bn, 0, none⟩), .pointer (some ⟨ba, 0, none⟩), .pointer (some ⟨bi, 0, none⟩)] w fun e w' => e = .returned (.int .i64 (envN ((y, a) :: r) x : Int)) ∧ w' = w := by
 intro r
 induction r with
 | nil =>
  intro y a bn ba bi v' h0 h1 h2 hs
  have hv : v' = .func (.func 79) #[] #[] := hs
  subst hv
  by_cases hx : x = y
  ·have g : (x.toList == y.toList) = true := (Lib.bytes_beq_iff _ _).2 hx
   rw [hx, envN_hit, ← hx]
   clear hx
   go_enter Tryz.func99, Tryz.ntmps99
   go_wp2
   go_ret
   exact ⟨rfl, rfl⟩
  ·have g : (x.toList == y.toList) = false := (Lib.bytes_beq_false_iff _ _).2 hx
   rw [envN_miss hx, show envN [] x = 0 from rfl]
   clear hx
   go_enter Tryz.func99, Tryz.ntmps99
   go_wp2_with (first
    | (go_at_call 79; refine (fnothing_any x _).mono ?_; rintro e w1 ⟨rfl, hw1⟩; subst w1))
   go_ret
   exact ⟨rfl, rfl⟩
 | cons e r ih =>
  obtain ⟨y2, a2⟩ := e
  intro y a bn ba bi v' h0 h1 h2 hs
  obtain ⟨bn2, ba2, bi2, v2, hv, _, _, _, k0, k1, k2, hs2⟩ := hs
  subst hv
  have HC := hid (ih y2 a2 bn2 ba2 bi2 v2 k0 k1 k2 hs2)
  clear ih k0 k1 k2 hs2
  by_cases hx : x = y
  ·have g : (x.toList == y.toList) = true := (Lib.bytes_beq_iff _ _).2 hx
   rw [hx, envN_hit, ← hx]
   clear hx
   go_enter Tryz.func99, Tryz.ntmps99
   go_wp2
   go_ret
   exact ⟨rfl, rfl⟩
  ·have g : (x.toList == y.toList) = false := (Lib.bytes_beq_false_iff _ _).2 hx
   rw [envN_miss hx]
   generalize envN ((y2, a2) :: r) x = m at *
   clear hx
   go_enter Tryz.func99, Tryz.ntmps99
   go_wp2_with (first
    | (go_at_call 99; refine HC.out.mono ?_; rintro e w1 ⟨rfl, hw1⟩; subst w1))
   go_ret
   exact ⟨rfl, rfl⟩
theorem SfAt.call {ok : Nat → Prop} {w : World} {env : Env} {v : Value} (h : SfAt ok w env v) : ∃ ps cs, v = .func (.func ps) #[] cs ∧ (∀ (args : Array Value) (w : World), (callFunc ps args).run Tryz.prog w = .ok (.enter ps args) w) ∧ ∀ w', (∀ k, ok k → w'.heap[k]? = w.heap[k]?) → ∀ x, Calls Tryz.prog ps (#[.string x] ++ cs) w' fun e w2 => e = .returned (.int .i64 (envN env x : Int)) ∧ w2 = w' := by
 cases env with
 | nil =>
  obtain rfl : v = .func (.func 79) #[] #[] := h
  exact ⟨_, _, rfl, Tryz.call79, fun w' _ x => fnothing_any x w'⟩
 | cons e r =>
  obtain ⟨y, a⟩ := e
  obtain ⟨bn, ba, bi, v', rfl, h2, h3, h3', h4, h5, h6, h7⟩ := h
  exact ⟨_, _, rfl, Tryz.call99, fun w' hw x => fwith1_any x ok w' r y a bn ba bi v' ((World.cell?_of_block (a := ⟨bn, 0, none⟩) (hw _ h2)).trans h4) ((World.cell?_of_block (a := ⟨ba, 0, none⟩) (hw _ h3)).trans h5) ((World.cell?_of_block (a := ⟨bi, 0, none⟩) (hw _ h3')).trans h6) (SfAt.kept hw (fun _ h => h) r v' h7)⟩
theorem one_new (w : World) (v : Value) (T : TypeId) : (w.alloc (.cells #[v] T)).cell? ⟨w.heap.size, 0, none⟩ = some v := cell_of_row _ _ 0 _ _ _ (heap_alloc_new w (.cells #[v] T))
set_option maxHeartbeats 1000000 in
set_option maxRecDepth 100000 in
theorem fwith_any {bo : Nat} {D : Option Nat} {w : World} (hbo : bo < w.heap.size) (hD : ∀ k, some k = D → k < w.heap.size) {env : Env} {sv : Value} (hs : SfAt (okS 0 bo D w) w env sv) (x : ByteArray) (a : Nat) :
  Calls Tryz.prog 80 #[sv, .string x, .int .i64 (a : Int)] w fun e w' => ∃ v, e = .returned v ∧ SfAt (okS 0 bo D w') w' (scMk env x a) v ∧ Below w.heap.size w w' := by
 have hmf : ∀ (fn : Fn) (first cap : Array Value) (w : World), (Instr.makeFunc fn first cap).run Tryz.prog w = .ok (.func fn first cap) w := fun _ _ _ _ => rfl
 obtain ⟨ps, cs, rfl, es, _⟩ := hs.call
 have hb1 := (Below.refl w.heap.size w).alloc (Nat.le_refl _) (.cells #[.func (.func ps) #[] cs] 137)
 have hb2 := hb1.alloc (by simp) (.cells #[.string x] 9)
 have hb := hb2.alloc (by simp; omega) (.cells #[.int .i64 (a : Int)] 3)
 have e1 : (w.alloc (.cells #[.func (.func ps) #[] cs] 137)).heap.size = w.heap.size + 1 := by simp
 have e2 : ((w.alloc (.cells #[.func (.func ps) #[] cs] 137)).alloc (.cells #[.string x] 9)).heap.size = w.heap.size + 2 := by simp
 have c0 := one_new w (.func (.func ps) #[] cs) 137
 have c1 := one_new (w.alloc (.cells #[.func (.func ps) #[] cs] 137)) (.string x) 9
 have c2 := one_new ((w.alloc (.cells #[.func (.func ps) #[] cs] 137)).alloc (.cells #[.string x] 9)) (.int .i64 (a : Int)) 3
 rw [e1] at c1
 rw [e2] at c2
 have c0 := cell_alloc (cell_alloc c0 (.cells #[.string x] 9)) (.cells #[.int .i64 (a : Int)] 3)
 have c1 := cell_alloc c1 (.cells #[.int .i64 (a : Int)] 3)
 have HSt : Hid (Stp bo D D w (((w.alloc (.cells #[.func (.func ps) #[] cs] 137)).alloc (.cells #[.string x] 9)).alloc (.cells #[.int .i64 (a : Int)] 3))) := Stp.below hb
 have hfr : ∀ k, w.heap.size ≤ k → k < w.heap.size + 3 → okS 0 bo D (((w.alloc (.cells #[.func (.func ps) #[] cs] 137)).alloc (.cells #[.string x] 9)).alloc (.cells #[.int .i64 (a : Int)] 3)) k := fun k h1 h2 => ⟨Nat.zero_le _, by simp; omega, by omega, fun e => by have := hD k e; omega⟩
 have HR : Hid (SfAt (okS 0 bo D (((w.alloc (.cells #[.func (.func ps) #[] cs] 137)).alloc (.cells #[.string x] 9)).alloc (.cells #[.int .i64 (a : Int)] 3))) (((w.alloc (.cells #[.func (.func ps) #[] cs] 137)).alloc (.cells #[.string x] 9)).alloc (.cells #[.int .i64 (a : Int)] 3)) ((x, a) :: env) (.func (.func 99) #[] #[.pointer (some ⟨w.heap.size + 1, 0, none⟩), .pointer (some ⟨w.heap.size + 2, 0, none⟩), .pointer (some ⟨w.heap.size, 0, none⟩)])) :=
  ⟨w.heap.size + 1, w.heap.size + 2, w.heap.size, _, rfl, hfr _ (by omega) (by omega), hfr _ (by omega) (by omega), hfr _ (by omega) (by omega), c1, c2, c0, SfAt.step hs HSt.out⟩
 have HS := hid (SfAt.step hs HSt.out)
 have HB := hid hb
 clear hs hfr e1 e2 hb hb1 hb2
 unfold scMk
 by_cases hx : x = noB
 ·rw [if_pos hx]
  have gx : x.toList.isEmpty = true := by rw [hx, noB_list]; rfl
  clear hx
  go_enter Tryz.func80, Tryz.ntmps80
  go_wp2
  go_ret
  exact ⟨_, rfl, HS.out, HB.out⟩
 ·rw [if_neg hx]
  have gx : x.toList.isEmpty = false := by
   have h := (Lib.bytes_beq_false_iff x noB).2 hx
   rw [noB_list] at h
   cases hl : x.toList with
   | nil => rw [hl] at h; cases h
   | cons a r => rfl
  clear hx
  go_enter Tryz.func80, Tryz.ntmps80
  go_wp2
  go_ret
  exact ⟨_, rfl, HR.out, HB.out⟩
end Go.Proofs.YtdkpfnohdknldaaGreatDoor
namespace Go.Proofs.YtdkpfnohdknldaaGreatDoor
open Go.RowKit
set_option linter.unusedVariables false
attribute [local go_sem ↓] Go.wp_at_zero Go.wp_at_succ
def TlF (bo : Nat) (G : World → List Fv → Option Nat → Prop) (D : Option Nat) (L : List Fv) (w w' : World) : Prop := ∃ D', G w' L D' ∧ Stp bo D D' w w'
structure LsF (bo b0 pw ph : Nat) (cw ch : Array Value) (G : World → List Fv → Option Nat → Prop) : Prop where
 ew : ∀ (args : Array Value) (w : World), (callFunc pw args).run Tryz.prog w = .ok (.enter pw args) w
 eh : ∀ (args : Array Value) (w : World), (callFunc ph args).run Tryz.prog w = .ok (.enter ph args) w
 lo : bo < b0
 lt : ∀ w l D, G w l D → b0 ≤ w.heap.size ∧ ∀ k, some k = D → k < w.heap.size
 kept : ∀ w w' l D, G w l D → w.heap.size ≤ w'.heap.size → (∀ k, k < b0 ∨ some k = D → w'.heap[k]? = w.heap[k]?) → G w' l D
 wrong : ∀ (w : World) (l : List Fv) (D : Option Nat) (f t : Nat) (x : ByteArray), G w l D → (noF l).length < 1099511627776 → Calls Tryz.prog pw (#[.agg #[.int .i64 (f : Int), .int .i64 (t : Int), .int .i64 9, .string x]] ++ cw) w fun ex w' => ex = .returned (.tuple #[]) ∧ TlF bo G D (l ++ [fvNo f t x]) w w'
 heard : ∀ (w : World) (l : List Fv) (D : Option Nat) (k : Nat) (x : ByteArray) (m : Nat) (q : Option Addr) (n c f t s : Nat), G w l D → Calls Tryz.prog ph (#[.agg #[.int .i64 (k : Int), .string x, .int .i64 (m : Int), .slice q n c, .int .i64 (f : Int), .int .i64 (t : Int)], .int .i64 (s : Int)] ++ ch) w fun ex w' => ex = .returned (.tuple #[]) ∧ TlF bo G D (l ++ [fvSay f t s]) w w'
structure WkF (bo : Nat) (l : List (Int × It)) (fs : List Nat) (q : Option Addr) (c : Nat) (fq : Option Addr) (D : Option Nat) (w : World) : Prop where
 file : RdF (okS 0 bo D w) w l (.agg #[.slice q l.length c])
 floors : SlAt (okS 0 bo D w) w 1 (fun n : Nat => [Value.int .i64 (n : Int)]) fs fq
 len : fs.length = l.length
section
variable {bo b0 pw ph : Nat} {cw ch : Array Value} {G : World → List Fv → Option Nat → Prop} {l : List (Int × It)} {fs : List Nat} {q : Option Addr} {c : Nat} {fq : Option Addr} {D D' : Option Nat} {w w' : World} {L : List Fv}
theorem WkF.step (h : WkF bo l fs q c fq D w) (hs : Stp bo D D' w w') : WkF bo l fs q c fq D' w' :=
 ⟨RdF.kept h.file (okS.step hs).1 (okS.step hs).2, (h.floors.kept (okS.step hs).1).wide (okS.step hs).2, h.len⟩
theorem LsF.below (hL : LsF bo b0 pw ph cw ch G) (hg : G w L D) (hb : Below w.heap.size w w') : G w' L D :=
 hL.kept w w' L D hg hb.size (fun k hk => hb.block k (by rcases hk with h | h; exact Nat.lt_of_lt_of_le h (hL.lt w L D hg).1; exact (hL.lt w L D hg).2 k h))
theorem LsF.fresh (hL : LsF bo b0 pw ph cw ch G) (hg : G w L D) {k : Nat} (h1 : w.heap.size ≤ k) (h2 : k < w'.heap.size) : okS 0 bo D w' k :=
 ⟨Nat.zero_le _, h2, fun e => by have := (hL.lt w L D hg).1; have := hL.lo; omega, fun e => by have := (hL.lt w L D hg).2 k e; omega⟩
theorem LsF.lows (hL : LsF bo b0 pw ph cw ch G) (hg : G w L D) : bo < w.heap.size ∧ ∀ k, some k = D → k < w.heap.size := ⟨Nat.lt_of_lt_of_le hL.lo (hL.lt w L D hg).1, (hL.lt w L D hg).2⟩
end
set_option maxHeartbeats 1000000 in
set_option maxRecDepth 100000 in
theorem unsaid_any (w : World) (f t e : Int) (x : ByteArray) : Calls Tryz.prog 49 #[.agg #[.int .i64 f, .int .i64 t, .int .i64 e, .string x]] w fun ex w' => ex = .returned (.tuple #[]) ∧ Below w.heap.size w w' := by
 have hb := (Below.refl w.heap.size w).alloc (Nat.le_refl _) (.cells #[.int .i64 f, .int .i64 t, .int .i64 e, .string x] 65)
 go_enter Tryz.func49, Tryz.ntmps49
 go_wp2
 go_end0
 exact ⟨rfl, hb⟩
set_option maxHeartbeats 1000000 in
set_option maxRecDepth 100000 in
theorem unheard_any (w : World) (k : Int) (x : ByteArray) (m : Int) (q : Option Addr) (n c : Nat) (f t s : Int) : Calls Tryz.prog 78 #[.agg #[.int .i64 k, .string x, .int .i64 m, .slice q n c, .int .i64 f, .int .i64 t], .int .i64 s] w fun ex w' => ex = .returned (.tuple #[]) ∧ Below w.heap.size w w' := by
 have hb := (Below.refl w.heap.size w).alloc (Nat.le_refl _) (.cells #[.int .i64 k, .string x, .int .i64 m, .slice q n c, .int .i64 f, .int .i64 t] 100)
 go_enter Tryz.func78, Tryz.ntmps78
 go_wp2
 go_end0
 exact ⟨rfl, hb⟩
section
variable {bo b0 pw ph : Nat} {cw ch : Array Value} {G : World → List Fv → Option Nat → Prop} {D : Option Nat} {w : World} {L : List Fv}
theorem lsSilent (hL : LsF bo b0 pw ph cw ch G) (L : List Fv) : LsF bo b0 49 78 #[] #[] (fun w _ D => G w L D) where
 ew := Tryz.call49
 eh := Tryz.call78
 lo := hL.lo
 lt := fun w _ D h => hL.lt w L D h
 kept := fun w w' _ D h hs hk => hL.kept w w' L D h hs hk
 wrong := fun w _ D f t x hg _ => (unsaid_any w f t 9 x).mono fun ex w' h => ⟨h.1, D, hL.below hg h.2, Stp.below h.2⟩
 heard := fun w _ D k x m q n c f t s hg => (unheard_any w k x m q n c f t s).mono fun ex w' h => ⟨h.1, D, hL.below hg h.2, Stp.below h.2⟩
set_option maxHeartbeats 1000000 in
set_option maxRecDepth 100000 in
theorem fl_flows_any (hL : LsF bo b0 pw ph cw ch G) (hg : G w L D) (hn : (noF L).length < 1099511627776) (q : Option Addr) (n c : Nat) (fq : Option Addr) (m fc bk : Nat) (a b f t : Nat) (x : ByteArray) :
  Calls Tryz.prog 162 #[.agg #[.slice q n c, .slice fq m fc, .int .i64 (bk : Int), .func (.func pw) #[] cw, .func (.func ph) #[] ch], .int .i64 (a : Int), .int .i64 (b : Int), .agg #[.int .i64 (f : Int), .int .i64 (t : Int), .int .i64 0, .string x]] w fun e w' => e = .returned (.tuple #[]) ∧ TlF bo G D (L ++ opF a b f t x) w w' := by
 have ew := hL.ew
 have hb1 := (Below.refl w.heap.size w).alloc (Nat.le_refl _) (.cells #[.slice q n c, .slice fq m fc, .int .i64 (bk : Int), .func (.func pw) #[] cw, .func (.func ph) #[] ch] 104)
 have hb2 := hb1.alloc (by simp) (.cells #[.int .i64 (f : Int), .int .i64 (t : Int), .int .i64 0, .string x] 65)
 have HF := hid (fun W => flowsN_any a b W)
 unfold opF
 by_cases hf : flw a b = true
 ·rw [if_pos hf, List.append_nil]
  rw [hf] at HF
  have hg2 := hL.below hg hb2
  clear hf
  go_enter Tryz.func162, Tryz.ntmps162
  go_wp2_with (first
   | (go_at_call 63; refine Calls.mono (HF.out _) ?_; rintro e w1 ⟨rfl, hw1⟩; subst w1))
  go_end0
  exact ⟨rfl, D, hg2, Stp.below hb2⟩
 ·rw [if_neg hf]
  have hf : flw a b = false := by simpa using hf
  rw [hf] at HF
  have hb3 := hb1.alloc (by simp) (.cells #[.int .i64 (f : Int), .int .i64 (t : Int), .int .i64 9, .string x] 65)
  have hg2 := hL.below hg hb3
  have HW := hid (hL.wrong _ L D f t x hg2 hn)
  have hS2 : Stp bo D D w _ := Stp.below hb3
  clear hf hg2 hb1 hb2 hb3
  go_enter Tryz.func162, Tryz.ntmps162
  go_wp2_with (first
   | (go_at_call 63; refine Calls.mono (HF.out _) ?_; rintro e w1 ⟨rfl, hw1⟩; subst w1)
   | ((with_reducible refine Calls.mono HW.out ?_); rintro e w2 ⟨rfl, D2, hG2, hSt2⟩))
  go_end0
  exact ⟨rfl, D2, hG2, hS2.trans hSt2⟩
theorem fl_tells_any (hL : LsF bo b0 pw ph cw ch G) (hg : G w L D) (hn : (noF L).length < 1099511627776) (q : Option Addr) (n c : Nat) (fq : Option Addr) (m fc bk : Nat) (s to : Nat) (k : Int) (x : ByteArray) (a lb : Int) (o : Bool) (ek : Int) (ex : ByteArray) (en : Int) (ep : Option Addr) (el ec : Nat) (ef et : Int) (p1 : Option Addr) (l1 c1 : Nat) (p2 : Option Addr) (l2 c2 : Nat) (f t : Nat) :
  Calls Tryz.prog 129 #[.agg #[.slice q n c, .slice fq m fc, .int .i64 (bk : Int), .func (.func pw) #[] cw, .func (.func ph) #[] ch], .agg #[.int .i64 k, .string x, .int .i64 a, .int .i64 lb, .bool o, .int .i64 ek, .string ex, .int .i64 en, .slice ep el ec, .int .i64 ef, .int .i64 et, .slice p1 l1 c1, .slice p2 l2 c2, .int .i64 (f : Int), .int .i64 (t : Int)], .int .i64 (s : Int), .int .i64 (to : Int)] w fun e w' => e = .returned (.tuple #[]) ∧ TlF bo G D (L ++ opF s to f t x) w w' := by
 have hb1 := (Below.refl w.heap.size w).alloc (Nat.le_refl _) (.cells #[.slice q n c, .slice fq m fc, .int .i64 (bk : Int), .func (.func pw) #[] cw, .func (.func ph) #[] ch] 104)
 have hb2 := hb1.alloc (by simp) (.cells #[.int .i64 k, .string x, .int .i64 a, .int .i64 lb, .bool o, .int .i64 ek, .string ex, .int .i64 en, .slice ep el ec, .int .i64 ef, .int .i64 et, .slice p1 l1 c1, .slice p2 l2 c2, .int .i64 (f : Int), .int .i64 (t : Int)] 111)
 have HC := hid (fl_flows_any hL (hL.below hg hb2) hn q n c fq m fc bk s to f t x)
 have hS : Stp bo D D w _ := Stp.below hb2
 clear hb1 hb2 hn
 go_enter Tryz.func129, Tryz.ntmps129
 go_wp2_with (first
  | (go_at_call 162; refine Calls.mono HC.out ?_; rintro e w2 ⟨rfl, D2, hG2, hSt2⟩))
 go_end0
 exact ⟨rfl, D2, hG2, hS.trans hSt2⟩
end
end Go.Proofs.YtdkpfnohdknldaaGreatDoor
namespace Go.Proofs.YtdkpfnohdknldaaGreatDoor
open Go.RowKit
set_option linter.unusedVariables false
attribute [local go_sem ↓] Go.wp_at_zero Go.wp_at_succ
theorem five_at {w1 : World} {b : Nat} {u0 u1 u2 u3 u4 : Value} {t : TypeId} (h : w1.heap[b]? = some (.cells #[u0, u1, u2, u3, u4] t (0, 0))) : w1.cell? ⟨b, 0, none⟩ = some u0 ∧ w1.cell? ⟨b, 1, none⟩ = some u1 ∧ w1.cell? ⟨b, 2, none⟩ = some u2 ∧ w1.cell? ⟨b, 3, none⟩ = some u3 ∧ w1.cell? ⟨b, 4, none⟩ = some u4 :=
 ⟨cell_of_row _ _ _ _ _ _ h, cell_of_row _ _ _ _ _ _ h, cell_of_row _ _ _ _ _ _ h, cell_of_row _ _ _ _ _ _ h, cell_of_row _ _ _ _ _ _ h⟩
theorem sixF_at {w1 : World} {b : Nat} {u0 u1 u2 u3 u4 u5 : Value} {t : TypeId} (h : w1.heap[b]? = some (.cells #[u0, u1, u2, u3, u4, u5] t (0, 0))) : w1.cell? ⟨b, 0, none⟩ = some u0 ∧ w1.cell? ⟨b, 1, none⟩ = some u1 ∧ w1.cell? ⟨b, 2, none⟩ = some u2 ∧ w1.cell? ⟨b, 3, none⟩ = some u3 ∧ w1.cell? ⟨b, 4, none⟩ = some u4 ∧ w1.cell? ⟨b, 5, none⟩ = some u5 :=
 ⟨cell_of_row _ _ _ _ _ _ h, cell_of_row _ _ _ _ _ _ h, cell_of_row _ _ _ _ _ _ h, cell_of_row _ _ _ _ _ _ h, cell_of_row _ _ _ _ _ _ h, cell_of_row _ _ _ _ _ _ h⟩
def CSx (bo pw ph : Nat) (cw ch : Array Value) (G : World → List Fv → Option Nat → Prop) (l : List (Int × It)) (fs : List Nat) (q : Option Addr) (c : Nat) (fq : Option Addr) (fc bk : Nat) (n : Nat) : Prop := ∀ (D : Option Nat) (w : World) (L : List Fv) (env : Env) (sv : Value) (e : Tr) (v : Value) (u : Nat), WkF bo l fs q c fq D w → G w L D → SfAt (okS 0 bo D w) w env sv → RdE n (okS 0 bo D w) w e v → (noF (L ++ fvX l fs env u e)).length < 1099511627776 →
 Calls Tryz.prog 130 #[.agg #[.slice q l.length c, .slice fq fs.length fc, .int .i64 (bk : Int), .func (.func pw) #[] cw, .func (.func ph) #[] ch], sv, v, .int .i64 (u : Int)] w fun ex w' => ex = .returned (.int .i64 (lbX l env u e : Int)) ∧ TlF bo G D (L ++ fvX l fs env u e) w w'
def CSc (bo pw ph : Nat) (cw ch : Array Value) (G : World → List Fv → Option Nat → Prop) (l : List (Int × It)) (fs : List Nat) (q : Option Addr) (c : Nat) (fq : Option Addr) (fc bk : Nat) (n : Nat) : Prop := ∀ (D : Option Nat) (w : World) (L : List Fv) (env : Env) (sv : Value) (u k : Nat) (x : ByteArray) (m : Nat) (al : List Tr) (f t : Nat) (qa : Option Addr) (ca : Nat), WkF bo l fs q c fq D w → G w L D → SfAt (okS 0 bo D w) w env sv → SlT (okS 0 bo D w) (RdE n (okS 0 bo D w) w) w 6 al qa → (noF (L ++ fvAs (fvX l fs env u) (lbX l env u) (fnP l x) al ++ opF u (fnF l fs x) f t x)).length < 1099511627776 →
 Calls Tryz.prog 164 #[.agg #[.slice q l.length c, .slice fq fs.length fc, .int .i64 (bk : Int), .func (.func pw) #[] cw, .func (.func ph) #[] ch], sv, .agg #[.int .i64 (k : Int), .string x, .int .i64 (m : Int), .slice qa al.length ca, .int .i64 (f : Int), .int .i64 (t : Int)], .int .i64 (u : Int)] w fun ex w' => ex = .returned (.int .i64 (fnL l x : Int)) ∧ TlF bo G D (L ++ fvAs (fvX l fs env u) (lbX l env u) (fnP l x) al ++ opF u (fnF l fs x) f t x) w w'
def RelF3 (bo : Nat) (G : World → List Fv → Option Nat → Prop) (D : Option Nat) (w : World) (M : Nat → List Fv) (N : Nat → Nat) (n : Nat) (nv i : Value) (wr : World) : Prop := ∃ k : Nat, k ≤ n ∧ nv = .int .i64 (N k : Int) ∧ i = .int .i64 (k : Int) ∧ TlF bo G D (M k) w wr
def RelF4 (bo : Nat) (G : World → List Fv → Option Nat → Prop) (D : Option Nat) (w : World) (M : Nat → List Fv) (n : Nat) (i : Value) (wr : World) : Prop := ∃ k : Nat, k ≤ n ∧ i = .int .i64 (k : Int) ∧ TlF bo G D (M k) w wr
theorem fl_flat_take {α : Type} {f : α → List Fv} {al : List α} {k : Nat} {a : α} (L : List Fv) (h : al[k]? = some a) : L ++ (al.take (k + 1)).flatMap f = L ++ (al.take k).flatMap f ++ f a := by
 rw [List.take_add_one, h, List.flatMap_append, List.append_assoc]
 simp
theorem fl_fold_take {al : List Tr} {k : Nat} {a : Tr} {B : Tr → Nat} (u : Nat) (h : al[k]? = some a) : (al.take (k + 1)).foldl (fun m a => jnL m (B a)) u = jnL ((al.take k).foldl (fun m a => jnL m (B a)) u) (B a) := by
 rw [List.take_add_one, h, List.foldl_append]
 simp
theorem noF_le_app (a b : List Fv) : (noF a).length ≤ (noF (a ++ b)).length := by rw [noF_ap]; omega
theorem fl_flat_less {α : Type} {f : α → List Fv} (al : List α) (k : Nat) (L : List Fv) : (noF (L ++ (al.take k).flatMap f)).length ≤ (noF (L ++ al.flatMap f)).length := by
 have h : L ++ al.flatMap f = L ++ (al.take k).flatMap f ++ (al.drop k).flatMap f := by rw [List.append_assoc, ← List.flatMap_append, List.take_append_drop]
 rw [h]
 exact noF_le_app _ _
def paF (ps : List Pm) (B : Tr → Nat) (k : Nat) (a : Tr) : List Fv := match ps[k]? with | some p => opF (B a) p.l (exF a) (exT a) p.x | none => []
theorem fvAs_take {F : Tr → List Fv} {B : Tr → Nat} : ∀ (al : List Tr) (ps : List Pm) (k : Nat) (a : Tr), al[k]? = some a → fvAs F B ps (al.take (k + 1)) = fvAs F B ps (al.take k) ++ F a ++ paF ps B k a := by
 intro al
 induction al with
 | nil => intro ps k a h; cases h
 | cons b r ih =>
  intro ps k a h
  cases k with
  | zero =>
   rw [List.getElem?_cons_zero] at h
   injection h with h
   subst h
   cases ps with
   | nil => simp [fvAs, paF]
   | cons p ps => simp [fvAs, paF]
  | succ k =>
   rw [List.getElem?_cons_succ] at h
   cases ps with
   | nil =>
    rw [List.take_succ_cons, List.take_succ_cons]
    unfold fvAs
    rw [ih [] k a h]
    simp [paF]
   | cons p ps =>
    rw [List.take_succ_cons, List.take_succ_cons]
    unfold fvAs
    rw [ih ps k a h]
    simp [paF, List.append_assoc]
theorem fvAs_less {F : Tr → List Fv} {B : Tr → Nat} (al : List Tr) (ps : List Pm) (k : Nat) : (noF (fvAs F B ps (al.take k))).length ≤ (noF (fvAs F B ps al)).length := by
 rcases Nat.lt_or_ge k al.length with h | h
 ·have key : ∀ d, k + d ≤ al.length → (noF (fvAs F B ps (al.take k))).length ≤ (noF (fvAs F B ps (al.take (k + d)))).length := by
   intro d
   induction d with
   | zero => intro _; exact Nat.le_refl _
   | succ d ih =>
    intro hd
    have h1 := ih (by omega)
    obtain ⟨a, ha⟩ : ∃ a, al[k + d]? = some a := ⟨_, List.getElem?_eq_getElem (by omega)⟩
    rw [show k + (d + 1) = k + d + 1 by omega, fvAs_take al ps (k + d) a ha, List.append_assoc, noF_ap]
    omega
  have := key (al.length - k) (by omega)
  rwa [show k + (al.length - k) = al.length by omega, List.take_length] at this
 ·rw [List.take_of_length_le h]
  exact Nat.le_refl _
section
variable {bo b0 pw ph : Nat} {cw ch : Array Value} {G : World → List Fv → Option Nat → Prop} {l : List (Int × It)} {fs : List Nat} {q : Option Addr} {c : Nat} {fq : Option Addr} {fc bk : Nat}
set_option maxHeartbeats 4000000 in
set_option maxRecDepth 100000 in
theorem fl_secret_succ {n : Nat} (hL : LsF bo b0 pw ph cw ch G) (ih : CSx bo pw ph cw ch G l fs q c fq fc bk n) (hC : CSc bo pw ph cw ch G l fs q c fq fc bk n) : CSx bo pw ph cw ch G l fs q c fq fc bk (n + 1) := by
 intro D w L env sv e v u hk hg hs hR hn
 obtain ⟨k, x, m, al, f, t, qa, ca, rfl, rfl, hA⟩ := hR
 rw [fvX_mk, noF_ap, noF_ap] at hn
 rw [fvX_mk, ← List.append_assoc]
 have eh := hL.eh
 have hb1 := (Below.refl w.heap.size w).alloc (Nat.le_refl _) (.cells #[.slice q l.length c, .slice fq fs.length fc, .int .i64 (bk : Int), .func (.func pw) #[] cw, .func (.func ph) #[] ch] 104)
 have hb2 := hb1.alloc (by simp) (.cells #[.int .i64 (k : Int), .string x, .int .i64 (m : Int), .slice qa al.length ca, .int .i64 (f : Int), .int .i64 (t : Int)] 100)
 have e1 : (w.alloc (.cells #[.slice q l.length c, .slice fq fs.length fc, .int .i64 (bk : Int), .func (.func pw) #[] cw, .func (.func ph) #[] ch] 104)).heap.size = w.heap.size + 1 := by simp
 have e2 : ((w.alloc (.cells #[.slice q l.length c, .slice fq fs.length fc, .int .i64 (bk : Int), .func (.func pw) #[] cw, .func (.func ph) #[] ch] 104)).alloc (.cells #[.int .i64 (k : Int), .string x, .int .i64 (m : Int), .slice qa al.length ca, .int .i64 (f : Int), .int .i64 (t : Int)] 100)).heap.size = w.heap.size + 2 := by simp
 obtain ⟨y0, y1, y2, y3, y4⟩ := five_at ((Below.heap_alloc (w.alloc (.cells #[.slice q l.length c, .slice fq fs.length fc, .int .i64 (bk : Int), .func (.func pw) #[] cw, .func (.func ph) #[] ch] 104)) (.cells #[.int .i64 (k : Int), .string x, .int .i64 (m : Int), .slice qa al.length ca, .int .i64 (f : Int), .int .i64 (t : Int)] 100) w.heap.size (by simp)).trans (heap_alloc_new w (.cells #[.slice q l.length c, .slice fq fs.length fc, .int .i64 (bk : Int), .func (.func pw) #[] cw, .func (.func ph) #[] ch] 104)))
 have hne := heap_alloc_new (w.alloc (.cells #[.slice q l.length c, .slice fq fs.length fc, .int .i64 (bk : Int), .func (.func pw) #[] cw, .func (.func ph) #[] ch] 104)) (.cells #[.int .i64 (k : Int), .string x, .int .i64 (m : Int), .slice qa al.length ca, .int .i64 (f : Int), .int .i64 (t : Int)] 100)
 rw [e1] at hne
 obtain ⟨x0, x1, x2, x3, x4, x5⟩ := sixF_at hne
 have hst : Stp bo D D w ((w.alloc (.cells #[.slice q l.length c, .slice fq fs.length fc, .int .i64 (bk : Int), .func (.func pw) #[] cw, .func (.func ph) #[] ch] 104)).alloc (.cells #[.int .i64 (k : Int), .string x, .int .i64 (m : Int), .slice qa al.length ca, .int .i64 (f : Int), .int .i64 (t : Int)] 100)) := Stp.below hb2
 have hk1 := hk.step hst
 have hg1 := hL.below hg hb2
 have hs1 := hs.step hst
 have hA1 := hA.kept (okS.step hst).1 (okS.step hst).2 (RdE.kept n (okS.step hst).1 (okS.step hst).2)
 have hfw := hid (hL.fresh (w' := ((w.alloc (.cells #[.slice q l.length c, .slice fq fs.length fc, .int .i64 (bk : Int), .func (.func pw) #[] cw, .func (.func ph) #[] ch] 104)).alloc (.cells #[.int .i64 (k : Int), .string x, .int .i64 (m : Int), .slice qa al.length ca, .int .i64 (f : Int), .int .i64 (t : Int)] 100))) hg (k := w.heap.size) (Nat.le_refl _) (by omega))
 have hfe := hid (hL.fresh (w' := ((w.alloc (.cells #[.slice q l.length c, .slice fq fs.length fc, .int .i64 (bk : Int), .func (.func pw) #[] cw, .func (.func ph) #[] ch] 104)).alloc (.cells #[.int .i64 (k : Int), .string x, .int .i64 (m : Int), .slice qa al.length ca, .int .i64 (f : Int), .int .i64 (t : Int)] 100))) hg (k := w.heap.size + 1) (by omega) (by omega))
 have HJ := hid (fun a b W => joinN_any a b W)
 have HS0 := hid hst
 clear hb1 hb2 hs hk hg hA hne e1 e2 hst
 generalize hLb : lbX l env u (exMk k x m al f t) = lb
 have HLb := hid hLb
 clear hLb
 rw [lbX_mk] at HLb
 by_cases h2 : k = 2
 ·rw [if_pos h2] at HLb
  rw [if_neg (show ¬ k = 3 by omega), if_neg (show ¬ k = 4 by omega), List.append_nil]
  have g2 : ((k : Int) == 2) = true := by rw [h2]; rfl
  obtain ⟨ps, cs, rfl, es, hcs⟩ := hs1.call
  have HC := hid (hcs _ (fun _ _ => rfl) x)
  have HH := hid (hL.heard _ L D k x m qa al.length ca f t lb hg1)
  generalize envN env x = en at *
  clear h2 hcs hn
  go_enter Tryz.func130, Tryz.ntmps130
  go_wp2_with (first
   | (go_at_call 163; refine Calls.mono (HJ.out _ _ _) ?_; rintro e w2 ⟨rfl, hw2⟩; subst w2; rw [HLb.out])
   | ((with_reducible refine Calls.mono HC.out ?_); rintro e w1 ⟨rfl, hw1⟩; subst w1)
   | ((with_reducible refine Calls.mono HH.out ?_); rintro e w3 ⟨rfl, D3, hG3, hS3⟩))
  go_ret
  exact ⟨rfl, D3, hG3, HS0.out.trans hS3⟩
 ·rw [if_neg h2] at HLb
  have g2 : ((k : Int) == 2) = false := by simp; omega
  clear h2
  by_cases h3 : k = 3
  ·rw [if_pos h3] at HLb hn
   rw [if_pos h3]
   have g3 : ((k : Int) == 3) = true := by rw [h3]; rfl
   clear h3
   obtain ⟨hlen, hits⟩ := hA1
   have hn : (noF (L ++ al.flatMap (fvX l fs env u))).length < 1099511627776 := by rw [noF_ap]; omega
   have HB := hid (fun k => Nat.lt_of_le_of_lt (fl_flat_less (f := fvX l fs env u) al k L) hn)
   have HM := hid (fun k a (h : al[k]? = some a) => And.intro (fl_flat_take (f := fvX l fs env u) L h) (fl_fold_take (B := lbX l env u) u h))
   have HZ : Hid (L ++ (al.take al.length).flatMap (fvX l fs env u) = L ++ al.flatMap (fvX l fs env u) ∧ (al.take al.length).foldl (fun m a => jnL m (lbX l env u a)) u = lb) := by show _ ∧ _; rw [List.take_length]; exact ⟨rfl, HLb.out⟩
   have H0 : Hid (L ++ (al.take 0).flatMap (fvX l fs env u) = L ∧ (al.take 0).foldl (fun m a => jnL m (lbX l env u a)) u = u) := by show _ ∧ _; simp
   clear hn HLb
   generalize hM : (fun k => L ++ (al.take k).flatMap (fvX l fs env u)) = M
   generalize hN : (fun k => (al.take k).foldl (fun m a => jnL m (lbX l env u a)) u) = NN
   have hMk : ∀ k, L ++ (al.take k).flatMap (fvX l fs env u) = M k := fun k => by rw [← hM]
   have hNk : ∀ k, (al.take k).foldl (fun m a => jnL m (lbX l env u a)) u = NN k := fun k => by rw [← hN]
   simp only [hMk, hNk] at HB HM HZ H0
   rw [← HZ.out.1]
   have h00 := H0.out.1
   have h01 := H0.out.2
   rw [← h00] at hg1
   clear hM hMk hN hNk h00 H0
   go_enter Tryz.func130, Tryz.ntmps130
   go_wp2
   generalize ((w.alloc (.cells #[.slice q l.length c, .slice fq fs.length fc, .int .i64 (bk : Int), .func (.func pw) #[] cw, .func (.func ph) #[] ch] 104)).alloc (.cells #[.int .i64 (k : Int), .string x, .int .i64 (m : Int), .slice qa al.length ca, .int .i64 (f : Int), .int .i64 (t : Int)] 100)) = W at *
   go_loopw [9, 28] (fun nv i wr => RelF3 bo G D W M NN al.length nv i wr) (fun _ i _ => upN al.length i)
   case atStart => exact ⟨0, Nat.zero_le _, by rw [h01], rfl, D, hg1, Stp.refl _ _ _⟩
   case round =>
    obtain ⟨j, hjl, rfl, rfl, D1, hG1, hS1⟩ := hrel
    have z0 := (okS_cell hS1 hfw.out 0).trans y0
    have z1 := (okS_cell hS1 hfw.out 1).trans y1
    have z2 := (okS_cell hS1 hfw.out 2).trans y2
    have z3 := (okS_cell hS1 hfw.out 3).trans y3
    have z4 := (okS_cell hS1 hfw.out 4).trans y4
    by_cases hlt : j < al.length
    ·obtain ⟨g, rfl, hgo, hLA⟩ := hits (by omega)
     obtain ⟨e1, he1⟩ : ∃ e1, al[j]? = some e1 := ⟨_, List.getElem?_eq_getElem hlt⟩
     obtain ⟨v1, hcv, hR1⟩ := hLA j e1 he1
     have hcv := hcv.kept ((okS.step hS1).1 g hgo)
     have hR1 := RdE.stp hR1 hS1
     obtain ⟨k1, x1', m1, al1, f1, t1, p1, c1, rfl, rfl⟩ := RdE.form hR1
     have d0 := hcv.get 0 _ rfl
     have d1 := hcv.get 1 _ rfl
     have d2 := hcv.get 2 _ rfl
     have d3 := hcv.get 3 _ rfl
     have d4 := hcv.get 4 _ rfl
     have d5 := hcv.get 5 _ rfl
     rw [Nat.add_zero] at d0
     have gk : (0 : Int) ≤ (j : Int) := by omega
     have gk1 : (j : Int) < (al.length : Int) := by omega
     have hkb : j < 1099511627776 := by omega
     have hba := (Below.refl wr.heap.size wr).alloc (Nat.le_refl _) (.cells #[.int .i64 (k1 : Int), .string x1', .int .i64 (m1 : Int), .slice p1 al1.length c1, .int .i64 (f1 : Int), .int .i64 (t1 : Int)] 100)
     have hsa : Stp bo D1 D1 wr _ := Stp.below hba
     obtain ⟨hnx, hnn⟩ := HM.out j _ he1
     have HC := hid (ih D1 _ (M j) env sv _ _ u ((hk1.step hS1).step hsa) (hL.below hG1 hba) ((hs1.step hS1).step hsa) (hR1.stp hsa) (by rw [← hnx]; exact HB.out (j + 1)))
     rw [← hnx] at HC
     have HNN := hid hnn
     have HL := hid hlt
     have HS := hid (hS1.trans hsa)
     generalize lbX l env u (exMk k1 x1' m1 al1 f1 t1) = lb1 at *
     have a0 := cell_alloc z0
     have a1 := cell_alloc z1
     have a2 := cell_alloc z2
     have a3 := cell_alloc z3
     have a4 := cell_alloc z4
     clear hits hLA hcv hR1 he1 hnx hnn hlt hjl hba hsa x0 x1 x2 x3 x4 x5 y0 y1 y2 y3 y4
     go_wp2_with (first
      | (go_at_call 130; refine Calls.mono HC.out ?_; rintro e w2 ⟨rfl, D2, hG2, hS2⟩)
      | (go_at_call 163; refine Calls.mono (HJ.out _ _ _) ?_; rintro e w3 ⟨rfl, hw3⟩; subst w3; rw [← HNN.out]))
     go_roundw
     case rel => exact ⟨j + 1, HL.out, rfl, by go_num, D2, hG2, HS.out.trans hS2⟩
     case measure => have := HL.out; simp [upN, intOf]; omega
    ·obtain rfl : j = al.length := by omega
     have q0 := (okS_cell hS1 hfe.out 0).trans x0
     have q1 := (okS_cell hS1 hfe.out 1).trans x1
     have q2 := (okS_cell hS1 hfe.out 2).trans x2
     have q3 := (okS_cell hS1 hfe.out 3).trans x3
     have q4 := (okS_cell hS1 hfe.out 4).trans x4
     have q5 := (okS_cell hS1 hfe.out 5).trans x5
     have HH := hid (hL.heard _ (M al.length) D1 k x m qa al.length ca f t lb hG1)
     rw [HZ.out.2]
     clear hlt hjl hits HB HM
     go_wp2_with (first
      | ((with_reducible refine Calls.mono HH.out ?_); rintro e w3 ⟨rfl, D3, hG3, hS3⟩))
     go_ret
     exact ⟨rfl, D3, hG3, (HS0.out.trans hS1).trans hS3⟩
  ·rw [if_neg h3] at HLb hn
   rw [if_neg h3]
   have g3 : ((k : Int) == 3) = false := by simp; omega
   clear h3
   by_cases h4 : k = 4
   ·rw [if_pos h4] at HLb hn
    rw [if_pos h4]
    have g4 : ((k : Int) == 4) = true := by rw [h4]; rfl
    rw [← List.append_assoc]
    have HCl := hid (hC D _ L env sv u k x m al f t qa ca hk1 hg1 hs1 hA1 (by rw [List.append_assoc, noF_ap]; omega))
    generalize hX : L ++ fvAs (fvX l fs env u) (lbX l env u) (fnP l x) al ++ opF u (fnF l fs x) f t x = X at *
    generalize fnL l x = fl0 at *
    have HHf := hid (fun (W : World) (D' : Option Nat) (h : G W X D') => hL.heard W X D' k x m qa al.length ca f t lb h)
    clear h4 hn hX
    go_enter Tryz.func130, Tryz.ntmps130
    go_wp2_with (first
     | (go_at_call 164; refine Calls.mono HCl.out ?_; rintro e w2 ⟨rfl, D2, hG2, hS2⟩; have z4 := (okS_cell hS2 hfw.out 4).trans y4; have q0 := (okS_cell hS2 hfe.out 0).trans x0; have q1 := (okS_cell hS2 hfe.out 1).trans x1; have q2 := (okS_cell hS2 hfe.out 2).trans x2; have q3 := (okS_cell hS2 hfe.out 3).trans x3; have q4 := (okS_cell hS2 hfe.out 4).trans x4; have q5 := (okS_cell hS2 hfe.out 5).trans x5; have HH := hid (HHf.out w2 D2 hG2))
     | (go_at_call 163; refine Calls.mono (HJ.out _ _ _) ?_; rintro e w3 ⟨rfl, hw3⟩; subst w3; rw [HLb.out])
     | ((with_reducible refine Calls.mono HH.out ?_); rintro e w3 ⟨rfl, D3, hG3, hS3⟩))
    go_ret
    exact ⟨rfl, D3, hG3, (HS0.out.trans hS2).trans hS3⟩
   ·rw [if_neg h4] at HLb
    rw [if_neg h4, List.append_nil]
    have g4 : ((k : Int) == 4) = false := by simp; omega
    have hlu : u = lb := HLb.out
    subst hlu
    have HH := hid (hL.heard _ L D k x m qa al.length ca f t u hg1)
    clear h4 hn
    go_enter Tryz.func130, Tryz.ntmps130
    go_wp2_with (first
     | ((with_reducible refine Calls.mono HH.out ?_); rintro e w3 ⟨rfl, D3, hG3, hS3⟩))
    go_ret
    exact ⟨rfl, D3, hG3, HS0.out.trans hS3⟩
end
end Go.Proofs.YtdkpfnohdknldaaGreatDoor

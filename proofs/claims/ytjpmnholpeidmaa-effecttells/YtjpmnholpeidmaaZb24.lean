/- Texts of this seat, one behind the other: FloMath, FloSmall, FloCnt. -/
import Derived.Test.YtjpmnholpeidmaaZb16
import Derived.Laws.BitsAllLaws
import Derived.Test.YtjpmnholpeidmaaZb04
namespace Go.Proofs.Ytjpmnholpeidmaa
open Go.RowKit
set_option linter.unusedVariables false
/-- Tags of a number. -/
def tg (a : Nat) : Nat := a % 256
def jnL (a b : Nat) : Nat := tg a ||| tg b
def mt (a b : Nat) : Nat := tg a &&& tg b
/-- All tags of a are b's. -/
def flw (a b : Nat) : Bool := (tg a &&& tg b) == tg a
theorem tg_lt (a : Nat) : tg a < 256 := Nat.mod_lt _ (by decide)
theorem tg_tg (a : Nat) : tg (tg a) = tg a := by unfold tg; omega
theorem jnL_lt (a b : Nat) : jnL a b < 256 := Nat.or_lt_two_pow (n := 8) (tg_lt a) (tg_lt b)
theorem mt_lt (a b : Nat) : mt a b < 256 := Nat.and_lt_two_pow (n := 8) _ (tg_lt b)
theorem tg_of {a : Nat} (h : a < 256) : tg a = a := Nat.mod_eq_of_lt h
/-- What is told: a secret that would be told (b), or an expression and what is to be kept secret with it. -/
structure Fv where
  b : Bool
  f : Nat
  t : Nat
  x : ByteArray
  n : Nat
def fvNo (f t : Nat) (x : ByteArray) : Fv := ⟨true, f, t, x, 0⟩
def fvSay (f t n : Nat) : Fv := ⟨false, f, t, noB, n⟩
def opF (a b f t : Nat) (x : ByteArray) : List Fv := if flw a b then [] else [fvNo f t x]
/-- Parts of a statement. -/
def stL : Tr → Nat
  | .agg (_ :: _ :: _ :: .lit (.int _ a) :: _) => a.toNat
  | _ => 0
def stO : Tr → Bool
  | .agg (_ :: _ :: _ :: _ :: .lit (.bool o) :: _) => o
  | _ => false
def stF : Tr → Nat
  | .agg (_ :: _ :: _ :: _ :: _ :: _ :: _ :: _ :: .lit (.int _ a) :: _) => a.toNat
  | _ => 0
def stT : Tr → Nat
  | .agg (_ :: _ :: _ :: _ :: _ :: _ :: _ :: _ :: _ :: .lit (.int _ a) :: _) => a.toNat
  | _ => 0
section
variable (k : Nat) (x : ByteArray) (n : Nat) (al : List Tr) (f t a lb : Nat) (o : Bool) (e : Tr) (th el : List Tr)
theorem stL_mk : stL (stMk k x a lb o e th el f t) = lb := by simp [stL, stMk]
theorem stO_mk : stO (stMk k x a lb o e th el f t) = o := by simp [stO, stMk]
theorem stF_mk : stF (stMk k x a lb o e th el f t) = f := by simp [stF, stMk]
theorem stT_mk : stT (stMk k x a lb o e th el f t) = t := by simp [stT, stMk]
end
def envN (env : Env) (x : ByteArray) : Nat := (envL env x).getD 0
section
variable (l : List (Int × It)) (fs : List Nat)
/-- The label of a function, its parameters, its floor. -/
def fnL (x : ByteArray) : Nat := match hit l 2 x with | some i => i.2.l | none => 0
def fnP (x : ByteArray) : List Pm := match hit l 2 x with | some i => i.2.ps | none => []
def fnF (x : ByteArray) : Nat := if fnd l 2 x < 0 then 255 else fs.getD (fnd l 2 x).toNat 255
def lbO (env : Env) (u : Nat) : Nat → Tr → Nat
  | 0, _ => u
  | n + 1, e => if exK e = 2 then jnL u (envN env (exX e)) else if exK e = 3 then (exA e).foldl (fun m a => jnL m (lbO env u n a)) u else if exK e = 4 then jnL u (fnL l (exX e)) else u
theorem fold_same {α β : Type} {L : List α} {f g : β → α → β} (h : ∀ a ∈ L, ∀ m, f m a = g m a) : ∀ m, L.foldl f m = L.foldl g m := by
  induction L with
  | nil => intro m; rfl
  | cons a r ih => intro m; rw [List.foldl_cons, List.foldl_cons, h a (List.mem_cons_self), ih (fun b hb => h b (List.mem_cons_of_mem _ hb))]
theorem lbO_fuel (env : Env) (u : Nat) (n : Nat) : ∀ (m : Nat) (e : Tr), szT e ≤ n → szT e ≤ m → lbO l env u n e = lbO l env u m e := by
  induction n with
  | zero => intro m e h; have := szT_pos e; omega
  | succ n ih =>
    intro m e h1 h2
    cases m with
    | zero => have := szT_pos e; omega
    | succ m =>
      have hf : (exA e).foldl (fun m' a => jnL m' (lbO l env u n a)) u = (exA e).foldl (fun m' a => jnL m' (lbO l env u m a)) u := fold_same (fun a ha m' => by rw [ih m a (by have := exA_less e a ha; omega) (by have := exA_less e a ha; omega)]) u
      unfold lbO
      rw [hf]
/-- The Join of an expression's label and what it is under. -/
def lbX (env : Env) (u : Nat) (e : Tr) : Nat := lbO l env u (szT e) e
theorem lbX_eq (env : Env) (u : Nat) (e : Tr) : lbX l env u e = if exK e = 2 then jnL u (envN env (exX e)) else if exK e = 3 then (exA e).foldl (fun m a => jnL m (lbX l env u a)) u else if exK e = 4 then jnL u (fnL l (exX e)) else u := by
  have hf : (exA e).foldl (fun m a => jnL m (lbO l env u (szT e) a)) u = (exA e).foldl (fun m a => jnL m (lbX l env u a)) u := fold_same (fun a ha m => by rw [lbO_fuel l env u _ (szT a) a (by have := exA_less e a ha; omega) (Nat.le_refl _)]; rfl) u
  have h1 : lbX l env u e = lbO l env u (szT e + 1) e := lbO_fuel l env u _ _ e (Nat.le_refl _) (by omega)
  rw [h1]
  conv => lhs; unfold lbO
  rw [hf]
theorem lbX_mk (env : Env) (u : Nat) (k : Nat) (x : ByteArray) (n : Nat) (al : List Tr) (f t : Nat) : lbX l env u (exMk k x n al f t) = if k = 2 then jnL u (envN env x) else if k = 3 then al.foldl (fun m a => jnL m (lbX l env u a)) u else if k = 4 then jnL u (fnL l x) else u := by
  rw [lbX_eq, exK_mk, exX_mk, exA_mk]
/-- Of the arguments of a call, from the i-th parameter on. -/
def fvAs (F : Tr → List Fv) (B : Tr → Nat) : List Pm → List Tr → List Fv
  | _, [] => []
  | [], a :: r => F a ++ fvAs F B [] r
  | p :: ps, a :: r => F a ++ opF (B a) p.l (exF a) (exT a) p.x ++ fvAs F B ps r
def fvE (env : Env) (u : Nat) : Nat → Tr → List Fv
  | 0, _ => []
  | n + 1, e => (if exK e = 3 then (exA e).flatMap (fvE env u n) else if exK e = 4 then fvAs (fvE env u n) (lbX l env u) (fnP l (exX e)) (exA e) ++ opF u (fnF l fs (exX e)) (exF e) (exT e) (exX e) else []) ++ [fvSay (exF e) (exT e) (lbX l env u e)]
theorem fvAs_same {F G : Tr → List Fv} {B : Tr → Nat} : ∀ (ps : List Pm) (L : List Tr), (∀ a ∈ L, F a = G a) → fvAs F B ps L = fvAs G B ps L := by
  intro ps L
  induction L generalizing ps with
  | nil => intro h; cases ps <;> rfl
  | cons a r ih =>
    intro h
    cases ps with
    | nil => unfold fvAs; rw [h a (List.mem_cons_self), ih [] (fun b hb => h b (List.mem_cons_of_mem _ hb))]
    | cons p ps => unfold fvAs; rw [h a (List.mem_cons_self), ih ps (fun b hb => h b (List.mem_cons_of_mem _ hb))]
theorem fvE_fuel (env : Env) (u : Nat) (n : Nat) : ∀ (m : Nat) (e : Tr), szT e ≤ n → szT e ≤ m → fvE l fs env u n e = fvE l fs env u m e := by
  induction n with
  | zero => intro m e h; have := szT_pos e; omega
  | succ n ih =>
    intro m e h1 h2
    cases m with
    | zero => have := szT_pos e; omega
    | succ m =>
      have hh : ∀ a ∈ exA e, fvE l fs env u n a = fvE l fs env u m a := fun a ha => ih m a (by have := exA_less e a ha; omega) (by have := exA_less e a ha; omega)
      unfold fvE
      rw [flat_same hh, fvAs_same _ _ hh]
/-- What is told of an expression. -/
def fvX (env : Env) (u : Nat) (e : Tr) : List Fv := fvE l fs env u (szT e) e
theorem fvX_eq (env : Env) (u : Nat) (e : Tr) : fvX l fs env u e = (if exK e = 3 then (exA e).flatMap (fvX l fs env u) else if exK e = 4 then fvAs (fvX l fs env u) (lbX l env u) (fnP l (exX e)) (exA e) ++ opF u (fnF l fs (exX e)) (exF e) (exT e) (exX e) else []) ++ [fvSay (exF e) (exT e) (lbX l env u e)] := by
  have hh : ∀ a ∈ exA e, fvE l fs env u (szT e) a = fvX l fs env u a := fun a ha => fvE_fuel l fs env u _ _ a (by have := exA_less e a ha; omega) (Nat.le_refl _)
  have h1 : fvX l fs env u e = fvE l fs env u (szT e + 1) e := fvE_fuel l fs env u _ _ e (Nat.le_refl _) (by omega)
  rw [h1]
  conv => lhs; unfold fvE
  rw [flat_same hh, fvAs_same _ _ hh]
theorem fvX_mk (env : Env) (u : Nat) (k : Nat) (x : ByteArray) (n : Nat) (al : List Tr) (f t : Nat) : fvX l fs env u (exMk k x n al f t) = (if k = 3 then al.flatMap (fvX l fs env u) else if k = 4 then fvAs (fvX l fs env u) (lbX l env u) (fnP l x) al ++ opF u (fnF l fs x) f t x else []) ++ [fvSay f t (lbX l env u (exMk k x n al f t))] := by
  rw [fvX_eq, exK_mk, exX_mk, exA_mk, exF_mk, exT_mk]
/-- The scope behind a statement. -/
def scF (env : Env) (u : Nat) (s : Tr) : Env := if exK s = 1 then scMk env (exX s) (if stO s then lbX l env u (stE s) else stL s) else env
def runF (F : Env → Tr → List Fv) (u : Nat) : Env → List Tr → List Fv
  | _, [] => []
  | env, s :: r => F env s ++ runF F u (scF l env u s) r
def chL (x : ByteArray) : Option Nat := (hit l 1 x).map (fun i => i.2.l)
def fvS (bk : Nat) : Nat → Nat → Env → Tr → List Fv
  | 0, _, _, _ => []
  | n + 1, u, env, s =>
    if exK s = 1 then fvX l fs env u (stE s) ++ (if stO s then [] else opF (lbX l env u (stE s)) (stL s) (stF s) (stT s) (exX s))
    else if exK s = 2 then fvX l fs env u (stE s) ++ opF (lbX l env u (stE s)) (envN env (exX s)) (stF s) (stT s) (exX s)
    else if exK s = 5 then fvX l fs env u (stE s) ++ (match chL l (exX s) with | some b => opF (lbX l env u (stE s)) b (stF s) (stT s) (exX s) | none => [])
    else if exK s = 6 then fvX l fs env u (stE s) ++ opF (lbX l env u (stE s)) bk (stF s) (stT s) (exX s)
    else if exK s = 7 then fvX l fs env u (stE s)
    else if exK s = 3 then fvX l fs env u (stE s) ++ runF l (fvS bk n (lbX l env u (stE s))) (lbX l env u (stE s)) env (stTh s) ++ runF l (fvS bk n (lbX l env u (stE s))) (lbX l env u (stE s)) env (stEl s)
    else if exK s = 4 then fvX l fs env (lbX l env u (stE s)) (stE s) ++ runF l (fvS bk n (lbX l env u (stE s))) (lbX l env u (stE s)) env (stTh s)
    else []
theorem runF_same {F G : Env → Tr → List Fv} {u : Nat} {L : List Tr} (h : ∀ a ∈ L, ∀ env, F env a = G env a) : ∀ env, runF l F u env L = runF l G u env L := by
  induction L with
  | nil => intro env; rfl
  | cons a r ih => intro env; unfold runF; rw [h a (List.mem_cons_self), ih (fun b hb => h b (List.mem_cons_of_mem _ hb))]
theorem fvS_fuel (bk : Nat) (n : Nat) : ∀ (m u : Nat) (env : Env) (s : Tr), szT s ≤ n → szT s ≤ m → fvS l fs bk n u env s = fvS l fs bk m u env s := by
  induction n with
  | zero => intro m u env e h; have := szT_pos e; omega
  | succ n ih =>
    intro m u env e h1 h2
    cases m with
    | zero => have := szT_pos e; omega
    | succ m =>
      have hf : ∀ v, runF l (fvS l fs bk n v) v env (stTh e) = runF l (fvS l fs bk m v) v env (stTh e) := fun v => runF_same l (fun a ha env => ih m v env a (by have := stTh_less e a ha; omega) (by have := stTh_less e a ha; omega)) env
      have hg : ∀ v, runF l (fvS l fs bk n v) v env (stEl e) = runF l (fvS l fs bk m v) v env (stEl e) := fun v => runF_same l (fun a ha env => ih m v env a (by have := stEl_less e a ha; omega) (by have := stEl_less e a ha; omega)) env
      unfold fvS
      rw [hf, hg]
/-- What is told of a statement, and of a block. -/
def fvY (bk u : Nat) (env : Env) (s : Tr) : List Fv := fvS l fs bk (szT s) u env s
def fvB (bk u : Nat) (env : Env) (L : List Tr) : List Fv := runF l (fvY l fs bk u) u env L
theorem fvY_eq (bk u : Nat) (env : Env) (s : Tr) : fvY l fs bk u env s =
    if exK s = 1 then fvX l fs env u (stE s) ++ (if stO s then [] else opF (lbX l env u (stE s)) (stL s) (stF s) (stT s) (exX s))
    else if exK s = 2 then fvX l fs env u (stE s) ++ opF (lbX l env u (stE s)) (envN env (exX s)) (stF s) (stT s) (exX s)
    else if exK s = 5 then fvX l fs env u (stE s) ++ (match chL l (exX s) with | some b => opF (lbX l env u (stE s)) b (stF s) (stT s) (exX s) | none => [])
    else if exK s = 6 then fvX l fs env u (stE s) ++ opF (lbX l env u (stE s)) bk (stF s) (stT s) (exX s)
    else if exK s = 7 then fvX l fs env u (stE s)
    else if exK s = 3 then fvX l fs env u (stE s) ++ fvB l fs bk (lbX l env u (stE s)) env (stTh s) ++ fvB l fs bk (lbX l env u (stE s)) env (stEl s)
    else if exK s = 4 then fvX l fs env (lbX l env u (stE s)) (stE s) ++ fvB l fs bk (lbX l env u (stE s)) env (stTh s)
    else [] := by
  have hf : ∀ v, runF l (fvS l fs bk (szT s) v) v env (stTh s) = fvB l fs bk v env (stTh s) := fun v => runF_same l (fun a ha env => fvS_fuel l fs bk _ _ v env a (by have := stTh_less s a ha; omega) (Nat.le_refl _)) env
  have hg : ∀ v, runF l (fvS l fs bk (szT s) v) v env (stEl s) = fvB l fs bk v env (stEl s) := fun v => runF_same l (fun a ha env => fvS_fuel l fs bk _ _ v env a (by have := stEl_less s a ha; omega) (Nat.le_refl _)) env
  have h1 : fvY l fs bk u env s = fvS l fs bk (szT s + 1) u env s := fvS_fuel l fs bk _ _ u env s (Nat.le_refl _) (by omega)
  rw [h1]
  conv => lhs; unfold fvS
  rw [hf, hg]
theorem fvB_nil (bk u : Nat) (env : Env) : fvB l fs bk u env [] = [] := rfl
theorem fvB_cons (bk u : Nat) (env : Env) (s : Tr) (r : List Tr) : fvB l fs bk u env (s :: r) = fvY l fs bk u env s ++ fvB l fs bk u (scF l env u s) r := rfl
/-- The scope behind the first statements. -/
def scG (u : Nat) (env : Env) (L : List Tr) : Env := L.foldl (fun env s => scF l env u s) env
theorem fvB_app (bk u : Nat) (L : List Tr) (s : Tr) : ∀ env, fvB l fs bk u env (L ++ [s]) = fvB l fs bk u env L ++ fvY l fs bk u (scG l u env L) s := by
  induction L with
  | nil => intro env; rw [List.nil_append, fvB_cons, fvB_nil, fvB_nil, List.append_nil, List.nil_append]; rfl
  | cons a r ih => intro env; rw [List.cons_append, fvB_cons, fvB_cons, ih, List.append_assoc]; rfl
theorem scG_app (u : Nat) (env : Env) (L : List Tr) (s : Tr) : scG l u env (L ++ [s]) = scF l (scG l u env L) u s := by unfold scG; rw [List.foldl_append]; rfl
end
/-- Parameters. -/
def scQ (env : Env) (L : List Pm) : Env := L.foldl (fun env p => scMk env p.x p.l) env
theorem scQ_app (env : Env) (L : List Pm) (s : Pm) : scQ env (L ++ [s]) = scMk (scQ env L) s.x s.l := by unfold scQ; rw [List.foldl_append]; rfl
/-- The floor of an item, and of all items. -/
def flS (l : List (Int × It)) (ss : List Rf) : Nat := ss.foldl (fun n r => match chL l r.x with | some b => mt n b | none => n) 255
def flI (l : List (Int × It)) (it : It) : Nat := if it.k = 2 then flS l it.ss else 255
def flA (l : List (Int × It)) : List Nat := l.map (fun e => flI l e.2)
/-- What is told of the i-th item. -/
def fvI (l : List (Int × It)) (i : Nat) : List Fv := match l[i]? with
  | none => []
  | some q => if q.2.k = 2 then fvB l (flA l) q.2.l 0 (scQ [] q.2.ps) q.2.bd else []
def noF (L : List Fv) : List Fv := L.filter (·.b)
end Go.Proofs.Ytjpmnholpeidmaa

namespace Go.Proofs.Ytjpmnholpeidmaa
open Go.RowKit
set_option linter.unusedVariables false
theorem i64_tag (a : Nat) : bits .and .i64 (a : Int) 255 = ((tg a : Nat) : Int) := by
  have e : (BitVec.ofInt 64 (255 : Int)).toNat = 2 ^ 8 - 1 := by decide
  show IntKind.i64.wrap ((BitVec.ofInt 64 (a : Int) &&& BitVec.ofInt 64 (255 : Int)).toNat : Int) = _
  rw [BitVec.toNat_and, BitVec.ofInt_natCast, BitVec.toNat_ofNat, e, Nat.and_two_pow_sub_one_eq_mod, wrap_i64_nat _ (by omega)]
  unfold tg
  omega
theorem flw_eq (a b : Nat) : flw a b = fl (tg a) (tg b) := rfl
theorem tagsN_any (a : Nat) (w : World) : Calls Try.prog 115 #[.int .i64 (a : Int)] w fun e w' => e = .returned (.int .i64 (tg a : Int)) ∧ w' = w := by
  go_enter Try.func115, Try.ntmps115
  go_wp2
  go_ret
  exact ⟨ret_int (i64_tag a), rfl⟩
theorem flowsN_any (a b : Nat) (w : World) : Calls Try.prog 126 #[.int .i64 (a : Int), .int .i64 (b : Int)] w fun e w' => e = .returned (.bool (flw a b)) ∧ w' = w := by
  go_enter Try.func126, Try.ntmps126
  go_wp2_with (go_at_call 115; refine (tagsN_any _ _).mono ?_; rintro e w' ⟨rfl, rfl⟩)
  go_ret
  exact ⟨ret_bool (fl_not (tg a) (tg b) (tg_lt a) (tg_lt b)), rfl⟩
theorem joinN_any (a b : Nat) (w : World) : Calls Try.prog 123 #[.int .i64 (a : Int), .int .i64 (b : Int)] w fun e w' => e = .returned (.int .i64 (jnL a b : Int)) ∧ w' = w := by
  go_enter Try.func123, Try.ntmps123
  go_wp2_with (go_at_call 115; refine (tagsN_any _ _).mono ?_; rintro e w' ⟨rfl, rfl⟩)
  go_ret
  exact ⟨ret_int (i64_or (tg a) (tg b) (by have := tg_lt a; omega) (by have := tg_lt b; omega)), rfl⟩
theorem meetN_any (a b : Nat) (w : World) : Calls Try.prog 109 #[.int .i64 (a : Int), .int .i64 (b : Int)] w fun e w' => e = .returned (.int .i64 (mt a b : Int)) ∧ w' = w := by
  go_enter Try.func109, Try.ntmps109
  go_wp2_with (go_at_call 115; refine (tagsN_any _ _).mono ?_; rintro e w' ⟨rfl, rfl⟩)
  go_ret
  exact ⟨ret_int (i64_and (tg a) (tg b) (by have := tg_lt a; omega) (by have := tg_lt b; omega)), rfl⟩
end Go.Proofs.Ytjpmnholpeidmaa

namespace Go.Proofs.Ytjpmnholpeidmaa
set_option linter.unusedVariables false
section
variable (L : List Tok)
def cwS : Nat → Nat → Tr → Prop
  | 0, _, _ => False
  | n + 1, c, s => ∃ (k : Nat) (x : ByteArray) (a lb : Nat) (o : Bool) (e : Tr) (th el : List Tr) (f t ce ct cl : Nat), s = stMk k x a lb o e th el f t ∧ (∃ m, wfE L m ce e) ∧ wfL (cwS n) ct th ∧ wfL (cwS n) cl el ∧ ce + ct + cl ≤ c ∧ (k = 1 ∨ k = 2 ∨ k = 5 ∨ k = 6 → ce + ct + cl + 1 ≤ c)
theorem cwS_up (n : Nat) : ∀ (m c c' : Nat) (e : Tr), n ≤ m → c ≤ c' → cwS L n c e → cwS L m c' e := by
  induction n with
  | zero => intro m c c' e _ _ h; exact h.elim
  | succ n ih =>
    intro m c c' e hm hc h
    obtain ⟨m, rfl⟩ : ∃ q, m = q + 1 := ⟨m - 1, by omega⟩
    obtain ⟨k, x, a, lb, o, e, th, el, f, t, ce, ct, cl, he, h1, h2, h3, h4, h5⟩ := h
    exact ⟨k, x, a, lb, o, e, th, el, f, t, ce, ct, cl, he, h1, wfL_up (fun c c' a => ih m c c' a (by omega)) th ct ct (Nat.le_refl _) h2, wfL_up (fun c c' a => ih m c c' a (by omega)) el cl cl (Nat.le_refl _) h3, by omega, fun hk => by have := h5 hk; omega⟩
end
section
variable {L : List Tok} {sz : Nat}
theorem ct_plain {k : Nat} {x : ByteArray} {a lb : Nat} {o : Bool} {e : Tr} {f t c ce : Nat} (he : ∃ n, wfE L n ce e) (h1 : ce + 1 ≤ c) : ∃ n, cwS L n c (stMk k x a lb o e [] [] f t) :=
  ⟨1, k, x, a, lb, o, e, [], [], f, t, ce, 0, 0, rfl, he, trivial, trivial, by omega, fun _ => by omega⟩
theorem ct_do {k : Nat} {x : ByteArray} {a lb : Nat} {o : Bool} {e : Tr} {f t c ce : Nat} (hk : k = 7 ∨ k = 0 ∨ k = 8) (he : ∃ n, wfE L n ce e) (h1 : ce ≤ c) : ∃ n, cwS L n c (stMk k x a lb o e [] [] f t) :=
  ⟨1, k, x, a, lb, o, e, [], [], f, t, ce, 0, 0, rfl, he, trivial, trivial, by omega, fun _ => by omega⟩
theorem ct_block {k : Nat} {a lb : Nat} {o : Bool} {e : Tr} {th el : List Tr} {f t c ce ct cl : Nat} (he : ∃ n, wfE L n ce e) (ht : ∃ n, wfL (cwS L n) ct th) (hl : ∃ n, wfL (cwS L n) cl el) (h1 : ce + ct + cl ≤ c) (hk : k = 3 ∨ (k = 4 ∧ el = [])) : ∃ n, cwS L n c (stMk k noB a lb o e th el f t) := by
  obtain ⟨n1, h2⟩ := ht
  obtain ⟨n2, h3⟩ := hl
  have u1 := wfL_up (fun c c' a hc => cwS_up L n1 (max n1 n2) c c' a (Nat.le_max_left _ _) hc) th ct ct (Nat.le_refl _) h2
  have u2 := wfL_up (fun c c' a hc => cwS_up L n2 (max n1 n2) c c' a (Nat.le_max_right _ _) hc) el cl cl (Nat.le_refl _) h3
  exact ⟨max n1 n2 + 1, k, noB, a, lb, o, e, th, el, f, t, ce, ct, cl, rfl, he, u1, u2, h1, fun h => by omega⟩
theorem stmt_cw (hL : ∀ t ∈ L, okT t) (f : Nat) :
    (∀ d i, i ≤ L.length → ∃ n, wfL (cwS L n) ((pBlock L sz f d i).i - i) (pBlock L sz f d i).v) ∧
    (∀ d i l c, i ≤ L.length → (∃ n, wfL (cwS L n) c l) → ∃ n, wfL (cwS L n) (c + ((pStmts L sz f d i l).i - i)) (pStmts L sz f d i l).v) ∧
    (∀ d i, i < L.length → ∃ n, cwS L n ((pStmt L sz f d i).i - i) (pStmt L sz f d i).v) := by
  induction f with
  | zero =>
    refine ⟨fun d i hi => ?_, fun d i l c hi h => ?_, fun d i hi => ?_⟩
    · rw [pBlock_zero]; exact ⟨0, trivial⟩
    · rw [pStmts_zero]; simpa using h
    · rw [pStmt_zero]; exact ct_do (by omega) ⟨1, exZ_wf 0⟩ (by omega)
  | succ f ih =>
    obtain ⟨hB, hS, hT⟩ := ih
    obtain ⟨oB, oS, oT⟩ := stmt_ok (sz := sz) hL f
    refine ⟨fun d i hi => ?_, fun d i l c hi h => ?_, fun d i hlt => ?_⟩
    · rw [pBlock_succ]
      split
      · rename_i h
        have hl := (isT_lt h).1
        split
        · exact ⟨0, trivial⟩
        · obtain ⟨n, h1⟩ := hS (d + 1) (i + 1) [] 0 hl ⟨0, trivial⟩
          have o1 := oS (d + 1) (i + 1) [] hl
          have o2 := need_ok (sz := sz) hL o1.le (s := bs1 125) (by decide)
          exact ⟨n, wfL_up (fun c c' a hc => cwS_up L n n c c' a (Nat.le_refl _) hc) _ _ _ (by have := o1.ge; have := o2.ge; simp only; omega) h1⟩
      · exact ⟨0, trivial⟩
    · rw [pStmts_succ]
      split
      · rename_i hlt
        split
        · simpa using h
        · obtain ⟨n, hn⟩ := h
          obtain ⟨n1, h1⟩ := hT d i hlt.1
          have o1 := (oT d i hlt.1).1
          have hs : wfL (cwS L (max n n1)) (c + ((pStmt L sz f d i).i - i)) (l ++ [(pStmt L sz f d i).v]) := wfL_snoc _ _ _ _ (wfL_up (fun c c' a hc => cwS_up L n _ c c' a (Nat.le_max_left _ _) hc) l c c (Nat.le_refl _) hn) (cwS_up L n1 _ _ _ _ (Nat.le_max_right _ _) (Nat.le_refl _) h1)
          try simp only
          obtain ⟨n2, h2⟩ := hS d _ _ _ o1.le ⟨_, hs⟩
          have o2 := oS d (pStmt L sz f d i).i (l ++ [(pStmt L sz f d i).v]) o1.le
          exact ⟨n2, wfL_up (fun c c' a hc => cwS_up L n2 _ c c' a (Nat.le_refl _) hc) _ _ _ (by have := o1.ge; have := o2.ge; omega) h2⟩
      · simpa using h
    · rw [pStmt_succ]
      try simp only
      split
      · have o1 := named_ok (sz := sz) hL (i := i + 1) hlt
        have o2 : ∃ ds, Ok L sz (pNamed L sz (i + 1)).i (if (!isT L (pNamed L sz (i + 1)).i (bs1 58)) = true then (⟨0, (pNamed L sz (i + 1)).i, []⟩ : R Nat) else pLab L sz ((pNamed L sz (i + 1)).i + 1)).i ds := by
          split
          · exact ⟨_, Ok.stay o1.le⟩
          · rename_i hc
            have hc : isT L (pNamed L sz (i + 1)).i (bs1 58) = true := by simpa using hc
            have g1 := Ok.is (sz := sz) hL hc (by decide)
            exact ⟨_, g1.and (lab_ok hL g1.le)⟩
        obtain ⟨ds, o2⟩ := o2
        have o3 := need_ok (sz := sz) (s := bs1 61) hL o2.le (by decide)
        have o4 := (pE_ok (sz := sz) hL d o3.le).1
        have o5 := need_ok (sz := sz) (s := bs1 59) hL o4.le (by decide)
        refine ct_plain (pE_wf hL d o3.le) ?_
        have g1 := o1.ge
        have g2 := o2.ge
        have g3 := o3.ge
        have g4 := o4.ge
        have g5 := o5.ge
        simp only
        omega
      · split
        · have o1 := (pE_ok (sz := sz) hL d (i := i + 1) hlt).1
          have o2 := oB d _ o1.le
          have g1 := o1.ge
          have g2 := o2.ge
          split
          · rename_i hc
            have hl := (isT_lt hc).1
            have o3 := oB d ((pBlock L sz f d (pE L sz d (i + 1)).i).i + 1) hl
            have g3 := o3.ge
            exact ct_block (pE_wf hL d hlt) (hB d _ o1.le) (hB d ((pBlock L sz f d (pE L sz d (i + 1)).i).i + 1) hl) (by simp only; omega) (.inl rfl)
          · exact ct_block (pE_wf hL d hlt) (hB d _ o1.le) (cl := 0) ⟨0, trivial⟩ (by simp only; omega) (.inl rfl)
        · split
          · have o1 := (pE_ok (sz := sz) hL d (i := i + 1) hlt).1
            have o2 := oB d _ o1.le
            have g1 := o1.ge
            have g2 := o2.ge
            exact ct_block (pE_wf hL d hlt) (hB d _ o1.le) (cl := 0) ⟨0, trivial⟩ (by simp only; omega) (.inr ⟨rfl, rfl⟩)
          · split
            · have o1 := named_ok (sz := sz) hL (i := i + 1) hlt
              have o4 := (pE_ok (sz := sz) hL d o1.le).1
              have o5 := need_ok (sz := sz) (s := bs1 59) hL o4.le (by decide)
              have g1 := o1.ge
              have g4 := o4.ge
              have g5 := o5.ge
              refine ct_plain (pE_wf hL d o1.le) ?_
              simp only
              omega
            · split
              · have o4 := (pE_ok (sz := sz) hL d (i := i + 1) hlt).1
                have o5 := need_ok (sz := sz) (s := bs1 59) hL o4.le (by decide)
                have g4 := o4.ge
                have g5 := o5.ge
                exact ct_plain (pE_wf hL d hlt) (by simp only; omega)
              · split
                · rename_i hn
                  split
                  · rename_i hc
                    have hl := (isT_lt hc).1
                    have o4 := (pE_ok (sz := sz) hL d (i := i + 2) hl).1
                    have o5 := need_ok (sz := sz) (s := bs1 59) hL o4.le (by decide)
                    have g4 := o4.ge
                    have g5 := o5.ge
                    exact ct_plain (pE_wf hL d (i := i + 2) hl) (by simp only; omega)
                  · have o4 := (pE_ok (sz := sz) hL d (i := i) (Nat.le_of_lt hlt)).1
                    have o5 := need_ok (sz := sz) (s := bs1 59) hL o4.le (by decide)
                    have g4 := o4.ge
                    have g5 := o5.ge
                    exact ct_do (.inl rfl) (pE_wf hL d (Nat.le_of_lt hlt)) (by simp only; omega)
                · exact ct_do (by omega) ⟨1, exZ_wf 0⟩ (by omega)
theorem it_cw (hL : ∀ t ∈ L, okT t) : ∃ n, wfL (cwS L n) L.length (pIt L sz).bd := by
  unfold pIt
  split
  · rename_i hk
    have hl := (isT_lt hk).1
    try simp only
    have o1 := named_ok (sz := sz) hL (i := 1) hl
    have o2 := need_ok (sz := sz) (s := bs1 40) hL o1.le (by decide)
    have o3 := params_ok (sz := sz) hL 6 _ [] o2.le
    have o4 := need_ok (sz := sz) (s := bs1 41) hL o3.le (by decide)
    have o5 := need_ok (sz := sz) (s := bs1 58) hL o4.le (by decide)
    have o6 := lab_ok (sz := sz) hL o5.le
    have hsd : (if isT L (pLab L sz (pNeed L sz (pNeed L sz (pParams L sz 6 (pNeed L sz (pNamed L sz 1).i (bs1 40)).i []).i (bs1 41)).i (bs1 58)).i).i kSends = true then pSends L sz 8 ((pLab L sz (pNeed L sz (pNeed L sz (pParams L sz 6 (pNeed L sz (pNamed L sz 1).i (bs1 40)).i []).i (bs1 41)).i (bs1 58)).i).i + 1) [] else ⟨[], (pLab L sz (pNeed L sz (pNeed L sz (pParams L sz 6 (pNeed L sz (pNamed L sz 1).i (bs1 40)).i []).i (bs1 41)).i (bs1 58)).i).i, []⟩).i ≤ L.length := by
      split
      · rename_i hc
        exact (sends_ok (sz := sz) hL 8 _ [] (isT_lt hc).1).le
      · exact o6.le
    have o8 := pB_ok (sz := sz) hL hsd
    obtain ⟨n, hn⟩ := (stmt_cw (sz := sz) hL (50 * L.length + 100)).1 0 _ hsd
    refine ⟨n, wfL_up (fun c c' a hc => cwS_up L n n c c' a (Nat.le_refl _) hc) _ _ _ ?_ hn⟩
    have := o8.le
    unfold pB at this
    omega
  · split
    · exact ⟨0, trivial⟩
    · exact ⟨0, trivial⟩
theorem itm_cw (s : ByteArray) : ∃ n, wfL (cwS (tks s) n) (tks s).length (itm s).bd := it_cw (fun t ht => (tks_facts s t ht).2.1)
end
/-- How many secrets are told. -/
theorem opF_len (a b f t : Nat) (x : ByteArray) : (noF (opF a b f t x)).length ≤ 1 := by unfold opF; split <;> simp [noF, fvNo]
theorem noF_ap (a b : List Fv) : (noF (a ++ b)).length = (noF a).length + (noF b).length := by unfold noF; rw [List.filter_append, List.length_append]
theorem cnt_flat {P : Nat → Tr → Prop} {F : Tr → List Fv} (m : Nat) (h : ∀ c a, P c a → (noF (F a)).length ≤ m * c) : ∀ (L : List Tr) (c : Nat), wfL P c L → (noF (L.flatMap F)).length ≤ m * c := by
  intro L
  induction L with
  | nil => intro c _; exact Nat.zero_le _
  | cons a r ih =>
    intro c hw
    obtain ⟨c1, c2, h1, h2, h3⟩ := hw
    have := h c1 a h2
    have := ih c2 h3
    have : m * (c1 + c2) ≤ m * c := Nat.mul_le_mul_left m h1
    rw [Nat.mul_add] at this
    rw [List.flatMap_cons, noF_ap]
    omega
theorem cnt_as {P : Nat → Tr → Prop} {F : Tr → List Fv} {B : Tr → Nat} (m : Nat) (h : ∀ c a, P c a → (noF (F a)).length ≤ m * c) : ∀ (L : List Tr) (ps : List Pm) (c : Nat), wfL P c L → (noF (fvAs F B ps L)).length ≤ m * c + ps.length := by
  intro L
  induction L with
  | nil => intro ps c _; cases ps <;> exact Nat.zero_le _
  | cons a r ih =>
    intro ps c hw
    obtain ⟨c1, c2, h1, h2, h3⟩ := hw
    have := h c1 a h2
    have h4 : m * (c1 + c2) ≤ m * c := Nat.mul_le_mul_left m h1
    rw [Nat.mul_add] at h4
    cases ps with
    | nil =>
      have := ih [] c2 h3
      unfold fvAs
      rw [noF_ap]
      simp only [List.length_nil] at *
      omega
    | cons p ps =>
      have := ih ps c2 h3
      have := opF_len (B a) p.l (exF a) (exT a) p.x
      unfold fvAs
      rw [noF_ap, noF_ap, List.length_cons]
      omega
section
variable {L : List Tok} {l : List (Int × It)} {fs : List Nat}
theorem fnP_len (hP : ∀ e ∈ l, e.2.ps.length ≤ 5) (x : ByteArray) : (fnP l x).length ≤ 5 := by
  unfold fnP
  split
  next i h =>
    unfold hit at h
    split at h
    · cases h
    · exact hP _ (List.mem_of_getElem? h)
  next => exact Nat.zero_le _
theorem cnt_expr (hP : ∀ e ∈ l, e.2.ps.length ≤ 5) (env : Env) (u n : Nat) : ∀ (c : Nat) (e : Tr), wfE L n c e → (noF (fvX l fs env u e)).length ≤ 6 * c := by
  induction n with
  | zero => intro c e h; exact h.elim
  | succ n ih =>
    intro c e h
    obtain ⟨k, x, m, al, f, t, rfl, h⟩ := h
    rw [fvX_mk, noF_ap]
    have e0 : ∀ v, (noF [fvSay f t v]).length = 0 := fun _ => rfl
    rw [e0]
    rcases h with ⟨h1, h2, h3, h4⟩ | ⟨h1, h2, h3, h4⟩ | ⟨h1, h2, h3⟩ | ⟨h1, h2, c', h3, h4⟩
    · rw [if_neg h2, if_neg h3]; exact Nat.zero_le _
    · rw [if_neg (by omega), if_neg (by omega)]; exact Nat.zero_le _
    · rw [if_pos h1]; exact cnt_flat 6 ih al c h3
    · rw [if_neg (by omega), if_pos h1, noF_ap]
      have := cnt_as (B := lbX l env u) 6 ih al (fnP l x) c' h4
      have := fnP_len hP x
      have := opF_len u (fnF l fs x) f t x
      omega
theorem cnt_block {P : Nat → Tr → Prop} {F : Env → Tr → List Fv} {u : Nat} (h : ∀ c s env, P c s → (noF (F env s)).length ≤ 7 * c) : ∀ (al : List Tr) (c : Nat) (env : Env), wfL P c al → (noF (runF l F u env al)).length ≤ 7 * c := by
  intro al
  induction al with
  | nil => intro c env _; exact Nat.zero_le _
  | cons a r ih =>
    intro c env hw
    obtain ⟨c1, c2, h1, h2, h3⟩ := hw
    have := h c1 a env h2
    have := ih c2 (scF l env u a) h3
    unfold runF
    rw [noF_ap]
    omega
theorem cnt_stmt (hP : ∀ e ∈ l, e.2.ps.length ≤ 5) (bk n : Nat) : ∀ (u c : Nat) (s : Tr) (env : Env), cwS L n c s → (noF (fvY l fs bk u env s)).length ≤ 7 * c := by
  induction n with
  | zero => intro u c s env h; exact h.elim
  | succ n ih =>
    intro u c s env h
    obtain ⟨k, x, a, lb, o, e, th, el, f, t, ce, ct, cl, rfl, ⟨m, he⟩, hth, hel, h1, h2⟩ := h
    have hx : ∀ v, (noF (fvX l fs env v e)).length ≤ 6 * ce := fun v => cnt_expr hP env v m ce e he
    have hB : ∀ v, (noF (fvB l fs bk v env th)).length ≤ 7 * ct := fun v => cnt_block (fun c s env hs => ih v c s env hs) th ct env hth
    have hC : ∀ v, (noF (fvB l fs bk v env el)).length ≤ 7 * cl := fun v => cnt_block (fun c s env hs => ih v c s env hs) el cl env hel
    rw [fvY_eq, stK_mk, stX_mk, stE_mk, stTh_mk, stEl_mk, stO_mk, stL_mk, stF_mk, stT_mk]
    have hxu := hx u
    split
    · have := h2 (by omega)
      rw [noF_ap]
      split
      · simp only [noF, List.filter_nil, List.length_nil]; simp only [noF] at hxu; omega
      · have := opF_len (lbX l env u e) lb f t x; omega
    · split
      · have := h2 (by omega)
        have := opF_len (lbX l env u e) (envN env x) f t x
        rw [noF_ap]; omega
      · split
        · have := h2 (by omega)
          rw [noF_ap]
          split
          next b _ => have := opF_len (lbX l env u e) b f t x; omega
          next => simp only [noF, List.filter_nil, List.length_nil]; simp only [noF] at hxu; omega
        · split
          · have := h2 (by omega)
            have := opF_len (lbX l env u e) bk f t x
            rw [noF_ap]; omega
          · split
            · omega
            · split
              · have := hB (lbX l env u e)
                have := hC (lbX l env u e)
                rw [noF_ap, noF_ap]; omega
              · split
                · have := hB (lbX l env u e)
                  have := hx (lbX l env u e)
                  rw [noF_ap]; omega
                · exact Nat.zero_le _
theorem cnt_item (hP : ∀ e ∈ l, e.2.ps.length ≤ 5) {i : Nat} {q : Int × It} (h : l[i]? = some q) (hw : ∃ n, wfL (cwS L n) L.length q.2.bd) : (noF (fvI l i)).length ≤ 7 * L.length := by
  unfold fvI
  rw [h]
  obtain ⟨n, hn⟩ := hw
  show (noF (if q.2.k = 2 then _ else _)).length ≤ _
  split
  · exact cnt_block (fun c s env hs => cnt_stmt hP _ n 0 c s env hs) _ _ _ hn
  · exact Nat.zero_le _
end
end Go.Proofs.Ytjpmnholpeidmaa


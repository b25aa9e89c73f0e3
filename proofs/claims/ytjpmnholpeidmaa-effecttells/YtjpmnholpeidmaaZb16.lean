/- Texts of this seat, one behind the other: NamFind, NamScope, NamMath, NamWf, NamState, NamLocal. -/
import Derived.Test.YtjpmnholpeidmaaZb03
import Derived.Test.YtjpmnholpeidmaaZb07
import Derived.Test.YtjpmnholpeidmaaZb01
import Derived.Test.YtjpmnholpeidmaaZb05
import Derived.Deep.RegionHeld3
namespace Go.Proofs.Ytjpmnholpeidmaa
open Go.RowKit
attribute [local go_sem ↓] Go.wp_at_zero Go.wp_at_succ
/-- Is it an item of this kind and name? -/
def isIt (kd : Int) (nm : ByteArray) (it : It) : Bool := decide ((it.k : Int) = kd) && decide (it.x = nm)
/-- The number of the first such item, or -1. -/
def fidx (l : List (Int × It)) (kd : Int) (nm : ByteArray) : Int := match l.findIdx? (fun e => isIt kd nm e.2) with | some i => (i : Int) | none => -1
def fnd (l : List (Int × It)) (kd : Int) (nm : ByteArray) : Int := if nm = noB then -1 else fidx l kd nm
set_option maxHeartbeats 1000000 in
set_option maxRecDepth 100000 in
theorem findOne_any (it : It) (at_ : Int) (p1 p2 p3 p4 : Option Addr) (c1 c2 c3 c4 : Nat) (kd : Int) (nm : ByteArray) (bk bn : Nat) (w : World) (hk : w.cell? ⟨bk, 0, none⟩ = some (.int .i64 kd)) (hn : w.cell? ⟨bn, 0, none⟩ = some (.string nm)) :
    Calls Try.prog 68 #[.agg #[.int .i64 (it.k : Int), .string it.x, .int .i64 (it.l : Int), .slice p1 it.ps.length c1, .slice p2 it.ss.length c2, .slice p3 it.bd.length c3, .int .i64 at_, .int .i64 (it.sz : Int), .int .i64 (it.mrk : Int), .slice p4 it.ds.length c4], .pointer (some ⟨bk, 0, none⟩), .pointer (some ⟨bn, 0, none⟩)] w fun e w' => e = .returned (.bool (isIt kd nm it)) ∧ Below w.heap.size w w' := by
  have hk' := cell_alloc hk
  have hn' := cell_alloc hn
  have hb0 := fun o => (Below.refl w.heap.size w).alloc (Nat.le_refl _) o
  unfold isIt
  go_enter Try.func68, Try.ntmps68
  by_cases h1 : (it.k : Int) = kd
  · have g1 : ((it.k : Int) == kd) = true := by simpa using h1
    by_cases h2 : it.x = nm
    · have g2 : (it.x.toList == nm.toList) = true := (Lib.bytes_beq_iff _ _).2 h2
      have e : (decide ((it.k : Int) = kd) && decide (it.x = nm)) = true := by simp [h1, h2]
      rw [e]
      clear h1 h2 e
      go_wp2
      go_ret
      exact ⟨rfl, hb0 _⟩
    · have g2 : (it.x.toList == nm.toList) = false := (Lib.bytes_beq_false_iff _ _).2 h2
      have e : (decide ((it.k : Int) = kd) && decide (it.x = nm)) = false := by simp [h2]
      rw [e]
      clear h1 h2 e
      go_wp2
      go_ret
      exact ⟨rfl, hb0 _⟩
  · have g1 : ((it.k : Int) == kd) = false := by simpa using h1
    have e : (decide ((it.k : Int) = kd) && decide (it.x = nm)) = false := by simp [h1]
    rw [e]
    clear h1 e
    go_wp2
    go_ret
    exact ⟨rfl, hb0 _⟩
/-- So far none was found. -/
def RelFi (l : List (Int × It)) (kd : Int) (nm : ByteArray) (W : World) (i : Value) (wr : World) : Prop := ∃ k : Nat, k ≤ l.length ∧ i = .int .i64 (k : Int) ∧ (∀ j e, j < k → l[j]? = some e → isIt kd nm e.2 = false) ∧ Below W.heap.size W wr
theorem fnd_hit {l : List (Int × It)} {kd : Int} {nm : ByteArray} {k : Nat} {e : Int × It} (h : ∀ j e, j < k → l[j]? = some e → isIt kd nm e.2 = false) (hk : l[k]? = some e) (he : isIt kd nm e.2 = true) : l.findIdx? (fun e => isIt kd nm e.2) = some k := by
  obtain ⟨h1, h2⟩ := List.getElem?_eq_some_iff.1 hk
  rw [List.findIdx?_eq_some_iff_getElem]
  refine ⟨h1, by rw [h2]; exact he, fun j hj => ?_⟩
  have := h j l[j] hj (List.getElem?_eq_getElem (by omega))
  simp [this]
theorem fnd_miss {l : List (Int × It)} {kd : Int} {nm : ByteArray} (h : ∀ j e, j < l.length → l[j]? = some e → isIt kd nm e.2 = false) : l.findIdx? (fun e => isIt kd nm e.2) = none := by
  rw [List.findIdx?_eq_none_iff]
  intro x hx
  obtain ⟨j, hj⟩ := List.mem_iff_getElem?.1 hx
  exact h j x (List.getElem?_eq_some_iff.1 hj).1 hj
set_option maxHeartbeats 1000000 in
set_option maxRecDepth 100000 in
theorem indexFunc_any (l : List (Int × It)) (p : Option Addr) (c : Nat) (kd : Int) (nm : ByteArray) (bk bn : Nat) (w : World) (ok : Nat → Prop) (hok : ∀ k, ok k → k < w.heap.size) (hk : w.cell? ⟨bk, 0, none⟩ = some (.int .i64 kd)) (hn : w.cell? ⟨bn, 0, none⟩ = some (.string nm)) (hl : l.length ≤ 1099511627776) (hits : 0 < l.length → ∃ g, p = some ⟨g, 0, none⟩ ∧ ok g ∧ RdIs ok w l g) :
    Calls Try.prog 67 #[.slice p l.length c, .func (.func 68) #[] #[.pointer (some ⟨bk, 0, none⟩), .pointer (some ⟨bn, 0, none⟩)]] w fun e w' => e = .returned (.int .i64 (fidx l kd nm)) ∧ Below w.heap.size w w' := by
  generalize hr : fidx l kd nm = r
  have HR : Hid (fidx l kd nm = r) := hr
  clear hr
  go_enter Try.func67, Try.ntmps67
  go_wp2
  go_loopw [8] (fun i wr => RelFi l kd nm w i wr) (fun i _ => upN l.length i)
  case atStart => exact ⟨0, Nat.zero_le _, rfl, fun j e h => by omega, Below.refl _ _⟩
  case round =>
    obtain ⟨k, hkl, rfl, hno, hbr⟩ := hrel
    by_cases hlt : k < l.length
    · obtain ⟨g, hpg, hg, hR⟩ := hits (by omega)
      subst hpg
      obtain ⟨e, he⟩ : ∃ e, l[k]? = some e := ⟨_, List.getElem?_eq_getElem hlt⟩
      obtain ⟨v, hcv, hI⟩ := RdIs.at hR (hbr.block g (hok g hg)) (fun b hb => hbr.block b (hok b hb)) (e1 := e.1) (e2 := e.2) he
      obtain ⟨p1, c1, p2, c2, p3, c3, p4, c4, rfl, _⟩ := hI
      have d0 := hcv.get 0 _ rfl
      have d1 := hcv.get 1 _ rfl
      have d2 := hcv.get 2 _ rfl
      have d3 := hcv.get 3 _ rfl
      have d4 := hcv.get 4 _ rfl
      have d5 := hcv.get 5 _ rfl
      have d6 := hcv.get 6 _ rfl
      have d7 := hcv.get 7 _ rfl
      have d8 := hcv.get 8 _ rfl
      have d9 := hcv.get 9 _ rfl
      rw [Nat.add_zero] at d0
      have hk2 := (hbr.cell (World.block_lt_of_cell? w _ hk)).trans hk
      have hn2 := (hbr.cell (World.block_lt_of_cell? w _ hn)).trans hn
      have gk : (0 : Int) ≤ (k : Int) := by omega
      have gk1 : (k : Int) < (l.length : Int) := by omega
      have HL : Hid (k < l.length) := hlt
      have HE : Hid (l[k]? = some e) := he
      have HNO : Hid (∀ j e, j < k → l[j]? = some e → isIt kd nm e.2 = false) := hno
      have hkb : k < 1099511627776 := by omega
      clear hcv hR hits he hno hlt hkl
      cases hp : isIt kd nm e.2
      · go_wp2_with (first
          | (go_at_call 68; refine (findOne_any e.2 e.1 p1 p2 p3 p4 c1 c2 c3 c4 kd nm bk bn _ hk2 hn2).mono ?_; rintro e' w5 ⟨rfl, hb5⟩; rw [hp]))
        go_roundw
        case rel =>
          refine ⟨k + 1, by have := HL.out; omega, by go_num, fun j f hj hf => ?_, hbr.trans (hb5.mono hbr.size)⟩
          rcases Nat.lt_or_ge j k with h | h
          · exact HNO.out j f h hf
          · obtain rfl : j = k := by omega
            rw [HE.out] at hf
            injection hf with hf
            rw [← hf]
            exact hp
        case measure => have := HL.out; simp [upN, intOf]; omega
      · have hres : r = (k : Int) := by rw [← HR.out]; unfold fidx; rw [fnd_hit HNO.out HE.out hp]
        go_wp2_with (first
          | (go_at_call 68; refine (findOne_any e.2 e.1 p1 p2 p3 p4 c1 c2 c3 c4 kd nm bk bn _ hk2 hn2).mono ?_; rintro e' w5 ⟨rfl, hb5⟩; rw [hp]))
        go_ret
        exact ⟨by rw [hres]; rfl, hbr.trans (hb5.mono hbr.size)⟩
    · obtain rfl : k = l.length := by omega
      have hres : r = -1 := by rw [← HR.out]; unfold fidx; rw [fnd_miss hno]
      clear hlt hkl hno
      go_wp2
      go_ret
      exact ⟨by rw [hres]; rfl, hbr⟩
theorem noB_list : noB.toList = [] := by decide +kernel
set_option maxHeartbeats 1000000 in
set_option maxRecDepth 100000 in
theorem Find_any (l : List (Int × It)) (fv : Value) (kd : Int) (nm : ByteArray) (w : World) (ok : Nat → Prop) (hok : ∀ k, ok k → k < w.heap.size) (hf : RdF ok w l fv) :
    Calls Try.prog 44 #[fv, .int .i64 kd, .string nm] w fun e w' => e = .returned (.int .i64 (fnd l kd nm)) ∧ Below w.heap.size w w' := by
  obtain ⟨p, c, rfl, hl, hits⟩ := hf
  have hmf : ∀ (fn : Fn) (first cap : Array Value) (w : World), (Instr.makeFunc fn first cap).run Try.prog w = .ok (.func fn first cap) w := fun _ _ _ _ => rfl
  have hb0 := (((Below.refl w.heap.size w).alloc (Nat.le_refl _) (.cells #[.slice p l.length c] 24)).alloc (by simp) (.cells #[.int .i64 kd] 3)).alloc (by simp; omega) (.cells #[.string nm] 9)
  have h1 : (w.alloc (.cells #[.slice p l.length c] 24)).heap.size = w.heap.size + 1 := by simp
  have h2 : ((w.alloc (.cells #[.slice p l.length c] 24)).alloc (.cells #[.int .i64 kd] 3)).heap.size = w.heap.size + 1 + 1 := by simp
  have ck := cell_of_row _ _ 0 _ _ _ (heap_alloc_new (w.alloc (.cells #[.slice p l.length c] 24)) (.cells #[.int .i64 kd] 3))
  have cn' := cell_of_row _ _ 0 _ _ _ (heap_alloc_new ((w.alloc (.cells #[.slice p l.length c] 24)).alloc (.cells #[.int .i64 kd] 3)) (.cells #[.string nm] 9))
  simp only [List.getElem?_toArray, List.getElem?_cons_zero] at ck cn'
  rw [h1] at ck
  rw [h2] at cn'
  have ck' := cell_alloc ck (.cells #[.string nm] 9)
  clear ck h1 h2
  unfold fnd
  go_enter Try.func44, Try.ntmps44
  by_cases hn : nm = noB
  · rw [if_pos hn]
    have g2 : nm.toList.isEmpty = true := by rw [hn, noB_list]; rfl
    clear hn
    go_wp2
    go_ret
    exact ⟨rfl, hb0⟩
  · rw [if_neg hn]
    have g2 : nm.toList.isEmpty = false := by
      have h := (Lib.bytes_beq_false_iff nm noB).2 hn
      rw [noB_list] at h
      cases hl : nm.toList with
      | nil => rw [hl] at h; cases h
      | cons a r => rfl
    have HI : Hid (∀ W, Below w.heap.size w W → 0 < l.length → ∃ g, p = some ⟨g, 0, none⟩ ∧ ok g ∧ RdIs ok W l g) := fun W hb h0 => (let ⟨g, e1, e2, e3⟩ := hits h0; ⟨g, e1, e2, e3.kept e2 (fun k hk => hb.block k (hok k hk)) (fun _ h => h)⟩)
    clear hn hits
    go_wp2_with (first
      | (go_at_call 67; refine (indexFunc_any l p c kd nm (w.heap.size + 1) (w.heap.size + 1 + 1) _ ok (fun k hk => Nat.lt_of_lt_of_le (hok k hk) hb0.size) ck' cn' hl (HI.out _ hb0)).mono ?_; rintro e w1 ⟨rfl, hb1⟩))
    go_ret
    exact ⟨rfl, hb0.trans (hb1.mono hb0.size)⟩
end Go.Proofs.Ytjpmnholpeidmaa

namespace Go.Proofs.Ytjpmnholpeidmaa
open Go.RowKit
attribute [local go_sem ↓] Go.wp_at_zero Go.wp_at_succ
/-- Where a name is made that was made last. -/
def envL : List (ByteArray × Nat) → ByteArray → Option Nat
  | [], _ => none
  | (y, a) :: r, x => if x = y then some a else envL r x
/-- What a scope answers. -/
def scV (env : List (ByteArray × Nat)) (x : ByteArray) : Value := match envL env x with | some a => .tuple #[.int .i64 (a : Int), .bool true] | none => .tuple #[.int .i64 0, .bool false]
end Go.Proofs.Ytjpmnholpeidmaa

namespace Go.Proofs.Ytjpmnholpeidmaa
/-- Parts of trees. -/
def exK : Tr → Nat
  | .agg (.lit (.int _ k) :: _) => k.toNat
  | _ => 0
def exX : Tr → ByteArray
  | .agg (_ :: .lit (.string x) :: _) => ⟨x.toArray⟩
  | _ => noB
def exA : Tr → List Tr
  | .agg (_ :: _ :: _ :: .slice al _ :: _) => al
  | _ => []
def stA : Tr → Nat
  | .agg (_ :: _ :: .lit (.int _ a) :: _) => a.toNat
  | _ => 0
def stE : Tr → Tr
  | .agg (_ :: _ :: _ :: _ :: _ :: e :: _) => e
  | _ => exZ
def stTh : Tr → List Tr
  | .agg (_ :: _ :: _ :: _ :: _ :: _ :: .slice l _ :: _) => l
  | _ => []
def stEl : Tr → List Tr
  | .agg (_ :: _ :: _ :: _ :: _ :: _ :: _ :: .slice l _ :: _) => l
  | _ => []
section
variable (k : Nat) (x : ByteArray) (n : Nat) (al : List Tr) (f t a lb : Nat) (o : Bool) (e : Tr) (th el : List Tr)
theorem exK_mk : exK (exMk k x n al f t) = k := by simp [exK, exMk]
theorem exX_mk : exX (exMk k x n al f t) = x := by simp [exX, exMk]
theorem exA_mk : exA (exMk k x n al f t) = al := by simp [exA, exMk]
theorem stK_mk : exK (stMk k x a lb o e th el f t) = k := by simp [exK, stMk]
theorem stX_mk : exX (stMk k x a lb o e th el f t) = x := by simp [exX, stMk]
theorem stA_mk : stA (stMk k x a lb o e th el f t) = a := by simp [stA, stMk]
theorem stE_mk : stE (stMk k x a lb o e th el f t) = e := by simp [stE, stMk]
theorem stTh_mk : stTh (stMk k x a lb o e th el f t) = th := by simp [stTh, stMk]
theorem stEl_mk : stEl (stMk k x a lb o e th el f t) = el := by simp [stEl, stMk]
end
/-- How great a tree is. -/
def szT : Tr → Nat
  | .slice l _ => 1 + (l.map szT).sum
  | .agg l => 1 + (l.map szT).sum
  | _ => 1
theorem szT_pos (e : Tr) : 0 < szT e := by unfold szT; split <;> omega
theorem szT_mem {l : List Tr} {a : Tr} (h : a ∈ l) : szT a ≤ (l.map szT).sum := by
  induction l with
  | nil => exact absurd h (List.not_mem_nil)
  | cons b r ih =>
    rw [List.map_cons, List.sum_cons]
    rcases List.mem_cons.1 h with rfl | h
    · omega
    · have := ih h; omega
theorem szT_slice (l r : List Tr) : szT (.slice l r) = 1 + (l.map szT).sum := by rw [szT]
theorem szT_agg (l : List Tr) : szT (.agg l) = 1 + (l.map szT).sum := by rw [szT]
theorem exA_less (e a : Tr) (h : a ∈ exA e) : szT a < szT e := by
  unfold exA at h
  split at h
  · have := szT_mem h
    simp only [szT_agg, List.map_cons, List.sum_cons, szT_slice]
    omega
  · exact absurd h (List.not_mem_nil)
theorem stTh_less (e a : Tr) (h : a ∈ stTh e) : szT a < szT e := by
  unfold stTh at h
  split at h
  · have := szT_mem h
    simp only [szT_agg, List.map_cons, List.sum_cons, szT_slice]
    omega
  · exact absurd h (List.not_mem_nil)
theorem stEl_less (e a : Tr) (h : a ∈ stEl e) : szT a < szT e := by
  unfold stEl at h
  split at h
  · have := szT_mem h
    simp only [szT_agg, List.map_cons, List.sum_cons, szT_slice]
    omega
  · exact absurd h (List.not_mem_nil)
/-- What is told of a name: what is wrong with it (b), or where what it means is made. -/
structure Ev where
  b : Bool
  e : Nat
  x : ByteArray
  a : Nat
  d : Int
abbrev Env : Type := List (ByteArray × Nat)
def wI (x : Int) : Int := IntKind.i64.wrap x
def evNo (e : Nat) (x : ByteArray) (a : Nat) : Ev := ⟨true, e, x, a, 0⟩
def evYes (x : ByteArray) (a : Nat) (d : Int) : Ev := ⟨false, 0, x, a, d⟩
section
variable (l : List (Int × It)) (p : Int)
def evLocal (env : Env) (x : ByteArray) (a : Nat) : List Ev := match envL env x with | some d => [evYes x a (wI (p + (d : Int)))] | none => [evNo 6 x a]
/-- The item of that kind and name. -/
def hit (kd : Nat) (x : ByteArray) : Option (Int × It) := if fnd l kd x < 0 then none else l[(fnd l kd x).toNat]?
def evItem (kd : Nat) (x : ByteArray) (a : Nat) : List Ev := match hit l kd x with | some i => [evYes x a (wI (i.1 + (i.2.mrk : Int)))] | none => [evNo 6 x a]
def evCall (x : ByteArray) (a n : Nat) : List Ev := evItem l 2 x a ++ (match hit l 2 x with | some i => if i.2.ps.length = n then [] else [evNo 5 x a] | none => [])
def evChan (x : ByteArray) (a : Nat) : List Ev := if x = noB then [] else evItem l 1 x a
def evMk (env : Env) (x : ByteArray) (a : Nat) : List Ev := if x = noB then [] else match envL env x with | some _ => [evNo 7 x a] | none => []
def scMk (env : Env) (x : ByteArray) (a : Nat) : Env := if x = noB then env else (x, a) :: env
def evE (env : Env) : Nat → Tr → List Ev
  | 0, _ => []
  | n + 1, e => if exK e = 2 then evLocal p env (exX e) (exF e) else if exK e = 3 then (exA e).flatMap (evE env n) else if exK e = 4 then evCall l (exX e) (exF e) (exA e).length ++ (exA e).flatMap (evE env n) else []
theorem flat_same {α β : Type} {L : List α} {f g : α → List β} (h : ∀ a ∈ L, f a = g a) : L.flatMap f = L.flatMap g := by
  induction L with
  | nil => rfl
  | cons a r ih => rw [List.flatMap_cons, List.flatMap_cons, h a (List.mem_cons_self), ih (fun b hb => h b (List.mem_cons_of_mem _ hb))]
theorem evE_fuel (env : Env) (n : Nat) : ∀ (m : Nat) (e : Tr), szT e ≤ n → szT e ≤ m → evE l p env n e = evE l p env m e := by
  induction n with
  | zero => intro m e h; have := szT_pos e; omega
  | succ n ih =>
    intro m e h1 h2
    cases m with
    | zero => have := szT_pos e; omega
    | succ m =>
      have hf : (exA e).flatMap (evE l p env n) = (exA e).flatMap (evE l p env m) := flat_same fun a ha => ih m a (by have := exA_less e a ha; omega) (by have := exA_less e a ha; omega)
      unfold evE
      rw [hf]
/-- What is told of an expression. -/
def evX (env : Env) (e : Tr) : List Ev := evE l p env (szT e) e
theorem evX_eq (env : Env) (e : Tr) : evX l p env e = if exK e = 2 then evLocal p env (exX e) (exF e) else if exK e = 3 then (exA e).flatMap (evX l p env) else if exK e = 4 then evCall l (exX e) (exF e) (exA e).length ++ (exA e).flatMap (evX l p env) else [] := by
  have hf : (exA e).flatMap (evE l p env (szT e)) = (exA e).flatMap (evX l p env) := flat_same fun a ha => evE_fuel l p env _ _ a (by have := exA_less e a ha; omega) (Nat.le_refl _)
  have h1 : evX l p env e = evE l p env (szT e + 1) e := evE_fuel l p env _ _ e (Nat.le_refl _) (by omega)
  rw [h1]
  conv => lhs; unfold evE
  rw [hf]
theorem evX_mk (env : Env) (k : Nat) (x : ByteArray) (n : Nat) (al : List Tr) (f t : Nat) : evX l p env (exMk k x n al f t) = if k = 2 then evLocal p env x f else if k = 3 then al.flatMap (evX l p env) else if k = 4 then evCall l x f al.length ++ al.flatMap (evX l p env) else [] := by
  rw [evX_eq, exK_mk, exX_mk, exA_mk, exF_mk]
/-- The scope behind a statement. -/
def scS (env : Env) (s : Tr) : Env := if exK s = 1 then scMk env (exX s) (stA s) else env
def runB (f : Env → Tr → List Ev) : Env → List Tr → List Ev
  | _, [] => []
  | env, s :: r => f env s ++ runB f (scS env s) r
def evS : Nat → Env → Tr → List Ev
  | 0, _, _ => []
  | n + 1, env, s => evX l p env (stE s) ++ (if exK s = 1 then evMk env (exX s) (stA s) else if exK s = 2 then evLocal p env (exX s) (stA s) else if exK s = 5 then evChan l (exX s) (stA s) else if exK s = 3 then runB (evS n) env (stTh s) ++ runB (evS n) env (stEl s) else if exK s = 4 then runB (evS n) env (stTh s) else [])
theorem runB_same {f g : Env → Tr → List Ev} {L : List Tr} (h : ∀ a ∈ L, ∀ env, f env a = g env a) : ∀ env, runB f env L = runB g env L := by
  induction L with
  | nil => intro env; rfl
  | cons a r ih => intro env; unfold runB; rw [h a (List.mem_cons_self), ih (fun b hb => h b (List.mem_cons_of_mem _ hb))]
theorem evS_fuel (n : Nat) : ∀ (m : Nat) (env : Env) (s : Tr), szT s ≤ n → szT s ≤ m → evS l p n env s = evS l p m env s := by
  induction n with
  | zero => intro m env e h; have := szT_pos e; omega
  | succ n ih =>
    intro m env e h1 h2
    cases m with
    | zero => have := szT_pos e; omega
    | succ m =>
      have hf : runB (evS l p n) env (stTh e) = runB (evS l p m) env (stTh e) := runB_same (fun a ha env => ih m env a (by have := stTh_less e a ha; omega) (by have := stTh_less e a ha; omega)) env
      have hg : runB (evS l p n) env (stEl e) = runB (evS l p m) env (stEl e) := runB_same (fun a ha env => ih m env a (by have := stEl_less e a ha; omega) (by have := stEl_less e a ha; omega)) env
      unfold evS
      rw [hf, hg]
/-- What is told of a statement, and of a block. -/
def evY (env : Env) (s : Tr) : List Ev := evS l p (szT s) env s
def evB (env : Env) (L : List Tr) : List Ev := runB (evY l p) env L
theorem evY_eq (env : Env) (s : Tr) : evY l p env s = evX l p env (stE s) ++ (if exK s = 1 then evMk env (exX s) (stA s) else if exK s = 2 then evLocal p env (exX s) (stA s) else if exK s = 5 then evChan l (exX s) (stA s) else if exK s = 3 then evB l p env (stTh s) ++ evB l p env (stEl s) else if exK s = 4 then evB l p env (stTh s) else []) := by
  have hf : runB (evS l p (szT s)) env (stTh s) = evB l p env (stTh s) := runB_same (fun a ha env => evS_fuel l p _ _ env a (by have := stTh_less s a ha; omega) (Nat.le_refl _)) env
  have hg : runB (evS l p (szT s)) env (stEl s) = evB l p env (stEl s) := runB_same (fun a ha env => evS_fuel l p _ _ env a (by have := stEl_less s a ha; omega) (Nat.le_refl _)) env
  have h1 : evY l p env s = evS l p (szT s + 1) env s := evS_fuel l p _ _ env s (Nat.le_refl _) (by omega)
  rw [h1]
  conv => lhs; unfold evS
  rw [hf, hg]
theorem evY_mk (env : Env) (k : Nat) (x : ByteArray) (a lb : Nat) (o : Bool) (e : Tr) (th el : List Tr) (f t : Nat) : evY l p env (stMk k x a lb o e th el f t) = evX l p env e ++ (if k = 1 then evMk env x a else if k = 2 then evLocal p env x a else if k = 5 then evChan l x a else if k = 3 then evB l p env th ++ evB l p env el else if k = 4 then evB l p env th else []) := by
  rw [evY_eq, stK_mk, stX_mk, stA_mk, stE_mk, stTh_mk, stEl_mk]
theorem scS_mk (env : Env) (k : Nat) (x : ByteArray) (a lb : Nat) (o : Bool) (e : Tr) (th el : List Tr) (f t : Nat) : scS env (stMk k x a lb o e th el f t) = if k = 1 then scMk env x a else env := by
  unfold scS; rw [stK_mk, stX_mk, stA_mk]
theorem evB_nil (env : Env) : evB l p env [] = [] := rfl
theorem evB_cons (env : Env) (s : Tr) (r : List Tr) : evB l p env (s :: r) = evY l p env s ++ evB l p (scS env s) r := rfl
/-- The scope behind the first statements. -/
def scB (env : Env) (L : List Tr) : Env := L.foldl scS env
theorem evB_app (L : List Tr) (s : Tr) : ∀ env, evB l p env (L ++ [s]) = evB l p env L ++ evY l p (scB env L) s := by
  induction L with
  | nil => intro env; rw [List.nil_append, evB_cons, evB_nil, evB_nil, List.append_nil, List.nil_append]; rfl
  | cons a r ih => intro env; rw [List.cons_append, evB_cons, evB_cons, ih, List.append_assoc]; rfl
theorem scB_app (env : Env) (L : List Tr) (s : Tr) : scB env (L ++ [s]) = scS (scB env L) s := by unfold scB; rw [List.foldl_append]; rfl
/-- Parameters. -/
def scP (env : Env) (L : List Pm) : Env := L.foldl (fun env p => scMk env p.x p.a) env
def evP : Env → List Pm → List Ev
  | _, [] => []
  | env, q :: r => evMk env q.x q.a ++ evP (scMk env q.x q.a) r
theorem evP_app (L : List Pm) (s : Pm) : ∀ env, evP env (L ++ [s]) = evP env L ++ evMk (scP env L) s.x s.a := by
  induction L with
  | nil => intro env; simp [evP, scP]
  | cons a r ih => intro env; simp only [List.cons_append, evP, ih, List.append_assoc]; rfl
theorem scP_app (env : Env) (L : List Pm) (s : Pm) : scP env (L ++ [s]) = scMk (scP env L) s.x s.a := by unfold scP; rw [List.foldl_append]; rfl
/-- Sends: those ahead of the k-th have been seen. -/
def evSd (L : List Rf) (k : Nat) : List Ev := match L[k]? with
  | none => []
  | some r => evChan l r.x r.a ++ (if r.x ≠ noB ∧ (L.take k).any (fun q => decide (q.x = r.x)) = true then [evNo 7 r.x r.a] else [])
def evSk (L : List Rf) : Nat → List Ev
  | 0 => []
  | k + 1 => evSk L k ++ evSd l L k
/-- What is told of a function, and of the i-th item. -/
def evF (it : It) : List Ev := evP [] it.ps ++ evSk l it.ss it.ss.length ++ evB l p (scP [] it.ps) it.bd
end
def evI (l : List (Int × It)) (i : Nat) : List Ev := match l[i]? with
  | none => []
  | some q => (if q.2.k ≠ 3 ∧ 0 ≤ fnd l q.2.k q.2.x ∧ fnd l q.2.k q.2.x < (i : Int) then [evNo 7 q.2.x q.2.mrk] else []) ++ (if q.2.k = 2 then evF l q.1 q.2 else [])
end Go.Proofs.Ytjpmnholpeidmaa

namespace Go.Proofs.Ytjpmnholpeidmaa
/-- A name that is a token. -/
def tkn (L : List Tok) (x : ByteArray) (a : Nat) : Prop := nmB x = true ∧ ∃ t ∈ L, t.x = x ∧ t.a = a
/-- A list, of c names at the most. -/
def wfL (P : Nat → Tr → Prop) : Nat → List Tr → Prop
  | _, [] => True
  | c, a :: r => ∃ c1 c2, c1 + c2 ≤ c ∧ P c1 a ∧ wfL P c2 r
theorem wfL_up {P Q : Nat → Tr → Prop} (h : ∀ c c' a, c ≤ c' → P c a → Q c' a) : ∀ (l : List Tr) (c c' : Nat), c ≤ c' → wfL P c l → wfL Q c' l := by
  intro l
  induction l with
  | nil => intro c c' _ _; trivial
  | cons a r ih =>
    intro c c' hc hl
    obtain ⟨c1, c2, h1, h2, h3⟩ := hl
    exact ⟨c1, c2, by omega, h c1 c1 a (Nat.le_refl _) h2, ih c2 c2 (Nat.le_refl _) h3⟩
theorem wfL_snoc {P : Nat → Tr → Prop} : ∀ (l : List Tr) (c c' : Nat) (a : Tr), wfL P c l → P c' a → wfL P (c + c') (l ++ [a]) := by
  intro l
  induction l with
  | nil => intro c c' a _ ha; exact ⟨c', 0, by omega, ha, trivial⟩
  | cons b r ih =>
    intro c c' a hl ha
    obtain ⟨c1, c2, h1, h2, h3⟩ := hl
    exact ⟨c1, c2 + c', by omega, h2, ih c2 c' a h3 ha⟩
section
variable (L : List Tok)
def wfE : Nat → Nat → Tr → Prop
  | 0, _, _ => False
  | n + 1, c, e => ∃ (k : Nat) (x : ByteArray) (m : Nat) (al : List Tr) (f t : Nat), e = exMk k x m al f t ∧
    ((k ≠ 2 ∧ k ≠ 3 ∧ k ≠ 4 ∧ al = []) ∨ (k = 2 ∧ tkn L x f ∧ al = [] ∧ 1 ≤ c) ∨ (k = 3 ∧ al.length = 2 ∧ wfL (wfE n) c al) ∨ (k = 4 ∧ tkn L x f ∧ ∃ c', c' + 1 ≤ c ∧ wfL (wfE n) c' al))
theorem wfE_up (n : Nat) : ∀ (m c c' : Nat) (e : Tr), n ≤ m → c ≤ c' → wfE L n c e → wfE L m c' e := by
  induction n with
  | zero => intro m c c' e _ _ h; exact h.elim
  | succ n ih =>
    intro m c c' e hm hc h
    obtain ⟨m, rfl⟩ : ∃ q, m = q + 1 := ⟨m - 1, by omega⟩
    obtain ⟨k, x, q, al, f, t, he, h⟩ := h
    refine ⟨k, x, q, al, f, t, he, ?_⟩
    rcases h with h | ⟨h1, h2, h3, h4⟩ | ⟨h1, h2, h3⟩ | ⟨h1, h2, c2, h3, h4⟩
    · exact .inl h
    · exact .inr (.inl ⟨h1, h2, h3, by omega⟩)
    · exact .inr (.inr (.inl ⟨h1, h2, wfL_up (fun c c' a => ih m c c' a (by omega)) al c c' hc h3⟩))
    · exact .inr (.inr (.inr ⟨h1, h2, c2, by omega, wfL_up (fun c c' a => ih m c c' a (by omega)) al c2 c2 (Nat.le_refl _) h4⟩))
def wfS : Nat → Nat → Tr → Prop
  | 0, _, _ => False
  | n + 1, c, s => ∃ (k : Nat) (x : ByteArray) (a lb : Nat) (o : Bool) (e : Tr) (th el : List Tr) (f t ce ct cl : Nat), s = stMk k x a lb o e th el f t ∧ (∃ m, wfE L m ce e) ∧ wfL (wfS n) ct th ∧ wfL (wfS n) cl el ∧
    ((x = noB ∧ ce + ct + cl ≤ c) ∨ (tkn L x a ∧ ce + ct + cl + 1 ≤ c)) ∧ (k = 2 → x ≠ noB) ∧ (k = 1 ∨ k = 2 ∨ k = 5 ∨ x = noB) ∧ (k = 3 ∨ k = 4 ∨ th = []) ∧ (k = 3 ∨ el = []) ∧ k ≤ 8 ∧ (k = 0 ∨ k = 8 → e = exZ)
theorem wfS_up (n : Nat) : ∀ (m c c' : Nat) (e : Tr), n ≤ m → c ≤ c' → wfS L n c e → wfS L m c' e := by
  induction n with
  | zero => intro m c c' e _ _ h; exact h.elim
  | succ n ih =>
    intro m c c' e hm hc h
    obtain ⟨m, rfl⟩ : ∃ q, m = q + 1 := ⟨m - 1, by omega⟩
    obtain ⟨k, x, a, lb, o, e, th, el, f, t, ce, ct, cl, he, h1, h2, h3, h4, h5⟩ := h
    refine ⟨k, x, a, lb, o, e, th, el, f, t, ce, ct, cl, he, h1, wfL_up (fun c c' a => ih m c c' a (by omega)) th ct ct (Nat.le_refl _) h2, wfL_up (fun c c' a => ih m c c' a (by omega)) el cl cl (Nat.le_refl _) h3, ?_, h5⟩
    rcases h4 with ⟨g1, g2⟩ | ⟨g1, g2⟩
    · exact .inl ⟨g1, by omega⟩
    · exact .inr ⟨g1, by omega⟩
end
variable {L : List Tok} {sz : Nat}
theorem tkn_tk {i : Nat} (h : nmB (tk L sz i).x = true) : tkn L (tk L sz i).x (tk L sz i).a := ⟨h, tk L sz i, List.mem_of_getElem? (tk_some (nm_lt h)), rfl, rfl⟩
theorem named_tkn (i : Nat) : (pNamed L sz i).v = noB ∨ (tkn L (pNamed L sz i).v (tk L sz i).a ∧ (pNamed L sz i).i = i + 1) := by
  unfold pNamed
  split
  · rename_i h
    exact .inr ⟨tkn_tk h, rfl⟩
  · split <;> exact .inl rfl
theorem exNo_wf (i c : Nat) : wfE L 1 c (exNo L sz i) := ⟨5, noB, 0, [], _, _, rfl, .inl ⟨by decide, by decide, by decide, rfl⟩⟩
theorem exZ_wf (c : Nat) : wfE L 1 c exZ := ⟨0, noB, 0, [], _, _, rfl, .inl ⟨by decide, by decide, by decide, rfl⟩⟩
theorem expr_wf (hL : ∀ t ∈ L, okT t) (f : Nat) :
    (∀ d i, i ≤ L.length → ∃ n, wfE L n ((pAtom L sz f d i).i - i) (pAtom L sz f d i).v) ∧
    (∀ d i l m c, i ≤ L.length → (∃ n, wfL (wfE L n) c l) → ∃ n, wfL (wfE L n) (c + ((pArgs L sz f d i l m).i - i)) (pArgs L sz f d i l m).v) ∧
    (∀ d i w, i ≤ L.length → ∃ n, wfE L n ((pExpr L sz f d i w).i - i) (pExpr L sz f d i w).v) ∧
    (∀ d e i w c, i ≤ L.length → (∃ n, wfE L n c e) → ∃ n, wfE L n (c + ((pOps L sz f d e i w).i - i)) (pOps L sz f d e i w).v) := by
  induction f with
  | zero =>
    refine ⟨fun d i hi => ?_, fun d i l m c hi h => ?_, fun d i w hi => ?_, fun d e i w c hi h => ?_⟩
    · rw [pAtom_zero]; exact ⟨1, exNo_wf i _⟩
    · rw [pArgs_zero]; simpa using h
    · rw [pExpr_zero]; exact ⟨1, exNo_wf i _⟩
    · rw [pOps_zero]; simpa using h
  | succ f ih =>
    obtain ⟨hA, hG, hE, hO⟩ := ih
    obtain ⟨oA, oG, oE, oO⟩ := expr_ok (sz := sz) hL f
    refine ⟨fun d i hi => ?_, fun d i l m c hi h => ?_, fun d i w hi => ?_, fun d e i w c hi h => ?_⟩
    · rw [pAtom_succ]
      try simp only
      split
      · rename_i hop
        have hl := op_lt hop
        split
        · obtain ⟨n, hn⟩ := hE (d + 1) (i + 1) 0 hl
          have h0 := (oE (d + 1) (i + 1) 0 hl).1
          have h2 := need_ok (sz := sz) hL h0.le (s := bs1 41) (by decide)
          exact ⟨n, wfE_up L n n _ _ _ (Nat.le_refl _) (by have := h2.ge; have := h0.ge; simp only; omega) hn⟩
        · rename_i hx
          split
          · split
            · exact ⟨1, 1, _, _, _, _, _, rfl, .inl ⟨by decide, by decide, by decide, rfl⟩⟩
            · exact ⟨1, 1, _, _, _, _, _, rfl, .inl ⟨by decide, by decide, by decide, rfl⟩⟩
          · rename_i h2
            have hn : nmB (tk L sz i).x = true := op_nm hop h2 hx
            split
            · rename_i hp
              have hl2 := (isT_lt hp).1
              obtain ⟨n, hw⟩ := hG (d + 1) (i + 2) [] (moreB L (i + 2)) 0 hl2 ⟨0, trivial⟩
              have h0 := oG (d + 1) (i + 2) [] (moreB L (i + 2)) hl2
              have h2 := need_ok (sz := sz) hL h0.le (s := bs1 41) (by decide)
              exact ⟨n + 1, 4, _, _, _, _, _, rfl, .inr (.inr (.inr ⟨rfl, tkn_tk hn, _, by have := h2.ge; have := h0.ge; simp only; omega, hw⟩))⟩
            · exact ⟨1, 2, _, _, _, _, _, rfl, .inr (.inl ⟨rfl, tkn_tk hn, rfl, by simp only; omega⟩)⟩
      · exact ⟨1, exNo_wf i _⟩
    · rw [pArgs_succ]
      split
      · split
        · simpa using h
        · obtain ⟨n, hn⟩ := h
          obtain ⟨n1, h1⟩ := hE d i 0 hi
          have o1 := (oE d i 0 hi).1
          have hs : wfL (wfE L (max n n1)) (c + ((pExpr L sz f d i 0).i - i)) (l ++ [(pExpr L sz f d i 0).v]) := wfL_snoc _ _ _ _ (wfL_up (fun c c' a hc => wfE_up L n _ c c' a (Nat.le_max_left _ _) hc) l c c (Nat.le_refl _) hn) (wfE_up L n1 _ _ _ _ (Nat.le_max_right _ _) (Nat.le_refl _) h1)
          try simp only
          split
          · rename_i hc
            have hl2 := (isT_lt hc).1
            obtain ⟨n2, h2⟩ := hG d ((pExpr L sz f d i 0).i + 1) _ (moreB L ((pExpr L sz f d i 0).i + 1)) _ hl2 ⟨_, hs⟩
            have o2 := oG d ((pExpr L sz f d i 0).i + 1) (l ++ [(pExpr L sz f d i 0).v]) (moreB L ((pExpr L sz f d i 0).i + 1)) hl2
            exact ⟨n2, wfL_up (fun c c' a hc => wfE_up L n2 _ c c' a (Nat.le_refl _) hc) _ _ _ (by have := o1.ge; have := o2.ge; simp only; omega) h2⟩
          · exact ⟨_, hs⟩
      · simpa using h
    · rcases Nat.eq_zero_or_pos w with hw | hw
      · subst hw
        rw [pExpr_nul]
        split
        · exact ⟨1, exNo_wf i _⟩
        · exact hE d i 1 hi
      · rcases Nat.lt_or_ge w 4 with h4 | h4
        · rw [pExpr_mid _ _ _ _ _ _ hw h4]
          try simp only
          have o1 := (oE d i (w + 1) hi).1
          obtain ⟨n2, h2⟩ := hO d (pExpr L sz f d i (w + 1)).v (pExpr L sz f d i (w + 1)).i w _ o1.le (hE d i (w + 1) hi)
          have o2 := oO d (pExpr L sz f d i (w + 1)).v (pExpr L sz f d i (w + 1)).i w o1.le
          exact ⟨n2, wfE_up L n2 _ _ _ _ (Nat.le_refl _) (by have := o1.ge; have := o2.ge; omega) h2⟩
        · rw [pExpr_top _ _ _ _ _ _ h4]
          exact hA d i hi
    · rw [pOps_succ]
      try simp only
      split
      · rename_i hw
        have hw2 : 0 < tight (tk L sz i).x := by omega
        have hl := tight_lt hw2
        obtain ⟨n, hn⟩ := h
        obtain ⟨n1, h1⟩ := hE d (i + 1) (w + 1) hl
        have o1 := (oE d (i + 1) (w + 1) hl).1
        have hs : wfE L (max n n1 + 1) (c + ((pExpr L sz f d (i + 1) (w + 1)).i - (i + 1))) (exMk 3 (tk L sz i).x 0 [e, (pExpr L sz f d (i + 1) (w + 1)).v] (exF e) (max (exT e) (exT (pExpr L sz f d (i + 1) (w + 1)).v))) :=
          ⟨3, _, _, _, _, _, rfl, .inr (.inr (.inl ⟨rfl, rfl, c, _, Nat.le_refl _, wfE_up L n _ _ _ _ (Nat.le_max_left _ _) (Nat.le_refl _) hn, _, 0, Nat.le_refl _, wfE_up L n1 _ _ _ _ (Nat.le_max_right _ _) (Nat.le_refl _) h1, trivial⟩))⟩
        obtain ⟨n2, h2⟩ := hO d _ _ w _ o1.le ⟨_, hs⟩
        have o2 := oO d (exMk 3 (tk L sz i).x 0 [e, (pExpr L sz f d (i + 1) (w + 1)).v] (exF e) (max (exT e) (exT (pExpr L sz f d (i + 1) (w + 1)).v))) _ w o1.le
        exact ⟨n2, wfE_up L n2 _ _ _ _ (Nat.le_refl _) (by have := o1.ge; have := o2.ge; simp only; omega) h2⟩
      · simpa using h
theorem pE_wf (hL : ∀ t ∈ L, okT t) (d : Nat) {i : Nat} (hi : i ≤ L.length) : ∃ n, wfE L n ((pE L sz d i).i - i) (pE L sz d i).v := (expr_wf hL _).2.2.1 d i 0 hi
/-- A statement without blocks. -/
theorem st_plain {k : Nat} {x : ByteArray} {a lb : Nat} {o : Bool} {e : Tr} {f t c ce : Nat} (he : ∃ n, wfE L n ce e) (h1 : (x = noB ∧ ce ≤ c) ∨ (tkn L x a ∧ ce + 1 ≤ c)) (h2 : k = 2 → x ≠ noB) (h3 : k = 1 ∨ k = 2 ∨ k = 5 ∨ x = noB) (h4 : k ≤ 8) (h5 : k = 0 ∨ k = 8 → e = exZ) : ∃ n, wfS L n c (stMk k x a lb o e [] [] f t) :=
  ⟨1, k, x, a, lb, o, e, [], [], f, t, ce, 0, 0, rfl, he, trivial, trivial, by rcases h1 with h | h; exact .inl ⟨h.1, by omega⟩; exact .inr ⟨h.1, by omega⟩, h2, h3, .inr (.inr rfl), .inr rfl, h4, h5⟩
theorem st_block {k : Nat} {a lb : Nat} {o : Bool} {e : Tr} {th el : List Tr} {f t c ce ct cl : Nat} (he : ∃ n, wfE L n ce e) (ht : ∃ n, wfL (wfS L n) ct th) (hl : ∃ n, wfL (wfS L n) cl el) (h1 : ce + ct + cl ≤ c) (hk : k = 3 ∨ (k = 4 ∧ el = [])) : ∃ n, wfS L n c (stMk k noB a lb o e th el f t) := by
  obtain ⟨n1, h2⟩ := ht
  obtain ⟨n2, h3⟩ := hl
  have u1 := wfL_up (fun c c' a hc => wfS_up L n1 (max n1 n2) c c' a (Nat.le_max_left _ _) hc) th ct ct (Nat.le_refl _) h2
  have u2 := wfL_up (fun c c' a hc => wfS_up L n2 (max n1 n2) c c' a (Nat.le_max_right _ _) hc) el cl cl (Nat.le_refl _) h3
  refine ⟨max n1 n2 + 1, k, noB, a, lb, o, e, th, el, f, t, ce, ct, cl, rfl, he, u1, u2, .inl ⟨rfl, h1⟩, fun h => ?_, .inr (.inr (.inr rfl)), ?_, ?_, ?_, fun h => ?_⟩
  · rcases hk with hk | hk <;> omega
  · rcases hk with hk | hk
    · exact .inl hk
    · exact .inr (.inl hk.1)
  · rcases hk with hk | hk
    · exact .inl hk
    · exact .inr hk.2
  · rcases hk with hk | hk <;> omega
  · rcases hk with hk | hk <;> omega
theorem stmt_wf (hL : ∀ t ∈ L, okT t) (f : Nat) :
    (∀ d i, i ≤ L.length → ∃ n, wfL (wfS L n) ((pBlock L sz f d i).i - i) (pBlock L sz f d i).v) ∧
    (∀ d i l c, i ≤ L.length → (∃ n, wfL (wfS L n) c l) → ∃ n, wfL (wfS L n) (c + ((pStmts L sz f d i l).i - i)) (pStmts L sz f d i l).v) ∧
    (∀ d i, i < L.length → ∃ n, wfS L n ((pStmt L sz f d i).i - i) (pStmt L sz f d i).v) := by
  induction f with
  | zero =>
    refine ⟨fun d i hi => ?_, fun d i l c hi h => ?_, fun d i hi => ?_⟩
    · rw [pBlock_zero]; exact ⟨0, trivial⟩
    · rw [pStmts_zero]; simpa using h
    · rw [pStmt_zero]; exact st_plain ⟨1, exZ_wf 0⟩ (.inl ⟨rfl, by omega⟩) (by decide) (.inr (.inr (.inr rfl))) (by decide) (fun _ => rfl)
  | succ f ih =>
    obtain ⟨hB, hS, hT⟩ := ih
    obtain ⟨oB, oS, oT⟩ := stmt_ok (sz := sz) hL f
    refine ⟨fun d i hi => ?_, fun d i l c hi h => ?_, fun d i hlt => ?_⟩
    · rw [pBlock_succ]
      split
      · rename_i h
        have hl := (isT_lt h).1
        split
        · exact ⟨0, trivial⟩
        · obtain ⟨n, h1⟩ := hS (d + 1) (i + 1) [] 0 hl ⟨0, trivial⟩
          have o1 := oS (d + 1) (i + 1) [] hl
          have o2 := need_ok (sz := sz) hL o1.le (s := bs1 125) (by decide)
          exact ⟨n, wfL_up (fun c c' a hc => wfS_up L n n c c' a (Nat.le_refl _) hc) _ _ _ (by have := o1.ge; have := o2.ge; simp only; omega) h1⟩
      · exact ⟨0, trivial⟩
    · rw [pStmts_succ]
      split
      · rename_i hlt
        split
        · simpa using h
        · obtain ⟨n, hn⟩ := h
          obtain ⟨n1, h1⟩ := hT d i hlt.1
          have o1 := (oT d i hlt.1).1
          have hs : wfL (wfS L (max n n1)) (c + ((pStmt L sz f d i).i - i)) (l ++ [(pStmt L sz f d i).v]) := wfL_snoc _ _ _ _ (wfL_up (fun c c' a hc => wfS_up L n _ c c' a (Nat.le_max_left _ _) hc) l c c (Nat.le_refl _) hn) (wfS_up L n1 _ _ _ _ (Nat.le_max_right _ _) (Nat.le_refl _) h1)
          try simp only
          obtain ⟨n2, h2⟩ := hS d _ _ _ o1.le ⟨_, hs⟩
          have o2 := oS d (pStmt L sz f d i).i (l ++ [(pStmt L sz f d i).v]) o1.le
          exact ⟨n2, wfL_up (fun c c' a hc => wfS_up L n2 _ c c' a (Nat.le_refl _) hc) _ _ _ (by have := o1.ge; have := o2.ge; omega) h2⟩
      · simpa using h
    · rw [pStmt_succ]
      try simp only
      split
      · have h1 := named_tkn (L := L) (sz := sz) (i + 1)
        have o1 := named_ok (sz := sz) hL (i := i + 1) hlt
        have o2 : ∃ ds, Ok L sz (pNamed L sz (i + 1)).i (if (!isT L (pNamed L sz (i + 1)).i (bs1 58)) = true then (⟨0, (pNamed L sz (i + 1)).i, []⟩ : R Nat) else pLab L sz ((pNamed L sz (i + 1)).i + 1)).i ds := by
          split
          · exact ⟨_, Ok.stay o1.le⟩
          · rename_i hc
            have hc : isT L (pNamed L sz (i + 1)).i (bs1 58) = true := by simpa using hc
            have g1 := Ok.is (sz := sz) hL hc (by decide)
            exact ⟨_, g1.and (lab_ok hL g1.le)⟩
        obtain ⟨ds, o2⟩ := o2
        have o3 := need_ok (sz := sz) (s := bs1 61) hL o2.le (by decide)
        have o4 := (pE_ok (sz := sz) hL d o3.le).1
        have o5 := need_ok (sz := sz) (s := bs1 59) hL o4.le (by decide)
        refine st_plain (pE_wf hL d o3.le) ?_ (fun h => by omega) (.inl rfl) (by decide) (fun h => by omega)
        have g1 := o1.ge
        have g2 := o2.ge
        have g3 := o3.ge
        have g4 := o4.ge
        have g5 := o5.ge
        rcases h1 with h1 | h1
        · exact .inl ⟨h1, by simp only; omega⟩
        · exact .inr ⟨h1.1, by simp only; omega⟩
      · split
        · have o1 := (pE_ok (sz := sz) hL d (i := i + 1) hlt).1
          have o2 := oB d _ o1.le
          have g1 := o1.ge
          have g2 := o2.ge
          split
          · rename_i hc
            have hl := (isT_lt hc).1
            have o3 := oB d ((pBlock L sz f d (pE L sz d (i + 1)).i).i + 1) hl
            have g3 := o3.ge
            exact st_block (pE_wf hL d hlt) (hB d _ o1.le) (hB d ((pBlock L sz f d (pE L sz d (i + 1)).i).i + 1) hl) (by simp only; omega) (.inl rfl)
          · exact st_block (pE_wf hL d hlt) (hB d _ o1.le) (cl := 0) ⟨0, trivial⟩ (by simp only; omega) (.inl rfl)
        · split
          · have o1 := (pE_ok (sz := sz) hL d (i := i + 1) hlt).1
            have o2 := oB d _ o1.le
            have g1 := o1.ge
            have g2 := o2.ge
            exact st_block (pE_wf hL d hlt) (hB d _ o1.le) (cl := 0) ⟨0, trivial⟩ (by simp only; omega) (.inr ⟨rfl, rfl⟩)
          · split
            · have h1 := named_tkn (L := L) (sz := sz) (i + 1)
              have o1 := named_ok (sz := sz) hL (i := i + 1) hlt
              have o4 := (pE_ok (sz := sz) hL d o1.le).1
              have o5 := need_ok (sz := sz) (s := bs1 59) hL o4.le (by decide)
              have g1 := o1.ge
              have g4 := o4.ge
              have g5 := o5.ge
              refine st_plain (pE_wf hL d o1.le) ?_ (fun h => by omega) (.inr (.inr (.inl rfl))) (by decide) (fun h => by omega)
              rcases h1 with h1 | h1
              · exact .inl ⟨h1, by simp only; omega⟩
              · exact .inr ⟨h1.1, by simp only; omega⟩
            · split
              · have o4 := (pE_ok (sz := sz) hL d (i := i + 1) hlt).1
                have o5 := need_ok (sz := sz) (s := bs1 59) hL o4.le (by decide)
                have g4 := o4.ge
                have g5 := o5.ge
                exact st_plain (pE_wf hL d hlt) (.inl ⟨rfl, by simp only; omega⟩) (by decide) (.inr (.inr (.inr rfl))) (by decide) (fun h => by omega)
              · split
                · rename_i hn
                  split
                  · rename_i hc
                    have hl := (isT_lt hc).1
                    have o4 := (pE_ok (sz := sz) hL d (i := i + 2) hl).1
                    have o5 := need_ok (sz := sz) (s := bs1 59) hL o4.le (by decide)
                    have g4 := o4.ge
                    have g5 := o5.ge
                    exact st_plain (pE_wf hL d (i := i + 2) hl) (.inr ⟨tkn_tk hn, by simp only; omega⟩) (fun _ h => by rw [h, nm_none] at hn; cases hn) (.inr (.inl rfl)) (by decide) (fun h => by omega)
                  · have o4 := (pE_ok (sz := sz) hL d (i := i) (Nat.le_of_lt hlt)).1
                    have o5 := need_ok (sz := sz) (s := bs1 59) hL o4.le (by decide)
                    have g4 := o4.ge
                    have g5 := o5.ge
                    exact st_plain (pE_wf hL d (Nat.le_of_lt hlt)) (.inl ⟨rfl, by simp only; omega⟩) (by decide) (.inr (.inr (.inr rfl))) (by decide) (fun h => by omega)
                · exact st_plain ⟨1, exZ_wf 0⟩ (.inl ⟨rfl, by omega⟩) (by decide) (.inr (.inr (.inr rfl))) (by decide) (fun _ => rfl)
theorem params_wf (f : Nat) : ∀ (i : Nat) (l : List Pm), (∀ p ∈ l, p.x = noB ∨ tkn L p.x p.a) → l.length ≤ 5 → (∀ p ∈ (pParams L sz f i l).v, p.x = noB ∨ tkn L p.x p.a) ∧ (pParams L sz f i l).v.length ≤ 5 := by
  induction f with
  | zero => intro i l h hn; exact ⟨h, hn⟩
  | succ f ih =>
    intro i l h hn
    unfold pParams
    split
    · split
      · exact ⟨h, hn⟩
      · rename_i h5
        try simp only
        have hs : ∀ (b : Nat), (∀ p ∈ l ++ [(⟨(pNamed L sz i).v, b, (tk L sz i).a⟩ : Pm)], p.x = noB ∨ tkn L p.x p.a) ∧ (l ++ [(⟨(pNamed L sz i).v, b, (tk L sz i).a⟩ : Pm)]).length ≤ 5 := by
          intro b
          refine ⟨fun p hp => ?_, by rw [List.length_append, List.length_singleton]; omega⟩
          rcases List.mem_append.1 hp with hp | hp
          · exact h p hp
          · rw [List.mem_singleton] at hp
            rw [hp]
            rcases named_tkn (L := L) (sz := sz) i with g | g
            · exact .inl g
            · exact .inr g.1
        split
        · split
          · exact ih _ _ (hs _).1 (hs _).2
          · exact hs _
        · exact ⟨h, hn⟩
    · exact ⟨h, hn⟩
theorem sends_wf (f : Nat) : ∀ (i : Nat) (l : List Rf), (∀ p ∈ l, p.x = noB ∨ tkn L p.x p.a) → (∀ p ∈ (pSends L sz f i l).v, p.x = noB ∨ tkn L p.x p.a) ∧ (pSends L sz f i l).v.length ≤ l.length + f := by
  induction f with
  | zero => intro i l h; exact ⟨h, by simp [pSends]⟩
  | succ f ih =>
    intro i l h
    unfold pSends
    split
    · exact ⟨h, by simp only; omega⟩
    · try simp only
      have hs : ∀ p ∈ l ++ [(⟨(pNamed L sz i).v, (tk L sz i).a⟩ : Rf)], p.x = noB ∨ tkn L p.x p.a := by
        intro p hp
        rcases List.mem_append.1 hp with hp | hp
        · exact h p hp
        · rw [List.mem_singleton] at hp
          rw [hp]
          rcases named_tkn (L := L) (sz := sz) i with g | g
          · exact .inl g
          · exact .inr g.1
      split
      · have := ih ((pNamed L sz i).i + 1) _ hs
        exact ⟨this.1, by have := this.2; simp only [List.length_append, List.length_singleton] at this ⊢; omega⟩
      · exact ⟨hs, by simp only [List.length_append, List.length_singleton]; omega⟩
/-- What is known of an item that was read. -/
structure WfI (L : List Tok) (it : It) : Prop where
  nm : it.x = noB ∨ tkn L it.x it.mrk
  ps : ∀ p ∈ it.ps, p.x = noB ∨ tkn L p.x p.a
  pn : it.ps.length ≤ 5
  ss : ∀ p ∈ it.ss, p.x = noB ∨ tkn L p.x p.a
  sn : it.ss.length ≤ 8
  bd : ∃ n, wfL (wfS L n) L.length it.bd
  k2 : it.k = 2 ∨ (it.ps = [] ∧ it.ss = [] ∧ it.bd = [])
  k3 : it.k = 1 ∨ it.k = 2 ∨ it.k = 3
  kx : it.k = 3 → it.x = noB
theorem it_wf (hL : ∀ t ∈ L, okT t) : WfI L (pIt L sz) := by
  unfold pIt
  split
  · rename_i hk
    have hl := (isT_lt hk).1
    try simp only
    have o1 := named_ok (sz := sz) hL (i := 1) hl
    have o2 := need_ok (sz := sz) (s := bs1 40) hL o1.le (by decide)
    have o3 := params_ok (sz := sz) hL 6 _ [] o2.le
    have o4 := need_ok (sz := sz) (s := bs1 41) hL o3.le (by decide)
    have o5 := need_ok (sz := sz) (s := bs1 58) hL o4.le (by decide)
    have o6 := lab_ok (sz := sz) hL o5.le
    have hsd : (∀ p ∈ (if isT L (pLab L sz (pNeed L sz (pNeed L sz (pParams L sz 6 (pNeed L sz (pNamed L sz 1).i (bs1 40)).i []).i (bs1 41)).i (bs1 58)).i).i kSends = true then pSends L sz 8 ((pLab L sz (pNeed L sz (pNeed L sz (pParams L sz 6 (pNeed L sz (pNamed L sz 1).i (bs1 40)).i []).i (bs1 41)).i (bs1 58)).i).i + 1) [] else (⟨[], (pLab L sz (pNeed L sz (pNeed L sz (pParams L sz 6 (pNeed L sz (pNamed L sz 1).i (bs1 40)).i []).i (bs1 41)).i (bs1 58)).i).i, []⟩ : R (List Rf))).v, p.x = noB ∨ tkn L p.x p.a) ∧ (if isT L (pLab L sz (pNeed L sz (pNeed L sz (pParams L sz 6 (pNeed L sz (pNamed L sz 1).i (bs1 40)).i []).i (bs1 41)).i (bs1 58)).i).i kSends = true then pSends L sz 8 ((pLab L sz (pNeed L sz (pNeed L sz (pParams L sz 6 (pNeed L sz (pNamed L sz 1).i (bs1 40)).i []).i (bs1 41)).i (bs1 58)).i).i + 1) [] else (⟨[], (pLab L sz (pNeed L sz (pNeed L sz (pParams L sz 6 (pNeed L sz (pNamed L sz 1).i (bs1 40)).i []).i (bs1 41)).i (bs1 58)).i).i, []⟩ : R (List Rf))).v.length ≤ 8 ∧ (if isT L (pLab L sz (pNeed L sz (pNeed L sz (pParams L sz 6 (pNeed L sz (pNamed L sz 1).i (bs1 40)).i []).i (bs1 41)).i (bs1 58)).i).i kSends = true then pSends L sz 8 ((pLab L sz (pNeed L sz (pNeed L sz (pParams L sz 6 (pNeed L sz (pNamed L sz 1).i (bs1 40)).i []).i (bs1 41)).i (bs1 58)).i).i + 1) [] else (⟨[], (pLab L sz (pNeed L sz (pNeed L sz (pParams L sz 6 (pNeed L sz (pNamed L sz 1).i (bs1 40)).i []).i (bs1 41)).i (bs1 58)).i).i, []⟩ : R (List Rf))).i ≤ L.length := by
      split
      · rename_i hc
        have := sends_wf (L := L) (sz := sz) 8 ((pLab L sz (pNeed L sz (pNeed L sz (pParams L sz 6 (pNeed L sz (pNamed L sz 1).i (bs1 40)).i []).i (bs1 41)).i (bs1 58)).i).i + 1) [] (fun p hp => absurd hp (List.not_mem_nil))
        exact ⟨this.1, by simpa using this.2, (sends_ok (sz := sz) hL 8 _ [] (isT_lt hc).1).le⟩
      · exact ⟨fun p hp => absurd hp (List.not_mem_nil), by simp, o6.le⟩
    have o8 := pB_ok (sz := sz) hL hsd.2.2
    obtain ⟨n, hn⟩ := (stmt_wf (sz := sz) hL (50 * L.length + 100)).1 0 _ hsd.2.2
    have hp := params_wf (L := L) (sz := sz) 6 (pNeed L sz (pNamed L sz 1).i (bs1 40)).i [] (fun p hp => absurd hp (List.not_mem_nil)) (by simp)
    refine ⟨?_, hp.1, hp.2, hsd.1, hsd.2.1, ⟨n, wfL_up (fun c c' a hc => wfS_up L n n c c' a (Nat.le_refl _) hc) _ _ _ ?_ hn⟩, .inl rfl, .inr (.inl rfl), (fun h => by cases h)⟩
    · rcases named_tkn (L := L) (sz := sz) 1 with g | g
      · exact .inl g
      · exact .inr g.1
    · have := o8.le
      unfold pB at this
      omega
  · split
    · try simp only
      refine ⟨?_, fun p hp => absurd hp (List.not_mem_nil), by simp, fun p hp => absurd hp (List.not_mem_nil), by simp, ⟨0, trivial⟩, .inr ⟨rfl, rfl, rfl⟩, .inl rfl, (fun h => by cases h)⟩
      rcases named_tkn (L := L) (sz := sz) 1 with g | g
      · exact .inl g
      · exact .inr g.1
    · exact ⟨.inl rfl, fun p hp => absurd hp (List.not_mem_nil), by simp, fun p hp => absurd hp (List.not_mem_nil), by simp, ⟨0, trivial⟩, .inr ⟨rfl, rfl, rfl⟩, .inr (.inr rfl), fun _ => rfl⟩
theorem itm_wf (s : ByteArray) : WfI (tks s) (itm s) := it_wf (fun t ht => (tks_facts s t ht).2.1)
end Go.Proofs.Ytjpmnholpeidmaa

namespace Go.Proofs.Ytjpmnholpeidmaa
open Go.RowKit
attribute [local go_sem ↓] Go.wp_at_zero Go.wp_at_succ
/-- A fact, kept from the walk. -/
theorem hid {p : Prop} (h : p) : Hid p := h
/-- What was told is known: block bo leads to it, its list lies in block D. -/
def Tl (bo : Nat) (G : World → List Ev → Option Nat → Prop) (D : Option Nat) (l : List Ev) (w w' : World) : Prop := ∃ D', G w' l D' ∧ Stp bo D D' w w'
/-- Two function values that are told of names, and what they make of it. -/
structure Lsn (bo b0 pw pu : Nat) (cw cu : Array Value) (G : World → List Ev → Option Nat → Prop) : Prop where
  ew : ∀ (args : Array Value) (w : World), (callFunc pw args).run Try.prog w = .ok (.enter pw args) w
  eu : ∀ (args : Array Value) (w : World), (callFunc pu args).run Try.prog w = .ok (.enter pu args) w
  lo : bo < b0
  lt : ∀ w l D, G w l D → b0 ≤ w.heap.size ∧ ∀ k, some k = D → k < w.heap.size
  kept : ∀ w w' l D, G w l D → w.heap.size ≤ w'.heap.size → (∀ k, k < b0 ∨ some k = D → w'.heap[k]? = w.heap[k]?) → G w' l D
  wrong : ∀ (w : World) (l : List Ev) (D : Option Nat) (e : Nat) (x : ByteArray) (a : Nat), G w l D → l.length < 1099511627776 → Calls Try.prog pw (#[.int .i64 (e : Int), .agg #[.string x, .int .i64 (a : Int)]] ++ cw) w fun ex w' => ex = .returned (.tuple #[]) ∧ Tl bo G D (l ++ [evNo e x a]) w w'
  used : ∀ (w : World) (l : List Ev) (D : Option Nat) (x : ByteArray) (a : Nat) (d : Int), G w l D → l.length < 1099511627776 → Calls Try.prog pu (#[.agg #[.string x, .int .i64 (a : Int)], .int .i64 d] ++ cu) w fun ex w' => ex = .returned (.tuple #[]) ∧ Tl bo G D (l ++ [evYes x a d]) w w'
/-- The walker at block bw. -/
structure Wk (bo pw pu : Nat) (cw cu : Array Value) (bw : Nat) (l : List (Int × It)) (p : Int) (D : Option Nat) (w : World) : Prop where
  file : ∃ q c, w.cell? ⟨bw, 0, none⟩ = some (.slice q l.length c) ∧ RdF (okS 0 bo D w) w l (.agg #[.slice q l.length c])
  at_ : w.cell? ⟨bw, 1, none⟩ = some (.int .i64 p)
  wrong : w.cell? ⟨bw, 2, none⟩ = some (.func (.func pw) #[] cw)
  used : w.cell? ⟨bw, 3, none⟩ = some (.func (.func pu) #[] cu)
  ok : okS 0 bo D w bw
theorem okS_cell {bo : Nat} {D D' : Option Nat} {w w' : World} (h : Stp bo D D' w w') {b : Nat} (hb : okS 0 bo D w b) (o : Nat) : w'.cell? ⟨b, o, none⟩ = w.cell? ⟨b, o, none⟩ := World.cell?_of_block (a := ⟨b, o, none⟩) ((okS.step h).1 b hb)
theorem RdE.stp {n bo : Nat} {D D' : Option Nat} {w w' : World} {e : Tr} {v : Value} (h : RdE n (okS 0 bo D w) w e v) (hs : Stp bo D D' w w') : RdE n (okS 0 bo D' w') w' e v := RdE.kept n (okS.step hs).1 (okS.step hs).2 e v h
theorem RdS.stp {n bo : Nat} {D D' : Option Nat} {w w' : World} {e : Tr} {v : Value} (h : RdS n (okS 0 bo D w) w e v) (hs : Stp bo D D' w w') : RdS n (okS 0 bo D' w') w' e v := RdS.kept n (okS.step hs).1 (okS.step hs).2 e v h
section
variable {bo b0 pw pu : Nat} {cw cu : Array Value} {G : World → List Ev → Option Nat → Prop} {bw : Nat} {l : List (Int × It)} {p : Int} {D D' : Option Nat} {w w' : World} {L : List Ev}
theorem Wk.step (h : Wk bo pw pu cw cu bw l p D w) (hs : Stp bo D D' w w') : Wk bo pw pu cw cu bw l p D' w' := by
  obtain ⟨⟨q, c, h1, h2⟩, h3, h4, h5, h6⟩ := h
  exact ⟨⟨q, c, (okS_cell hs h6 0).trans h1, RdF.kept h2 (okS.step hs).1 (okS.step hs).2⟩, (okS_cell hs h6 1).trans h3, (okS_cell hs h6 2).trans h4, (okS_cell hs h6 3).trans h5, (okS.step hs).2 _ h6⟩
theorem Tl.app {L2 L3 : List Ev} {w2 : World} (h : Tl bo G D L2 w w') (k : ∀ D', G w' L2 D' → Stp bo D D' w w' → Tl bo G D' L3 w' w2) : Tl bo G D L3 w w2 := by
  obtain ⟨D1, h1, h2⟩ := h
  obtain ⟨D2, k1, k2⟩ := k D1 h1 h2
  exact ⟨D2, k1, h2.trans k2⟩
theorem Lsn.below (hL : Lsn bo b0 pw pu cw cu G) (hg : G w L D) (hb : Below w.heap.size w w') : G w' L D :=
  hL.kept w w' L D hg hb.size (fun k hk => hb.block k (by rcases hk with h | h; exact Nat.lt_of_lt_of_le h (hL.lt w L D hg).1; exact (hL.lt w L D hg).2 k h))
/-- A store into another block. -/
theorem Lsn.set (hL : Lsn bo b0 pw pu cw cu G) (hg : G w L D) {b : Nat} (h1 : b0 ≤ b) (h2 : some b ≠ D) (o : Nat) (u : Value) : G (w.setCell ⟨b, o, none⟩ u) L D :=
  hL.kept w _ L D hg (by simp) (fun k hk => Below.heap_setCell w _ _ k (by rcases hk with h | h; show k ≠ b; omega; exact fun e => h2 ((show k = b from e) ▸ h)))
/-- A block that is new. -/
theorem Lsn.fresh (hL : Lsn bo b0 pw pu cw cu G) (hg : G w L D) {k : Nat} (h1 : w.heap.size ≤ k) (h2 : k < w'.heap.size) : okS 0 bo D w' k :=
  ⟨Nat.zero_le _, h2, fun e => by have := (hL.lt w L D hg).1; have := hL.lo; omega, fun e => by have := (hL.lt w L D hg).2 k e; omega⟩
theorem Lsn.wrong5 (hL : Lsn bo b0 pw pu cw cu G) (hg : G w L D) (hn : L.length < 1099511627776) (x : ByteArray) (a : Nat) : Calls Try.prog pw (#[.int .i64 5, .agg #[.string x, .int .i64 (a : Int)]] ++ cw) w fun ex w' => ex = .returned (.tuple #[]) ∧ Tl bo G D (L ++ [evNo 5 x a]) w w' := hL.wrong w L D 5 x a hg hn
theorem Lsn.wrong6 (hL : Lsn bo b0 pw pu cw cu G) (hg : G w L D) (hn : L.length < 1099511627776) (x : ByteArray) (a : Nat) : Calls Try.prog pw (#[.int .i64 6, .agg #[.string x, .int .i64 (a : Int)]] ++ cw) w fun ex w' => ex = .returned (.tuple #[]) ∧ Tl bo G D (L ++ [evNo 6 x a]) w w' := hL.wrong w L D 6 x a hg hn
theorem Lsn.wrong7 (hL : Lsn bo b0 pw pu cw cu G) (hg : G w L D) (hn : L.length < 1099511627776) (x : ByteArray) (a : Nat) : Calls Try.prog pw (#[.int .i64 7, .agg #[.string x, .int .i64 (a : Int)]] ++ cw) w fun ex w' => ex = .returned (.tuple #[]) ∧ Tl bo G D (L ++ [evNo 7 x a]) w w' := hL.wrong w L D 7 x a hg hn
end
theorem scV_some {env : Env} {x : ByteArray} {a : Nat} (h : envL env x = some a) : scV env x = .tuple #[.int .i64 (a : Int), .bool true] := by unfold scV; rw [h]
theorem scV_none {env : Env} {x : ByteArray} (h : envL env x = none) : scV env x = .tuple #[.int .i64 0, .bool false] := by unfold scV; rw [h]
/-- A name and its place, new in memory. -/
theorem two_new (w : World) (x : ByteArray) (a : Nat) : (w.alloc (.cells #[.string x, .int .i64 (a : Int)] 62)).cell? ⟨w.heap.size, 0, none⟩ = some (.string x) ∧ (w.alloc (.cells #[.string x, .int .i64 (a : Int)] 62)).cell? ⟨w.heap.size, 1, none⟩ = some (.int .i64 (a : Int)) :=
  ⟨cell_of_row _ _ 0 _ _ _ (heap_alloc_new w (.cells #[.string x, .int .i64 (a : Int)] 62)), cell_of_row _ _ 1 _ _ _ (heap_alloc_new w (.cells #[.string x, .int .i64 (a : Int)] 62))⟩
end Go.Proofs.Ytjpmnholpeidmaa

namespace Go.Proofs.Ytjpmnholpeidmaa
open Go.RowKit
attribute [local go_sem ↓] Go.wp_at_zero Go.wp_at_succ
section
variable {bo b0 pw pu : Nat} {cw cu : Array Value} {G : World → List Ev → Option Nat → Prop} {bw : Nat} {l : List (Int × It)} {p : Int} {D : Option Nat} {w : World} {L : List Ev}
end
end Go.Proofs.Ytjpmnholpeidmaa


/- Texts of this seat, one behind the other: FloStm1, FloStm2, FloStm3, FloStm4, FloStm6, FloStm7, FloItem. -/
import Derived.Test.YtdkpfnohdknldaaGreatDoorZg27
import Derived.Deep.RegionHeld3
namespace Go.Proofs.YtdkpfnohdknldaaGreatDoor
open Go.RowKit
set_option linter.unusedVariables false
attribute [local go_sem ↓] Go.wp_at_zero Go.wp_at_succ
section
variable {bo b0 pw ph : Nat} {cw ch : Array Value} {G : World → List Fv → Option Nat → Prop} {l : List (Int × It)} {fs : List Nat} {q : Option Addr} {c : Nat} {fq : Option Addr} {fc bk : Nat}
set_option maxHeartbeats 4000000 in
set_option maxRecDepth 100000 in
theorem fl_stm_let {n : Nat} (hL : LsF bo b0 pw ph cw ch G) {D : Option Nat} {w : World} {L : List Fv} {env : Env} {sv : Value} (hk : WkF bo l fs q c fq D w) (hg : G w L D) (hs : SfAt (okS 0 bo D w) w env sv) (o : Bool) (k : Nat) (x : ByteArray) (a lb : Nat) (ek : Nat) (ex : ByteArray) (en : Nat) (eal : List Tr) (ef et : Nat) (ep : Option Addr) (ec : Nat) (p1 : Option Addr) (th : List Tr) (c1 : Nat) (p2 : Option Addr) (el : List Tr) (c2 : Nat) (f t : Nat) (u : Nat) (hE : RdE n (okS 0 bo D w) w (exMk ek ex en eal ef et) (.agg #[.int .i64 (ek : Int), .string ex, .int .i64 (en : Int), .slice ep eal.length ec, .int .i64 (ef : Int), .int .i64 (et : Int)])) (hnX : ∀ v, (noF (L ++ fvX l fs env v (exMk ek ex en eal ef et))).length < 1099511627776) (hkk : k = 1) :
  Calls Tryz.prog 100 #[.agg #[.slice q l.length c, .slice fq fs.length fc, .int .i64 (bk : Int), .func (.func pw) #[] cw, .func (.func ph) #[] ch], sv, .agg #[.int .i64 (k : Int), .string x, .int .i64 (a : Int), .int .i64 (lb : Int), .bool o, .int .i64 (ek : Int), .string ex, .int .i64 (en : Int), .slice ep eal.length ec, .int .i64 (ef : Int), .int .i64 (et : Int), .slice p1 th.length c1, .slice p2 el.length c2, .int .i64 (f : Int), .int .i64 (t : Int)], .int .i64 (u : Int)] w fun e w' => ∃ v', e = .returned v' ∧ MkF bo G D (L ++ (fvX l fs env u (exMk ek ex en eal ef et) ++ (if o then [] else opF (lbX l env u (exMk ek ex en eal ef et)) lb f t x))) (scMk env x (if o then lbX l env u (exMk ek ex en eal ef et) else lb)) v' w w' := by
 have hb1 := (Below.refl w.heap.size w).alloc (Nat.le_refl _) (.cells #[.slice q l.length c, .slice fq fs.length fc, .int .i64 (bk : Int), .func (.func pw) #[] cw, .func (.func ph) #[] ch] 104)
 have hb2 := hb1.alloc (by simp) (.cells #[.int .i64 (k : Int), .string x, .int .i64 (a : Int), .int .i64 (lb : Int), .bool o, .int .i64 (ek : Int), .string ex, .int .i64 (en : Int), .slice ep eal.length ec, .int .i64 (ef : Int), .int .i64 (et : Int), .slice p1 th.length c1, .slice p2 el.length c2, .int .i64 (f : Int), .int .i64 (t : Int)] 111)
 have e1 : (w.alloc (.cells #[.slice q l.length c, .slice fq fs.length fc, .int .i64 (bk : Int), .func (.func pw) #[] cw, .func (.func ph) #[] ch] 104)).heap.size = w.heap.size + 1 := by simp
 have e2 : ((w.alloc (.cells #[.slice q l.length c, .slice fq fs.length fc, .int .i64 (bk : Int), .func (.func pw) #[] cw, .func (.func ph) #[] ch] 104)).alloc (.cells #[.int .i64 (k : Int), .string x, .int .i64 (a : Int), .int .i64 (lb : Int), .bool o, .int .i64 (ek : Int), .string ex, .int .i64 (en : Int), .slice ep eal.length ec, .int .i64 (ef : Int), .int .i64 (et : Int), .slice p1 th.length c1, .slice p2 el.length c2, .int .i64 (f : Int), .int .i64 (t : Int)] 111)).heap.size = w.heap.size + 2 := by simp
 obtain ⟨y0, y1, y2, y3, y4⟩ := five_at ((Below.heap_alloc (w.alloc (.cells #[.slice q l.length c, .slice fq fs.length fc, .int .i64 (bk : Int), .func (.func pw) #[] cw, .func (.func ph) #[] ch] 104)) (.cells #[.int .i64 (k : Int), .string x, .int .i64 (a : Int), .int .i64 (lb : Int), .bool o, .int .i64 (ek : Int), .string ex, .int .i64 (en : Int), .slice ep eal.length ec, .int .i64 (ef : Int), .int .i64 (et : Int), .slice p1 th.length c1, .slice p2 el.length c2, .int .i64 (f : Int), .int .i64 (t : Int)] 111) w.heap.size (by simp)).trans (heap_alloc_new w (.cells #[.slice q l.length c, .slice fq fs.length fc, .int .i64 (bk : Int), .func (.func pw) #[] cw, .func (.func ph) #[] ch] 104)))
 have hne := heap_alloc_new (w.alloc (.cells #[.slice q l.length c, .slice fq fs.length fc, .int .i64 (bk : Int), .func (.func pw) #[] cw, .func (.func ph) #[] ch] 104)) (.cells #[.int .i64 (k : Int), .string x, .int .i64 (a : Int), .int .i64 (lb : Int), .bool o, .int .i64 (ek : Int), .string ex, .int .i64 (en : Int), .slice ep eal.length ec, .int .i64 (ef : Int), .int .i64 (et : Int), .slice p1 th.length c1, .slice p2 el.length c2, .int .i64 (f : Int), .int .i64 (t : Int)] 111)
 rw [e1] at hne
 obtain ⟨q0, q1, q2, q3, q4, q5, q6, q7, q8, q9, q10, q11, q12, q13, q14, _⟩ := fif_at hne
 have hst : Stp bo D D w ((w.alloc (.cells #[.slice q l.length c, .slice fq fs.length fc, .int .i64 (bk : Int), .func (.func pw) #[] cw, .func (.func ph) #[] ch] 104)).alloc (.cells #[.int .i64 (k : Int), .string x, .int .i64 (a : Int), .int .i64 (lb : Int), .bool o, .int .i64 (ek : Int), .string ex, .int .i64 (en : Int), .slice ep eal.length ec, .int .i64 (ef : Int), .int .i64 (et : Int), .slice p1 th.length c1, .slice p2 el.length c2, .int .i64 (f : Int), .int .i64 (t : Int)] 111)) := Stp.below hb2
 have hk1 := hk.step hst
 have hg1 := hL.below hg hb2
 have hs1 := hs.step hst
 have hE1 := RdE.kept n (okS.step hst).1 (okS.step hst).2 _ _ hE
 have hfw := hid (hL.fresh (w' := ((w.alloc (.cells #[.slice q l.length c, .slice fq fs.length fc, .int .i64 (bk : Int), .func (.func pw) #[] cw, .func (.func ph) #[] ch] 104)).alloc (.cells #[.int .i64 (k : Int), .string x, .int .i64 (a : Int), .int .i64 (lb : Int), .bool o, .int .i64 (ek : Int), .string ex, .int .i64 (en : Int), .slice ep eal.length ec, .int .i64 (ef : Int), .int .i64 (et : Int), .slice p1 th.length c1, .slice p2 el.length c2, .int .i64 (f : Int), .int .i64 (t : Int)] 111))) hg (k := w.heap.size) (Nat.le_refl _) (by omega))
 have hfs := hid (hL.fresh (w' := ((w.alloc (.cells #[.slice q l.length c, .slice fq fs.length fc, .int .i64 (bk : Int), .func (.func pw) #[] cw, .func (.func ph) #[] ch] 104)).alloc (.cells #[.int .i64 (k : Int), .string x, .int .i64 (a : Int), .int .i64 (lb : Int), .bool o, .int .i64 (ek : Int), .string ex, .int .i64 (en : Int), .slice ep eal.length ec, .int .i64 (ef : Int), .int .i64 (et : Int), .slice p1 th.length c1, .slice p2 el.length c2, .int .i64 (f : Int), .int .i64 (t : Int)] 111))) hg (k := w.heap.size + 1) (by omega) (by omega))
 have HY := hid (And.intro y0 (And.intro y1 (And.intro y2 (And.intro y3 y4))))
 have HQ := hid (And.intro q0 (And.intro q1 (And.intro q2 (And.intro q3 (And.intro q4 (And.intro q5 (And.intro q6 (And.intro q7 (And.intro q8 (And.intro q9 (And.intro q10 (And.intro q11 (And.intro q12 (And.intro q13 q14))))))))))))))
 have HS0 := hid hst
 clear hb1 hb2 hs hk hg hE hne e1 e2 hst
 have g1 : ((k : Int) == 1) = true := by rw [hkk]; rfl
 have HC := hid (fl_let_any (bk := bk) (fc := fc) hL hk1 hg1 hs1 o k x a lb ek ex en eal ef et ep ec p1 th.length c1 p2 el.length c2 f t u hE1 (hnX u))
 generalize L ++ (fvX l fs env u (exMk ek ex en eal ef et) ++ if o = true then [] else opF (lbX l env u (exMk ek ex en eal ef et)) lb f t x) = X2 at *
 generalize scMk env x (if o = true then lbX l env u (exMk ek ex en eal ef et) else lb) = env2 at *
 clear hkk hnX hk1 hg1 hE1
 go_enter Tryz.func100, Tryz.ntmps100
 go_wp2_with (first
  | (go_at_call 128; refine Calls.mono HC.out ?_; rintro e w2 ⟨v2, rfl, D2, hG2, hS2, hs2⟩))
 go_ret
 exact ⟨v2, rfl, D2, hG2, HS0.out.trans hS2, hs2⟩
set_option maxHeartbeats 4000000 in
set_option maxRecDepth 100000 in
theorem fl_stm_send {n : Nat} (hL : LsF bo b0 pw ph cw ch G) {D : Option Nat} {w : World} {L : List Fv} {env : Env} {sv : Value} (hk : WkF bo l fs q c fq D w) (hg : G w L D) (hs : SfAt (okS 0 bo D w) w env sv) (o : Bool) (k : Nat) (x : ByteArray) (a lb : Nat) (ek : Nat) (ex : ByteArray) (en : Nat) (eal : List Tr) (ef et : Nat) (ep : Option Addr) (ec : Nat) (p1 : Option Addr) (th : List Tr) (c1 : Nat) (p2 : Option Addr) (el : List Tr) (c2 : Nat) (f t : Nat) (u : Nat) (hE : RdE n (okS 0 bo D w) w (exMk ek ex en eal ef et) (.agg #[.int .i64 (ek : Int), .string ex, .int .i64 (en : Int), .slice ep eal.length ec, .int .i64 (ef : Int), .int .i64 (et : Int)])) (hnX : ∀ v, (noF (L ++ fvX l fs env v (exMk ek ex en eal ef et))).length < 1099511627776) (hkk : k = 5) :
  Calls Tryz.prog 100 #[.agg #[.slice q l.length c, .slice fq fs.length fc, .int .i64 (bk : Int), .func (.func pw) #[] cw, .func (.func ph) #[] ch], sv, .agg #[.int .i64 (k : Int), .string x, .int .i64 (a : Int), .int .i64 (lb : Int), .bool o, .int .i64 (ek : Int), .string ex, .int .i64 (en : Int), .slice ep eal.length ec, .int .i64 (ef : Int), .int .i64 (et : Int), .slice p1 th.length c1, .slice p2 el.length c2, .int .i64 (f : Int), .int .i64 (t : Int)], .int .i64 (u : Int)] w fun e w' => ∃ v', e = .returned v' ∧ MkF bo G D (L ++ (fvX l fs env u (exMk ek ex en eal ef et) ++ (match chL l x with | some b => opF (lbX l env u (exMk ek ex en eal ef et)) b f t x | none => []))) (env) v' w w' := by
 have hb1 := (Below.refl w.heap.size w).alloc (Nat.le_refl _) (.cells #[.slice q l.length c, .slice fq fs.length fc, .int .i64 (bk : Int), .func (.func pw) #[] cw, .func (.func ph) #[] ch] 104)
 have hb2 := hb1.alloc (by simp) (.cells #[.int .i64 (k : Int), .string x, .int .i64 (a : Int), .int .i64 (lb : Int), .bool o, .int .i64 (ek : Int), .string ex, .int .i64 (en : Int), .slice ep eal.length ec, .int .i64 (ef : Int), .int .i64 (et : Int), .slice p1 th.length c1, .slice p2 el.length c2, .int .i64 (f : Int), .int .i64 (t : Int)] 111)
 have e1 : (w.alloc (.cells #[.slice q l.length c, .slice fq fs.length fc, .int .i64 (bk : Int), .func (.func pw) #[] cw, .func (.func ph) #[] ch] 104)).heap.size = w.heap.size + 1 := by simp
 have e2 : ((w.alloc (.cells #[.slice q l.length c, .slice fq fs.length fc, .int .i64 (bk : Int), .func (.func pw) #[] cw, .func (.func ph) #[] ch] 104)).alloc (.cells #[.int .i64 (k : Int), .string x, .int .i64 (a : Int), .int .i64 (lb : Int), .bool o, .int .i64 (ek : Int), .string ex, .int .i64 (en : Int), .slice ep eal.length ec, .int .i64 (ef : Int), .int .i64 (et : Int), .slice p1 th.length c1, .slice p2 el.length c2, .int .i64 (f : Int), .int .i64 (t : Int)] 111)).heap.size = w.heap.size + 2 := by simp
 obtain ⟨y0, y1, y2, y3, y4⟩ := five_at ((Below.heap_alloc (w.alloc (.cells #[.slice q l.length c, .slice fq fs.length fc, .int .i64 (bk : Int), .func (.func pw) #[] cw, .func (.func ph) #[] ch] 104)) (.cells #[.int .i64 (k : Int), .string x, .int .i64 (a : Int), .int .i64 (lb : Int), .bool o, .int .i64 (ek : Int), .string ex, .int .i64 (en : Int), .slice ep eal.length ec, .int .i64 (ef : Int), .int .i64 (et : Int), .slice p1 th.length c1, .slice p2 el.length c2, .int .i64 (f : Int), .int .i64 (t : Int)] 111) w.heap.size (by simp)).trans (heap_alloc_new w (.cells #[.slice q l.length c, .slice fq fs.length fc, .int .i64 (bk : Int), .func (.func pw) #[] cw, .func (.func ph) #[] ch] 104)))
 have hne := heap_alloc_new (w.alloc (.cells #[.slice q l.length c, .slice fq fs.length fc, .int .i64 (bk : Int), .func (.func pw) #[] cw, .func (.func ph) #[] ch] 104)) (.cells #[.int .i64 (k : Int), .string x, .int .i64 (a : Int), .int .i64 (lb : Int), .bool o, .int .i64 (ek : Int), .string ex, .int .i64 (en : Int), .slice ep eal.length ec, .int .i64 (ef : Int), .int .i64 (et : Int), .slice p1 th.length c1, .slice p2 el.length c2, .int .i64 (f : Int), .int .i64 (t : Int)] 111)
 rw [e1] at hne
 obtain ⟨q0, q1, q2, q3, q4, q5, q6, q7, q8, q9, q10, q11, q12, q13, q14, _⟩ := fif_at hne
 have hst : Stp bo D D w ((w.alloc (.cells #[.slice q l.length c, .slice fq fs.length fc, .int .i64 (bk : Int), .func (.func pw) #[] cw, .func (.func ph) #[] ch] 104)).alloc (.cells #[.int .i64 (k : Int), .string x, .int .i64 (a : Int), .int .i64 (lb : Int), .bool o, .int .i64 (ek : Int), .string ex, .int .i64 (en : Int), .slice ep eal.length ec, .int .i64 (ef : Int), .int .i64 (et : Int), .slice p1 th.length c1, .slice p2 el.length c2, .int .i64 (f : Int), .int .i64 (t : Int)] 111)) := Stp.below hb2
 have hk1 := hk.step hst
 have hg1 := hL.below hg hb2
 have hs1 := hs.step hst
 have hE1 := RdE.kept n (okS.step hst).1 (okS.step hst).2 _ _ hE
 have hfw := hid (hL.fresh (w' := ((w.alloc (.cells #[.slice q l.length c, .slice fq fs.length fc, .int .i64 (bk : Int), .func (.func pw) #[] cw, .func (.func ph) #[] ch] 104)).alloc (.cells #[.int .i64 (k : Int), .string x, .int .i64 (a : Int), .int .i64 (lb : Int), .bool o, .int .i64 (ek : Int), .string ex, .int .i64 (en : Int), .slice ep eal.length ec, .int .i64 (ef : Int), .int .i64 (et : Int), .slice p1 th.length c1, .slice p2 el.length c2, .int .i64 (f : Int), .int .i64 (t : Int)] 111))) hg (k := w.heap.size) (Nat.le_refl _) (by omega))
 have hfs := hid (hL.fresh (w' := ((w.alloc (.cells #[.slice q l.length c, .slice fq fs.length fc, .int .i64 (bk : Int), .func (.func pw) #[] cw, .func (.func ph) #[] ch] 104)).alloc (.cells #[.int .i64 (k : Int), .string x, .int .i64 (a : Int), .int .i64 (lb : Int), .bool o, .int .i64 (ek : Int), .string ex, .int .i64 (en : Int), .slice ep eal.length ec, .int .i64 (ef : Int), .int .i64 (et : Int), .slice p1 th.length c1, .slice p2 el.length c2, .int .i64 (f : Int), .int .i64 (t : Int)] 111))) hg (k := w.heap.size + 1) (by omega) (by omega))
 have HY := hid (And.intro y0 (And.intro y1 (And.intro y2 (And.intro y3 y4))))
 have HQ := hid (And.intro q0 (And.intro q1 (And.intro q2 (And.intro q3 (And.intro q4 (And.intro q5 (And.intro q6 (And.intro q7 (And.intro q8 (And.intro q9 (And.intro q10 (And.intro q11 (And.intro q12 (And.intro q13 q14))))))))))))))
 have HS0 := hid hst
 clear hb1 hb2 hs hk hg hE hne e1 e2 hst
 have g1 : ((k : Int) == 1) = false := by simp; omega
 have g2 : ((k : Int) == 2) = false := by simp; omega
 have g5 : ((k : Int) == 5) = true := by rw [hkk]; rfl
 have HC := hid (fl_send_any (bk := bk) (fc := fc) hL hk1 hg1 hs1 o k x a lb ek ex en eal ef et ep ec p1 th.length c1 p2 el.length c2 f t u hE1 (hnX u))
 generalize L ++ (fvX l fs env u (exMk ek ex en eal ef et) ++ (match chL l x with | some b => opF (lbX l env u (exMk ek ex en eal ef et)) b f t x | none => [])) = X2 at *
 clear hkk hnX hk1 hg1 hE1
 go_enter Tryz.func100, Tryz.ntmps100
 go_wp2_with (first
  | (go_at_call 131; refine Calls.mono HC.out ?_; rintro e w2 ⟨rfl, D2, hG2, hS2⟩))
 go_ret
 exact ⟨_, rfl, D2, hG2, HS0.out.trans hS2, hs1.step hS2⟩
set_option maxHeartbeats 4000000 in
set_option maxRecDepth 100000 in
theorem fl_stm_do {n : Nat} (hL : LsF bo b0 pw ph cw ch G) {D : Option Nat} {w : World} {L : List Fv} {env : Env} {sv : Value} (hk : WkF bo l fs q c fq D w) (hg : G w L D) (hs : SfAt (okS 0 bo D w) w env sv) (o : Bool) (k : Nat) (x : ByteArray) (a lb : Nat) (ek : Nat) (ex : ByteArray) (en : Nat) (eal : List Tr) (ef et : Nat) (ep : Option Addr) (ec : Nat) (p1 : Option Addr) (th : List Tr) (c1 : Nat) (p2 : Option Addr) (el : List Tr) (c2 : Nat) (f t : Nat) (u : Nat) (hE : RdE n (okS 0 bo D w) w (exMk ek ex en eal ef et) (.agg #[.int .i64 (ek : Int), .string ex, .int .i64 (en : Int), .slice ep eal.length ec, .int .i64 (ef : Int), .int .i64 (et : Int)])) (hnX : ∀ v, (noF (L ++ fvX l fs env v (exMk ek ex en eal ef et))).length < 1099511627776) (hkk : k = 7) :
  Calls Tryz.prog 100 #[.agg #[.slice q l.length c, .slice fq fs.length fc, .int .i64 (bk : Int), .func (.func pw) #[] cw, .func (.func ph) #[] ch], sv, .agg #[.int .i64 (k : Int), .string x, .int .i64 (a : Int), .int .i64 (lb : Int), .bool o, .int .i64 (ek : Int), .string ex, .int .i64 (en : Int), .slice ep eal.length ec, .int .i64 (ef : Int), .int .i64 (et : Int), .slice p1 th.length c1, .slice p2 el.length c2, .int .i64 (f : Int), .int .i64 (t : Int)], .int .i64 (u : Int)] w fun e w' => ∃ v', e = .returned v' ∧ MkF bo G D (L ++ fvX l fs env u (exMk ek ex en eal ef et)) (env) v' w w' := by
 have hb1 := (Below.refl w.heap.size w).alloc (Nat.le_refl _) (.cells #[.slice q l.length c, .slice fq fs.length fc, .int .i64 (bk : Int), .func (.func pw) #[] cw, .func (.func ph) #[] ch] 104)
 have hb2 := hb1.alloc (by simp) (.cells #[.int .i64 (k : Int), .string x, .int .i64 (a : Int), .int .i64 (lb : Int), .bool o, .int .i64 (ek : Int), .string ex, .int .i64 (en : Int), .slice ep eal.length ec, .int .i64 (ef : Int), .int .i64 (et : Int), .slice p1 th.length c1, .slice p2 el.length c2, .int .i64 (f : Int), .int .i64 (t : Int)] 111)
 have e1 : (w.alloc (.cells #[.slice q l.length c, .slice fq fs.length fc, .int .i64 (bk : Int), .func (.func pw) #[] cw, .func (.func ph) #[] ch] 104)).heap.size = w.heap.size + 1 := by simp
 have e2 : ((w.alloc (.cells #[.slice q l.length c, .slice fq fs.length fc, .int .i64 (bk : Int), .func (.func pw) #[] cw, .func (.func ph) #[] ch] 104)).alloc (.cells #[.int .i64 (k : Int), .string x, .int .i64 (a : Int), .int .i64 (lb : Int), .bool o, .int .i64 (ek : Int), .string ex, .int .i64 (en : Int), .slice ep eal.length ec, .int .i64 (ef : Int), .int .i64 (et : Int), .slice p1 th.length c1, .slice p2 el.length c2, .int .i64 (f : Int), .int .i64 (t : Int)] 111)).heap.size = w.heap.size + 2 := by simp
 obtain ⟨y0, y1, y2, y3, y4⟩ := five_at ((Below.heap_alloc (w.alloc (.cells #[.slice q l.length c, .slice fq fs.length fc, .int .i64 (bk : Int), .func (.func pw) #[] cw, .func (.func ph) #[] ch] 104)) (.cells #[.int .i64 (k : Int), .string x, .int .i64 (a : Int), .int .i64 (lb : Int), .bool o, .int .i64 (ek : Int), .string ex, .int .i64 (en : Int), .slice ep eal.length ec, .int .i64 (ef : Int), .int .i64 (et : Int), .slice p1 th.length c1, .slice p2 el.length c2, .int .i64 (f : Int), .int .i64 (t : Int)] 111) w.heap.size (by simp)).trans (heap_alloc_new w (.cells #[.slice q l.length c, .slice fq fs.length fc, .int .i64 (bk : Int), .func (.func pw) #[] cw, .func (.func ph) #[] ch] 104)))
 have hne := heap_alloc_new (w.alloc (.cells #[.slice q l.length c, .slice fq fs.length fc, .int .i64 (bk : Int), .func (.func pw) #[] cw, .func (.func ph) #[] ch] 104)) (.cells #[.int .i64 (k : Int), .string x, .int .i64 (a : Int), .int .i64 (lb : Int), .bool o, .int .i64 (ek : Int), .string ex, .int .i64 (en : Int), .slice ep eal.length ec, .int .i64 (ef : Int), .int .i64 (et : Int), .slice p1 th.length c1, .slice p2 el.length c2, .int .i64 (f : Int), .int .i64 (t : Int)] 111)
 rw [e1] at hne
 obtain ⟨q0, q1, q2, q3, q4, q5, q6, q7, q8, q9, q10, q11, q12, q13, q14, _⟩ := fif_at hne
 have hst : Stp bo D D w ((w.alloc (.cells #[.slice q l.length c, .slice fq fs.length fc, .int .i64 (bk : Int), .func (.func pw) #[] cw, .func (.func ph) #[] ch] 104)).alloc (.cells #[.int .i64 (k : Int), .string x, .int .i64 (a : Int), .int .i64 (lb : Int), .bool o, .int .i64 (ek : Int), .string ex, .int .i64 (en : Int), .slice ep eal.length ec, .int .i64 (ef : Int), .int .i64 (et : Int), .slice p1 th.length c1, .slice p2 el.length c2, .int .i64 (f : Int), .int .i64 (t : Int)] 111)) := Stp.below hb2
 have hk1 := hk.step hst
 have hg1 := hL.below hg hb2
 have hs1 := hs.step hst
 have hE1 := RdE.kept n (okS.step hst).1 (okS.step hst).2 _ _ hE
 have hfw := hid (hL.fresh (w' := ((w.alloc (.cells #[.slice q l.length c, .slice fq fs.length fc, .int .i64 (bk : Int), .func (.func pw) #[] cw, .func (.func ph) #[] ch] 104)).alloc (.cells #[.int .i64 (k : Int), .string x, .int .i64 (a : Int), .int .i64 (lb : Int), .bool o, .int .i64 (ek : Int), .string ex, .int .i64 (en : Int), .slice ep eal.length ec, .int .i64 (ef : Int), .int .i64 (et : Int), .slice p1 th.length c1, .slice p2 el.length c2, .int .i64 (f : Int), .int .i64 (t : Int)] 111))) hg (k := w.heap.size) (Nat.le_refl _) (by omega))
 have hfs := hid (hL.fresh (w' := ((w.alloc (.cells #[.slice q l.length c, .slice fq fs.length fc, .int .i64 (bk : Int), .func (.func pw) #[] cw, .func (.func ph) #[] ch] 104)).alloc (.cells #[.int .i64 (k : Int), .string x, .int .i64 (a : Int), .int .i64 (lb : Int), .bool o, .int .i64 (ek : Int), .string ex, .int .i64 (en : Int), .slice ep eal.length ec, .int .i64 (ef : Int), .int .i64 (et : Int), .slice p1 th.length c1, .slice p2 el.length c2, .int .i64 (f : Int), .int .i64 (t : Int)] 111))) hg (k := w.heap.size + 1) (by omega) (by omega))
 have HY := hid (And.intro y0 (And.intro y1 (And.intro y2 (And.intro y3 y4))))
 have HQ := hid (And.intro q0 (And.intro q1 (And.intro q2 (And.intro q3 (And.intro q4 (And.intro q5 (And.intro q6 (And.intro q7 (And.intro q8 (And.intro q9 (And.intro q10 (And.intro q11 (And.intro q12 (And.intro q13 q14))))))))))))))
 have HS0 := hid hst
 clear hb1 hb2 hs hk hg hE hne e1 e2 hst
 have g1 : ((k : Int) == 1) = false := by simp; omega
 have g2 : ((k : Int) == 2) = false := by simp; omega
 have g5 : ((k : Int) == 5) = false := by simp; omega
 have g6 : ((k : Int) == 6) = false := by simp; omega
 have g7 : ((k : Int) == 7) = true := by rw [hkk]; rfl
 have HC := hid (fl_secret_any (bk := bk) (fc := fc) hL n D ((w.alloc (.cells #[.slice q l.length c, .slice fq fs.length fc, .int .i64 (bk : Int), .func (.func pw) #[] cw, .func (.func ph) #[] ch] 104)).alloc (.cells #[.int .i64 (k : Int), .string x, .int .i64 (a : Int), .int .i64 (lb : Int), .bool o, .int .i64 (ek : Int), .string ex, .int .i64 (en : Int), .slice ep eal.length ec, .int .i64 (ef : Int), .int .i64 (et : Int), .slice p1 th.length c1, .slice p2 el.length c2, .int .i64 (f : Int), .int .i64 (t : Int)] 111)) L env sv (exMk ek ex en eal ef et) _ u hk1 hg1 hs1 hE1 (hnX u))
 clear hkk hnX hk1 hg1 hE1
 go_enter Tryz.func100, Tryz.ntmps100
 go_wp2_with (first
  | (go_at_call 130; refine Calls.mono HC.out ?_; rintro e w2 ⟨rfl, D2, hG2, hS2⟩))
 go_ret
 exact ⟨_, rfl, D2, hG2, HS0.out.trans hS2, hs1.step hS2⟩
end
end Go.Proofs.YtdkpfnohdknldaaGreatDoor
namespace Go.Proofs.YtdkpfnohdknldaaGreatDoor
open Go.RowKit
set_option linter.unusedVariables false
attribute [local go_sem ↓] Go.wp_at_zero Go.wp_at_succ
section
variable {bo b0 pw ph : Nat} {cw ch : Array Value} {G : World → List Fv → Option Nat → Prop} {l : List (Int × It)} {fs : List Nat} {q : Option Addr} {c : Nat} {fq : Option Addr} {fc bk : Nat} {T : List Tok}
set_option maxHeartbeats 4000000 in
set_option maxRecDepth 100000 in
theorem fl_stm_set {n : Nat} (hL : LsF bo b0 pw ph cw ch G) {D : Option Nat} {w : World} {L : List Fv} {env : Env} {sv : Value} (hk : WkF bo l fs q c fq D w) (hg : G w L D) (hs : SfAt (okS 0 bo D w) w env sv) (o : Bool) (k : Nat) (x : ByteArray) (a lb : Nat) (ek : Nat) (ex : ByteArray) (en : Nat) (eal : List Tr) (ef et : Nat) (ep : Option Addr) (ec : Nat) (p1 : Option Addr) (th : List Tr) (c1 : Nat) (p2 : Option Addr) (el : List Tr) (c2 : Nat) (f t : Nat) (u : Nat) (hE : RdE n (okS 0 bo D w) w (exMk ek ex en eal ef et) (.agg #[.int .i64 (ek : Int), .string ex, .int .i64 (en : Int), .slice ep eal.length ec, .int .i64 (ef : Int), .int .i64 (et : Int)])) (hnX : ∀ v, (noF (L ++ fvX l fs env v (exMk ek ex en eal ef et))).length < 1099511627776) (hkk : k = 2) :
  Calls Tryz.prog 100 #[.agg #[.slice q l.length c, .slice fq fs.length fc, .int .i64 (bk : Int), .func (.func pw) #[] cw, .func (.func ph) #[] ch], sv, .agg #[.int .i64 (k : Int), .string x, .int .i64 (a : Int), .int .i64 (lb : Int), .bool o, .int .i64 (ek : Int), .string ex, .int .i64 (en : Int), .slice ep eal.length ec, .int .i64 (ef : Int), .int .i64 (et : Int), .slice p1 th.length c1, .slice p2 el.length c2, .int .i64 (f : Int), .int .i64 (t : Int)], .int .i64 (u : Int)] w fun e w' => ∃ v', e = .returned v' ∧ MkF bo G D (L ++ (fvX l fs env u (exMk ek ex en eal ef et) ++ opF (lbX l env u (exMk ek ex en eal ef et)) (envN env x) f t x)) (env) v' w w' := by
 have hb1 := (Below.refl w.heap.size w).alloc (Nat.le_refl _) (.cells #[.slice q l.length c, .slice fq fs.length fc, .int .i64 (bk : Int), .func (.func pw) #[] cw, .func (.func ph) #[] ch] 104)
 have hb2 := hb1.alloc (by simp) (.cells #[.int .i64 (k : Int), .string x, .int .i64 (a : Int), .int .i64 (lb : Int), .bool o, .int .i64 (ek : Int), .string ex, .int .i64 (en : Int), .slice ep eal.length ec, .int .i64 (ef : Int), .int .i64 (et : Int), .slice p1 th.length c1, .slice p2 el.length c2, .int .i64 (f : Int), .int .i64 (t : Int)] 111)
 have e1 : (w.alloc (.cells #[.slice q l.length c, .slice fq fs.length fc, .int .i64 (bk : Int), .func (.func pw) #[] cw, .func (.func ph) #[] ch] 104)).heap.size = w.heap.size + 1 := by simp
 have e2 : ((w.alloc (.cells #[.slice q l.length c, .slice fq fs.length fc, .int .i64 (bk : Int), .func (.func pw) #[] cw, .func (.func ph) #[] ch] 104)).alloc (.cells #[.int .i64 (k : Int), .string x, .int .i64 (a : Int), .int .i64 (lb : Int), .bool o, .int .i64 (ek : Int), .string ex, .int .i64 (en : Int), .slice ep eal.length ec, .int .i64 (ef : Int), .int .i64 (et : Int), .slice p1 th.length c1, .slice p2 el.length c2, .int .i64 (f : Int), .int .i64 (t : Int)] 111)).heap.size = w.heap.size + 2 := by simp
 obtain ⟨y0, y1, y2, y3, y4⟩ := five_at ((Below.heap_alloc (w.alloc (.cells #[.slice q l.length c, .slice fq fs.length fc, .int .i64 (bk : Int), .func (.func pw) #[] cw, .func (.func ph) #[] ch] 104)) (.cells #[.int .i64 (k : Int), .string x, .int .i64 (a : Int), .int .i64 (lb : Int), .bool o, .int .i64 (ek : Int), .string ex, .int .i64 (en : Int), .slice ep eal.length ec, .int .i64 (ef : Int), .int .i64 (et : Int), .slice p1 th.length c1, .slice p2 el.length c2, .int .i64 (f : Int), .int .i64 (t : Int)] 111) w.heap.size (by simp)).trans (heap_alloc_new w (.cells #[.slice q l.length c, .slice fq fs.length fc, .int .i64 (bk : Int), .func (.func pw) #[] cw, .func (.func ph) #[] ch] 104)))
 have hne := heap_alloc_new (w.alloc (.cells #[.slice q l.length c, .slice fq fs.length fc, .int .i64 (bk : Int), .func (.func pw) #[] cw, .func (.func ph) #[] ch] 104)) (.cells #[.int .i64 (k : Int), .string x, .int .i64 (a : Int), .int .i64 (lb : Int), .bool o, .int .i64 (ek : Int), .string ex, .int .i64 (en : Int), .slice ep eal.length ec, .int .i64 (ef : Int), .int .i64 (et : Int), .slice p1 th.length c1, .slice p2 el.length c2, .int .i64 (f : Int), .int .i64 (t : Int)] 111)
 rw [e1] at hne
 obtain ⟨q0, q1, q2, q3, q4, q5, q6, q7, q8, q9, q10, q11, q12, q13, q14, _⟩ := fif_at hne
 have hst : Stp bo D D w ((w.alloc (.cells #[.slice q l.length c, .slice fq fs.length fc, .int .i64 (bk : Int), .func (.func pw) #[] cw, .func (.func ph) #[] ch] 104)).alloc (.cells #[.int .i64 (k : Int), .string x, .int .i64 (a : Int), .int .i64 (lb : Int), .bool o, .int .i64 (ek : Int), .string ex, .int .i64 (en : Int), .slice ep eal.length ec, .int .i64 (ef : Int), .int .i64 (et : Int), .slice p1 th.length c1, .slice p2 el.length c2, .int .i64 (f : Int), .int .i64 (t : Int)] 111)) := Stp.below hb2
 have hk1 := hk.step hst
 have hg1 := hL.below hg hb2
 have hs1 := hs.step hst
 have hE1 := RdE.kept n (okS.step hst).1 (okS.step hst).2 _ _ hE
 have hfw := hid (hL.fresh (w' := ((w.alloc (.cells #[.slice q l.length c, .slice fq fs.length fc, .int .i64 (bk : Int), .func (.func pw) #[] cw, .func (.func ph) #[] ch] 104)).alloc (.cells #[.int .i64 (k : Int), .string x, .int .i64 (a : Int), .int .i64 (lb : Int), .bool o, .int .i64 (ek : Int), .string ex, .int .i64 (en : Int), .slice ep eal.length ec, .int .i64 (ef : Int), .int .i64 (et : Int), .slice p1 th.length c1, .slice p2 el.length c2, .int .i64 (f : Int), .int .i64 (t : Int)] 111))) hg (k := w.heap.size) (Nat.le_refl _) (by omega))
 have hfs := hid (hL.fresh (w' := ((w.alloc (.cells #[.slice q l.length c, .slice fq fs.length fc, .int .i64 (bk : Int), .func (.func pw) #[] cw, .func (.func ph) #[] ch] 104)).alloc (.cells #[.int .i64 (k : Int), .string x, .int .i64 (a : Int), .int .i64 (lb : Int), .bool o, .int .i64 (ek : Int), .string ex, .int .i64 (en : Int), .slice ep eal.length ec, .int .i64 (ef : Int), .int .i64 (et : Int), .slice p1 th.length c1, .slice p2 el.length c2, .int .i64 (f : Int), .int .i64 (t : Int)] 111))) hg (k := w.heap.size + 1) (by omega) (by omega))
 have HY := hid (And.intro y0 (And.intro y1 (And.intro y2 (And.intro y3 y4))))
 have HQ := hid (And.intro q0 (And.intro q1 (And.intro q2 (And.intro q3 (And.intro q4 (And.intro q5 (And.intro q6 (And.intro q7 (And.intro q8 (And.intro q9 (And.intro q10 (And.intro q11 (And.intro q12 (And.intro q13 q14))))))))))))))
 have HS0 := hid hst
 clear hb1 hb2 hs hk hg hE hne e1 e2 hst
 have g1 : ((k : Int) == 1) = false := by simp; omega
 have g2 : ((k : Int) == 2) = true := by rw [hkk]; rfl
 have hbd := Below.drew (Below.refl ((w.alloc (.cells #[.slice q l.length c, .slice fq fs.length fc, .int .i64 (bk : Int), .func (.func pw) #[] cw, .func (.func ph) #[] ch] 104)).alloc (.cells #[.int .i64 (k : Int), .string x, .int .i64 (a : Int), .int .i64 (lb : Int), .bool o, .int .i64 (ek : Int), .string ex, .int .i64 (en : Int), .slice ep eal.length ec, .int .i64 (ef : Int), .int .i64 (et : Int), .slice p1 th.length c1, .slice p2 el.length c2, .int .i64 (f : Int), .int .i64 (t : Int)] 111)).heap.size ((w.alloc (.cells #[.slice q l.length c, .slice fq fs.length fc, .int .i64 (bk : Int), .func (.func pw) #[] cw, .func (.func ph) #[] ch] 104)).alloc (.cells #[.int .i64 (k : Int), .string x, .int .i64 (a : Int), .int .i64 (lb : Int), .bool o, .int .i64 (ek : Int), .string ex, .int .i64 (en : Int), .slice ep eal.length ec, .int .i64 (ef : Int), .int .i64 (et : Int), .slice p1 th.length c1, .slice p2 el.length c2, .int .i64 (f : Int), .int .i64 (t : Int)] 111)))
 have hsd : Stp bo D D ((w.alloc (.cells #[.slice q l.length c, .slice fq fs.length fc, .int .i64 (bk : Int), .func (.func pw) #[] cw, .func (.func ph) #[] ch] 104)).alloc (.cells #[.int .i64 (k : Int), .string x, .int .i64 (a : Int), .int .i64 (lb : Int), .bool o, .int .i64 (ek : Int), .string ex, .int .i64 (en : Int), .slice ep eal.length ec, .int .i64 (ef : Int), .int .i64 (et : Int), .slice p1 th.length c1, .slice p2 el.length c2, .int .i64 (f : Int), .int .i64 (t : Int)] 111)) ((w.alloc (.cells #[.slice q l.length c, .slice fq fs.length fc, .int .i64 (bk : Int), .func (.func pw) #[] cw, .func (.func ph) #[] ch] 104)).alloc (.cells #[.int .i64 (k : Int), .string x, .int .i64 (a : Int), .int .i64 (lb : Int), .bool o, .int .i64 (ek : Int), .string ex, .int .i64 (en : Int), .slice ep eal.length ec, .int .i64 (ef : Int), .int .i64 (et : Int), .slice p1 th.length c1, .slice p2 el.length c2, .int .i64 (f : Int), .int .i64 (t : Int)] 111)).drew := Stp.below hbd
 have HC := hid (fl_secret_any (bk := bk) (fc := fc) hL n D ((w.alloc (.cells #[.slice q l.length c, .slice fq fs.length fc, .int .i64 (bk : Int), .func (.func pw) #[] cw, .func (.func ph) #[] ch] 104)).alloc (.cells #[.int .i64 (k : Int), .string x, .int .i64 (a : Int), .int .i64 (lb : Int), .bool o, .int .i64 (ek : Int), .string ex, .int .i64 (en : Int), .slice ep eal.length ec, .int .i64 (ef : Int), .int .i64 (et : Int), .slice p1 th.length c1, .slice p2 el.length c2, .int .i64 (f : Int), .int .i64 (t : Int)] 111)).drew L env sv (exMk ek ex en eal ef et) _ u (hk1.step hsd) (hL.below hg1 hbd) (hs1.step hsd) (hE1.stp hsd) (hnX u))
 have HS1 := hid hs1
 obtain ⟨ps, cs, rfl, es, hcs⟩ := hs1.call
 have HCs := hid (fun (W : World) (D' : Option Nat) (h : Stp bo D D' ((w.alloc (.cells #[.slice q l.length c, .slice fq fs.length fc, .int .i64 (bk : Int), .func (.func pw) #[] cw, .func (.func ph) #[] ch] 104)).alloc (.cells #[.int .i64 (k : Int), .string x, .int .i64 (a : Int), .int .i64 (lb : Int), .bool o, .int .i64 (ek : Int), .string ex, .int .i64 (en : Int), .slice ep eal.length ec, .int .i64 (ef : Int), .int .i64 (et : Int), .slice p1 th.length c1, .slice p2 el.length c2, .int .i64 (f : Int), .int .i64 (t : Int)] 111)) W) => hcs W (fun k hk => (okS.step h).1 k hk) x)
 have HTf := hid (fun (W : World) (D' : Option Nat) (h1 : G W (L ++ fvX l fs env u (exMk ek ex en eal ef et)) D') => fl_tells_any hL h1 (hnX u) q l.length c fq fs.length fc bk (lbX l env u (exMk ek ex en eal ef et)) (envN env x) k x a lb o ek ex en ep eal.length ec ef et p1 th.length c1 p2 el.length c2 f t)
 rw [← List.append_assoc]
 generalize lbX l env u (exMk ek ex en eal ef et) = lbx at *
 generalize hen : envN env x = en0 at *
 generalize fvX l fs env u (exMk ek ex en eal ef et) = X at *
 clear hkk hnX hk1 hg1 hE1 hcs hbd hen
 go_enter Tryz.func100, Tryz.ntmps100
 go_wp2
 generalize ((w.alloc (.cells #[.slice q l.length c, .slice fq fs.length fc, .int .i64 (bk : Int), .func (.func pw) #[] cw, .func (.func ph) #[] ch] 104)).alloc (.cells #[.int .i64 (k : Int), .string x, .int .i64 (a : Int), .int .i64 (lb : Int), .bool o, .int .i64 (ek : Int), .string ex, .int .i64 (en : Int), .slice ep eal.length ec, .int .i64 (ef : Int), .int .i64 (et : Int), .slice p1 th.length c1, .slice p2 el.length c2, .int .i64 (f : Int), .int .i64 (t : Int)] 111)) = W at *
 go_region_held3 (fun w' => w'.cell? ⟨w.heap.size, 0, none⟩ = some (.slice q l.length c) ∧ w'.cell? ⟨w.heap.size, 1, none⟩ = some (.slice fq fs.length fc) ∧ w'.cell? ⟨w.heap.size, 2, none⟩ = some (.int .i64 (bk : Int)) ∧ w'.cell? ⟨w.heap.size, 3, none⟩ = some (.func (.func pw) #[] cw) ∧ w'.cell? ⟨w.heap.size, 4, none⟩ = some (.func (.func ph) #[] ch) ∧ w'.cell? ⟨w.heap.size + 1, 0, none⟩ = some (.int .i64 (k : Int)) ∧ w'.cell? ⟨w.heap.size + 1, 1, none⟩ = some (.string x) ∧ w'.cell? ⟨w.heap.size + 1, 2, none⟩ = some (.int .i64 (a : Int)) ∧ w'.cell? ⟨w.heap.size + 1, 3, none⟩ = some (.int .i64 (lb : Int)) ∧ w'.cell? ⟨w.heap.size + 1, 4, none⟩ = some (.bool o) ∧ w'.cell? ⟨w.heap.size + 1, 5, none⟩ = some (.int .i64 (ek : Int)) ∧ w'.cell? ⟨w.heap.size + 1, 6, none⟩ = some (.string ex) ∧ w'.cell? ⟨w.heap.size + 1, 7, none⟩ = some (.int .i64 (en : Int)) ∧ w'.cell? ⟨w.heap.size + 1, 8, none⟩ = some (.slice ep eal.length ec) ∧ w'.cell? ⟨w.heap.size + 1, 9, none⟩ = some (.int .i64 (ef : Int)) ∧ w'.cell? ⟨w.heap.size + 1, 10, none⟩ = some (.int .i64 (et : Int)) ∧ w'.cell? ⟨w.heap.size + 1, 11, none⟩ = some (.slice p1 th.length c1) ∧ w'.cell? ⟨w.heap.size + 1, 12, none⟩ = some (.slice p2 el.length c2) ∧ w'.cell? ⟨w.heap.size + 1, 13, none⟩ = some (.int .i64 (f : Int)) ∧ w'.cell? ⟨w.heap.size + 1, 14, none⟩ = some (.int .i64 (t : Int))) (first | go_keep | (with_reducible exact ⟨r0, r1, r2, r3, r4, s0, s1, s2, s3, s4, s5, s6, s7, s8, s9, s10, s11, s12, s13, s14⟩) | (with_reducible exact ⟨ra0, ra1, ra2, ra3, ra4, sa0, sa1, sa2, sa3, sa4, sa5, sa6, sa7, sa8, sa9, sa10, sa11, sa12, sa13, sa14⟩))
  (first
   | (go_at_call 130; refine Calls.mono HC.out ?_; rintro e w2 ⟨rfl, D2, hG2, hS2q⟩; have hS2 := hsd.trans hS2q; have r0 := (okS_cell hS2 hfw.out 0).trans HY.out.1; have r1 := (okS_cell hS2 hfw.out 1).trans HY.out.2.1; have r2 := (okS_cell hS2 hfw.out 2).trans HY.out.2.2.1; have r3 := (okS_cell hS2 hfw.out 3).trans HY.out.2.2.2.1; have r4 := (okS_cell hS2 hfw.out 4).trans HY.out.2.2.2.2; have s0 := (okS_cell hS2 hfs.out 0).trans HQ.out.1; have s1 := (okS_cell hS2 hfs.out 1).trans HQ.out.2.1; have s2 := (okS_cell hS2 hfs.out 2).trans HQ.out.2.2.1; have s3 := (okS_cell hS2 hfs.out 3).trans HQ.out.2.2.2.1; have s4 := (okS_cell hS2 hfs.out 4).trans HQ.out.2.2.2.2.1; have s5 := (okS_cell hS2 hfs.out 5).trans HQ.out.2.2.2.2.2.1; have s6 := (okS_cell hS2 hfs.out 6).trans HQ.out.2.2.2.2.2.2.1; have s7 := (okS_cell hS2 hfs.out 7).trans HQ.out.2.2.2.2.2.2.2.1; have s8 := (okS_cell hS2 hfs.out 8).trans HQ.out.2.2.2.2.2.2.2.2.1; have s9 := (okS_cell hS2 hfs.out 9).trans HQ.out.2.2.2.2.2.2.2.2.2.1; have s10 := (okS_cell hS2 hfs.out 10).trans HQ.out.2.2.2.2.2.2.2.2.2.2.1; have s11 := (okS_cell hS2 hfs.out 11).trans HQ.out.2.2.2.2.2.2.2.2.2.2.2.1; have s12 := (okS_cell hS2 hfs.out 12).trans HQ.out.2.2.2.2.2.2.2.2.2.2.2.2.1; have s13 := (okS_cell hS2 hfs.out 13).trans HQ.out.2.2.2.2.2.2.2.2.2.2.2.2.2.1; have s14 := (okS_cell hS2 hfs.out 14).trans HQ.out.2.2.2.2.2.2.2.2.2.2.2.2.2.2; have HCl := hid (HCs.out w2 D2 hS2); have HT := hid (HTf.out w2 D2 hG2))
   | ((with_reducible refine Calls.mono HCl.out ?_); rintro e w3 ⟨rfl, hw3⟩; subst w3)
   | (go_at_call 129; refine Calls.mono HT.out ?_; rintro e w4 ⟨rfl, D4, hG4, hS4⟩; have hS5 := hS2.trans hS4; have ra0 := (okS_cell hS5 hfw.out 0).trans HY.out.1; have ra1 := (okS_cell hS5 hfw.out 1).trans HY.out.2.1; have ra2 := (okS_cell hS5 hfw.out 2).trans HY.out.2.2.1; have ra3 := (okS_cell hS5 hfw.out 3).trans HY.out.2.2.2.1; have ra4 := (okS_cell hS5 hfw.out 4).trans HY.out.2.2.2.2; have sa0 := (okS_cell hS5 hfs.out 0).trans HQ.out.1; have sa1 := (okS_cell hS5 hfs.out 1).trans HQ.out.2.1; have sa2 := (okS_cell hS5 hfs.out 2).trans HQ.out.2.2.1; have sa3 := (okS_cell hS5 hfs.out 3).trans HQ.out.2.2.2.1; have sa4 := (okS_cell hS5 hfs.out 4).trans HQ.out.2.2.2.2.1; have sa5 := (okS_cell hS5 hfs.out 5).trans HQ.out.2.2.2.2.2.1; have sa6 := (okS_cell hS5 hfs.out 6).trans HQ.out.2.2.2.2.2.2.1; have sa7 := (okS_cell hS5 hfs.out 7).trans HQ.out.2.2.2.2.2.2.2.1; have sa8 := (okS_cell hS5 hfs.out 8).trans HQ.out.2.2.2.2.2.2.2.2.1; have sa9 := (okS_cell hS5 hfs.out 9).trans HQ.out.2.2.2.2.2.2.2.2.2.1; have sa10 := (okS_cell hS5 hfs.out 10).trans HQ.out.2.2.2.2.2.2.2.2.2.2.1; have sa11 := (okS_cell hS5 hfs.out 11).trans HQ.out.2.2.2.2.2.2.2.2.2.2.2.1; have sa12 := (okS_cell hS5 hfs.out 12).trans HQ.out.2.2.2.2.2.2.2.2.2.2.2.2.1; have sa13 := (okS_cell hS5 hfs.out 13).trans HQ.out.2.2.2.2.2.2.2.2.2.2.2.2.2.1; have sa14 := (okS_cell hS5 hfs.out 14).trans HQ.out.2.2.2.2.2.2.2.2.2.2.2.2.2.2))
 clear r0 r1 r2 r3 r4 s0 s1 s2 s3 s4 s5 s6 s7 s8 s9 s10 s11 s12 s13 s14 ra0 ra1 ra2 ra3 ra4 sa0 sa1 sa2 sa3 sa4 sa5 sa6 sa7 sa8 sa9 sa10 sa11 sa12 sa13 sa14
 go_wp2
 go_ret
 exact ⟨_, rfl, D4, hG4, HS0.out.trans hS5, HS1.out.step hS5⟩
end
end Go.Proofs.YtdkpfnohdknldaaGreatDoor
namespace Go.Proofs.YtdkpfnohdknldaaGreatDoor
open Go.RowKit
set_option linter.unusedVariables false
attribute [local go_sem ↓] Go.wp_at_zero Go.wp_at_succ
section
variable {bo b0 pw ph : Nat} {cw ch : Array Value} {G : World → List Fv → Option Nat → Prop} {l : List (Int × It)} {fs : List Nat} {q : Option Addr} {c : Nat} {fq : Option Addr} {fc bk : Nat}
set_option maxHeartbeats 4000000 in
set_option maxRecDepth 100000 in
theorem fl_stm_if {n : Nat} (hL : LsF bo b0 pw ph cw ch G) {D : Option Nat} {w : World} {L : List Fv} {env : Env} {sv : Value} (hk : WkF bo l fs q c fq D w) (hg : G w L D) (hs : SfAt (okS 0 bo D w) w env sv) (o : Bool) (k : Nat) (x : ByteArray) (a lb : Nat) (ek : Nat) (ex : ByteArray) (en : Nat) (eal : List Tr) (ef et : Nat) (ep : Option Addr) (ec : Nat) (p1 : Option Addr) (th : List Tr) (c1 : Nat) (p2 : Option Addr) (el : List Tr) (c2 : Nat) (f t : Nat) (u : Nat) (hE : RdE n (okS 0 bo D w) w (exMk ek ex en eal ef et) (.agg #[.int .i64 (ek : Int), .string ex, .int .i64 (en : Int), .slice ep eal.length ec, .int .i64 (ef : Int), .int .i64 (et : Int)])) (hnX : ∀ v, (noF (L ++ fvX l fs env v (exMk ek ex en eal ef et))).length < 1099511627776) {n2 : Nat} {T : List Tok} (hB : CSb bo pw ph cw ch G l fs q c fq fc bk T n2) (m ct cl : Nat) (hT : SlT (okS 0 bo D w) (RdS n2 (okS 0 bo D w) w) w 15 th p1) (hX : SlT (okS 0 bo D w) (RdS n2 (okS 0 bo D w) w) w 15 el p2) (hth : wfL (cwS T m) ct th) (hel : wfL (cwS T m) cl el) (hnT : (noF (L ++ fvX l fs env u (exMk ek ex en eal ef et))).length + 7 * ct < 1099511627776) (hnE : (noF (L ++ fvX l fs env u (exMk ek ex en eal ef et) ++ fvB l fs bk (lbX l env u (exMk ek ex en eal ef et)) env th)).length + 7 * cl < 1099511627776) (hkk : k = 3) :
  Calls Tryz.prog 100 #[.agg #[.slice q l.length c, .slice fq fs.length fc, .int .i64 (bk : Int), .func (.func pw) #[] cw, .func (.func ph) #[] ch], sv, .agg #[.int .i64 (k : Int), .string x, .int .i64 (a : Int), .int .i64 (lb : Int), .bool o, .int .i64 (ek : Int), .string ex, .int .i64 (en : Int), .slice ep eal.length ec, .int .i64 (ef : Int), .int .i64 (et : Int), .slice p1 th.length c1, .slice p2 el.length c2, .int .i64 (f : Int), .int .i64 (t : Int)], .int .i64 (u : Int)] w fun e w' => ∃ v', e = .returned v' ∧ MkF bo G D (L ++ (fvX l fs env u (exMk ek ex en eal ef et) ++ fvB l fs bk (lbX l env u (exMk ek ex en eal ef et)) env th ++ fvB l fs bk (lbX l env u (exMk ek ex en eal ef et)) env el)) (env) v' w w' := by
 have hb1 := (Below.refl w.heap.size w).alloc (Nat.le_refl _) (.cells #[.slice q l.length c, .slice fq fs.length fc, .int .i64 (bk : Int), .func (.func pw) #[] cw, .func (.func ph) #[] ch] 104)
 have hb2 := hb1.alloc (by simp) (.cells #[.int .i64 (k : Int), .string x, .int .i64 (a : Int), .int .i64 (lb : Int), .bool o, .int .i64 (ek : Int), .string ex, .int .i64 (en : Int), .slice ep eal.length ec, .int .i64 (ef : Int), .int .i64 (et : Int), .slice p1 th.length c1, .slice p2 el.length c2, .int .i64 (f : Int), .int .i64 (t : Int)] 111)
 have e1 : (w.alloc (.cells #[.slice q l.length c, .slice fq fs.length fc, .int .i64 (bk : Int), .func (.func pw) #[] cw, .func (.func ph) #[] ch] 104)).heap.size = w.heap.size + 1 := by simp
 have e2 : ((w.alloc (.cells #[.slice q l.length c, .slice fq fs.length fc, .int .i64 (bk : Int), .func (.func pw) #[] cw, .func (.func ph) #[] ch] 104)).alloc (.cells #[.int .i64 (k : Int), .string x, .int .i64 (a : Int), .int .i64 (lb : Int), .bool o, .int .i64 (ek : Int), .string ex, .int .i64 (en : Int), .slice ep eal.length ec, .int .i64 (ef : Int), .int .i64 (et : Int), .slice p1 th.length c1, .slice p2 el.length c2, .int .i64 (f : Int), .int .i64 (t : Int)] 111)).heap.size = w.heap.size + 2 := by simp
 obtain ⟨y0, y1, y2, y3, y4⟩ := five_at ((Below.heap_alloc (w.alloc (.cells #[.slice q l.length c, .slice fq fs.length fc, .int .i64 (bk : Int), .func (.func pw) #[] cw, .func (.func ph) #[] ch] 104)) (.cells #[.int .i64 (k : Int), .string x, .int .i64 (a : Int), .int .i64 (lb : Int), .bool o, .int .i64 (ek : Int), .string ex, .int .i64 (en : Int), .slice ep eal.length ec, .int .i64 (ef : Int), .int .i64 (et : Int), .slice p1 th.length c1, .slice p2 el.length c2, .int .i64 (f : Int), .int .i64 (t : Int)] 111) w.heap.size (by simp)).trans (heap_alloc_new w (.cells #[.slice q l.length c, .slice fq fs.length fc, .int .i64 (bk : Int), .func (.func pw) #[] cw, .func (.func ph) #[] ch] 104)))
 have hne := heap_alloc_new (w.alloc (.cells #[.slice q l.length c, .slice fq fs.length fc, .int .i64 (bk : Int), .func (.func pw) #[] cw, .func (.func ph) #[] ch] 104)) (.cells #[.int .i64 (k : Int), .string x, .int .i64 (a : Int), .int .i64 (lb : Int), .bool o, .int .i64 (ek : Int), .string ex, .int .i64 (en : Int), .slice ep eal.length ec, .int .i64 (ef : Int), .int .i64 (et : Int), .slice p1 th.length c1, .slice p2 el.length c2, .int .i64 (f : Int), .int .i64 (t : Int)] 111)
 rw [e1] at hne
 obtain ⟨q0, q1, q2, q3, q4, q5, q6, q7, q8, q9, q10, q11, q12, q13, q14, _⟩ := fif_at hne
 have hst : Stp bo D D w ((w.alloc (.cells #[.slice q l.length c, .slice fq fs.length fc, .int .i64 (bk : Int), .func (.func pw) #[] cw, .func (.func ph) #[] ch] 104)).alloc (.cells #[.int .i64 (k : Int), .string x, .int .i64 (a : Int), .int .i64 (lb : Int), .bool o, .int .i64 (ek : Int), .string ex, .int .i64 (en : Int), .slice ep eal.length ec, .int .i64 (ef : Int), .int .i64 (et : Int), .slice p1 th.length c1, .slice p2 el.length c2, .int .i64 (f : Int), .int .i64 (t : Int)] 111)) := Stp.below hb2
 have hk1 := hk.step hst
 have hg1 := hL.below hg hb2
 have hs1 := hs.step hst
 have hE1 := RdE.kept n (okS.step hst).1 (okS.step hst).2 _ _ hE
 have hfw := hid (hL.fresh (w' := ((w.alloc (.cells #[.slice q l.length c, .slice fq fs.length fc, .int .i64 (bk : Int), .func (.func pw) #[] cw, .func (.func ph) #[] ch] 104)).alloc (.cells #[.int .i64 (k : Int), .string x, .int .i64 (a : Int), .int .i64 (lb : Int), .bool o, .int .i64 (ek : Int), .string ex, .int .i64 (en : Int), .slice ep eal.length ec, .int .i64 (ef : Int), .int .i64 (et : Int), .slice p1 th.length c1, .slice p2 el.length c2, .int .i64 (f : Int), .int .i64 (t : Int)] 111))) hg (k := w.heap.size) (Nat.le_refl _) (by omega))
 have hfs := hid (hL.fresh (w' := ((w.alloc (.cells #[.slice q l.length c, .slice fq fs.length fc, .int .i64 (bk : Int), .func (.func pw) #[] cw, .func (.func ph) #[] ch] 104)).alloc (.cells #[.int .i64 (k : Int), .string x, .int .i64 (a : Int), .int .i64 (lb : Int), .bool o, .int .i64 (ek : Int), .string ex, .int .i64 (en : Int), .slice ep eal.length ec, .int .i64 (ef : Int), .int .i64 (et : Int), .slice p1 th.length c1, .slice p2 el.length c2, .int .i64 (f : Int), .int .i64 (t : Int)] 111))) hg (k := w.heap.size + 1) (by omega) (by omega))
 have HY := hid (And.intro y0 (And.intro y1 (And.intro y2 (And.intro y3 y4))))
 have HQ := hid (And.intro q0 (And.intro q1 (And.intro q2 (And.intro q3 (And.intro q4 (And.intro q5 (And.intro q6 (And.intro q7 (And.intro q8 (And.intro q9 (And.intro q10 (And.intro q11 (And.intro q12 (And.intro q13 q14))))))))))))))
 have HS0 := hid hst
 clear hb1 hb2 hs hk hg hE hne e1 e2 hst
 have g1 : ((k : Int) == 1) = false := by simp; omega
 have g2 : ((k : Int) == 2) = false := by simp; omega
 have g5 : ((k : Int) == 5) = false := by simp; omega
 have g6 : ((k : Int) == 6) = false := by simp; omega
 have g7 : ((k : Int) == 7) = false := by simp; omega
 have g3 : ((k : Int) == 3) = true := by rw [hkk]; rfl
 have hT1 := hT.kept (okS.step HS0.out).1 (okS.step HS0.out).2 (RdS.kept n2 (okS.step HS0.out).1 (okS.step HS0.out).2)
 have hX1 := hX.kept (okS.step HS0.out).1 (okS.step HS0.out).2 (RdS.kept n2 (okS.step HS0.out).1 (okS.step HS0.out).2)
 have HC := hid (fl_secret_any (bk := bk) (fc := fc) hL n D ((w.alloc (.cells #[.slice q l.length c, .slice fq fs.length fc, .int .i64 (bk : Int), .func (.func pw) #[] cw, .func (.func ph) #[] ch] 104)).alloc (.cells #[.int .i64 (k : Int), .string x, .int .i64 (a : Int), .int .i64 (lb : Int), .bool o, .int .i64 (ek : Int), .string ex, .int .i64 (en : Int), .slice ep eal.length ec, .int .i64 (ef : Int), .int .i64 (et : Int), .slice p1 th.length c1, .slice p2 el.length c2, .int .i64 (f : Int), .int .i64 (t : Int)] 111)) L env sv (exMk ek ex en eal ef et) _ u hk1 hg1 hs1 hE1 (hnX u))
 have HS1 := hid hs1
 rw [← List.append_assoc, ← List.append_assoc]
 generalize hlx : lbX l env u (exMk ek ex en eal ef et) = lbx at *
 generalize hX0 : fvX l fs env u (exMk ek ex en eal ef et) = X at *
 have HBf := hid (fun (W : World) (D' : Option Nat) (h : Stp bo D D' ((w.alloc (.cells #[.slice q l.length c, .slice fq fs.length fc, .int .i64 (bk : Int), .func (.func pw) #[] cw, .func (.func ph) #[] ch] 104)).alloc (.cells #[.int .i64 (k : Int), .string x, .int .i64 (a : Int), .int .i64 (lb : Int), .bool o, .int .i64 (ek : Int), .string ex, .int .i64 (en : Int), .slice ep eal.length ec, .int .i64 (ef : Int), .int .i64 (et : Int), .slice p1 th.length c1, .slice p2 el.length c2, .int .i64 (f : Int), .int .i64 (t : Int)] 111)) W) (h1 : G W (L ++ X) D') => hB D' W (L ++ X) env sv th p1 c1 lbx m ct (hk1.step h) h1 (hs1.step h) (hT1.kept (okS.step h).1 (okS.step h).2 (RdS.kept n2 (okS.step h).1 (okS.step h).2)) hth hnT)
 have HBg := hid (fun (W : World) (D' : Option Nat) (h : Stp bo D D' ((w.alloc (.cells #[.slice q l.length c, .slice fq fs.length fc, .int .i64 (bk : Int), .func (.func pw) #[] cw, .func (.func ph) #[] ch] 104)).alloc (.cells #[.int .i64 (k : Int), .string x, .int .i64 (a : Int), .int .i64 (lb : Int), .bool o, .int .i64 (ek : Int), .string ex, .int .i64 (en : Int), .slice ep eal.length ec, .int .i64 (ef : Int), .int .i64 (et : Int), .slice p1 th.length c1, .slice p2 el.length c2, .int .i64 (f : Int), .int .i64 (t : Int)] 111)) W) (h1 : G W (L ++ X ++ fvB l fs bk lbx env th) D') => hB D' W (L ++ X ++ fvB l fs bk lbx env th) env sv el p2 c2 lbx m cl (hk1.step h) h1 (hs1.step h) (hX1.kept (okS.step h).1 (okS.step h).2 (RdS.kept n2 (okS.step h).1 (okS.step h).2)) hel hnE)
 have F1 : Hid (1 = 1) := rfl
 clear hkk hnX hk1 hg1 hE1 hT hX hT1 hX1 hth hel hnT hnE hlx hX0
 go_enter Tryz.func100, Tryz.ntmps100
 go_wp2_with (first
  | (go_at_call 130; refine Calls.mono HC.out ?_; rintro e w2 ⟨rfl, D2, hG2, hS2⟩; have r0 := (okS_cell hS2 hfw.out 0).trans HY.out.1; have r1 := (okS_cell hS2 hfw.out 1).trans HY.out.2.1; have r2 := (okS_cell hS2 hfw.out 2).trans HY.out.2.2.1; have r3 := (okS_cell hS2 hfw.out 3).trans HY.out.2.2.2.1; have r4 := (okS_cell hS2 hfw.out 4).trans HY.out.2.2.2.2; have s0 := (okS_cell hS2 hfs.out 0).trans HQ.out.1; have s1 := (okS_cell hS2 hfs.out 1).trans HQ.out.2.1; have s2 := (okS_cell hS2 hfs.out 2).trans HQ.out.2.2.1; have s3 := (okS_cell hS2 hfs.out 3).trans HQ.out.2.2.2.1; have s4 := (okS_cell hS2 hfs.out 4).trans HQ.out.2.2.2.2.1; have s5 := (okS_cell hS2 hfs.out 5).trans HQ.out.2.2.2.2.2.1; have s6 := (okS_cell hS2 hfs.out 6).trans HQ.out.2.2.2.2.2.2.1; have s7 := (okS_cell hS2 hfs.out 7).trans HQ.out.2.2.2.2.2.2.2.1; have s8 := (okS_cell hS2 hfs.out 8).trans HQ.out.2.2.2.2.2.2.2.2.1; have s9 := (okS_cell hS2 hfs.out 9).trans HQ.out.2.2.2.2.2.2.2.2.2.1; have s10 := (okS_cell hS2 hfs.out 10).trans HQ.out.2.2.2.2.2.2.2.2.2.2.1; have s11 := (okS_cell hS2 hfs.out 11).trans HQ.out.2.2.2.2.2.2.2.2.2.2.2.1; have s12 := (okS_cell hS2 hfs.out 12).trans HQ.out.2.2.2.2.2.2.2.2.2.2.2.2.1; have s13 := (okS_cell hS2 hfs.out 13).trans HQ.out.2.2.2.2.2.2.2.2.2.2.2.2.2.1; have s14 := (okS_cell hS2 hfs.out 14).trans HQ.out.2.2.2.2.2.2.2.2.2.2.2.2.2.2; have HB1 := hid (HBf.out w2 D2 hS2 hG2))
  | (go_at_call 81; have ff := F1; clear ff F1; refine Calls.mono HB1.out ?_; rintro e w3 ⟨rfl, D3, hG3, hS3⟩; have hS5 := hS2.trans hS3; have ra0 := (okS_cell hS5 hfw.out 0).trans HY.out.1; have ra1 := (okS_cell hS5 hfw.out 1).trans HY.out.2.1; have ra2 := (okS_cell hS5 hfw.out 2).trans HY.out.2.2.1; have ra3 := (okS_cell hS5 hfw.out 3).trans HY.out.2.2.2.1; have ra4 := (okS_cell hS5 hfw.out 4).trans HY.out.2.2.2.2; have sa0 := (okS_cell hS5 hfs.out 0).trans HQ.out.1; have sa1 := (okS_cell hS5 hfs.out 1).trans HQ.out.2.1; have sa2 := (okS_cell hS5 hfs.out 2).trans HQ.out.2.2.1; have sa3 := (okS_cell hS5 hfs.out 3).trans HQ.out.2.2.2.1; have sa4 := (okS_cell hS5 hfs.out 4).trans HQ.out.2.2.2.2.1; have sa5 := (okS_cell hS5 hfs.out 5).trans HQ.out.2.2.2.2.2.1; have sa6 := (okS_cell hS5 hfs.out 6).trans HQ.out.2.2.2.2.2.2.1; have sa7 := (okS_cell hS5 hfs.out 7).trans HQ.out.2.2.2.2.2.2.2.1; have sa8 := (okS_cell hS5 hfs.out 8).trans HQ.out.2.2.2.2.2.2.2.2.1; have sa9 := (okS_cell hS5 hfs.out 9).trans HQ.out.2.2.2.2.2.2.2.2.2.1; have sa10 := (okS_cell hS5 hfs.out 10).trans HQ.out.2.2.2.2.2.2.2.2.2.2.1; have sa11 := (okS_cell hS5 hfs.out 11).trans HQ.out.2.2.2.2.2.2.2.2.2.2.2.1; have sa12 := (okS_cell hS5 hfs.out 12).trans HQ.out.2.2.2.2.2.2.2.2.2.2.2.2.1; have sa13 := (okS_cell hS5 hfs.out 13).trans HQ.out.2.2.2.2.2.2.2.2.2.2.2.2.2.1; have sa14 := (okS_cell hS5 hfs.out 14).trans HQ.out.2.2.2.2.2.2.2.2.2.2.2.2.2.2; have HB2 := hid (HBg.out w3 D3 hS5 hG3))
  | (go_at_call 81; refine Calls.mono HB2.out ?_; rintro e w4 ⟨rfl, D4, hG4, hS4⟩; have hS6 := hS5.trans hS4))
 go_ret
 exact ⟨_, rfl, D4, hG4, HS0.out.trans hS6, HS1.out.step hS6⟩
end
end Go.Proofs.YtdkpfnohdknldaaGreatDoor
namespace Go.Proofs.YtdkpfnohdknldaaGreatDoor
open Go.RowKit
set_option linter.unusedVariables false
attribute [local go_sem ↓] Go.wp_at_zero Go.wp_at_succ
section
variable {bo b0 pw ph : Nat} {cw ch : Array Value} {G : World → List Fv → Option Nat → Prop} {l : List (Int × It)} {fs : List Nat} {q : Option Addr} {c : Nat} {fq : Option Addr} {fc bk : Nat}
set_option maxHeartbeats 4000000 in
set_option maxRecDepth 100000 in
theorem fl_stm_while {n : Nat} (hL : LsF bo b0 pw ph cw ch G) {D : Option Nat} {w : World} {L : List Fv} {env : Env} {sv : Value} (hk : WkF bo l fs q c fq D w) (hg : G w L D) (hs : SfAt (okS 0 bo D w) w env sv) (o : Bool) (k : Nat) (x : ByteArray) (a lb : Nat) (ek : Nat) (ex : ByteArray) (en : Nat) (eal : List Tr) (ef et : Nat) (ep : Option Addr) (ec : Nat) (p1 : Option Addr) (th : List Tr) (c1 : Nat) (p2 : Option Addr) (el : List Tr) (c2 : Nat) (f t : Nat) (u : Nat) (hE : RdE n (okS 0 bo D w) w (exMk ek ex en eal ef et) (.agg #[.int .i64 (ek : Int), .string ex, .int .i64 (en : Int), .slice ep eal.length ec, .int .i64 (ef : Int), .int .i64 (et : Int)])) (hnX : ∀ v, (noF (L ++ fvX l fs env v (exMk ek ex en eal ef et))).length < 1099511627776) {n2 : Nat} {T : List Tok} (hB : CSb bo pw ph cw ch G l fs q c fq fc bk T n2) (m ct : Nat) (hT : SlT (okS 0 bo D w) (RdS n2 (okS 0 bo D w) w) w 15 th p1) (hth : wfL (cwS T m) ct th) (hnT : ∀ v, (noF (L ++ fvX l fs env v (exMk ek ex en eal ef et))).length + 7 * ct < 1099511627776) (hkk : k = 4) :
  Calls Tryz.prog 100 #[.agg #[.slice q l.length c, .slice fq fs.length fc, .int .i64 (bk : Int), .func (.func pw) #[] cw, .func (.func ph) #[] ch], sv, .agg #[.int .i64 (k : Int), .string x, .int .i64 (a : Int), .int .i64 (lb : Int), .bool o, .int .i64 (ek : Int), .string ex, .int .i64 (en : Int), .slice ep eal.length ec, .int .i64 (ef : Int), .int .i64 (et : Int), .slice p1 th.length c1, .slice p2 el.length c2, .int .i64 (f : Int), .int .i64 (t : Int)], .int .i64 (u : Int)] w fun e w' => ∃ v', e = .returned v' ∧ MkF bo G D (L ++ (fvX l fs env (lbX l env u (exMk ek ex en eal ef et)) (exMk ek ex en eal ef et) ++ fvB l fs bk (lbX l env u (exMk ek ex en eal ef et)) env th)) (env) v' w w' := by
 have hb1 := (Below.refl w.heap.size w).alloc (Nat.le_refl _) (.cells #[.slice q l.length c, .slice fq fs.length fc, .int .i64 (bk : Int), .func (.func pw) #[] cw, .func (.func ph) #[] ch] 104)
 have hb2 := hb1.alloc (by simp) (.cells #[.int .i64 (k : Int), .string x, .int .i64 (a : Int), .int .i64 (lb : Int), .bool o, .int .i64 (ek : Int), .string ex, .int .i64 (en : Int), .slice ep eal.length ec, .int .i64 (ef : Int), .int .i64 (et : Int), .slice p1 th.length c1, .slice p2 el.length c2, .int .i64 (f : Int), .int .i64 (t : Int)] 111)
 have e1 : (w.alloc (.cells #[.slice q l.length c, .slice fq fs.length fc, .int .i64 (bk : Int), .func (.func pw) #[] cw, .func (.func ph) #[] ch] 104)).heap.size = w.heap.size + 1 := by simp
 have e2 : ((w.alloc (.cells #[.slice q l.length c, .slice fq fs.length fc, .int .i64 (bk : Int), .func (.func pw) #[] cw, .func (.func ph) #[] ch] 104)).alloc (.cells #[.int .i64 (k : Int), .string x, .int .i64 (a : Int), .int .i64 (lb : Int), .bool o, .int .i64 (ek : Int), .string ex, .int .i64 (en : Int), .slice ep eal.length ec, .int .i64 (ef : Int), .int .i64 (et : Int), .slice p1 th.length c1, .slice p2 el.length c2, .int .i64 (f : Int), .int .i64 (t : Int)] 111)).heap.size = w.heap.size + 2 := by simp
 obtain ⟨y0, y1, y2, y3, y4⟩ := five_at ((Below.heap_alloc (w.alloc (.cells #[.slice q l.length c, .slice fq fs.length fc, .int .i64 (bk : Int), .func (.func pw) #[] cw, .func (.func ph) #[] ch] 104)) (.cells #[.int .i64 (k : Int), .string x, .int .i64 (a : Int), .int .i64 (lb : Int), .bool o, .int .i64 (ek : Int), .string ex, .int .i64 (en : Int), .slice ep eal.length ec, .int .i64 (ef : Int), .int .i64 (et : Int), .slice p1 th.length c1, .slice p2 el.length c2, .int .i64 (f : Int), .int .i64 (t : Int)] 111) w.heap.size (by simp)).trans (heap_alloc_new w (.cells #[.slice q l.length c, .slice fq fs.length fc, .int .i64 (bk : Int), .func (.func pw) #[] cw, .func (.func ph) #[] ch] 104)))
 have hne := heap_alloc_new (w.alloc (.cells #[.slice q l.length c, .slice fq fs.length fc, .int .i64 (bk : Int), .func (.func pw) #[] cw, .func (.func ph) #[] ch] 104)) (.cells #[.int .i64 (k : Int), .string x, .int .i64 (a : Int), .int .i64 (lb : Int), .bool o, .int .i64 (ek : Int), .string ex, .int .i64 (en : Int), .slice ep eal.length ec, .int .i64 (ef : Int), .int .i64 (et : Int), .slice p1 th.length c1, .slice p2 el.length c2, .int .i64 (f : Int), .int .i64 (t : Int)] 111)
 rw [e1] at hne
 obtain ⟨q0, q1, q2, q3, q4, q5, q6, q7, q8, q9, q10, q11, q12, q13, q14, _⟩ := fif_at hne
 have hst : Stp bo D D w ((w.alloc (.cells #[.slice q l.length c, .slice fq fs.length fc, .int .i64 (bk : Int), .func (.func pw) #[] cw, .func (.func ph) #[] ch] 104)).alloc (.cells #[.int .i64 (k : Int), .string x, .int .i64 (a : Int), .int .i64 (lb : Int), .bool o, .int .i64 (ek : Int), .string ex, .int .i64 (en : Int), .slice ep eal.length ec, .int .i64 (ef : Int), .int .i64 (et : Int), .slice p1 th.length c1, .slice p2 el.length c2, .int .i64 (f : Int), .int .i64 (t : Int)] 111)) := Stp.below hb2
 have hk1 := hk.step hst
 have hg1 := hL.below hg hb2
 have hs1 := hs.step hst
 have hE1 := RdE.kept n (okS.step hst).1 (okS.step hst).2 _ _ hE
 have hfw := hid (hL.fresh (w' := ((w.alloc (.cells #[.slice q l.length c, .slice fq fs.length fc, .int .i64 (bk : Int), .func (.func pw) #[] cw, .func (.func ph) #[] ch] 104)).alloc (.cells #[.int .i64 (k : Int), .string x, .int .i64 (a : Int), .int .i64 (lb : Int), .bool o, .int .i64 (ek : Int), .string ex, .int .i64 (en : Int), .slice ep eal.length ec, .int .i64 (ef : Int), .int .i64 (et : Int), .slice p1 th.length c1, .slice p2 el.length c2, .int .i64 (f : Int), .int .i64 (t : Int)] 111))) hg (k := w.heap.size) (Nat.le_refl _) (by omega))
 have hfs := hid (hL.fresh (w' := ((w.alloc (.cells #[.slice q l.length c, .slice fq fs.length fc, .int .i64 (bk : Int), .func (.func pw) #[] cw, .func (.func ph) #[] ch] 104)).alloc (.cells #[.int .i64 (k : Int), .string x, .int .i64 (a : Int), .int .i64 (lb : Int), .bool o, .int .i64 (ek : Int), .string ex, .int .i64 (en : Int), .slice ep eal.length ec, .int .i64 (ef : Int), .int .i64 (et : Int), .slice p1 th.length c1, .slice p2 el.length c2, .int .i64 (f : Int), .int .i64 (t : Int)] 111))) hg (k := w.heap.size + 1) (by omega) (by omega))
 have HY := hid (And.intro y0 (And.intro y1 (And.intro y2 (And.intro y3 y4))))
 have HQ := hid (And.intro q0 (And.intro q1 (And.intro q2 (And.intro q3 (And.intro q4 (And.intro q5 (And.intro q6 (And.intro q7 (And.intro q8 (And.intro q9 (And.intro q10 (And.intro q11 (And.intro q12 (And.intro q13 q14))))))))))))))
 have HS0 := hid hst
 clear hb1 hb2 hs hk hg hE hne e1 e2 hst
 have g1 : ((k : Int) == 1) = false := by simp; omega
 have g2 : ((k : Int) == 2) = false := by simp; omega
 have g5 : ((k : Int) == 5) = false := by simp; omega
 have g6 : ((k : Int) == 6) = false := by simp; omega
 have g7 : ((k : Int) == 7) = false := by simp; omega
 have g3 : ((k : Int) == 3) = false := by simp; omega
 have g4 : ((k : Int) == 4) = true := by rw [hkk]; rfl
 have hT1 := hT.kept (okS.step HS0.out).1 (okS.step HS0.out).2 (RdS.kept n2 (okS.step HS0.out).1 (okS.step HS0.out).2)
 have HW := hid (fl_while_any hL hB hk1 hg1 hs1 o k x a lb ek ex en eal ef et ep ec p1 th c1 p2 el c2 f t u m ct hE1 hT1 hnT hth)
 clear hkk hnX hk1 hg1 hE1 hT hT1 hth hnT
 go_enter Tryz.func100, Tryz.ntmps100
 go_wp2_with (first
  | (go_at_call 132; refine Calls.mono HW.out ?_; rintro e w2 ⟨rfl, D2, hG2, hS2⟩))
 go_ret
 exact ⟨_, rfl, D2, hG2, HS0.out.trans hS2, hs1.step hS2⟩
set_option maxHeartbeats 4000000 in
set_option maxRecDepth 100000 in
theorem fl_stm_none {n : Nat} (hL : LsF bo b0 pw ph cw ch G) {D : Option Nat} {w : World} {L : List Fv} {env : Env} {sv : Value} (hk : WkF bo l fs q c fq D w) (hg : G w L D) (hs : SfAt (okS 0 bo D w) w env sv) (o : Bool) (k : Nat) (x : ByteArray) (a lb : Nat) (ek : Nat) (ex : ByteArray) (en : Nat) (eal : List Tr) (ef et : Nat) (ep : Option Addr) (ec : Nat) (p1 : Option Addr) (th : List Tr) (c1 : Nat) (p2 : Option Addr) (el : List Tr) (c2 : Nat) (f t : Nat) (u : Nat) (hE : RdE n (okS 0 bo D w) w (exMk ek ex en eal ef et) (.agg #[.int .i64 (ek : Int), .string ex, .int .i64 (en : Int), .slice ep eal.length ec, .int .i64 (ef : Int), .int .i64 (et : Int)])) (hnX : ∀ v, (noF (L ++ fvX l fs env v (exMk ek ex en eal ef et))).length < 1099511627776) (hkk : ¬ k = 1 ∧ ¬ k = 2 ∧ ¬ k = 5 ∧ ¬ k = 6 ∧ ¬ k = 7 ∧ ¬ k = 3 ∧ ¬ k = 4) :
  Calls Tryz.prog 100 #[.agg #[.slice q l.length c, .slice fq fs.length fc, .int .i64 (bk : Int), .func (.func pw) #[] cw, .func (.func ph) #[] ch], sv, .agg #[.int .i64 (k : Int), .string x, .int .i64 (a : Int), .int .i64 (lb : Int), .bool o, .int .i64 (ek : Int), .string ex, .int .i64 (en : Int), .slice ep eal.length ec, .int .i64 (ef : Int), .int .i64 (et : Int), .slice p1 th.length c1, .slice p2 el.length c2, .int .i64 (f : Int), .int .i64 (t : Int)], .int .i64 (u : Int)] w fun e w' => ∃ v', e = .returned v' ∧ MkF bo G D (L ++ []) (env) v' w w' := by
 have hb1 := (Below.refl w.heap.size w).alloc (Nat.le_refl _) (.cells #[.slice q l.length c, .slice fq fs.length fc, .int .i64 (bk : Int), .func (.func pw) #[] cw, .func (.func ph) #[] ch] 104)
 have hb2 := hb1.alloc (by simp) (.cells #[.int .i64 (k : Int), .string x, .int .i64 (a : Int), .int .i64 (lb : Int), .bool o, .int .i64 (ek : Int), .string ex, .int .i64 (en : Int), .slice ep eal.length ec, .int .i64 (ef : Int), .int .i64 (et : Int), .slice p1 th.length c1, .slice p2 el.length c2, .int .i64 (f : Int), .int .i64 (t : Int)] 111)
 have e1 : (w.alloc (.cells #[.slice q l.length c, .slice fq fs.length fc, .int .i64 (bk : Int), .func (.func pw) #[] cw, .func (.func ph) #[] ch] 104)).heap.size = w.heap.size + 1 := by simp
 have e2 : ((w.alloc (.cells #[.slice q l.length c, .slice fq fs.length fc, .int .i64 (bk : Int), .func (.func pw) #[] cw, .func (.func ph) #[] ch] 104)).alloc (.cells #[.int .i64 (k : Int), .string x, .int .i64 (a : Int), .int .i64 (lb : Int), .bool o, .int .i64 (ek : Int), .string ex, .int .i64 (en : Int), .slice ep eal.length ec, .int .i64 (ef : Int), .int .i64 (et : Int), .slice p1 th.length c1, .slice p2 el.length c2, .int .i64 (f : Int), .int .i64 (t : Int)] 111)).heap.size = w.heap.size + 2 := by simp
 obtain ⟨y0, y1, y2, y3, y4⟩ := five_at ((Below.heap_alloc (w.alloc (.cells #[.slice q l.length c, .slice fq fs.length fc, .int .i64 (bk : Int), .func (.func pw) #[] cw, .func (.func ph) #[] ch] 104)) (.cells #[.int .i64 (k : Int), .string x, .int .i64 (a : Int), .int .i64 (lb : Int), .bool o, .int .i64 (ek : Int), .string ex, .int .i64 (en : Int), .slice ep eal.length ec, .int .i64 (ef : Int), .int .i64 (et : Int), .slice p1 th.length c1, .slice p2 el.length c2, .int .i64 (f : Int), .int .i64 (t : Int)] 111) w.heap.size (by simp)).trans (heap_alloc_new w (.cells #[.slice q l.length c, .slice fq fs.length fc, .int .i64 (bk : Int), .func (.func pw) #[] cw, .func (.func ph) #[] ch] 104)))
 have hne := heap_alloc_new (w.alloc (.cells #[.slice q l.length c, .slice fq fs.length fc, .int .i64 (bk : Int), .func (.func pw) #[] cw, .func (.func ph) #[] ch] 104)) (.cells #[.int .i64 (k : Int), .string x, .int .i64 (a : Int), .int .i64 (lb : Int), .bool o, .int .i64 (ek : Int), .string ex, .int .i64 (en : Int), .slice ep eal.length ec, .int .i64 (ef : Int), .int .i64 (et : Int), .slice p1 th.length c1, .slice p2 el.length c2, .int .i64 (f : Int), .int .i64 (t : Int)] 111)
 rw [e1] at hne
 obtain ⟨q0, q1, q2, q3, q4, q5, q6, q7, q8, q9, q10, q11, q12, q13, q14, _⟩ := fif_at hne
 have hst : Stp bo D D w ((w.alloc (.cells #[.slice q l.length c, .slice fq fs.length fc, .int .i64 (bk : Int), .func (.func pw) #[] cw, .func (.func ph) #[] ch] 104)).alloc (.cells #[.int .i64 (k : Int), .string x, .int .i64 (a : Int), .int .i64 (lb : Int), .bool o, .int .i64 (ek : Int), .string ex, .int .i64 (en : Int), .slice ep eal.length ec, .int .i64 (ef : Int), .int .i64 (et : Int), .slice p1 th.length c1, .slice p2 el.length c2, .int .i64 (f : Int), .int .i64 (t : Int)] 111)) := Stp.below hb2
 have hk1 := hk.step hst
 have hg1 := hL.below hg hb2
 have hs1 := hs.step hst
 have hE1 := RdE.kept n (okS.step hst).1 (okS.step hst).2 _ _ hE
 have hfw := hid (hL.fresh (w' := ((w.alloc (.cells #[.slice q l.length c, .slice fq fs.length fc, .int .i64 (bk : Int), .func (.func pw) #[] cw, .func (.func ph) #[] ch] 104)).alloc (.cells #[.int .i64 (k : Int), .string x, .int .i64 (a : Int), .int .i64 (lb : Int), .bool o, .int .i64 (ek : Int), .string ex, .int .i64 (en : Int), .slice ep eal.length ec, .int .i64 (ef : Int), .int .i64 (et : Int), .slice p1 th.length c1, .slice p2 el.length c2, .int .i64 (f : Int), .int .i64 (t : Int)] 111))) hg (k := w.heap.size) (Nat.le_refl _) (by omega))
 have hfs := hid (hL.fresh (w' := ((w.alloc (.cells #[.slice q l.length c, .slice fq fs.length fc, .int .i64 (bk : Int), .func (.func pw) #[] cw, .func (.func ph) #[] ch] 104)).alloc (.cells #[.int .i64 (k : Int), .string x, .int .i64 (a : Int), .int .i64 (lb : Int), .bool o, .int .i64 (ek : Int), .string ex, .int .i64 (en : Int), .slice ep eal.length ec, .int .i64 (ef : Int), .int .i64 (et : Int), .slice p1 th.length c1, .slice p2 el.length c2, .int .i64 (f : Int), .int .i64 (t : Int)] 111))) hg (k := w.heap.size + 1) (by omega) (by omega))
 have HY := hid (And.intro y0 (And.intro y1 (And.intro y2 (And.intro y3 y4))))
 have HQ := hid (And.intro q0 (And.intro q1 (And.intro q2 (And.intro q3 (And.intro q4 (And.intro q5 (And.intro q6 (And.intro q7 (And.intro q8 (And.intro q9 (And.intro q10 (And.intro q11 (And.intro q12 (And.intro q13 q14))))))))))))))
 have HS0 := hid hst
 clear hb1 hb2 hs hk hg hE hne e1 e2 hst
 have g1 : ((k : Int) == 1) = false := by simp; omega
 have g2 : ((k : Int) == 2) = false := by simp; omega
 have g5 : ((k : Int) == 5) = false := by simp; omega
 have g6 : ((k : Int) == 6) = false := by simp; omega
 have g7 : ((k : Int) == 7) = false := by simp; omega
 have g3 : ((k : Int) == 3) = false := by simp; omega
 have g4 : ((k : Int) == 4) = false := by simp; omega
 clear hkk hnX hk1 hE1
 rw [List.append_nil]
 go_enter Tryz.func100, Tryz.ntmps100
 go_wp2
 go_ret
 exact ⟨_, rfl, D, hg1, HS0.out, hs1⟩
end
end Go.Proofs.YtdkpfnohdknldaaGreatDoor
namespace Go.Proofs.YtdkpfnohdknldaaGreatDoor
open Go.RowKit
set_option linter.unusedVariables false
attribute [local go_sem ↓] Go.wp_at_zero Go.wp_at_succ
section
variable {bo b0 pw ph : Nat} {cw ch : Array Value} {G : World → List Fv → Option Nat → Prop} {l : List (Int × It)} {fs : List Nat} {q : Option Addr} {c : Nat} {fq : Option Addr} {fc bk : Nat} {T : List Tok}
set_option maxHeartbeats 4000000 in
set_option maxRecDepth 100000 in
theorem fl_stm_back {n : Nat} (hL : LsF bo b0 pw ph cw ch G) {D : Option Nat} {w : World} {L : List Fv} {env : Env} {sv : Value} (hk : WkF bo l fs q c fq D w) (hg : G w L D) (hs : SfAt (okS 0 bo D w) w env sv) (o : Bool) (k : Nat) (x : ByteArray) (a lb : Nat) (ek : Nat) (ex : ByteArray) (en : Nat) (eal : List Tr) (ef et : Nat) (ep : Option Addr) (ec : Nat) (p1 : Option Addr) (th : List Tr) (c1 : Nat) (p2 : Option Addr) (el : List Tr) (c2 : Nat) (f t : Nat) (u : Nat) (hE : RdE n (okS 0 bo D w) w (exMk ek ex en eal ef et) (.agg #[.int .i64 (ek : Int), .string ex, .int .i64 (en : Int), .slice ep eal.length ec, .int .i64 (ef : Int), .int .i64 (et : Int)])) (hnX : ∀ v, (noF (L ++ fvX l fs env v (exMk ek ex en eal ef et))).length < 1099511627776) (hkk : k = 6) :
  Calls Tryz.prog 100 #[.agg #[.slice q l.length c, .slice fq fs.length fc, .int .i64 (bk : Int), .func (.func pw) #[] cw, .func (.func ph) #[] ch], sv, .agg #[.int .i64 (k : Int), .string x, .int .i64 (a : Int), .int .i64 (lb : Int), .bool o, .int .i64 (ek : Int), .string ex, .int .i64 (en : Int), .slice ep eal.length ec, .int .i64 (ef : Int), .int .i64 (et : Int), .slice p1 th.length c1, .slice p2 el.length c2, .int .i64 (f : Int), .int .i64 (t : Int)], .int .i64 (u : Int)] w fun e w' => ∃ v', e = .returned v' ∧ MkF bo G D (L ++ (fvX l fs env u (exMk ek ex en eal ef et) ++ opF (lbX l env u (exMk ek ex en eal ef et)) bk f t x)) (env) v' w w' := by
 have hb1 := (Below.refl w.heap.size w).alloc (Nat.le_refl _) (.cells #[.slice q l.length c, .slice fq fs.length fc, .int .i64 (bk : Int), .func (.func pw) #[] cw, .func (.func ph) #[] ch] 104)
 have hb2 := hb1.alloc (by simp) (.cells #[.int .i64 (k : Int), .string x, .int .i64 (a : Int), .int .i64 (lb : Int), .bool o, .int .i64 (ek : Int), .string ex, .int .i64 (en : Int), .slice ep eal.length ec, .int .i64 (ef : Int), .int .i64 (et : Int), .slice p1 th.length c1, .slice p2 el.length c2, .int .i64 (f : Int), .int .i64 (t : Int)] 111)
 have e1 : (w.alloc (.cells #[.slice q l.length c, .slice fq fs.length fc, .int .i64 (bk : Int), .func (.func pw) #[] cw, .func (.func ph) #[] ch] 104)).heap.size = w.heap.size + 1 := by simp
 have e2 : ((w.alloc (.cells #[.slice q l.length c, .slice fq fs.length fc, .int .i64 (bk : Int), .func (.func pw) #[] cw, .func (.func ph) #[] ch] 104)).alloc (.cells #[.int .i64 (k : Int), .string x, .int .i64 (a : Int), .int .i64 (lb : Int), .bool o, .int .i64 (ek : Int), .string ex, .int .i64 (en : Int), .slice ep eal.length ec, .int .i64 (ef : Int), .int .i64 (et : Int), .slice p1 th.length c1, .slice p2 el.length c2, .int .i64 (f : Int), .int .i64 (t : Int)] 111)).heap.size = w.heap.size + 2 := by simp
 obtain ⟨y0, y1, y2, y3, y4⟩ := five_at ((Below.heap_alloc (w.alloc (.cells #[.slice q l.length c, .slice fq fs.length fc, .int .i64 (bk : Int), .func (.func pw) #[] cw, .func (.func ph) #[] ch] 104)) (.cells #[.int .i64 (k : Int), .string x, .int .i64 (a : Int), .int .i64 (lb : Int), .bool o, .int .i64 (ek : Int), .string ex, .int .i64 (en : Int), .slice ep eal.length ec, .int .i64 (ef : Int), .int .i64 (et : Int), .slice p1 th.length c1, .slice p2 el.length c2, .int .i64 (f : Int), .int .i64 (t : Int)] 111) w.heap.size (by simp)).trans (heap_alloc_new w (.cells #[.slice q l.length c, .slice fq fs.length fc, .int .i64 (bk : Int), .func (.func pw) #[] cw, .func (.func ph) #[] ch] 104)))
 have hne := heap_alloc_new (w.alloc (.cells #[.slice q l.length c, .slice fq fs.length fc, .int .i64 (bk : Int), .func (.func pw) #[] cw, .func (.func ph) #[] ch] 104)) (.cells #[.int .i64 (k : Int), .string x, .int .i64 (a : Int), .int .i64 (lb : Int), .bool o, .int .i64 (ek : Int), .string ex, .int .i64 (en : Int), .slice ep eal.length ec, .int .i64 (ef : Int), .int .i64 (et : Int), .slice p1 th.length c1, .slice p2 el.length c2, .int .i64 (f : Int), .int .i64 (t : Int)] 111)
 rw [e1] at hne
 obtain ⟨q0, q1, q2, q3, q4, q5, q6, q7, q8, q9, q10, q11, q12, q13, q14, _⟩ := fif_at hne
 have hst : Stp bo D D w ((w.alloc (.cells #[.slice q l.length c, .slice fq fs.length fc, .int .i64 (bk : Int), .func (.func pw) #[] cw, .func (.func ph) #[] ch] 104)).alloc (.cells #[.int .i64 (k : Int), .string x, .int .i64 (a : Int), .int .i64 (lb : Int), .bool o, .int .i64 (ek : Int), .string ex, .int .i64 (en : Int), .slice ep eal.length ec, .int .i64 (ef : Int), .int .i64 (et : Int), .slice p1 th.length c1, .slice p2 el.length c2, .int .i64 (f : Int), .int .i64 (t : Int)] 111)) := Stp.below hb2
 have hk1 := hk.step hst
 have hg1 := hL.below hg hb2
 have hs1 := hs.step hst
 have hE1 := RdE.kept n (okS.step hst).1 (okS.step hst).2 _ _ hE
 have hfw := hid (hL.fresh (w' := ((w.alloc (.cells #[.slice q l.length c, .slice fq fs.length fc, .int .i64 (bk : Int), .func (.func pw) #[] cw, .func (.func ph) #[] ch] 104)).alloc (.cells #[.int .i64 (k : Int), .string x, .int .i64 (a : Int), .int .i64 (lb : Int), .bool o, .int .i64 (ek : Int), .string ex, .int .i64 (en : Int), .slice ep eal.length ec, .int .i64 (ef : Int), .int .i64 (et : Int), .slice p1 th.length c1, .slice p2 el.length c2, .int .i64 (f : Int), .int .i64 (t : Int)] 111))) hg (k := w.heap.size) (Nat.le_refl _) (by omega))
 have hfs := hid (hL.fresh (w' := ((w.alloc (.cells #[.slice q l.length c, .slice fq fs.length fc, .int .i64 (bk : Int), .func (.func pw) #[] cw, .func (.func ph) #[] ch] 104)).alloc (.cells #[.int .i64 (k : Int), .string x, .int .i64 (a : Int), .int .i64 (lb : Int), .bool o, .int .i64 (ek : Int), .string ex, .int .i64 (en : Int), .slice ep eal.length ec, .int .i64 (ef : Int), .int .i64 (et : Int), .slice p1 th.length c1, .slice p2 el.length c2, .int .i64 (f : Int), .int .i64 (t : Int)] 111))) hg (k := w.heap.size + 1) (by omega) (by omega))
 have HY := hid (And.intro y0 (And.intro y1 (And.intro y2 (And.intro y3 y4))))
 have HQ := hid (And.intro q0 (And.intro q1 (And.intro q2 (And.intro q3 (And.intro q4 (And.intro q5 (And.intro q6 (And.intro q7 (And.intro q8 (And.intro q9 (And.intro q10 (And.intro q11 (And.intro q12 (And.intro q13 q14))))))))))))))
 have HS0 := hid hst
 clear hb1 hb2 hs hk hg hE hne e1 e2 hst
 have g1 : ((k : Int) == 1) = false := by simp; omega
 have g2 : ((k : Int) == 2) = false := by simp; omega
 have g5 : ((k : Int) == 5) = false := by simp; omega
 have g6 : ((k : Int) == 6) = true := by rw [hkk]; rfl
 have hbd := Below.drew (Below.refl ((w.alloc (.cells #[.slice q l.length c, .slice fq fs.length fc, .int .i64 (bk : Int), .func (.func pw) #[] cw, .func (.func ph) #[] ch] 104)).alloc (.cells #[.int .i64 (k : Int), .string x, .int .i64 (a : Int), .int .i64 (lb : Int), .bool o, .int .i64 (ek : Int), .string ex, .int .i64 (en : Int), .slice ep eal.length ec, .int .i64 (ef : Int), .int .i64 (et : Int), .slice p1 th.length c1, .slice p2 el.length c2, .int .i64 (f : Int), .int .i64 (t : Int)] 111)).heap.size ((w.alloc (.cells #[.slice q l.length c, .slice fq fs.length fc, .int .i64 (bk : Int), .func (.func pw) #[] cw, .func (.func ph) #[] ch] 104)).alloc (.cells #[.int .i64 (k : Int), .string x, .int .i64 (a : Int), .int .i64 (lb : Int), .bool o, .int .i64 (ek : Int), .string ex, .int .i64 (en : Int), .slice ep eal.length ec, .int .i64 (ef : Int), .int .i64 (et : Int), .slice p1 th.length c1, .slice p2 el.length c2, .int .i64 (f : Int), .int .i64 (t : Int)] 111)))
 have hsd : Stp bo D D ((w.alloc (.cells #[.slice q l.length c, .slice fq fs.length fc, .int .i64 (bk : Int), .func (.func pw) #[] cw, .func (.func ph) #[] ch] 104)).alloc (.cells #[.int .i64 (k : Int), .string x, .int .i64 (a : Int), .int .i64 (lb : Int), .bool o, .int .i64 (ek : Int), .string ex, .int .i64 (en : Int), .slice ep eal.length ec, .int .i64 (ef : Int), .int .i64 (et : Int), .slice p1 th.length c1, .slice p2 el.length c2, .int .i64 (f : Int), .int .i64 (t : Int)] 111)) ((w.alloc (.cells #[.slice q l.length c, .slice fq fs.length fc, .int .i64 (bk : Int), .func (.func pw) #[] cw, .func (.func ph) #[] ch] 104)).alloc (.cells #[.int .i64 (k : Int), .string x, .int .i64 (a : Int), .int .i64 (lb : Int), .bool o, .int .i64 (ek : Int), .string ex, .int .i64 (en : Int), .slice ep eal.length ec, .int .i64 (ef : Int), .int .i64 (et : Int), .slice p1 th.length c1, .slice p2 el.length c2, .int .i64 (f : Int), .int .i64 (t : Int)] 111)).drew := Stp.below hbd
 have HC := hid (fl_secret_any (bk := bk) (fc := fc) hL n D ((w.alloc (.cells #[.slice q l.length c, .slice fq fs.length fc, .int .i64 (bk : Int), .func (.func pw) #[] cw, .func (.func ph) #[] ch] 104)).alloc (.cells #[.int .i64 (k : Int), .string x, .int .i64 (a : Int), .int .i64 (lb : Int), .bool o, .int .i64 (ek : Int), .string ex, .int .i64 (en : Int), .slice ep eal.length ec, .int .i64 (ef : Int), .int .i64 (et : Int), .slice p1 th.length c1, .slice p2 el.length c2, .int .i64 (f : Int), .int .i64 (t : Int)] 111)).drew L env sv (exMk ek ex en eal ef et) _ u (hk1.step hsd) (hL.below hg1 hbd) (hs1.step hsd) (hE1.stp hsd) (hnX u))
 have HS1 := hid hs1
 have HTf := hid (fun (W : World) (D' : Option Nat) (h1 : G W (L ++ fvX l fs env u (exMk ek ex en eal ef et)) D') => fl_tells_any hL h1 (hnX u) q l.length c fq fs.length fc bk (lbX l env u (exMk ek ex en eal ef et)) bk k x a lb o ek ex en ep eal.length ec ef et p1 th.length c1 p2 el.length c2 f t)
 rw [← List.append_assoc]
 generalize lbX l env u (exMk ek ex en eal ef et) = lbx at *
 generalize fvX l fs env u (exMk ek ex en eal ef et) = X at *
 clear hkk hnX hk1 hg1 hE1 hbd
 go_enter Tryz.func100, Tryz.ntmps100
 go_wp2
 generalize ((w.alloc (.cells #[.slice q l.length c, .slice fq fs.length fc, .int .i64 (bk : Int), .func (.func pw) #[] cw, .func (.func ph) #[] ch] 104)).alloc (.cells #[.int .i64 (k : Int), .string x, .int .i64 (a : Int), .int .i64 (lb : Int), .bool o, .int .i64 (ek : Int), .string ex, .int .i64 (en : Int), .slice ep eal.length ec, .int .i64 (ef : Int), .int .i64 (et : Int), .slice p1 th.length c1, .slice p2 el.length c2, .int .i64 (f : Int), .int .i64 (t : Int)] 111)) = W at *
 go_region_held3 (fun w' => w'.cell? ⟨w.heap.size, 0, none⟩ = some (.slice q l.length c) ∧ w'.cell? ⟨w.heap.size, 1, none⟩ = some (.slice fq fs.length fc) ∧ w'.cell? ⟨w.heap.size, 2, none⟩ = some (.int .i64 (bk : Int)) ∧ w'.cell? ⟨w.heap.size, 3, none⟩ = some (.func (.func pw) #[] cw) ∧ w'.cell? ⟨w.heap.size, 4, none⟩ = some (.func (.func ph) #[] ch) ∧ w'.cell? ⟨w.heap.size + 1, 0, none⟩ = some (.int .i64 (k : Int)) ∧ w'.cell? ⟨w.heap.size + 1, 1, none⟩ = some (.string x) ∧ w'.cell? ⟨w.heap.size + 1, 2, none⟩ = some (.int .i64 (a : Int)) ∧ w'.cell? ⟨w.heap.size + 1, 3, none⟩ = some (.int .i64 (lb : Int)) ∧ w'.cell? ⟨w.heap.size + 1, 4, none⟩ = some (.bool o) ∧ w'.cell? ⟨w.heap.size + 1, 5, none⟩ = some (.int .i64 (ek : Int)) ∧ w'.cell? ⟨w.heap.size + 1, 6, none⟩ = some (.string ex) ∧ w'.cell? ⟨w.heap.size + 1, 7, none⟩ = some (.int .i64 (en : Int)) ∧ w'.cell? ⟨w.heap.size + 1, 8, none⟩ = some (.slice ep eal.length ec) ∧ w'.cell? ⟨w.heap.size + 1, 9, none⟩ = some (.int .i64 (ef : Int)) ∧ w'.cell? ⟨w.heap.size + 1, 10, none⟩ = some (.int .i64 (et : Int)) ∧ w'.cell? ⟨w.heap.size + 1, 11, none⟩ = some (.slice p1 th.length c1) ∧ w'.cell? ⟨w.heap.size + 1, 12, none⟩ = some (.slice p2 el.length c2) ∧ w'.cell? ⟨w.heap.size + 1, 13, none⟩ = some (.int .i64 (f : Int)) ∧ w'.cell? ⟨w.heap.size + 1, 14, none⟩ = some (.int .i64 (t : Int))) (first | go_keep | (with_reducible exact ⟨r0, r1, r2, r3, r4, s0, s1, s2, s3, s4, s5, s6, s7, s8, s9, s10, s11, s12, s13, s14⟩) | (with_reducible exact ⟨ra0, ra1, ra2, ra3, ra4, sa0, sa1, sa2, sa3, sa4, sa5, sa6, sa7, sa8, sa9, sa10, sa11, sa12, sa13, sa14⟩))
  (first
   | (go_at_call 130; refine Calls.mono HC.out ?_; rintro e w2 ⟨rfl, D2, hG2, hS2q⟩; have hS2 := hsd.trans hS2q; have r0 := (okS_cell hS2 hfw.out 0).trans HY.out.1; have r1 := (okS_cell hS2 hfw.out 1).trans HY.out.2.1; have r2 := (okS_cell hS2 hfw.out 2).trans HY.out.2.2.1; have r3 := (okS_cell hS2 hfw.out 3).trans HY.out.2.2.2.1; have r4 := (okS_cell hS2 hfw.out 4).trans HY.out.2.2.2.2; have s0 := (okS_cell hS2 hfs.out 0).trans HQ.out.1; have s1 := (okS_cell hS2 hfs.out 1).trans HQ.out.2.1; have s2 := (okS_cell hS2 hfs.out 2).trans HQ.out.2.2.1; have s3 := (okS_cell hS2 hfs.out 3).trans HQ.out.2.2.2.1; have s4 := (okS_cell hS2 hfs.out 4).trans HQ.out.2.2.2.2.1; have s5 := (okS_cell hS2 hfs.out 5).trans HQ.out.2.2.2.2.2.1; have s6 := (okS_cell hS2 hfs.out 6).trans HQ.out.2.2.2.2.2.2.1; have s7 := (okS_cell hS2 hfs.out 7).trans HQ.out.2.2.2.2.2.2.2.1; have s8 := (okS_cell hS2 hfs.out 8).trans HQ.out.2.2.2.2.2.2.2.2.1; have s9 := (okS_cell hS2 hfs.out 9).trans HQ.out.2.2.2.2.2.2.2.2.2.1; have s10 := (okS_cell hS2 hfs.out 10).trans HQ.out.2.2.2.2.2.2.2.2.2.2.1; have s11 := (okS_cell hS2 hfs.out 11).trans HQ.out.2.2.2.2.2.2.2.2.2.2.2.1; have s12 := (okS_cell hS2 hfs.out 12).trans HQ.out.2.2.2.2.2.2.2.2.2.2.2.2.1; have s13 := (okS_cell hS2 hfs.out 13).trans HQ.out.2.2.2.2.2.2.2.2.2.2.2.2.2.1; have s14 := (okS_cell hS2 hfs.out 14).trans HQ.out.2.2.2.2.2.2.2.2.2.2.2.2.2.2; have HT := hid (HTf.out w2 D2 hG2))
   | (go_at_call 129; refine Calls.mono HT.out ?_; rintro e w4 ⟨rfl, D4, hG4, hS4⟩; have hS5 := hS2.trans hS4; have ra0 := (okS_cell hS5 hfw.out 0).trans HY.out.1; have ra1 := (okS_cell hS5 hfw.out 1).trans HY.out.2.1; have ra2 := (okS_cell hS5 hfw.out 2).trans HY.out.2.2.1; have ra3 := (okS_cell hS5 hfw.out 3).trans HY.out.2.2.2.1; have ra4 := (okS_cell hS5 hfw.out 4).trans HY.out.2.2.2.2; have sa0 := (okS_cell hS5 hfs.out 0).trans HQ.out.1; have sa1 := (okS_cell hS5 hfs.out 1).trans HQ.out.2.1; have sa2 := (okS_cell hS5 hfs.out 2).trans HQ.out.2.2.1; have sa3 := (okS_cell hS5 hfs.out 3).trans HQ.out.2.2.2.1; have sa4 := (okS_cell hS5 hfs.out 4).trans HQ.out.2.2.2.2.1; have sa5 := (okS_cell hS5 hfs.out 5).trans HQ.out.2.2.2.2.2.1; have sa6 := (okS_cell hS5 hfs.out 6).trans HQ.out.2.2.2.2.2.2.1; have sa7 := (okS_cell hS5 hfs.out 7).trans HQ.out.2.2.2.2.2.2.2.1; have sa8 := (okS_cell hS5 hfs.out 8).trans HQ.out.2.2.2.2.2.2.2.2.1; have sa9 := (okS_cell hS5 hfs.out 9).trans HQ.out.2.2.2.2.2.2.2.2.2.1; have sa10 := (okS_cell hS5 hfs.out 10).trans HQ.out.2.2.2.2.2.2.2.2.2.2.1; have sa11 := (okS_cell hS5 hfs.out 11).trans HQ.out.2.2.2.2.2.2.2.2.2.2.2.1; have sa12 := (okS_cell hS5 hfs.out 12).trans HQ.out.2.2.2.2.2.2.2.2.2.2.2.2.1; have sa13 := (okS_cell hS5 hfs.out 13).trans HQ.out.2.2.2.2.2.2.2.2.2.2.2.2.2.1; have sa14 := (okS_cell hS5 hfs.out 14).trans HQ.out.2.2.2.2.2.2.2.2.2.2.2.2.2.2))
 clear r0 r1 r2 r3 r4 s0 s1 s2 s3 s4 s5 s6 s7 s8 s9 s10 s11 s12 s13 s14 ra0 ra1 ra2 ra3 ra4 sa0 sa1 sa2 sa3 sa4 sa5 sa6 sa7 sa8 sa9 sa10 sa11 sa12 sa13 sa14
 go_wp2
 go_ret
 exact ⟨_, rfl, D4, hG4, HS0.out.trans hS5, HS1.out.step hS5⟩
end
end Go.Proofs.YtdkpfnohdknldaaGreatDoor
namespace Go.Proofs.YtdkpfnohdknldaaGreatDoor
open Go.RowKit
set_option linter.unusedVariables false
attribute [local go_sem ↓] Go.wp_at_zero Go.wp_at_succ
section
variable {bo b0 pw ph : Nat} {cw ch : Array Value} {G : World → List Fv → Option Nat → Prop} {l : List (Int × It)} {fs : List Nat} {q : Option Addr} {c : Nat} {fq : Option Addr} {fc bk : Nat} {T : List Tok}
set_option maxHeartbeats 4000000 in
set_option maxRecDepth 100000 in
theorem fl_stmt_succ {n : Nat} (hP : ∀ e ∈ l, e.2.ps.length ≤ 5) (hL : LsF bo b0 pw ph cw ch G) (ih : CSs bo pw ph cw ch G l fs q c fq fc bk T n) : CSs bo pw ph cw ch G l fs q c fq fc bk T (n + 1) := by
 intro D w L env sv s v u m cc hk hg hs hR hw hn
 have hB := fl_block_any hP hL ih
 obtain ⟨k, x, a, lb, o, e, th, el, f, t, d0, d1, d2, d3, d4, d5, p1, c1, p2, c2, rfl, rfl, ⟨n', hE⟩, hT, hX⟩ := hR
 obtain ⟨ek, ex, en, eal, ef, et, ep, ec, rfl, hv⟩ := RdE.form hE
 injection hv with hv
 have hv : [d0, d1, d2, d3, d4, d5] = [.int .i64 (ek : Int), .string ex, .int .i64 (en : Int), .slice ep eal.length ec, .int .i64 (ef : Int), .int .i64 (et : Int)] := by simpa using congrArg Array.toList hv
 simp only [List.cons.injEq, and_true] at hv
 obtain ⟨rfl, rfl, rfl, rfl, rfl, rfl⟩ := hv
 cases m with
 | zero => exact hw.elim
 | succ m =>
 obtain ⟨k', x', a', lb', o', e', th', el', f', t', ce, ct, cl, hs', ⟨me, he⟩, hth, hel, hc1, hc2⟩ := hw
 obtain ⟨rfl, rfl, rfl, rfl, rfl, rfl, rfl, rfl, rfl, rfl⟩ := stMk_inj hs'
 have hcx : ∀ v, (noF (fvX l fs env v (exMk ek ex en eal ef et))).length ≤ 6 * ce := fun v => cnt_expr (fs := fs) hP env v me ce _ he
 have hnX : ∀ v, (noF (L ++ fvX l fs env v (exMk ek ex en eal ef et))).length < 1099511627776 := fun v => by rw [noF_ap]; have := hcx v; omega
 have hnT : ∀ v, (noF (L ++ fvX l fs env v (exMk ek ex en eal ef et))).length + 7 * ct < 1099511627776 := fun v => by rw [noF_ap]; have := hcx v; omega
 have hnE : ∀ v v', (noF (L ++ fvX l fs env v (exMk ek ex en eal ef et) ++ fvB l fs bk v' env th)).length + 7 * cl < 1099511627776 := fun v v' => by
  have h3 := cnt_block (l := l) (u := v') (F := fvY l fs bk v') (fun c s env hs => cnt_stmt (fs := fs) hP bk m v' c s env hs) th ct env hth
  rw [noF_ap, noF_ap]
  have := hcx v
  unfold fvB
  omega
 rw [fvY_mk, scF_mk]
 by_cases h1 : k = 1
 ·rw [if_pos h1, if_pos h1]; exact fl_stm_let hL hk hg hs o k x a lb ek ex en eal ef et ep ec p1 th c1 p2 el c2 f t u hE hnX h1
 ·rw [if_neg h1, if_neg h1]
  by_cases h2 : k = 2
  ·rw [if_pos h2]; exact fl_stm_set hL hk hg hs o k x a lb ek ex en eal ef et ep ec p1 th c1 p2 el c2 f t u hE hnX h2
  ·rw [if_neg h2]
   by_cases h5 : k = 5
   ·rw [if_pos h5]; exact fl_stm_send hL hk hg hs o k x a lb ek ex en eal ef et ep ec p1 th c1 p2 el c2 f t u hE hnX h5
   ·rw [if_neg h5]
    by_cases h6 : k = 6
    ·rw [if_pos h6]; exact fl_stm_back hL hk hg hs o k x a lb ek ex en eal ef et ep ec p1 th c1 p2 el c2 f t u hE hnX h6
    ·rw [if_neg h6]
     by_cases h7 : k = 7
     ·rw [if_pos h7]; exact fl_stm_do hL hk hg hs o k x a lb ek ex en eal ef et ep ec p1 th c1 p2 el c2 f t u hE hnX h7
     ·rw [if_neg h7]
      by_cases h3 : k = 3
      ·rw [if_pos h3]; exact fl_stm_if hL hk hg hs o k x a lb ek ex en eal ef et ep ec p1 th c1 p2 el c2 f t u hE hnX hB m ct cl hT hX hth hel (hnT u) (hnE u _) h3
      ·rw [if_neg h3]
       by_cases h4 : k = 4
       ·rw [if_pos h4]; exact fl_stm_while hL hk hg hs o k x a lb ek ex en eal ef et ep ec p1 th c1 p2 el c2 f t u hE hnX hB m ct hT hth hnT h4
       ·rw [if_neg h4]; exact fl_stm_none hL hk hg hs o k x a lb ek ex en eal ef et ep ec p1 th c1 p2 el c2 f t u hE hnX ⟨h1, h2, h5, h6, h7, h3, h4⟩
theorem fl_stmt_any (hP : ∀ e ∈ l, e.2.ps.length ≤ 5) (hL : LsF bo b0 pw ph cw ch G) (n : Nat) : CSs bo pw ph cw ch G l fs q c fq fc bk T n := by
 induction n with
 | zero => intro D w L env sv s v u m cc _ _ _ h; exact h.elim
 | succ n ih => exact fl_stmt_succ hP hL ih
end
end Go.Proofs.YtdkpfnohdknldaaGreatDoor
namespace Go.Proofs.YtdkpfnohdknldaaGreatDoor
open Go.RowKit
set_option linter.unusedVariables false
attribute [local go_sem ↓] Go.wp_at_zero Go.wp_at_succ
def fvJ (l : List (Int × It)) (fs : List Nat) (i : Nat) : List Fv := match l[i]? with
 | none => []
 | some q => if q.2.k = 2 then fvB l fs q.2.l 0 (scQ [] q.2.ps) q.2.bd else []
set_option maxHeartbeats 4000000 in
set_option maxRecDepth 100000 in
theorem fwith_gen {w : World} (ok : Nat → Prop) (hok : ∀ k, ok k → k < w.heap.size) {env : Env} {sv : Value} (hs : SfAt ok w env sv) (x : ByteArray) (a : Nat) :
  Calls Tryz.prog 80 #[sv, .string x, .int .i64 (a : Int)] w fun e w' => ∃ v, e = .returned v ∧ SfAt (fun k => ok k ∨ (w.heap.size ≤ k ∧ k < w'.heap.size)) w' (scMk env x a) v ∧ Below w.heap.size w w' := by
 have hmf : ∀ (fn : Fn) (first cap : Array Value) (w : World), (Instr.makeFunc fn first cap).run Tryz.prog w = .ok (.func fn first cap) w := fun _ _ _ _ => rfl
 obtain ⟨ps, cs, rfl, es, _⟩ := hs.call
 have hb1 := (Below.refl w.heap.size w).alloc (Nat.le_refl _) (.cells #[.func (.func ps) #[] cs] 137)
 have hb2 := hb1.alloc (by simp) (.cells #[.string x] 9)
 have hb := hb2.alloc (by simp; omega) (.cells #[.int .i64 (a : Int)] 3)
 have e1 : (w.alloc (.cells #[.func (.func ps) #[] cs] 137)).heap.size = w.heap.size + 1 := by simp
 have e2 : ((w.alloc (.cells #[.func (.func ps) #[] cs] 137)).alloc (.cells #[.string x] 9)).heap.size = w.heap.size + 2 := by simp
 have c0 := one_new w (.func (.func ps) #[] cs) 137
 have c1 := one_new (w.alloc (.cells #[.func (.func ps) #[] cs] 137)) (.string x) 9
 have c2 := one_new ((w.alloc (.cells #[.func (.func ps) #[] cs] 137)).alloc (.cells #[.string x] 9)) (.int .i64 (a : Int)) 3
 rw [e1] at c1
 rw [e2] at c2
 have c0 := cell_alloc (cell_alloc c0 (.cells #[.string x] 9)) (.cells #[.int .i64 (a : Int)] 3)
 have c1 := cell_alloc c1 (.cells #[.int .i64 (a : Int)] 3)
 have hfr : ∀ k, w.heap.size ≤ k → k < w.heap.size + 3 → (ok k ∨ (w.heap.size ≤ k ∧ k < (((w.alloc (.cells #[.func (.func ps) #[] cs] 137)).alloc (.cells #[.string x] 9)).alloc (.cells #[.int .i64 (a : Int)] 3)).heap.size)) := fun k h1 h2 => .inr ⟨h1, by simp; omega⟩
 have hSf : SfAt (fun k => ok k ∨ (w.heap.size ≤ k ∧ k < (((w.alloc (.cells #[.func (.func ps) #[] cs] 137)).alloc (.cells #[.string x] 9)).alloc (.cells #[.int .i64 (a : Int)] 3)).heap.size)) (((w.alloc (.cells #[.func (.func ps) #[] cs] 137)).alloc (.cells #[.string x] 9)).alloc (.cells #[.int .i64 (a : Int)] 3)) env (.func (.func ps) #[] cs) := SfAt.kept (fun k hk => hb.block k (hok k hk)) (fun k hk => .inl hk) env _ hs
 have HR : Hid (SfAt (fun k => ok k ∨ (w.heap.size ≤ k ∧ k < (((w.alloc (.cells #[.func (.func ps) #[] cs] 137)).alloc (.cells #[.string x] 9)).alloc (.cells #[.int .i64 (a : Int)] 3)).heap.size)) (((w.alloc (.cells #[.func (.func ps) #[] cs] 137)).alloc (.cells #[.string x] 9)).alloc (.cells #[.int .i64 (a : Int)] 3)) ((x, a) :: env) (.func (.func 99) #[] #[.pointer (some ⟨w.heap.size + 1, 0, none⟩), .pointer (some ⟨w.heap.size + 2, 0, none⟩), .pointer (some ⟨w.heap.size, 0, none⟩)])) :=
  ⟨w.heap.size + 1, w.heap.size + 2, w.heap.size, _, rfl, hfr _ (by omega) (by omega), hfr _ (by omega) (by omega), hfr _ (by omega) (by omega), c1, c2, c0, hSf⟩
 have HS := hid hSf
 have HB := hid hb
 clear hs hfr e1 e2 hb hb1 hb2 hSf hok
 unfold scMk
 by_cases hx : x = noB
 ·rw [if_pos hx]
  have gx : x.toList.isEmpty = true := by rw [hx, noB_list]; rfl
  clear hx
  go_enter Tryz.func80, Tryz.ntmps80
  go_wp2
  go_ret
  exact ⟨_, rfl, HS.out, HB.out⟩
 ·rw [if_neg hx]
  have gx : x.toList.isEmpty = false := by
   have h := (Lib.bytes_beq_false_iff x noB).2 hx
   rw [noB_list] at h
   cases hl : x.toList with
   | nil => rw [hl] at h; cases h
   | cons a r => rfl
  clear hx
  go_enter Tryz.func80, Tryz.ntmps80
  go_wp2
  go_ret
  exact ⟨_, rfl, HR.out, HB.out⟩
def RelFp (b : Nat) (W : World) (ps : List Pm) (sv i : Value) (wr : World) : Prop := ∃ k : Nat, k ≤ ps.length ∧ i = .int .i64 (k : Int) ∧ SfAt (fun k => b < k ∧ k < wr.heap.size) wr (scQ [] (ps.take k)) sv ∧ Below W.heap.size W wr
theorem scQ_take {ps : List Pm} {k : Nat} {p : Pm} (h : ps[k]? = some p) : scQ [] (ps.take (k + 1)) = scMk (scQ [] (ps.take k)) p.x p.l := by
 rw [List.take_add_one, h]
 exact scQ_app [] _ p
section
variable {bo b0 pw ph : Nat} {cw ch : Array Value} {G : World → List Fv → Option Nat → Prop} {l : List (Int × It)} {fs : List Nat} {q : Option Addr} {c : Nat} {fq : Option Addr} {fc bk : Nat} {T : List Tok}
set_option maxHeartbeats 4000000 in
set_option maxRecDepth 100000 in
theorem fl_item_any {n : Nat} (hP : ∀ e ∈ l, e.2.ps.length ≤ 5) (hL : LsF bo b0 pw ph cw ch G) {D : Option Nat} {w : World} {L : List Fv} (hk : WkF bo l fs q c fq D w) (hg : G w L D) (i : Nat) (hi : i < l.length) (pp : Int) (it : It) (hit : l[i]? = some (pp, it)) (m cc : Nat) (hw : wfL (cwS T m) cc it.bd) (hn : (noF L).length + 7 * cc < 1099511627776) :
  Calls Tryz.prog 50 #[.agg #[.slice q l.length c, .slice fq fs.length fc, .int .i64 (bk : Int), .func (.func pw) #[] cw, .func (.func ph) #[] ch], .int .i64 (i : Int)] w fun e w' => e = .returned (.tuple #[]) ∧ TlF bo G D (L ++ fvJ l fs i) w w' := by
 have eJ : fvJ l fs i = if it.k = 2 then fvB l fs it.l 0 (scQ [] it.ps) it.bd else [] := by unfold fvJ; rw [hit]
 rw [eJ]
 clear eJ
 obtain ⟨g, vI, hq, hgo, hcv, hI⟩ := RdF.itemF hk.file hit
 obtain ⟨p1, c1, p2, c2, p3, c3, p4, c4, rfl, hPs, hSs, ⟨nb, hBd⟩, _⟩ := hI
 have hlen : l.length ≤ 1099511627776 := by obtain ⟨_, _, _, h, _⟩ := hk.file; exact h
 have gi : ¬ (i : Int) < 0 := by omega
 have gi1 : ¬ (i : Int) ≥ (l.length : Int) := by omega
 have gk : (0 : Int) ≤ (i : Int) := by omega
 have gk1 : (i : Int) < (l.length : Int) := by omega
 have hib : i < 1099511627776 := by omega
 have hb1 := (Below.refl w.heap.size w).alloc (Nat.le_refl _) (.cells #[.slice q l.length c, .slice fq fs.length fc, .int .i64 (bk : Int), .func (.func pw) #[] cw, .func (.func ph) #[] ch] 104)
 have hb2 := hb1.alloc (by simp) (.cells #[.int .i64 (it.k : Int), .string it.x, .int .i64 (it.l : Int), .slice p1 it.ps.length c1, .slice p2 it.ss.length c2, .slice p3 it.bd.length c3, .int .i64 pp, .int .i64 (it.sz : Int), .int .i64 (it.mrk : Int), .slice p4 it.ds.length c4] 36)
 have e1 : (w.alloc (.cells #[.slice q l.length c, .slice fq fs.length fc, .int .i64 (bk : Int), .func (.func pw) #[] cw, .func (.func ph) #[] ch] 104)).heap.size = w.heap.size + 1 := by simp
 have hnw := heap_alloc_new w (.cells #[.slice q l.length c, .slice fq fs.length fc, .int .i64 (bk : Int), .func (.func pw) #[] cw, .func (.func ph) #[] ch] 104)
 obtain ⟨y0, y1, y2, y3, y4⟩ := five_at hnw
 have i0 := cell_alloc (hcv.get 0 _ rfl) (.cells #[.slice q l.length c, .slice fq fs.length fc, .int .i64 (bk : Int), .func (.func pw) #[] cw, .func (.func ph) #[] ch] 104)
 have i1 := cell_alloc (hcv.get 1 _ rfl) (.cells #[.slice q l.length c, .slice fq fs.length fc, .int .i64 (bk : Int), .func (.func pw) #[] cw, .func (.func ph) #[] ch] 104)
 have i2 := cell_alloc (hcv.get 2 _ rfl) (.cells #[.slice q l.length c, .slice fq fs.length fc, .int .i64 (bk : Int), .func (.func pw) #[] cw, .func (.func ph) #[] ch] 104)
 have i3 := cell_alloc (hcv.get 3 _ rfl) (.cells #[.slice q l.length c, .slice fq fs.length fc, .int .i64 (bk : Int), .func (.func pw) #[] cw, .func (.func ph) #[] ch] 104)
 have i4 := cell_alloc (hcv.get 4 _ rfl) (.cells #[.slice q l.length c, .slice fq fs.length fc, .int .i64 (bk : Int), .func (.func pw) #[] cw, .func (.func ph) #[] ch] 104)
 have i5 := cell_alloc (hcv.get 5 _ rfl) (.cells #[.slice q l.length c, .slice fq fs.length fc, .int .i64 (bk : Int), .func (.func pw) #[] cw, .func (.func ph) #[] ch] 104)
 have i6 := cell_alloc (hcv.get 6 _ rfl) (.cells #[.slice q l.length c, .slice fq fs.length fc, .int .i64 (bk : Int), .func (.func pw) #[] cw, .func (.func ph) #[] ch] 104)
 have i7 := cell_alloc (hcv.get 7 _ rfl) (.cells #[.slice q l.length c, .slice fq fs.length fc, .int .i64 (bk : Int), .func (.func pw) #[] cw, .func (.func ph) #[] ch] 104)
 have i8 := cell_alloc (hcv.get 8 _ rfl) (.cells #[.slice q l.length c, .slice fq fs.length fc, .int .i64 (bk : Int), .func (.func pw) #[] cw, .func (.func ph) #[] ch] 104)
 have i9 := cell_alloc (hcv.get 9 _ rfl) (.cells #[.slice q l.length c, .slice fq fs.length fc, .int .i64 (bk : Int), .func (.func pw) #[] cw, .func (.func ph) #[] ch] 104)
 rw [Nat.add_zero] at i0
 subst hq
 by_cases h2 : it.k = 2
 ·rw [if_pos h2]
  have g2 : ((it.k : Int) != 2) = false := by rw [h2]; rfl
  have hni := heap_alloc_new (w.alloc (.cells #[.slice (some ⟨g, 0, none⟩) l.length c, .slice fq fs.length fc, .int .i64 (bk : Int), .func (.func pw) #[] cw, .func (.func ph) #[] ch] 104)) (.cells #[.int .i64 (it.k : Int), .string it.x, .int .i64 (it.l : Int), .slice p1 it.ps.length c1, .slice p2 it.ss.length c2, .slice p3 it.bd.length c3, .int .i64 pp, .int .i64 (it.sz : Int), .int .i64 (it.mrk : Int), .slice p4 it.ds.length c4] 36)
  rw [e1] at hni
  obtain ⟨_, _, t2, t3, _, t5, _⟩ := tenF_at hni
  have hnw2 := (Below.heap_alloc (w.alloc (.cells #[.slice (some ⟨g, 0, none⟩) l.length c, .slice fq fs.length fc, .int .i64 (bk : Int), .func (.func pw) #[] cw, .func (.func ph) #[] ch] 104)) (.cells #[.int .i64 (it.k : Int), .string it.x, .int .i64 (it.l : Int), .slice p1 it.ps.length c1, .slice p2 it.ss.length c2, .slice p3 it.bd.length c3, .int .i64 pp, .int .i64 (it.sz : Int), .int .i64 (it.mrk : Int), .slice p4 it.ds.length c4] 36) w.heap.size (by simp)).trans hnw
  have e2 : ((w.alloc (.cells #[.slice (some ⟨g, 0, none⟩) l.length c, .slice fq fs.length fc, .int .i64 (bk : Int), .func (.func pw) #[] cw, .func (.func ph) #[] ch] 104)).alloc (.cells #[.int .i64 (it.k : Int), .string it.x, .int .i64 (it.l : Int), .slice p1 it.ps.length c1, .slice p2 it.ss.length c2, .slice p3 it.bd.length c3, .int .i64 pp, .int .i64 (it.sz : Int), .int .i64 (it.mrk : Int), .slice p4 it.ds.length c4] 36)).heap.size = w.heap.size + 2 := by simp
  have HW2 := hid (And.intro hnw2 (And.intro t2 (And.intro t3 t5)))
  have HB2 := hid hb2
  have HK := hid hk
  have HG := hid hg
  have HBd := hid hBd
  have hsz0 := (hL.lt w L D hg).1
  have hD0 := (hL.lt w L D hg).2
  have hlo := hL.lo
  have hPw : SlAt (fun k => k < w.heap.size) ((w.alloc (.cells #[.slice (some ⟨g, 0, none⟩) l.length c, .slice fq fs.length fc, .int .i64 (bk : Int), .func (.func pw) #[] cw, .func (.func ph) #[] ch] 104)).alloc (.cells #[.int .i64 (it.k : Int), .string it.x, .int .i64 (it.l : Int), .slice p1 it.ps.length c1, .slice p2 it.ss.length c2, .slice p3 it.bd.length c3, .int .i64 pp, .int .i64 (it.sz : Int), .int .i64 (it.mrk : Int), .slice p4 it.ds.length c4] 36)) 3 pmC it.ps p1 := (hPs.kept (fun k hk => hb2.block k hk.2.1)).wide (fun k hk => hk.2.1)
  clear hb1 hb2 hk hg hBd hPs hSs hcv hnw hni hnw2 e1 h2
  go_enter Tryz.func50, Tryz.ntmps50
  go_wp2
  generalize ((w.alloc (.cells #[.slice (some ⟨g, 0, none⟩) l.length c, .slice fq fs.length fc, .int .i64 (bk : Int), .func (.func pw) #[] cw, .func (.func ph) #[] ch] 104)).alloc (.cells #[.int .i64 (it.k : Int), .string it.x, .int .i64 (it.l : Int), .slice p1 it.ps.length c1, .slice p2 it.ss.length c2, .slice p3 it.bd.length c3, .int .i64 pp, .int .i64 (it.sz : Int), .int .i64 (it.mrk : Int), .slice p4 it.ds.length c4] 36)) = W at *
  obtain ⟨x0, x1, x2, x3, x4⟩ := five_at HW2.out.1
  go_loopw [5, 37] (fun sv i wr => RelFp w.heap.size W it.ps sv i wr) (fun _ i _ => upN it.ps.length i)
  case atStart => exact ⟨0, Nat.zero_le _, rfl, rfl, Below.refl _ _⟩
  case round =>
   obtain ⟨j, hjl, rfl, hsc, hbr⟩ := hrel
   by_cases hlt : j < it.ps.length
   ·obtain ⟨gp, rfl, hgp, hF⟩ := hPw.2 (by omega)
    obtain ⟨pr, hpr⟩ : ∃ p, it.ps[j]? = some p := ⟨_, List.getElem?_eq_getElem hlt⟩
    have hcg : ∀ o, wr.cell? ⟨gp, o, none⟩ = W.cell? ⟨gp, o, none⟩ := fun o => World.cell?_of_block (a := ⟨gp, o, none⟩) (hbr.block gp (by omega))
    have d0 := (hcg (j * 3 + 0)).trans (hF j pr hpr 0 (.string pr.x) rfl)
    have d1 := (hcg (j * 3 + 1)).trans (hF j pr hpr 1 (.int .i64 (pr.l : Int)) rfl)
    have d2 := (hcg (j * 3 + 2)).trans (hF j pr hpr 2 (.int .i64 (pr.a : Int)) rfl)
    rw [Nat.add_zero] at d0
    have gj : (0 : Int) ≤ (j : Int) := by omega
    have gj1 : (j : Int) < (it.ps.length : Int) := by omega
    have hjb : j < 1099511627776 := by have := hPw.1; omega
    have hba := (Below.refl wr.heap.size wr).alloc (Nat.le_refl _) (.cells #[.string pr.x, .int .i64 (pr.l : Int), .int .i64 (pr.a : Int)] 62)
    have HC := hid (fwith_gen (w := wr.alloc (.cells #[.string pr.x, .int .i64 (pr.l : Int), .int .i64 (pr.a : Int)] 62)) (fun k => w.heap.size < k ∧ k < wr.heap.size) (fun k hk => Nat.lt_of_lt_of_le hk.2 hba.size) (SfAt.kept (fun k hk => hba.block k hk.2) (fun _ h => h) _ _ hsc) pr.x pr.l)
    have hq := scQ_take hpr
    rw [← hq] at HC
    have HL := hid hlt
    have HBR := hid (And.intro hbr hba)
    clear hF hcg hpr hlt hjl hba hsc hbr hq
    go_wp2_with (first
     | (go_at_call 80; refine Calls.mono HC.out ?_; rintro e w3 ⟨v3, rfl, hsc3, hb3⟩))
    go_roundw
    case rel =>
     refine ⟨j + 1, HL.out, by go_num, SfAt.kept (fun k hk => rfl) (fun k hk => ?_) _ _ hsc3, HBR.out.1.trans ((HBR.out.2.trans (hb3.mono HBR.out.2.size)).mono HBR.out.1.size)⟩
     rcases hk with hk | hk
     ·exact ⟨hk.1, Nat.lt_of_lt_of_le hk.2 (Nat.le_trans HBR.out.2.size hb3.size)⟩
     ·have := HBR.out.1.size
      have h5 : wr.heap.size ≤ (wr.alloc (.cells #[.string pr.x, .int .i64 (pr.l : Int), .int .i64 (pr.a : Int)] 62)).heap.size := HBR.out.2.size
      exact ⟨by omega, hk.2⟩
    case measure => have := HL.out; simp [upN, intOf]; omega
   ·obtain rfl : j = it.ps.length := by omega
    rw [List.take_length] at hsc
    have hnwr := (hbr.block w.heap.size (by omega)).trans HW2.out.1
    obtain ⟨z0, z1, z2, z3, z4⟩ := five_at hnwr
    have hfz : wr.frozen? ⟨w.heap.size, 2, none⟩ = false := by simp [World.frozen?, hnwr]
    have r2 : wr.cell? ⟨w.heap.size + 1, 2, none⟩ = some (.int .i64 (it.l : Int)) := (World.cell?_of_block (a := ⟨w.heap.size + 1, 2, none⟩) (hbr.block (w.heap.size + 1) (by omega))).trans HW2.out.2.1
    have r5 : wr.cell? ⟨w.heap.size + 1, 5, none⟩ = some (.slice p3 it.bd.length c3) := (World.cell?_of_block (a := ⟨w.heap.size + 1, 5, none⟩) (hbr.block (w.heap.size + 1) (by omega))).trans HW2.out.2.2.2
    have hbW : Below w.heap.size w (wr.setCell ⟨w.heap.size, 2, none⟩ (.int .i64 (it.l : Int))) := (HB2.out.trans (hbr.mono (by omega))).setCell (Nat.le_refl _) _
    have hst : Stp bo D D w (wr.setCell ⟨w.heap.size, 2, none⟩ (.int .i64 (it.l : Int))) := Stp.below hbW
    have hszr := hbr.size
    have hs7 := SfAt.kept (ok' := okS 0 bo D (wr.setCell ⟨w.heap.size, 2, none⟩ (.int .i64 (it.l : Int)))) (w' := wr.setCell ⟨w.heap.size, 2, none⟩ (.int .i64 (it.l : Int))) (fun k (hk : w.heap.size < k ∧ k < wr.heap.size) => Below.heap_setCell wr _ _ k (by show k ≠ w.heap.size; omega)) (fun k (hk : w.heap.size < k ∧ k < wr.heap.size) => ⟨Nat.zero_le _, by simp; exact hk.2, by omega, fun e => by have := hD0 k e; omega⟩) (scQ [] it.ps) _ hsc
    have HC := hid (fl_block_any (bk := it.l) (fc := fc) hP hL (fl_stmt_any (T := T) hP hL nb) D _ L (scQ [] it.ps) _ it.bd p3 c3 0 m cc (HK.out.step hst) (hL.below HG.out hbW) hs7 (HBd.out.kept (okS.step hst).1 (okS.step hst).2 (RdS.kept nb (okS.step hst).1 (okS.step hst).2)) hw hn)
    clear hlt hjl hsc hs7 hbW hw hn hPw x0 x1 x2 x3 x4 y0 y1 y2 y3 y4 i0 i1 i2 i3 i4 i5 i6 i7 i8 i9
    go_wp2_with (first
     | (go_at_call 81; refine Calls.mono HC.out ?_; rintro e w3 ⟨rfl, D3, hG3, hS3⟩))
    go_end0
    exact ⟨rfl, D3, hG3, hst.trans hS3⟩
 ·rw [if_neg h2, List.append_nil]
  have g2 : ((it.k : Int) != 2) = true := by simp; omega
  have hg1 := hL.below hg hb1
  have hst : Stp bo D D w _ := Stp.below hb1
  clear hb2 hk h2 hw hPs hSs hBd
  go_enter Tryz.func50, Tryz.ntmps50
  go_wp2
  exact bodyPost_ret (v := .tuple #[]) (by simp [results, Tryz.results50, go_sem]) rfl ⟨rfl, D, hg1, hst⟩
end
end Go.Proofs.YtdkpfnohdknldaaGreatDoor

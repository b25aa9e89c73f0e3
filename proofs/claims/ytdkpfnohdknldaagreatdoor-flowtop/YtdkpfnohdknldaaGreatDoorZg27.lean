/- Texts of this seat, one behind the other: FloStmt, FloBlock, FloStm0. -/
import Derived.Test.YtdkpfnohdknldaaGreatDoorZg26
import Derived.Test.YtdkpfnohdknldaaGreatDoorZb07
import Derived.Laws.EntriesVeiled
namespace Go.Proofs.YtdkpfnohdknldaaGreatDoor
open Go.RowKit
set_option linter.unusedVariables false
attribute [local go_sem ↓] Go.wp_at_zero Go.wp_at_succ
section
variable {bo b0 pw ph : Nat} {cw ch : Array Value} {G : World → List Fv → Option Nat → Prop} {l : List (Int × It)} {fs : List Nat} {q : Option Addr} {c : Nat} {fq : Option Addr} {fc bk : Nat}
theorem fl_secret_any (hL : LsF bo b0 pw ph cw ch G) (n : Nat) : CSx bo pw ph cw ch G l fs q c fq fc bk n := by
 induction n with
 | zero => intro D w L env sv e v u _ _ _ h; exact h.elim
 | succ n ih => exact fl_secret_succ hL ih (fl_call_any hL ih)
def MkF (bo : Nat) (G : World → List Fv → Option Nat → Prop) (D : Option Nat) (L : List Fv) (env : Env) (v : Value) (w w' : World) : Prop := ∃ D', G w' L D' ∧ Stp bo D D' w w' ∧ SfAt (okS 0 bo D' w') w' env v
set_option maxHeartbeats 4000000 in
set_option maxRecDepth 100000 in
theorem fl_let_any {n : Nat} (hL : LsF bo b0 pw ph cw ch G) {D : Option Nat} {w : World} {L : List Fv} {env : Env} {sv : Value} (hk : WkF bo l fs q c fq D w) (hg : G w L D) (hs : SfAt (okS 0 bo D w) w env sv) (o : Bool) (k : Nat) (x : ByteArray) (a lb : Nat) (ek : Nat) (ex : ByteArray) (en : Nat) (eal : List Tr) (ef et : Nat) (ep : Option Addr) (ec : Nat) (p1 : Option Addr) (n1 c1 : Nat) (p2 : Option Addr) (n2 c2 : Nat) (f t : Nat) (u : Nat) (hE : RdE n (okS 0 bo D w) w (exMk ek ex en eal ef et) (.agg #[.int .i64 (ek : Int), .string ex, .int .i64 (en : Int), .slice ep eal.length ec, .int .i64 (ef : Int), .int .i64 (et : Int)])) (hn : (noF (L ++ fvX l fs env u (exMk ek ex en eal ef et))).length < 1099511627776) :
  Calls Tryz.prog 128 #[.agg #[.slice q l.length c, .slice fq fs.length fc, .int .i64 (bk : Int), .func (.func pw) #[] cw, .func (.func ph) #[] ch], sv, .agg #[.int .i64 (k : Int), .string x, .int .i64 (a : Int), .int .i64 (lb : Int), .bool o, .int .i64 (ek : Int), .string ex, .int .i64 (en : Int), .slice ep eal.length ec, .int .i64 (ef : Int), .int .i64 (et : Int), .slice p1 n1 c1, .slice p2 n2 c2, .int .i64 (f : Int), .int .i64 (t : Int)], .int .i64 (u : Int)] w fun e w' => ∃ v', e = .returned v' ∧ MkF bo G D (L ++ (fvX l fs env u (exMk ek ex en eal ef et) ++ (if o then [] else opF (lbX l env u (exMk ek ex en eal ef et)) lb f t x))) (scMk env x (if o then lbX l env u (exMk ek ex en eal ef et) else lb)) v' w w' := by
 cases o with
 | true =>
  have hb1 := (Below.refl w.heap.size w).alloc (Nat.le_refl _) (.cells #[.slice q l.length c, .slice fq fs.length fc, .int .i64 (bk : Int), .func (.func pw) #[] cw, .func (.func ph) #[] ch] 104)
  have hb2 := hb1.alloc (by simp) (.cells #[.int .i64 (k : Int), .string x, .int .i64 (a : Int), .int .i64 (lb : Int), .bool true, .int .i64 (ek : Int), .string ex, .int .i64 (en : Int), .slice ep eal.length ec, .int .i64 (ef : Int), .int .i64 (et : Int), .slice p1 n1 c1, .slice p2 n2 c2, .int .i64 (f : Int), .int .i64 (t : Int)] 111)
  have e1 : (w.alloc (.cells #[.slice q l.length c, .slice fq fs.length fc, .int .i64 (bk : Int), .func (.func pw) #[] cw, .func (.func ph) #[] ch] 104)).heap.size = w.heap.size + 1 := by simp
  have e2 : ((w.alloc (.cells #[.slice q l.length c, .slice fq fs.length fc, .int .i64 (bk : Int), .func (.func pw) #[] cw, .func (.func ph) #[] ch] 104)).alloc (.cells #[.int .i64 (k : Int), .string x, .int .i64 (a : Int), .int .i64 (lb : Int), .bool true, .int .i64 (ek : Int), .string ex, .int .i64 (en : Int), .slice ep eal.length ec, .int .i64 (ef : Int), .int .i64 (et : Int), .slice p1 n1 c1, .slice p2 n2 c2, .int .i64 (f : Int), .int .i64 (t : Int)] 111)).heap.size = w.heap.size + 2 := by simp
  obtain ⟨y0, y1, y2, y3, y4⟩ := five_at ((Below.heap_alloc (w.alloc (.cells #[.slice q l.length c, .slice fq fs.length fc, .int .i64 (bk : Int), .func (.func pw) #[] cw, .func (.func ph) #[] ch] 104)) (.cells #[.int .i64 (k : Int), .string x, .int .i64 (a : Int), .int .i64 (lb : Int), .bool true, .int .i64 (ek : Int), .string ex, .int .i64 (en : Int), .slice ep eal.length ec, .int .i64 (ef : Int), .int .i64 (et : Int), .slice p1 n1 c1, .slice p2 n2 c2, .int .i64 (f : Int), .int .i64 (t : Int)] 111) w.heap.size (by simp)).trans (heap_alloc_new w (.cells #[.slice q l.length c, .slice fq fs.length fc, .int .i64 (bk : Int), .func (.func pw) #[] cw, .func (.func ph) #[] ch] 104)))
  have hne := heap_alloc_new (w.alloc (.cells #[.slice q l.length c, .slice fq fs.length fc, .int .i64 (bk : Int), .func (.func pw) #[] cw, .func (.func ph) #[] ch] 104)) (.cells #[.int .i64 (k : Int), .string x, .int .i64 (a : Int), .int .i64 (lb : Int), .bool true, .int .i64 (ek : Int), .string ex, .int .i64 (en : Int), .slice ep eal.length ec, .int .i64 (ef : Int), .int .i64 (et : Int), .slice p1 n1 c1, .slice p2 n2 c2, .int .i64 (f : Int), .int .i64 (t : Int)] 111)
  rw [e1] at hne
  obtain ⟨q0, q1, q2, q3, q4, q5, q6, q7, q8, q9, q10, q11, q12, q13, q14, _⟩ := fif_at hne
  have hst : Stp bo D D w ((w.alloc (.cells #[.slice q l.length c, .slice fq fs.length fc, .int .i64 (bk : Int), .func (.func pw) #[] cw, .func (.func ph) #[] ch] 104)).alloc (.cells #[.int .i64 (k : Int), .string x, .int .i64 (a : Int), .int .i64 (lb : Int), .bool true, .int .i64 (ek : Int), .string ex, .int .i64 (en : Int), .slice ep eal.length ec, .int .i64 (ef : Int), .int .i64 (et : Int), .slice p1 n1 c1, .slice p2 n2 c2, .int .i64 (f : Int), .int .i64 (t : Int)] 111)) := Stp.below hb2
  have hk1 := hk.step hst
  have hg1 := hL.below hg hb2
  have hs1 := hs.step hst
  have hE1 := RdE.kept n (okS.step hst).1 (okS.step hst).2 _ _ hE
  have hfw := hid (hL.fresh (w' := ((w.alloc (.cells #[.slice q l.length c, .slice fq fs.length fc, .int .i64 (bk : Int), .func (.func pw) #[] cw, .func (.func ph) #[] ch] 104)).alloc (.cells #[.int .i64 (k : Int), .string x, .int .i64 (a : Int), .int .i64 (lb : Int), .bool true, .int .i64 (ek : Int), .string ex, .int .i64 (en : Int), .slice ep eal.length ec, .int .i64 (ef : Int), .int .i64 (et : Int), .slice p1 n1 c1, .slice p2 n2 c2, .int .i64 (f : Int), .int .i64 (t : Int)] 111))) hg (k := w.heap.size) (Nat.le_refl _) (by omega))
  have hfs := hid (hL.fresh (w' := ((w.alloc (.cells #[.slice q l.length c, .slice fq fs.length fc, .int .i64 (bk : Int), .func (.func pw) #[] cw, .func (.func ph) #[] ch] 104)).alloc (.cells #[.int .i64 (k : Int), .string x, .int .i64 (a : Int), .int .i64 (lb : Int), .bool true, .int .i64 (ek : Int), .string ex, .int .i64 (en : Int), .slice ep eal.length ec, .int .i64 (ef : Int), .int .i64 (et : Int), .slice p1 n1 c1, .slice p2 n2 c2, .int .i64 (f : Int), .int .i64 (t : Int)] 111))) hg (k := w.heap.size + 1) (by omega) (by omega))
  have HY := hid (And.intro y0 (And.intro y1 (And.intro y2 (And.intro y3 y4))))
  have HQ := hid (And.intro q0 (And.intro q1 (And.intro q2 (And.intro q3 (And.intro q4 (And.intro q5 (And.intro q6 (And.intro q7 (And.intro q8 (And.intro q9 (And.intro q10 (And.intro q11 (And.intro q12 (And.intro q13 q14))))))))))))))
  have HS0 := hid hst
  clear hb1 hb2 hs hk hg hE hne e1 e2 hst
  have HC := hid (fl_secret_any (bk := bk) (fc := fc) hL n D _ L env sv (exMk ek ex en eal ef et) _ u hk1 hg1 hs1 hE1 hn)
  simp only [if_true, List.append_nil]
  have HS1 := hid hs1
  generalize lbX l env u (exMk ek ex en eal ef et) = lbx at *
  generalize fvX l fs env u (exMk ek ex en eal ef et) = X at *
  have HWf := hid (fun (W : World) (D' : Option Nat) (h1 : G W (L ++ X) D') (h2 : SfAt (okS 0 bo D' W) W env sv) => fwith_any (hL.lows h1).1 (hL.lows h1).2 h2 x lbx)
  clear hn hk1 hg1 hE1
  go_enter Tryz.func128, Tryz.ntmps128
  go_wp2_with (first
   | (go_at_call 130; refine Calls.mono HC.out ?_; rintro e w2 ⟨rfl, D2, hG2, hS2⟩; have s0 := (okS_cell hS2 hfs.out 0).trans HQ.out.1; have s1 := (okS_cell hS2 hfs.out 1).trans HQ.out.2.1; have s2 := (okS_cell hS2 hfs.out 2).trans HQ.out.2.2.1; have s3 := (okS_cell hS2 hfs.out 3).trans HQ.out.2.2.2.1; have s4 := (okS_cell hS2 hfs.out 4).trans HQ.out.2.2.2.2.1; have s5 := (okS_cell hS2 hfs.out 5).trans HQ.out.2.2.2.2.2.1; have s6 := (okS_cell hS2 hfs.out 6).trans HQ.out.2.2.2.2.2.2.1; have s7 := (okS_cell hS2 hfs.out 7).trans HQ.out.2.2.2.2.2.2.2.1; have s8 := (okS_cell hS2 hfs.out 8).trans HQ.out.2.2.2.2.2.2.2.2.1; have s9 := (okS_cell hS2 hfs.out 9).trans HQ.out.2.2.2.2.2.2.2.2.2.1; have s10 := (okS_cell hS2 hfs.out 10).trans HQ.out.2.2.2.2.2.2.2.2.2.2.1; have s11 := (okS_cell hS2 hfs.out 11).trans HQ.out.2.2.2.2.2.2.2.2.2.2.2.1; have s12 := (okS_cell hS2 hfs.out 12).trans HQ.out.2.2.2.2.2.2.2.2.2.2.2.2.1; have s13 := (okS_cell hS2 hfs.out 13).trans HQ.out.2.2.2.2.2.2.2.2.2.2.2.2.2.1; have s14 := (okS_cell hS2 hfs.out 14).trans HQ.out.2.2.2.2.2.2.2.2.2.2.2.2.2.2; have HW := hid (HWf.out w2 D2 hG2 (HS1.out.step hS2)); clear y0 y1 y2 y3 y4 q0 q1 q2 q3 q4 q5 q6 q7 q8 q9 q10 q11 q12 q13 q14)
   | (go_at_call 80; refine Calls.mono HW.out ?_; rintro e w3 ⟨v3, rfl, hsc, hb3⟩))
  go_ret
  exact ⟨v3, rfl, D2, hL.below hG2 hb3, (HS0.out.trans hS2).trans (Stp.below hb3), hsc⟩
 | false =>
  have hb1 := (Below.refl w.heap.size w).alloc (Nat.le_refl _) (.cells #[.slice q l.length c, .slice fq fs.length fc, .int .i64 (bk : Int), .func (.func pw) #[] cw, .func (.func ph) #[] ch] 104)
  have hb2 := hb1.alloc (by simp) (.cells #[.int .i64 (k : Int), .string x, .int .i64 (a : Int), .int .i64 (lb : Int), .bool false, .int .i64 (ek : Int), .string ex, .int .i64 (en : Int), .slice ep eal.length ec, .int .i64 (ef : Int), .int .i64 (et : Int), .slice p1 n1 c1, .slice p2 n2 c2, .int .i64 (f : Int), .int .i64 (t : Int)] 111)
  have e1 : (w.alloc (.cells #[.slice q l.length c, .slice fq fs.length fc, .int .i64 (bk : Int), .func (.func pw) #[] cw, .func (.func ph) #[] ch] 104)).heap.size = w.heap.size + 1 := by simp
  have e2 : ((w.alloc (.cells #[.slice q l.length c, .slice fq fs.length fc, .int .i64 (bk : Int), .func (.func pw) #[] cw, .func (.func ph) #[] ch] 104)).alloc (.cells #[.int .i64 (k : Int), .string x, .int .i64 (a : Int), .int .i64 (lb : Int), .bool false, .int .i64 (ek : Int), .string ex, .int .i64 (en : Int), .slice ep eal.length ec, .int .i64 (ef : Int), .int .i64 (et : Int), .slice p1 n1 c1, .slice p2 n2 c2, .int .i64 (f : Int), .int .i64 (t : Int)] 111)).heap.size = w.heap.size + 2 := by simp
  obtain ⟨y0, y1, y2, y3, y4⟩ := five_at ((Below.heap_alloc (w.alloc (.cells #[.slice q l.length c, .slice fq fs.length fc, .int .i64 (bk : Int), .func (.func pw) #[] cw, .func (.func ph) #[] ch] 104)) (.cells #[.int .i64 (k : Int), .string x, .int .i64 (a : Int), .int .i64 (lb : Int), .bool false, .int .i64 (ek : Int), .string ex, .int .i64 (en : Int), .slice ep eal.length ec, .int .i64 (ef : Int), .int .i64 (et : Int), .slice p1 n1 c1, .slice p2 n2 c2, .int .i64 (f : Int), .int .i64 (t : Int)] 111) w.heap.size (by simp)).trans (heap_alloc_new w (.cells #[.slice q l.length c, .slice fq fs.length fc, .int .i64 (bk : Int), .func (.func pw) #[] cw, .func (.func ph) #[] ch] 104)))
  have hne := heap_alloc_new (w.alloc (.cells #[.slice q l.length c, .slice fq fs.length fc, .int .i64 (bk : Int), .func (.func pw) #[] cw, .func (.func ph) #[] ch] 104)) (.cells #[.int .i64 (k : Int), .string x, .int .i64 (a : Int), .int .i64 (lb : Int), .bool false, .int .i64 (ek : Int), .string ex, .int .i64 (en : Int), .slice ep eal.length ec, .int .i64 (ef : Int), .int .i64 (et : Int), .slice p1 n1 c1, .slice p2 n2 c2, .int .i64 (f : Int), .int .i64 (t : Int)] 111)
  rw [e1] at hne
  obtain ⟨q0, q1, q2, q3, q4, q5, q6, q7, q8, q9, q10, q11, q12, q13, q14, _⟩ := fif_at hne
  have hst : Stp bo D D w ((w.alloc (.cells #[.slice q l.length c, .slice fq fs.length fc, .int .i64 (bk : Int), .func (.func pw) #[] cw, .func (.func ph) #[] ch] 104)).alloc (.cells #[.int .i64 (k : Int), .string x, .int .i64 (a : Int), .int .i64 (lb : Int), .bool false, .int .i64 (ek : Int), .string ex, .int .i64 (en : Int), .slice ep eal.length ec, .int .i64 (ef : Int), .int .i64 (et : Int), .slice p1 n1 c1, .slice p2 n2 c2, .int .i64 (f : Int), .int .i64 (t : Int)] 111)) := Stp.below hb2
  have hk1 := hk.step hst
  have hg1 := hL.below hg hb2
  have hs1 := hs.step hst
  have hE1 := RdE.kept n (okS.step hst).1 (okS.step hst).2 _ _ hE
  have hfw := hid (hL.fresh (w' := ((w.alloc (.cells #[.slice q l.length c, .slice fq fs.length fc, .int .i64 (bk : Int), .func (.func pw) #[] cw, .func (.func ph) #[] ch] 104)).alloc (.cells #[.int .i64 (k : Int), .string x, .int .i64 (a : Int), .int .i64 (lb : Int), .bool false, .int .i64 (ek : Int), .string ex, .int .i64 (en : Int), .slice ep eal.length ec, .int .i64 (ef : Int), .int .i64 (et : Int), .slice p1 n1 c1, .slice p2 n2 c2, .int .i64 (f : Int), .int .i64 (t : Int)] 111))) hg (k := w.heap.size) (Nat.le_refl _) (by omega))
  have hfs := hid (hL.fresh (w' := ((w.alloc (.cells #[.slice q l.length c, .slice fq fs.length fc, .int .i64 (bk : Int), .func (.func pw) #[] cw, .func (.func ph) #[] ch] 104)).alloc (.cells #[.int .i64 (k : Int), .string x, .int .i64 (a : Int), .int .i64 (lb : Int), .bool false, .int .i64 (ek : Int), .string ex, .int .i64 (en : Int), .slice ep eal.length ec, .int .i64 (ef : Int), .int .i64 (et : Int), .slice p1 n1 c1, .slice p2 n2 c2, .int .i64 (f : Int), .int .i64 (t : Int)] 111))) hg (k := w.heap.size + 1) (by omega) (by omega))
  have HY := hid (And.intro y0 (And.intro y1 (And.intro y2 (And.intro y3 y4))))
  have HQ := hid (And.intro q0 (And.intro q1 (And.intro q2 (And.intro q3 (And.intro q4 (And.intro q5 (And.intro q6 (And.intro q7 (And.intro q8 (And.intro q9 (And.intro q10 (And.intro q11 (And.intro q12 (And.intro q13 q14))))))))))))))
  have HS0 := hid hst
  clear hb1 hb2 hs hk hg hE hne e1 e2 hst
  have HC := hid (fl_secret_any (bk := bk) (fc := fc) hL n D _ L env sv (exMk ek ex en eal ef et) _ u hk1 hg1 hs1 hE1 hn)
  simp only [Bool.false_eq_true, if_false]
  rw [← List.append_assoc]
  have HS1 := hid hs1
  generalize lbX l env u (exMk ek ex en eal ef et) = lbx at *
  generalize fvX l fs env u (exMk ek ex en eal ef et) = X at *
  have HTf := hid (fun (W : World) (D' : Option Nat) (h1 : G W (L ++ X) D') => fl_tells_any hL h1 hn q l.length c fq fs.length fc bk lbx lb k x a lb false ek ex en ep eal.length ec ef et p1 n1 c1 p2 n2 c2 f t)
  have HWf := hid (fun (W : World) (D' : Option Nat) (h1 : G W (L ++ X ++ opF lbx lb f t x) D') (h2 : SfAt (okS 0 bo D' W) W env sv) => fwith_any (hL.lows h1).1 (hL.lows h1).2 h2 x lb)
  clear hn hk1 hg1 hE1
  go_enter Tryz.func128, Tryz.ntmps128
  go_wp2_with (first
   | (go_at_call 130; refine Calls.mono HC.out ?_; rintro e w2 ⟨rfl, D2, hG2, hS2⟩; have r0 := (okS_cell hS2 hfw.out 0).trans HY.out.1; have r1 := (okS_cell hS2 hfw.out 1).trans HY.out.2.1; have r2 := (okS_cell hS2 hfw.out 2).trans HY.out.2.2.1; have r3 := (okS_cell hS2 hfw.out 3).trans HY.out.2.2.2.1; have r4 := (okS_cell hS2 hfw.out 4).trans HY.out.2.2.2.2; have s0 := (okS_cell hS2 hfs.out 0).trans HQ.out.1; have s1 := (okS_cell hS2 hfs.out 1).trans HQ.out.2.1; have s2 := (okS_cell hS2 hfs.out 2).trans HQ.out.2.2.1; have s3 := (okS_cell hS2 hfs.out 3).trans HQ.out.2.2.2.1; have s4 := (okS_cell hS2 hfs.out 4).trans HQ.out.2.2.2.2.1; have s5 := (okS_cell hS2 hfs.out 5).trans HQ.out.2.2.2.2.2.1; have s6 := (okS_cell hS2 hfs.out 6).trans HQ.out.2.2.2.2.2.2.1; have s7 := (okS_cell hS2 hfs.out 7).trans HQ.out.2.2.2.2.2.2.2.1; have s8 := (okS_cell hS2 hfs.out 8).trans HQ.out.2.2.2.2.2.2.2.2.1; have s9 := (okS_cell hS2 hfs.out 9).trans HQ.out.2.2.2.2.2.2.2.2.2.1; have s10 := (okS_cell hS2 hfs.out 10).trans HQ.out.2.2.2.2.2.2.2.2.2.2.1; have s11 := (okS_cell hS2 hfs.out 11).trans HQ.out.2.2.2.2.2.2.2.2.2.2.2.1; have s12 := (okS_cell hS2 hfs.out 12).trans HQ.out.2.2.2.2.2.2.2.2.2.2.2.2.1; have s13 := (okS_cell hS2 hfs.out 13).trans HQ.out.2.2.2.2.2.2.2.2.2.2.2.2.2.1; have s14 := (okS_cell hS2 hfs.out 14).trans HQ.out.2.2.2.2.2.2.2.2.2.2.2.2.2.2; have HT := hid (HTf.out w2 D2 hG2); clear y0 y1 y2 y3 y4 q0 q1 q2 q3 q4 q5 q6 q7 q8 q9 q10 q11 q12 q13 q14)
   | (go_at_call 129; refine Calls.mono HT.out ?_; rintro e w3 ⟨rfl, D3, hG3, hS3⟩; have m1 := (okS_cell (hS2.trans hS3) hfs.out 1).trans HQ.out.2.1; have m3 := (okS_cell (hS2.trans hS3) hfs.out 3).trans HQ.out.2.2.2.1; have HW := hid (HWf.out w3 D3 hG3 (HS1.out.step (hS2.trans hS3))))
   | (go_at_call 80; refine Calls.mono HW.out ?_; rintro e w4 ⟨v4, rfl, hsc, hb4⟩))
  go_ret
  exact ⟨v4, rfl, D3, hL.below hG3 hb4, ((HS0.out.trans hS2).trans hS3).trans (Stp.below hb4), hsc⟩
set_option maxHeartbeats 4000000 in
set_option maxRecDepth 100000 in
theorem fl_send_any {n : Nat} (hL : LsF bo b0 pw ph cw ch G) {D : Option Nat} {w : World} {L : List Fv} {env : Env} {sv : Value} (hk : WkF bo l fs q c fq D w) (hg : G w L D) (hs : SfAt (okS 0 bo D w) w env sv) (o : Bool) (k : Nat) (x : ByteArray) (a lb : Nat) (ek : Nat) (ex : ByteArray) (en : Nat) (eal : List Tr) (ef et : Nat) (ep : Option Addr) (ec : Nat) (p1 : Option Addr) (n1 c1 : Nat) (p2 : Option Addr) (n2 c2 : Nat) (f t : Nat) (u : Nat) (hE : RdE n (okS 0 bo D w) w (exMk ek ex en eal ef et) (.agg #[.int .i64 (ek : Int), .string ex, .int .i64 (en : Int), .slice ep eal.length ec, .int .i64 (ef : Int), .int .i64 (et : Int)])) (hn : (noF (L ++ fvX l fs env u (exMk ek ex en eal ef et))).length < 1099511627776) :
  Calls Tryz.prog 131 #[.agg #[.slice q l.length c, .slice fq fs.length fc, .int .i64 (bk : Int), .func (.func pw) #[] cw, .func (.func ph) #[] ch], sv, .agg #[.int .i64 (k : Int), .string x, .int .i64 (a : Int), .int .i64 (lb : Int), .bool o, .int .i64 (ek : Int), .string ex, .int .i64 (en : Int), .slice ep eal.length ec, .int .i64 (ef : Int), .int .i64 (et : Int), .slice p1 n1 c1, .slice p2 n2 c2, .int .i64 (f : Int), .int .i64 (t : Int)], .int .i64 (u : Int)] w fun e w' => e = .returned (.tuple #[]) ∧ TlF bo G D (L ++ (fvX l fs env u (exMk ek ex en eal ef et) ++ (match chL l x with | some b => opF (lbX l env u (exMk ek ex en eal ef et)) b f t x | none => []))) w w' := by
 have hb1 := (Below.refl w.heap.size w).alloc (Nat.le_refl _) (.cells #[.slice q l.length c, .slice fq fs.length fc, .int .i64 (bk : Int), .func (.func pw) #[] cw, .func (.func ph) #[] ch] 104)
 have hb2 := hb1.alloc (by simp) (.cells #[.int .i64 (k : Int), .string x, .int .i64 (a : Int), .int .i64 (lb : Int), .bool o, .int .i64 (ek : Int), .string ex, .int .i64 (en : Int), .slice ep eal.length ec, .int .i64 (ef : Int), .int .i64 (et : Int), .slice p1 n1 c1, .slice p2 n2 c2, .int .i64 (f : Int), .int .i64 (t : Int)] 111)
 have e1 : (w.alloc (.cells #[.slice q l.length c, .slice fq fs.length fc, .int .i64 (bk : Int), .func (.func pw) #[] cw, .func (.func ph) #[] ch] 104)).heap.size = w.heap.size + 1 := by simp
 have e2 : ((w.alloc (.cells #[.slice q l.length c, .slice fq fs.length fc, .int .i64 (bk : Int), .func (.func pw) #[] cw, .func (.func ph) #[] ch] 104)).alloc (.cells #[.int .i64 (k : Int), .string x, .int .i64 (a : Int), .int .i64 (lb : Int), .bool o, .int .i64 (ek : Int), .string ex, .int .i64 (en : Int), .slice ep eal.length ec, .int .i64 (ef : Int), .int .i64 (et : Int), .slice p1 n1 c1, .slice p2 n2 c2, .int .i64 (f : Int), .int .i64 (t : Int)] 111)).heap.size = w.heap.size + 2 := by simp
 obtain ⟨y0, y1, y2, y3, y4⟩ := five_at ((Below.heap_alloc (w.alloc (.cells #[.slice q l.length c, .slice fq fs.length fc, .int .i64 (bk : Int), .func (.func pw) #[] cw, .func (.func ph) #[] ch] 104)) (.cells #[.int .i64 (k : Int), .string x, .int .i64 (a : Int), .int .i64 (lb : Int), .bool o, .int .i64 (ek : Int), .string ex, .int .i64 (en : Int), .slice ep eal.length ec, .int .i64 (ef : Int), .int .i64 (et : Int), .slice p1 n1 c1, .slice p2 n2 c2, .int .i64 (f : Int), .int .i64 (t : Int)] 111) w.heap.size (by simp)).trans (heap_alloc_new w (.cells #[.slice q l.length c, .slice fq fs.length fc, .int .i64 (bk : Int), .func (.func pw) #[] cw, .func (.func ph) #[] ch] 104)))
 have hne := heap_alloc_new (w.alloc (.cells #[.slice q l.length c, .slice fq fs.length fc, .int .i64 (bk : Int), .func (.func pw) #[] cw, .func (.func ph) #[] ch] 104)) (.cells #[.int .i64 (k : Int), .string x, .int .i64 (a : Int), .int .i64 (lb : Int), .bool o, .int .i64 (ek : Int), .string ex, .int .i64 (en : Int), .slice ep eal.length ec, .int .i64 (ef : Int), .int .i64 (et : Int), .slice p1 n1 c1, .slice p2 n2 c2, .int .i64 (f : Int), .int .i64 (t : Int)] 111)
 rw [e1] at hne
 obtain ⟨q0, q1, q2, q3, q4, q5, q6, q7, q8, q9, q10, q11, q12, q13, q14, _⟩ := fif_at hne
 have hst : Stp bo D D w ((w.alloc (.cells #[.slice q l.length c, .slice fq fs.length fc, .int .i64 (bk : Int), .func (.func pw) #[] cw, .func (.func ph) #[] ch] 104)).alloc (.cells #[.int .i64 (k : Int), .string x, .int .i64 (a : Int), .int .i64 (lb : Int), .bool o, .int .i64 (ek : Int), .string ex, .int .i64 (en : Int), .slice ep eal.length ec, .int .i64 (ef : Int), .int .i64 (et : Int), .slice p1 n1 c1, .slice p2 n2 c2, .int .i64 (f : Int), .int .i64 (t : Int)] 111)) := Stp.below hb2
 have hk1 := hk.step hst
 have hg1 := hL.below hg hb2
 have hs1 := hs.step hst
 have hE1 := RdE.kept n (okS.step hst).1 (okS.step hst).2 _ _ hE
 have hfw := hid (hL.fresh (w' := ((w.alloc (.cells #[.slice q l.length c, .slice fq fs.length fc, .int .i64 (bk : Int), .func (.func pw) #[] cw, .func (.func ph) #[] ch] 104)).alloc (.cells #[.int .i64 (k : Int), .string x, .int .i64 (a : Int), .int .i64 (lb : Int), .bool o, .int .i64 (ek : Int), .string ex, .int .i64 (en : Int), .slice ep eal.length ec, .int .i64 (ef : Int), .int .i64 (et : Int), .slice p1 n1 c1, .slice p2 n2 c2, .int .i64 (f : Int), .int .i64 (t : Int)] 111))) hg (k := w.heap.size) (Nat.le_refl _) (by omega))
 have hfs := hid (hL.fresh (w' := ((w.alloc (.cells #[.slice q l.length c, .slice fq fs.length fc, .int .i64 (bk : Int), .func (.func pw) #[] cw, .func (.func ph) #[] ch] 104)).alloc (.cells #[.int .i64 (k : Int), .string x, .int .i64 (a : Int), .int .i64 (lb : Int), .bool o, .int .i64 (ek : Int), .string ex, .int .i64 (en : Int), .slice ep eal.length ec, .int .i64 (ef : Int), .int .i64 (et : Int), .slice p1 n1 c1, .slice p2 n2 c2, .int .i64 (f : Int), .int .i64 (t : Int)] 111))) hg (k := w.heap.size + 1) (by omega) (by omega))
 have HY := hid (And.intro y0 (And.intro y1 (And.intro y2 (And.intro y3 y4))))
 have HQ := hid (And.intro q0 (And.intro q1 (And.intro q2 (And.intro q3 (And.intro q4 (And.intro q5 (And.intro q6 (And.intro q7 (And.intro q8 (And.intro q9 (And.intro q10 (And.intro q11 (And.intro q12 (And.intro q13 q14))))))))))))))
 have HS0 := hid hst
 clear hb1 hb2 hs hk hg hE hne e1 e2 hst
 have HC := hid (fl_secret_any (bk := bk) (fc := fc) hL n D _ L env sv (exMk ek ex en eal ef et) _ u hk1 hg1 hs1 hE1 hn)
 have HK1 := hid hk1
 rw [← List.append_assoc]
 generalize lbX l env u (exMk ek ex en eal ef et) = lbx at *
 generalize fvX l fs env u (exMk ek ex en eal ef et) = X at *
 have HFf := hid (fun (W : World) (D' : Option Nat) (h1 : WkF bo l fs q c fq D' W) => Find_any l _ 1 x W _ (fun k hk => hk.2.1) h1.file)
 clear hg1 hE1 hs1
 rcases fnd_casesF l 1 x with hF | ⟨kf, hF, hkf⟩
 ·have eC : chL l x = none := by unfold chL hit; rw [show fnd l ((1 : Nat) : Int) x = -1 from hF]; rfl
  rw [hF] at HFf
  rw [eC, List.append_nil]
  clear hF eC hk1 hn
  go_enter Tryz.func131, Tryz.ntmps131
  go_wp2_with (first
   | (go_at_call 130; refine Calls.mono HC.out ?_; rintro e w2 ⟨rfl, D2, hG2, hS2⟩; have r0 := (okS_cell hS2 hfw.out 0).trans HY.out.1; have r1 := (okS_cell hS2 hfw.out 1).trans HY.out.2.1; have r2 := (okS_cell hS2 hfw.out 2).trans HY.out.2.2.1; have r3 := (okS_cell hS2 hfw.out 3).trans HY.out.2.2.2.1; have r4 := (okS_cell hS2 hfw.out 4).trans HY.out.2.2.2.2; have s0 := (okS_cell hS2 hfs.out 0).trans HQ.out.1; have s1 := (okS_cell hS2 hfs.out 1).trans HQ.out.2.1; have s2 := (okS_cell hS2 hfs.out 2).trans HQ.out.2.2.1; have s3 := (okS_cell hS2 hfs.out 3).trans HQ.out.2.2.2.1; have s4 := (okS_cell hS2 hfs.out 4).trans HQ.out.2.2.2.2.1; have s5 := (okS_cell hS2 hfs.out 5).trans HQ.out.2.2.2.2.2.1; have s6 := (okS_cell hS2 hfs.out 6).trans HQ.out.2.2.2.2.2.2.1; have s7 := (okS_cell hS2 hfs.out 7).trans HQ.out.2.2.2.2.2.2.2.1; have s8 := (okS_cell hS2 hfs.out 8).trans HQ.out.2.2.2.2.2.2.2.2.1; have s9 := (okS_cell hS2 hfs.out 9).trans HQ.out.2.2.2.2.2.2.2.2.2.1; have s10 := (okS_cell hS2 hfs.out 10).trans HQ.out.2.2.2.2.2.2.2.2.2.2.1; have s11 := (okS_cell hS2 hfs.out 11).trans HQ.out.2.2.2.2.2.2.2.2.2.2.2.1; have s12 := (okS_cell hS2 hfs.out 12).trans HQ.out.2.2.2.2.2.2.2.2.2.2.2.2.1; have s13 := (okS_cell hS2 hfs.out 13).trans HQ.out.2.2.2.2.2.2.2.2.2.2.2.2.2.1; have s14 := (okS_cell hS2 hfs.out 14).trans HQ.out.2.2.2.2.2.2.2.2.2.2.2.2.2.2; have HF := hid (HFf.out w2 D2 (HK1.out.step hS2)); clear y0 y1 y2 y3 y4 q0 q1 q2 q3 q4 q5 q6 q7 q8 q9 q10 q11 q12 q13 q14)
   | (go_at_call 29; refine Calls.mono HF.out ?_; rintro e w3 ⟨rfl, hb3⟩))
  go_end0
  exact ⟨rfl, D2, hL.below hG2 hb3, (HS0.out.trans hS2).trans (Stp.below hb3)⟩
 ·obtain ⟨ef', hef⟩ : ∃ e, l[kf]? = some e := ⟨_, List.getElem?_eq_getElem hkf⟩
  have eC : chL l x = some ef'.2.l := by unfold chL hit; rw [show fnd l ((1 : Nat) : Int) x = (kf : Int) from hF, if_neg (by omega), Int.toNat_natCast, hef]; rfl
  rw [hF] at HFf
  rw [eC]
  obtain ⟨g, vI, hq, hgo, hcv, hI⟩ := RdF.itemF hk1.file hef
  obtain ⟨i1, d1, i2, d2, i3, d3, i4, d4, rfl, _⟩ := hI
  subst hq
  have hlen : l.length ≤ 1099511627776 := by obtain ⟨_, _, _, h, _⟩ := hk1.file; exact h
  have gk : (0 : Int) ≤ (kf : Int) := by omega
  have gk1 : (kf : Int) < (l.length : Int) := by omega
  have hkb : kf < 1099511627776 := by omega
  have gge : ((kf : Int) ≥ 0) := by omega
  have HCV := hid (hcv.get 2 _ rfl)
  have HTf := hid (fun (W : World) (D' : Option Nat) (h1 : G W (L ++ X) D') => fl_tells_any hL h1 hn (some ⟨g, 0, none⟩) l.length c fq fs.length fc bk lbx ef'.2.l k x a lb o ek ex en ep eal.length ec ef et p1 n1 c1 p2 n2 c2 f t)
  generalize ef'.2.l = cl at *
  clear hF eC hk1 hn hcv hef
  go_enter Tryz.func131, Tryz.ntmps131
  go_wp2_with (first
   | (go_at_call 130; refine Calls.mono HC.out ?_; rintro e w2 ⟨rfl, D2, hG2, hS2⟩; have r0 := (okS_cell hS2 hfw.out 0).trans HY.out.1; have r1 := (okS_cell hS2 hfw.out 1).trans HY.out.2.1; have r2 := (okS_cell hS2 hfw.out 2).trans HY.out.2.2.1; have r3 := (okS_cell hS2 hfw.out 3).trans HY.out.2.2.2.1; have r4 := (okS_cell hS2 hfw.out 4).trans HY.out.2.2.2.2; have s0 := (okS_cell hS2 hfs.out 0).trans HQ.out.1; have s1 := (okS_cell hS2 hfs.out 1).trans HQ.out.2.1; have s2 := (okS_cell hS2 hfs.out 2).trans HQ.out.2.2.1; have s3 := (okS_cell hS2 hfs.out 3).trans HQ.out.2.2.2.1; have s4 := (okS_cell hS2 hfs.out 4).trans HQ.out.2.2.2.2.1; have s5 := (okS_cell hS2 hfs.out 5).trans HQ.out.2.2.2.2.2.1; have s6 := (okS_cell hS2 hfs.out 6).trans HQ.out.2.2.2.2.2.2.1; have s7 := (okS_cell hS2 hfs.out 7).trans HQ.out.2.2.2.2.2.2.2.1; have s8 := (okS_cell hS2 hfs.out 8).trans HQ.out.2.2.2.2.2.2.2.2.1; have s9 := (okS_cell hS2 hfs.out 9).trans HQ.out.2.2.2.2.2.2.2.2.2.1; have s10 := (okS_cell hS2 hfs.out 10).trans HQ.out.2.2.2.2.2.2.2.2.2.2.1; have s11 := (okS_cell hS2 hfs.out 11).trans HQ.out.2.2.2.2.2.2.2.2.2.2.2.1; have s12 := (okS_cell hS2 hfs.out 12).trans HQ.out.2.2.2.2.2.2.2.2.2.2.2.2.1; have s13 := (okS_cell hS2 hfs.out 13).trans HQ.out.2.2.2.2.2.2.2.2.2.2.2.2.2.1; have s14 := (okS_cell hS2 hfs.out 14).trans HQ.out.2.2.2.2.2.2.2.2.2.2.2.2.2.2; have HF := hid (HFf.out w2 D2 (HK1.out.step hS2)); clear y0 y1 y2 y3 y4 q0 q1 q2 q3 q4 q5 q6 q7 q8 q9 q10 q11 q12 q13 q14)
   | (go_at_call 29; refine Calls.mono HF.out ?_; rintro e w3 ⟨rfl, hb3⟩; have hS3 : Stp bo D D2 _ w3 := hS2.trans (Stp.below hb3); have ra0 := (okS_cell hS3 hfw.out 0).trans HY.out.1; have ra1 := (okS_cell hS3 hfw.out 1).trans HY.out.2.1; have ra2 := (okS_cell hS3 hfw.out 2).trans HY.out.2.2.1; have ra3 := (okS_cell hS3 hfw.out 3).trans HY.out.2.2.2.1; have ra4 := (okS_cell hS3 hfw.out 4).trans HY.out.2.2.2.2; have sa0 := (okS_cell hS3 hfs.out 0).trans HQ.out.1; have sa1 := (okS_cell hS3 hfs.out 1).trans HQ.out.2.1; have sa2 := (okS_cell hS3 hfs.out 2).trans HQ.out.2.2.1; have sa3 := (okS_cell hS3 hfs.out 3).trans HQ.out.2.2.2.1; have sa4 := (okS_cell hS3 hfs.out 4).trans HQ.out.2.2.2.2.1; have sa5 := (okS_cell hS3 hfs.out 5).trans HQ.out.2.2.2.2.2.1; have sa6 := (okS_cell hS3 hfs.out 6).trans HQ.out.2.2.2.2.2.2.1; have sa7 := (okS_cell hS3 hfs.out 7).trans HQ.out.2.2.2.2.2.2.2.1; have sa8 := (okS_cell hS3 hfs.out 8).trans HQ.out.2.2.2.2.2.2.2.2.1; have sa9 := (okS_cell hS3 hfs.out 9).trans HQ.out.2.2.2.2.2.2.2.2.2.1; have sa10 := (okS_cell hS3 hfs.out 10).trans HQ.out.2.2.2.2.2.2.2.2.2.2.1; have sa11 := (okS_cell hS3 hfs.out 11).trans HQ.out.2.2.2.2.2.2.2.2.2.2.2.1; have sa12 := (okS_cell hS3 hfs.out 12).trans HQ.out.2.2.2.2.2.2.2.2.2.2.2.2.1; have sa13 := (okS_cell hS3 hfs.out 13).trans HQ.out.2.2.2.2.2.2.2.2.2.2.2.2.2.1; have sa14 := (okS_cell hS3 hfs.out 14).trans HQ.out.2.2.2.2.2.2.2.2.2.2.2.2.2.2; have m2 := (okS_cell hS3 hgo (kf * 10 + 2)).trans HCV.out; have HT := hid (HTf.out w3.drew D2 (hL.below hG2 (Below.trans hb3 (Below.drew (Below.refl w3.heap.size w3) |>.mono hb3.size)))); clear r0 r1 r2 r3 r4 s0 s1 s2 s3 s4 s5 s6 s7 s8 s9 s10 s11 s12 s13 s14))
  go_region_with (first
   | (go_at_call 129; refine Calls.mono HT.out ?_; rintro e w4 ⟨rfl, D4, hG4, hS4⟩))
  all_goals (go_wp2; go_end0)
  all_goals exact ⟨rfl, D4, hG4, (HS0.out.trans hS3).trans ((Stp.below (Below.drew (Below.refl w3.heap.size w3))).trans hS4)⟩
end
end Go.Proofs.YtdkpfnohdknldaaGreatDoor
namespace Go.Proofs.YtdkpfnohdknldaaGreatDoor
open Go.RowKit
set_option linter.unusedVariables false
attribute [local go_sem ↓] Go.wp_at_zero Go.wp_at_succ
theorem wfL_atF {P : Nat → Tr → Prop} : ∀ (al : List Tr) (c : Nat), wfL P c al → ∀ (j : Nat) (a : Tr), al[j]? = some a → ∃ c1 c2, c1 + c2 ≤ c ∧ wfL P c1 (al.take j) ∧ P c2 a := by
 intro al
 induction al with
 | nil => intro c _ j a h; cases h
 | cons b r ih =>
  intro c hw j a h
  obtain ⟨c1, c2, h1, h2, h3⟩ := hw
  cases j with
  | zero =>
   rw [List.getElem?_cons_zero] at h
   injection h with h
   subst h
   exact ⟨0, c1, by omega, trivial, h2⟩
  | succ j =>
   rw [List.getElem?_cons_succ] at h
   obtain ⟨d1, d2, g1, g2, g3⟩ := ih c2 h3 j a h
   exact ⟨c1 + d1, d2, by omega, ⟨c1, d1, Nat.le_refl _, h2, g2⟩, g3⟩
section
variable {bo b0 pw ph : Nat} {cw ch : Array Value} {G : World → List Fv → Option Nat → Prop} {l : List (Int × It)} {fs : List Nat} {q : Option Addr} {c : Nat} {fq : Option Addr} {fc bk : Nat} {T : List Tok}
def CSs (bo pw ph : Nat) (cw ch : Array Value) (G : World → List Fv → Option Nat → Prop) (l : List (Int × It)) (fs : List Nat) (q : Option Addr) (c : Nat) (fq : Option Addr) (fc bk : Nat) (T : List Tok) (n : Nat) : Prop := ∀ (D : Option Nat) (w : World) (L : List Fv) (env : Env) (sv : Value) (s : Tr) (v : Value) (u m cc : Nat), WkF bo l fs q c fq D w → G w L D → SfAt (okS 0 bo D w) w env sv → RdS n (okS 0 bo D w) w s v → cwS T m cc s → (noF L).length + 7 * cc < 1099511627776 →
 Calls Tryz.prog 100 #[.agg #[.slice q l.length c, .slice fq fs.length fc, .int .i64 (bk : Int), .func (.func pw) #[] cw, .func (.func ph) #[] ch], sv, v, .int .i64 (u : Int)] w fun ex w' => ∃ v', ex = .returned v' ∧ MkF bo G D (L ++ fvY l fs bk u env s) (scF l env u s) v' w w'
def CSb (bo pw ph : Nat) (cw ch : Array Value) (G : World → List Fv → Option Nat → Prop) (l : List (Int × It)) (fs : List Nat) (q : Option Addr) (c : Nat) (fq : Option Addr) (fc bk : Nat) (T : List Tok) (n : Nat) : Prop := ∀ (D : Option Nat) (w : World) (L : List Fv) (env : Env) (sv : Value) (al : List Tr) (qa : Option Addr) (ca u m cc : Nat), WkF bo l fs q c fq D w → G w L D → SfAt (okS 0 bo D w) w env sv → SlT (okS 0 bo D w) (RdS n (okS 0 bo D w) w) w 15 al qa → wfL (cwS T m) cc al → (noF L).length + 7 * cc < 1099511627776 →
 Calls Tryz.prog 81 #[.agg #[.slice q l.length c, .slice fq fs.length fc, .int .i64 (bk : Int), .func (.func pw) #[] cw, .func (.func ph) #[] ch], sv, .slice qa al.length ca, .int .i64 (u : Int)] w fun ex w' => ex = .returned (.tuple #[]) ∧ TlF bo G D (L ++ fvB l fs bk u env al) w w'
def RelFb (bo : Nat) (G : World → List Fv → Option Nat → Prop) (D : Option Nat) (w : World) (M : Nat → List Fv) (E : Nat → Env) (n : Nat) (sv i : Value) (wr : World) : Prop := ∃ k : Nat, k ≤ n ∧ i = .int .i64 (k : Int) ∧ MkF bo G D (M k) (E k) sv w wr
theorem fl_blk_take (l : List (Int × It)) (fs : List Nat) (bk u : Nat) (env : Env) {al : List Tr} {k : Nat} {a : Tr} (L : List Fv) (h : al[k]? = some a) : L ++ fvB l fs bk u env (al.take (k + 1)) = L ++ fvB l fs bk u env (al.take k) ++ fvY l fs bk u (scG l u env (al.take k)) a ∧ scG l u env (al.take (k + 1)) = scF l (scG l u env (al.take k)) u a := by
 rw [List.take_add_one, h]
 simp only [Option.toList_some]
 rw [fvB_app, scG_app, List.append_assoc]
 exact ⟨rfl, rfl⟩
set_option maxHeartbeats 4000000 in
set_option maxRecDepth 100000 in
theorem fl_block_any {n : Nat} (hP : ∀ e ∈ l, e.2.ps.length ≤ 5) (hL : LsF bo b0 pw ph cw ch G) (hE : CSs bo pw ph cw ch G l fs q c fq fc bk T n) : CSb bo pw ph cw ch G l fs q c fq fc bk T n := by
 intro D w L env sv al qa ca u m cc hk hg hs hR hw hn
 have hb1 := (Below.refl w.heap.size w).alloc (Nat.le_refl _) (.cells #[.slice q l.length c, .slice fq fs.length fc, .int .i64 (bk : Int), .func (.func pw) #[] cw, .func (.func ph) #[] ch] 104)
 obtain ⟨y0, y1, y2, y3, y4⟩ := five_at (heap_alloc_new w (.cells #[.slice q l.length c, .slice fq fs.length fc, .int .i64 (bk : Int), .func (.func pw) #[] cw, .func (.func ph) #[] ch] 104))
 have hst : Stp bo D D w (w.alloc (.cells #[.slice q l.length c, .slice fq fs.length fc, .int .i64 (bk : Int), .func (.func pw) #[] cw, .func (.func ph) #[] ch] 104)) := Stp.below hb1
 have hk1 := hk.step hst
 have hg1 := hL.below hg hb1
 have hs1 := hs.step hst
 have hR1 := hR.kept (okS.step hst).1 (okS.step hst).2 (RdS.kept n (okS.step hst).1 (okS.step hst).2)
 have hfw := hid (hL.fresh (w' := w.alloc (.cells #[.slice q l.length c, .slice fq fs.length fc, .int .i64 (bk : Int), .func (.func pw) #[] cw, .func (.func ph) #[] ch] 104)) hg (k := w.heap.size) (Nat.le_refl _) (by simp))
 have HS0 := hid hst
 obtain ⟨hlen, hits⟩ := hR1
 have HBd := hid (fun j a (h : al[j]? = some a) => show ∃ c2, cwS T m c2 a ∧ (noF (L ++ fvB l fs bk u env (al.take j))).length + 7 * c2 < 1099511627776 by
  obtain ⟨c1, c2, h1, h2, h3⟩ := wfL_atF al cc hw j a h
  refine ⟨c2, h3, ?_⟩
  have := cnt_block (l := l) (u := u) (F := fvY l fs bk u) (fun c s env hs => cnt_stmt (fs := fs) hP bk m u c s env hs) (al.take j) c1 env h2
  rw [noF_ap]
  unfold fvB
  omega)
 have HM := hid (fun k a (h : al[k]? = some a) => fl_blk_take l fs bk u env L h)
 have HZ : Hid (L ++ fvB l fs bk u env (al.take al.length) = L ++ fvB l fs bk u env al) := by show _ = _; rw [List.take_length]
 have H0 : Hid (L ++ fvB l fs bk u env (al.take 0) = L ∧ scG l u env (al.take 0) = env) := by show _ ∧ _; rw [List.take_zero, fvB_nil, List.append_nil]; exact ⟨rfl, rfl⟩
 clear hb1 hs hk hg hR hw hn hst
 generalize hM : (fun k => L ++ fvB l fs bk u env (al.take k)) = M
 generalize hE1 : (fun k => scG l u env (al.take k)) = E
 have hMk : ∀ k, L ++ fvB l fs bk u env (al.take k) = M k := fun k => by rw [← hM]
 have hEk : ∀ k, scG l u env (al.take k) = E k := fun k => by rw [← hE1]
 simp only [hMk, hEk] at HBd HM HZ H0
 rw [← HZ.out]
 have h00 := H0.out.1
 have h01 := H0.out.2
 rw [← h00] at hg1
 rw [← h01] at hs1
 clear hM hMk HZ H0 h00 h01 hE1 hEk
 go_enter Tryz.func81, Tryz.ntmps81
 go_wp2
 generalize w.alloc (.cells #[.slice q l.length c, .slice fq fs.length fc, .int .i64 (bk : Int), .func (.func pw) #[] cw, .func (.func ph) #[] ch] 104) = W at *
 go_loopw [1, 12] (fun sv i wr => RelFb bo G D W M E al.length sv i wr) (fun _ i _ => upN al.length i)
 case atStart => exact ⟨0, Nat.zero_le _, rfl, D, hg1, Stp.refl _ _ _, hs1⟩
 case round =>
  obtain ⟨j, hjl, rfl, D1, hG1, hS1, hs2⟩ := hrel
  have z0 := (okS_cell hS1 hfw.out 0).trans y0
  have z1 := (okS_cell hS1 hfw.out 1).trans y1
  have z2 := (okS_cell hS1 hfw.out 2).trans y2
  have z3 := (okS_cell hS1 hfw.out 3).trans y3
  have z4 := (okS_cell hS1 hfw.out 4).trans y4
  by_cases hlt : j < al.length
  ·obtain ⟨g, rfl, hgo, hLA⟩ := hits (by omega)
   obtain ⟨ea, he1⟩ : ∃ e1, al[j]? = some e1 := ⟨_, List.getElem?_eq_getElem hlt⟩
   obtain ⟨v1, hcv, hR1⟩ := hLA j ea he1
   have hcv := hcv.kept ((okS.step hS1).1 g hgo)
   have hR1 := RdS.stp hR1 hS1
   obtain ⟨k1, x1, a1, b1, o1, ek, ex, en, ep, el, ec, ef, et, p1, l1, c1, p2, l2, c2, f1, t1, rfl⟩ := RdS.shape hR1
   have d0 := hcv.get 0 _ rfl
   have d1 := hcv.get 1 _ rfl
   have d2 := hcv.get 2 _ rfl
   have d3 := hcv.get 3 _ rfl
   have d4 := hcv.get 4 _ rfl
   have d5 := hcv.get 5 _ rfl
   have d6 := hcv.get 6 _ rfl
   have d7 := hcv.get 7 _ rfl
   have d8 := hcv.get 8 _ rfl
   have d9 := hcv.get 9 _ rfl
   have d10 := hcv.get 10 _ rfl
   have d11 := hcv.get 11 _ rfl
   have d12 := hcv.get 12 _ rfl
   have d13 := hcv.get 13 _ rfl
   have d14 := hcv.get 14 _ rfl
   rw [Nat.add_zero] at d0
   have gk : (0 : Int) ≤ (j : Int) := by omega
   have gk1 : (j : Int) < (al.length : Int) := by omega
   have hkb : j < 1099511627776 := by omega
   have hba := (Below.refl wr.heap.size wr).alloc (Nat.le_refl _) (.cells #[.int .i64 (k1 : Int), .string x1, .int .i64 (a1 : Int), .int .i64 (b1 : Int), .bool o1, .int .i64 (ek : Int), .string ex, .int .i64 (en : Int), .slice ep el ec, .int .i64 (ef : Int), .int .i64 (et : Int), .slice p1 l1 c1, .slice p2 l2 c2, .int .i64 (f1 : Int), .int .i64 (t1 : Int)] 111)
   have hsa : Stp bo D1 D1 wr _ := Stp.below hba
   have hnx := (HM.out j _ he1).1
   have hne := (HM.out j _ he1).2
   obtain ⟨cj, hcj, hbj⟩ := HBd.out j _ he1
   have HC := hid (hE D1 _ (M j) (E j) _ _ _ u m cj ((hk1.step hS1).step hsa) (hL.below hG1 hba) (hs2.step hsa) (hR1.stp hsa) hcj hbj)
   rw [← hnx, ← hne] at HC
   have HL := hid hlt
   have HS := hid (hS1.trans hsa)
   have a0 := cell_alloc z0
   have a1' := cell_alloc z1
   have a2 := cell_alloc z2
   have a3 := cell_alloc z3
   have a4 := cell_alloc z4
   clear hits hLA hcv hR1 he1 hnx hne hlt hjl hba hsa hs2 hcj hbj y0 y1 y2 y3 y4
   go_wp2_with (first
    | (go_at_call 100; refine Calls.mono HC.out ?_; rintro e w2 ⟨v2, rfl, D2, hG2, hS2, hs3⟩))
   go_roundw
   case rel => exact ⟨j + 1, by have := HL.out; omega, by go_num, D2, hG2, HS.out.trans hS2, hs3⟩
   case measure => have := HL.out; simp [upN, intOf]; omega
  ·obtain rfl : j = al.length := by omega
   clear hlt hjl
   go_wp2
   go_end0
   exact ⟨rfl, D1, hG1, HS0.out.trans hS1⟩
set_option maxHeartbeats 4000000 in
set_option maxRecDepth 100000 in
theorem fl_while_any {n ne : Nat} (hL : LsF bo b0 pw ph cw ch G) (hB : CSb bo pw ph cw ch G l fs q c fq fc bk T n) {D : Option Nat} {w : World} {L : List Fv} {env : Env} {sv : Value} (hk : WkF bo l fs q c fq D w) (hg : G w L D) (hs : SfAt (okS 0 bo D w) w env sv) (o : Bool) (k : Nat) (x : ByteArray) (a lb : Nat) (ek : Nat) (ex : ByteArray) (en : Nat) (eal : List Tr) (ef et : Nat) (ep : Option Addr) (ec : Nat) (p1 : Option Addr) (th : List Tr) (c1 : Nat) (p2 : Option Addr) (el : List Tr) (c2 : Nat) (f t : Nat) (u m ct : Nat) (hE : RdE ne (okS 0 bo D w) w (exMk ek ex en eal ef et) (.agg #[.int .i64 (ek : Int), .string ex, .int .i64 (en : Int), .slice ep eal.length ec, .int .i64 (ef : Int), .int .i64 (et : Int)])) (hT : SlT (okS 0 bo D w) (RdS n (okS 0 bo D w) w) w 15 th p1) (hx : ∀ v, (noF (L ++ fvX l fs env v (exMk ek ex en eal ef et))).length + 7 * ct < 1099511627776) (hw : wfL (cwS T m) ct th) :
  Calls Tryz.prog 132 #[.agg #[.slice q l.length c, .slice fq fs.length fc, .int .i64 (bk : Int), .func (.func pw) #[] cw, .func (.func ph) #[] ch], sv, .agg #[.int .i64 (k : Int), .string x, .int .i64 (a : Int), .int .i64 (lb : Int), .bool o, .int .i64 (ek : Int), .string ex, .int .i64 (en : Int), .slice ep eal.length ec, .int .i64 (ef : Int), .int .i64 (et : Int), .slice p1 th.length c1, .slice p2 el.length c2, .int .i64 (f : Int), .int .i64 (t : Int)], .int .i64 (u : Int)] w fun e w' => e = .returned (.tuple #[]) ∧ TlF bo G D (L ++ (fvX l fs env (lbX l env u (exMk ek ex en eal ef et)) (exMk ek ex en eal ef et) ++ fvB l fs bk (lbX l env u (exMk ek ex en eal ef et)) env th)) w w' := by
 have hb1 := (Below.refl w.heap.size w).alloc (Nat.le_refl _) (.cells #[.slice q l.length c, .slice fq fs.length fc, .int .i64 (bk : Int), .func (.func pw) #[] cw, .func (.func ph) #[] ch] 104)
 have hb2 := hb1.alloc (by simp) (.cells #[.int .i64 (k : Int), .string x, .int .i64 (a : Int), .int .i64 (lb : Int), .bool o, .int .i64 (ek : Int), .string ex, .int .i64 (en : Int), .slice ep eal.length ec, .int .i64 (ef : Int), .int .i64 (et : Int), .slice p1 th.length c1, .slice p2 el.length c2, .int .i64 (f : Int), .int .i64 (t : Int)] 111)
 have hb3 := hb2.alloc (by simp; omega) (.cells #[.slice q l.length c, .slice fq fs.length fc, .int .i64 0, .func (.func 49) #[] #[], .func (.func 78) #[] #[]] 104)
 have e1 : (w.alloc (.cells #[.slice q l.length c, .slice fq fs.length fc, .int .i64 (bk : Int), .func (.func pw) #[] cw, .func (.func ph) #[] ch] 104)).heap.size = w.heap.size + 1 := by simp
 have e3 : (((w.alloc (.cells #[.slice q l.length c, .slice fq fs.length fc, .int .i64 (bk : Int), .func (.func pw) #[] cw, .func (.func ph) #[] ch] 104)).alloc (.cells #[.int .i64 (k : Int), .string x, .int .i64 (a : Int), .int .i64 (lb : Int), .bool o, .int .i64 (ek : Int), .string ex, .int .i64 (en : Int), .slice ep eal.length ec, .int .i64 (ef : Int), .int .i64 (et : Int), .slice p1 th.length c1, .slice p2 el.length c2, .int .i64 (f : Int), .int .i64 (t : Int)] 111)).alloc (.cells #[.slice q l.length c, .slice fq fs.length fc, .int .i64 0, .func (.func 49) #[] #[], .func (.func 78) #[] #[]] 104)).heap.size = w.heap.size + 3 := by simp
 obtain ⟨y0, y1, y2, y3, y4⟩ := five_at ((Below.heap_alloc ((w.alloc (.cells #[.slice q l.length c, .slice fq fs.length fc, .int .i64 (bk : Int), .func (.func pw) #[] cw, .func (.func ph) #[] ch] 104)).alloc (.cells #[.int .i64 (k : Int), .string x, .int .i64 (a : Int), .int .i64 (lb : Int), .bool o, .int .i64 (ek : Int), .string ex, .int .i64 (en : Int), .slice ep eal.length ec, .int .i64 (ef : Int), .int .i64 (et : Int), .slice p1 th.length c1, .slice p2 el.length c2, .int .i64 (f : Int), .int .i64 (t : Int)] 111)) (.cells #[.slice q l.length c, .slice fq fs.length fc, .int .i64 0, .func (.func 49) #[] #[], .func (.func 78) #[] #[]] 104) w.heap.size (by simp; omega)).trans ((Below.heap_alloc (w.alloc (.cells #[.slice q l.length c, .slice fq fs.length fc, .int .i64 (bk : Int), .func (.func pw) #[] cw, .func (.func ph) #[] ch] 104)) (.cells #[.int .i64 (k : Int), .string x, .int .i64 (a : Int), .int .i64 (lb : Int), .bool o, .int .i64 (ek : Int), .string ex, .int .i64 (en : Int), .slice ep eal.length ec, .int .i64 (ef : Int), .int .i64 (et : Int), .slice p1 th.length c1, .slice p2 el.length c2, .int .i64 (f : Int), .int .i64 (t : Int)] 111) w.heap.size (by simp)).trans (heap_alloc_new w (.cells #[.slice q l.length c, .slice fq fs.length fc, .int .i64 (bk : Int), .func (.func pw) #[] cw, .func (.func ph) #[] ch] 104))))
 have hne := heap_alloc_new (w.alloc (.cells #[.slice q l.length c, .slice fq fs.length fc, .int .i64 (bk : Int), .func (.func pw) #[] cw, .func (.func ph) #[] ch] 104)) (.cells #[.int .i64 (k : Int), .string x, .int .i64 (a : Int), .int .i64 (lb : Int), .bool o, .int .i64 (ek : Int), .string ex, .int .i64 (en : Int), .slice ep eal.length ec, .int .i64 (ef : Int), .int .i64 (et : Int), .slice p1 th.length c1, .slice p2 el.length c2, .int .i64 (f : Int), .int .i64 (t : Int)] 111)
 rw [e1] at hne
 obtain ⟨q0, q1, q2, q3, q4, q5, q6, q7, q8, q9, q10, q11, q12, q13, q14, _⟩ := fif_at ((Below.heap_alloc ((w.alloc (.cells #[.slice q l.length c, .slice fq fs.length fc, .int .i64 (bk : Int), .func (.func pw) #[] cw, .func (.func ph) #[] ch] 104)).alloc (.cells #[.int .i64 (k : Int), .string x, .int .i64 (a : Int), .int .i64 (lb : Int), .bool o, .int .i64 (ek : Int), .string ex, .int .i64 (en : Int), .slice ep eal.length ec, .int .i64 (ef : Int), .int .i64 (et : Int), .slice p1 th.length c1, .slice p2 el.length c2, .int .i64 (f : Int), .int .i64 (t : Int)] 111)) (.cells #[.slice q l.length c, .slice fq fs.length fc, .int .i64 0, .func (.func 49) #[] #[], .func (.func 78) #[] #[]] 104) (w.heap.size + 1) (by simp)).trans hne)
 have hst : Stp bo D D w (((w.alloc (.cells #[.slice q l.length c, .slice fq fs.length fc, .int .i64 (bk : Int), .func (.func pw) #[] cw, .func (.func ph) #[] ch] 104)).alloc (.cells #[.int .i64 (k : Int), .string x, .int .i64 (a : Int), .int .i64 (lb : Int), .bool o, .int .i64 (ek : Int), .string ex, .int .i64 (en : Int), .slice ep eal.length ec, .int .i64 (ef : Int), .int .i64 (et : Int), .slice p1 th.length c1, .slice p2 el.length c2, .int .i64 (f : Int), .int .i64 (t : Int)] 111)).alloc (.cells #[.slice q l.length c, .slice fq fs.length fc, .int .i64 0, .func (.func 49) #[] #[], .func (.func 78) #[] #[]] 104)) := Stp.below hb3
 have hk1 := hk.step hst
 have hg1 := hL.below hg hb3
 have hs1 := hs.step hst
 have hE1 := RdE.kept ne (okS.step hst).1 (okS.step hst).2 _ _ hE
 have hT1 := hT.kept (okS.step hst).1 (okS.step hst).2 (RdS.kept n (okS.step hst).1 (okS.step hst).2)
 have hfw := hid (hL.fresh (w' := (((w.alloc (.cells #[.slice q l.length c, .slice fq fs.length fc, .int .i64 (bk : Int), .func (.func pw) #[] cw, .func (.func ph) #[] ch] 104)).alloc (.cells #[.int .i64 (k : Int), .string x, .int .i64 (a : Int), .int .i64 (lb : Int), .bool o, .int .i64 (ek : Int), .string ex, .int .i64 (en : Int), .slice ep eal.length ec, .int .i64 (ef : Int), .int .i64 (et : Int), .slice p1 th.length c1, .slice p2 el.length c2, .int .i64 (f : Int), .int .i64 (t : Int)] 111)).alloc (.cells #[.slice q l.length c, .slice fq fs.length fc, .int .i64 0, .func (.func 49) #[] #[], .func (.func 78) #[] #[]] 104))) hg (k := w.heap.size) (Nat.le_refl _) (by omega))
 have hfs := hid (hL.fresh (w' := (((w.alloc (.cells #[.slice q l.length c, .slice fq fs.length fc, .int .i64 (bk : Int), .func (.func pw) #[] cw, .func (.func ph) #[] ch] 104)).alloc (.cells #[.int .i64 (k : Int), .string x, .int .i64 (a : Int), .int .i64 (lb : Int), .bool o, .int .i64 (ek : Int), .string ex, .int .i64 (en : Int), .slice ep eal.length ec, .int .i64 (ef : Int), .int .i64 (et : Int), .slice p1 th.length c1, .slice p2 el.length c2, .int .i64 (f : Int), .int .i64 (t : Int)] 111)).alloc (.cells #[.slice q l.length c, .slice fq fs.length fc, .int .i64 0, .func (.func 49) #[] #[], .func (.func 78) #[] #[]] 104))) hg (k := w.heap.size + 1) (by omega) (by omega))
 have HY := hid (And.intro y0 (And.intro y1 (And.intro y2 (And.intro y3 y4))))
 have HQ := hid (And.intro q0 (And.intro q1 (And.intro q2 (And.intro q3 (And.intro q4 (And.intro q5 (And.intro q6 (And.intro q7 (And.intro q8 (And.intro q9 (And.intro q10 (And.intro q11 (And.intro q12 (And.intro q13 q14))))))))))))))
 have HS0 := hid hst
 have HC := hid (fl_secret_any (bk := 0) (fc := fc) (lsSilent hL L) ne D _ [] env sv (exMk ek ex en eal ef et) _ u hk1 hg1 hs1 hE1 (by have := hx u; rw [noF_ap] at this; rw [List.nil_append]; omega))
 rw [← List.append_assoc]
 generalize lbX l env u (exMk ek ex en eal ef et) = lbx at *
 have HC2f := hid (fun (W : World) (D' : Option Nat) (h : Stp bo D D' (((w.alloc (.cells #[.slice q l.length c, .slice fq fs.length fc, .int .i64 (bk : Int), .func (.func pw) #[] cw, .func (.func ph) #[] ch] 104)).alloc (.cells #[.int .i64 (k : Int), .string x, .int .i64 (a : Int), .int .i64 (lb : Int), .bool o, .int .i64 (ek : Int), .string ex, .int .i64 (en : Int), .slice ep eal.length ec, .int .i64 (ef : Int), .int .i64 (et : Int), .slice p1 th.length c1, .slice p2 el.length c2, .int .i64 (f : Int), .int .i64 (t : Int)] 111)).alloc (.cells #[.slice q l.length c, .slice fq fs.length fc, .int .i64 0, .func (.func 49) #[] #[], .func (.func 78) #[] #[]] 104)) W) (h1 : G W L D') => fl_secret_any (bk := bk) (fc := fc) hL ne D' W L env sv (exMk ek ex en eal ef et) _ lbx (hk1.step h) h1 (hs1.step h) (hE1.stp h) (by have := hx lbx; omega))
 have HB2f := hid (fun (W : World) (D' : Option Nat) (h : Stp bo D D' (((w.alloc (.cells #[.slice q l.length c, .slice fq fs.length fc, .int .i64 (bk : Int), .func (.func pw) #[] cw, .func (.func ph) #[] ch] 104)).alloc (.cells #[.int .i64 (k : Int), .string x, .int .i64 (a : Int), .int .i64 (lb : Int), .bool o, .int .i64 (ek : Int), .string ex, .int .i64 (en : Int), .slice ep eal.length ec, .int .i64 (ef : Int), .int .i64 (et : Int), .slice p1 th.length c1, .slice p2 el.length c2, .int .i64 (f : Int), .int .i64 (t : Int)] 111)).alloc (.cells #[.slice q l.length c, .slice fq fs.length fc, .int .i64 0, .func (.func 49) #[] #[], .func (.func 78) #[] #[]] 104)) W) (h1 : G W (L ++ fvX l fs env lbx (exMk ek ex en eal ef et)) D') => hB D' W (L ++ fvX l fs env lbx (exMk ek ex en eal ef et)) env sv th p1 c1 lbx m ct (hk1.step h) h1 (hs1.step h) (hT1.kept (okS.step h).1 (okS.step h).2 (RdS.kept n (okS.step h).1 (okS.step h).2)) hw (hx lbx))
 generalize fvX l fs env lbx (exMk ek ex en eal ef et) = X at *
 have F1 : Hid (1 = 1) := rfl
 clear hb1 hb2 hb3 hs hk hg hE hne e1 e3 hst hx hw hT hT1 hE1 hs1 hg1 hk1
 go_enter Tryz.func132, Tryz.ntmps132
 go_wp2_with (first
  | (go_at_call 130; have ff := F1; clear ff F1; refine Calls.mono HC.out ?_; rintro e w2 ⟨rfl, D2, hG2, hS2⟩; have r0 := (okS_cell hS2 hfw.out 0).trans HY.out.1; have r1 := (okS_cell hS2 hfw.out 1).trans HY.out.2.1; have r2 := (okS_cell hS2 hfw.out 2).trans HY.out.2.2.1; have r3 := (okS_cell hS2 hfw.out 3).trans HY.out.2.2.2.1; have r4 := (okS_cell hS2 hfw.out 4).trans HY.out.2.2.2.2; have s0 := (okS_cell hS2 hfs.out 0).trans HQ.out.1; have s1 := (okS_cell hS2 hfs.out 1).trans HQ.out.2.1; have s2 := (okS_cell hS2 hfs.out 2).trans HQ.out.2.2.1; have s3 := (okS_cell hS2 hfs.out 3).trans HQ.out.2.2.2.1; have s4 := (okS_cell hS2 hfs.out 4).trans HQ.out.2.2.2.2.1; have s5 := (okS_cell hS2 hfs.out 5).trans HQ.out.2.2.2.2.2.1; have s6 := (okS_cell hS2 hfs.out 6).trans HQ.out.2.2.2.2.2.2.1; have s7 := (okS_cell hS2 hfs.out 7).trans HQ.out.2.2.2.2.2.2.2.1; have s8 := (okS_cell hS2 hfs.out 8).trans HQ.out.2.2.2.2.2.2.2.2.1; have s9 := (okS_cell hS2 hfs.out 9).trans HQ.out.2.2.2.2.2.2.2.2.2.1; have s10 := (okS_cell hS2 hfs.out 10).trans HQ.out.2.2.2.2.2.2.2.2.2.2.1; have s11 := (okS_cell hS2 hfs.out 11).trans HQ.out.2.2.2.2.2.2.2.2.2.2.2.1; have s12 := (okS_cell hS2 hfs.out 12).trans HQ.out.2.2.2.2.2.2.2.2.2.2.2.2.1; have s13 := (okS_cell hS2 hfs.out 13).trans HQ.out.2.2.2.2.2.2.2.2.2.2.2.2.2.1; have s14 := (okS_cell hS2 hfs.out 14).trans HQ.out.2.2.2.2.2.2.2.2.2.2.2.2.2.2; have HC2 := hid (HC2f.out w2 D2 hS2 hG2); clear y0 y1 y2 y3 y4 q0 q1 q2 q3 q4 q5 q6 q7 q8 q9 q10 q11 q12 q13 q14)
  | (go_at_call 130; refine Calls.mono HC2.out ?_; rintro e w3 ⟨rfl, D3, hG3, hS3⟩; have hS4 := hS2.trans hS3; have ra0 := (okS_cell hS4 hfw.out 0).trans HY.out.1; have ra1 := (okS_cell hS4 hfw.out 1).trans HY.out.2.1; have ra2 := (okS_cell hS4 hfw.out 2).trans HY.out.2.2.1; have ra3 := (okS_cell hS4 hfw.out 3).trans HY.out.2.2.2.1; have ra4 := (okS_cell hS4 hfw.out 4).trans HY.out.2.2.2.2; have sa11 := (okS_cell hS4 hfs.out 11).trans HQ.out.2.2.2.2.2.2.2.2.2.2.2.1; have HB2 := hid (HB2f.out w3 D3 hS4 hG3); clear r0 r1 r2 r3 r4 s0 s1 s2 s3 s4 s5 s6 s7 s8 s9 s10 s11 s12 s13 s14)
  | (go_at_call 81; refine Calls.mono HB2.out ?_; rintro e w5 ⟨rfl, D5, hG5, hS5⟩))
 trace_state
 go_end0
 exact ⟨rfl, D5, hG5, (HS0.out.trans hS4).trans hS5⟩
end
end Go.Proofs.YtdkpfnohdknldaaGreatDoor
namespace Go.Proofs.YtdkpfnohdknldaaGreatDoor
open Go.RowKit
set_option linter.unusedVariables false
attribute [local go_sem ↓] Go.wp_at_zero Go.wp_at_succ
theorem fvY_mk (l : List (Int × It)) (fs : List Nat) (bk u : Nat) (env : Env) (k : Nat) (x : ByteArray) (a lb : Nat) (o : Bool) (e : Tr) (th el : List Tr) (f t : Nat) : fvY l fs bk u env (stMk k x a lb o e th el f t) =
  if k = 1 then fvX l fs env u e ++ (if o then [] else opF (lbX l env u e) lb f t x)
  else if k = 2 then fvX l fs env u e ++ opF (lbX l env u e) (envN env x) f t x
  else if k = 5 then fvX l fs env u e ++ (match chL l x with | some b => opF (lbX l env u e) b f t x | none => [])
  else if k = 6 then fvX l fs env u e ++ opF (lbX l env u e) bk f t x
  else if k = 7 then fvX l fs env u e
  else if k = 3 then fvX l fs env u e ++ fvB l fs bk (lbX l env u e) env th ++ fvB l fs bk (lbX l env u e) env el
  else if k = 4 then fvX l fs env (lbX l env u e) e ++ fvB l fs bk (lbX l env u e) env th
  else [] := by
 rw [fvY_eq, stK_mk, stX_mk, stE_mk, stTh_mk, stEl_mk, stO_mk, stL_mk, stF_mk, stT_mk]
 rfl
theorem scF_mk (l : List (Int × It)) (u : Nat) (env : Env) (k : Nat) (x : ByteArray) (a lb : Nat) (o : Bool) (e : Tr) (th el : List Tr) (f t : Nat) : scF l env u (stMk k x a lb o e th el f t) = if k = 1 then scMk env x (if o then lbX l env u e else lb) else env := by
 unfold scF
 rw [stK_mk, stX_mk, stE_mk, stO_mk, stL_mk]
end Go.Proofs.YtdkpfnohdknldaaGreatDoor

/- Texts of this seat, one behind the other: RxSi, RxS3, RxB. -/
import Derived.Test.YtjpmnholpeidmaaZb46
import Derived.Deep.RegionHeld3
import Derived.BigRegion
import Derived.Test.YtjpmnholpeidmaaZb47
import Derived.Test.YtjpmnholpeidmaaZb48
import Derived.Test.YtjpmnholpeidmaaZb49
import Derived.Test.YtjpmnholpeidmaaZb10
import Derived.Deep.CutRange
namespace Go.Proofs.Ytjpmnholpeidmaa
open Go.RowKit Go.WideMaps Go.Maps
set_option linter.unusedVariables false
attribute [local go_sem ↓] Go.wp_at_zero Go.wp_at_succ
section
variable {gp : Nat} {w : World} {L : List Tok} {sz dp : Nat} {ds : List Dg} {D : Option Nat}
set_option maxHeartbeats 16000000 in
set_option maxRecDepth 100000 in
theorem stm_whileQ (i : Nat) (f : Nat) (hB : XBC L sz f) (hf : 2 * (L.length - i) ≤ f) (hp : QSt gp w L sz ds dp D) (hil : i < L.length) (hds : ds.length + 8 * (L.length - i) + 10000 ≤ 1099511627776) (hn_let : (tk L sz i).x ≠ kLet) (hn_if : (tk L sz i).x ≠ kIf) (hw : (tk L sz i).x = kWhile) :
    Calls Try.prog 79 #[.pointer (some ⟨gp, 0, none⟩), .int .i64 (i : Int)] w fun e w' => ∃ v s j, e = .returned (.tuple #[v, .int .i64 ((j : Nat) : Int)]) ∧ XS gp L sz dp D ds w w' i j s v := by
  have hlen := hp.len
  have hsiz := hp.siz
  have hgp := hp.gp_lt
  have hokL : ∀ t ∈ L, okT t := fun t ht => (hp.end_ t ht).2.1
  have htk := tk_smallQ hp i
  have hx : (tk L sz i).x.size ≤ maxLen := by unfold maxLen; omega
  have hb0 := (Below.refl w.heap.size w).alloc (Nat.le_refl _) (.cells #[.int .i64 0, .string ⟨#[]⟩, .int .i64 0, .int .i64 0, .bool false, .int .i64 0, .string ⟨#[]⟩, .int .i64 0, .slice none 0 0, .int .i64 0, .int .i64 0, .slice none 0 0, .slice none 0 0, .int .i64 0, .int .i64 0] 104)
  have hp0 := hp.below hb0
  have hfd := fun w2 => (tkFieldQ ((tk L sz i).k : Int) ((tk L sz i).a : Int) (tk L sz i).x w2).1
  have hfx := fun w2 => (tkFieldQ ((tk L sz i).k : Int) ((tk L sz i).a : Int) (tk L sz i).x w2).2
  have hfd1 := fun w2 => (tkFieldQ ((tk L sz (i + 1)).k : Int) ((tk L sz (i + 1)).a : Int) (tk L sz (i + 1)).x w2).1
  have hx_let : ((tk L sz i).x.toList == [108, 101, 116]) = false := bne_of _ ⟨#[108, 101, 116]⟩ hn_let
  have hx_if : ((tk L sz i).x.toList == [105, 102]) = false := bne_of _ ⟨#[105, 102]⟩ hn_if
  have hw2 : Hid ((tk L sz i).x = kWhile) := hw
  have hx_while : ((tk L sz i).x.toList == [119, 104, 105, 108, 101]) = true := by rw [hw]; decide +kernel
  clear hw
  have G1 : Hid (1 = 1) := rfl
  have G2 : Hid (2 = 2) := rfl
  have FN : Hid (3 = 3) := rfl
  have F1 : Hid (1 = 1) := rfl
  have F2 : Hid (2 = 2) := rfl
  go_enter Try.func79, Try.ntmps79
  go_wp2_with (first
    | (go_at_call 38; have f := G1; clear f G1; refine (refT_any hp0 i (by omega)).mono ?_; rintro e w1 ⟨rfl, hb1⟩; unfold tkV; have hp1 := hp0.below hb1; have hb2 := (Below.refl w1.heap.size w1).alloc (Nat.le_refl _) (.cells #[.int .i64 0, .string ⟨#[]⟩, .int .i64 0, .int .i64 0, .bool false, .int .i64 0, .string ⟨#[]⟩, .int .i64 0, .slice none 0 0, .int .i64 0, .int .i64 0, .slice none 0 0, .slice none 0 0, .int .i64 ((tk L sz i).a : Int), .int .i64 0] 104); have hp2 := hp1.below hb2)
    | (go_at_call 38; have f := G2; clear f G2; refine (refT_any hp2 i (by omega)).mono ?_; rintro e w3 ⟨rfl, hb3⟩; unfold tkV; have hS0 : SB gp w1.heap.size L sz dp ds D D (w.alloc (.cells #[.int .i64 0, .string ⟨#[]⟩, .int .i64 0, .int .i64 0, .bool false, .int .i64 0, .string ⟨#[]⟩, .int .i64 0, .slice none 0 0, .int .i64 0, .int .i64 0, .slice none 0 0, .slice none 0 0, .int .i64 0, .int .i64 0] 104)) w3 #[.int .i64 0, .string ⟨#[]⟩, .int .i64 0, .int .i64 0, .bool false, .int .i64 0, .string ⟨#[]⟩, .int .i64 0, .slice none 0 0, .int .i64 0, .int .i64 0, .slice none 0 0, .slice none 0 0, .int .i64 ((tk L sz i).a : Int), .int .i64 0] := ⟨hp2.below hb3, Stp.below (hb1.trans ((hb2.trans (hb3.mono hb2.size)).mono hb1.size)), hp1.gp_lt, hp1.ne, (hb3.block _ (by simp)).trans (heap_alloc_new w1 _), hb1.size⟩; have hzb : w.heap.size + 1 ≤ w1.heap.size := (by have h := hb1.size; simp at h; omega); have hn1 : ¬ w.heap.size = w1.heap.size := (by omega); have hn2 : ¬ w1.heap.size = w.heap.size := (by omega); have hn3 : ¬ gp = w1.heap.size := (by have h := hS0.g; omega); have hn4 : ¬ w1.heap.size = gp := (by have h := hS0.g; omega); clear hp0 hp1 hp2 hb0 hb1 hb2 hb3; obtain ⟨y0_0, y0_1, y0_2, y0_3, y0_4, y0_5, y0_6, y0_7, y0_8, y0_9, y0_10, y0_11, y0_12, y0_13, y0_14, y0_15⟩ := fif_at hS0.k; have hmm := @run_makeMap Try.prog; have ho0 := World.ownsMap_made w3 Try.prog 9 (plainElem (H := Unit) Try.prog 3); obtain ⟨wm1, hr1, ho1, hg1⟩ := ho0.update strK Try.underlying168 (by decide) (keySQ ⟨#[105, 102]⟩ (by decide)) (plI 3 (by decide)); obtain ⟨wm2, hr2, ho2, hg2⟩ := ho1.update strK Try.underlying168 (by decide) (keySQ ⟨#[119, 104, 105, 108, 101]⟩ (by decide)) (plI 4 (by decide)); obtain ⟨cm, hr3, hat, hat2⟩ := ho2.lookup_int strK Try.underlying168 Try.underlying3 (zeroInt _) (keySQ (tk L sz i).x hx); have hcm : cm = 4 := (by rw [hw2.out] at hat; simp [DataW.put, DataW.insert, DataW.atKey, Lit.sameKey, Lit.before, bytesBefore, kWhile] at hat; omega); subst hcm; have hbm0 := (Below.refl w3.heap.size w3).alloc (Nat.le_refl _) (.map #[] 0); have hbm1 := hbm0.grown hg1 hbm0.size (fun j hj => by cases hj; exact Nat.le_refl _); have hbm2 := hbm1.grown hg2 hbm1.size (fun j hj => by cases hj; exact Nat.le_refl _); have hS1 := hS0.below hbm2; clear ho0 ho1 ho2 hg1 hg2 hat hat2 hbm0 hbm1 hbm2 y0_0 y0_1 y0_2 y0_3 y0_4 y0_5 y0_6 y0_7 y0_8 y0_9 y0_10 y0_11 y0_12 y0_13 y0_14 y0_15; obtain ⟨y1_0, y1_1, y1_2, y1_3, y1_4, y1_5, y1_6, y1_7, y1_8, y1_9, y1_10, y1_11, y1_12, y1_13, y1_14, y1_15⟩ := fif_at hS1.k; have hS2 := (hS1.set 0 (.int .i64 4)).lit (ct := #[.int .i64 4, .string ⟨#[]⟩, .int .i64 0, .int .i64 0, .bool false, .int .i64 0, .string ⟨#[]⟩, .int .i64 0, .slice none 0 0, .int .i64 0, .int .i64 0, .slice none 0 0, .slice none 0 0, .int .i64 ((tk L sz i).a : Int), .int .i64 0]) rfl)
    | (go_at_call 101; have f := F1; clear f F1; refine (refExpr_any hS2.p (i + 1) (by omega) (by (try simp only [List.length_append]); omega)).mono ?_; rintro e w10 ⟨v5, x5, j5, rfl, D5, n5, ds5, hp5, hs5, hr5, hz5, hi5, hj5, hd5, he5⟩; obtain ⟨k4, x4, m4, p4, l4, c4, rfl⟩ := hr5.shape; have hS3 := hS2.step hp5 hs5; clear y1_0 y1_1 y1_2 y1_3 y1_4 y1_5 y1_6 y1_7 y1_8 y1_9 y1_10 y1_11 y1_12 y1_13 y1_14 y1_15; obtain ⟨y2_0, y2_1, y2_2, y2_3, y2_4, y2_5, y2_6, y2_7, y2_8, y2_9, y2_10, y2_11, y2_12, y2_13, y2_14, y2_15⟩ := fif_at hS3.k; have hS4 := (hS3.six (.int .i64 (k4 : Int)) (.string x4) (.int .i64 (m4 : Int)) (.slice p4 l4 c4) (.int .i64 (exF x5 : Int)) (.int .i64 (exT x5 : Int))).lit (ct := #[.int .i64 4, .string ⟨#[]⟩, .int .i64 0, .int .i64 0, .bool false, .int .i64 (k4 : Int), .string x4, .int .i64 (m4 : Int), .slice p4 l4 c4, .int .i64 (exF x5 : Int), .int .i64 (exT x5 : Int), .slice none 0 0, .slice none 0 0, .int .i64 ((tk L sz i).a : Int), .int .i64 0]) rfl; have hrE := (((((((hr5.base (B' := w1.heap.size + 1) hS2.lt).set (Nat.lt_succ_self _) 5 (.int .i64 (k4 : Int))).set (Nat.lt_succ_self _) 6 (.string x4)).set (Nat.lt_succ_self _) 7 (.int .i64 (m4 : Int))).set (Nat.lt_succ_self _) 8 (.slice p4 l4 c4)).set (Nat.lt_succ_self _) 9 (.int .i64 (exF x5 : Int))).set (Nat.lt_succ_self _) 10 (.int .i64 (exT x5 : Int))); (try simp only [List.length_append] at hd5 he5))
    | (go_at_call 64; have f := F2; clear f F2; refine (hB gp _ _ dp _ j5 hS4.p (by omega) (by omega) (by omega)).mono ?_; rintro e w11 ⟨l6, p6, c6, j6, rfl, D6, n6, ds6, hp6, hs6, ht6, hl6, hz6, hi6, hj6, hd6, he6, hg6, hw6⟩; have hS5 := hS4.step hp6 hs6; clear y2_0 y2_1 y2_2 y2_3 y2_4 y2_5 y2_6 y2_7 y2_8 y2_9 y2_10 y2_11 y2_12 y2_13 y2_14 y2_15; obtain ⟨y3_0, y3_1, y3_2, y3_3, y3_4, y3_5, y3_6, y3_7, y3_8, y3_9, y3_10, y3_11, y3_12, y3_13, y3_14, y3_15⟩ := fif_at hS5.k; have hS6 := (hS5.set 11 (.slice p6 l6.length c6)).lit (ct := #[.int .i64 4, .string ⟨#[]⟩, .int .i64 0, .int .i64 0, .bool false, .int .i64 (k4 : Int), .string x4, .int .i64 (m4 : Int), .slice p4 l4 c4, .int .i64 (exF x5 : Int), .int .i64 (exT x5 : Int), .slice p6 l6.length c6, .slice none 0 0, .int .i64 ((tk L sz i).a : Int), .int .i64 0]) rfl; have hrE6 := (hrE.step hs6).set (Nat.lt_succ_self _) 11 (.slice p6 l6.length c6); have hT6 := (ht6.baseQ (B' := w1.heap.size + 1) hS4.lt).setQ (Nat.lt_succ_self _) 11 (.slice p6 l6.length c6); have HPz : RelPQ gp L sz dp D ds (w.alloc (.cells #[.int .i64 0, .string ⟨#[]⟩, .int .i64 0, .int .i64 0, .bool false, .int .i64 0, .string ⟨#[]⟩, .int .i64 0, .slice none 0 0, .int .i64 0, .int .i64 0, .slice none 0 0, .slice none 0 0, .int .i64 0, .int .i64 0] 104)) w1.heap.size i j6 _ _ 4 noB 0 0 false x5 l6 [] k4 x4 m4 p4 l4 c4 (exF x5) (exT x5) p6 c6 none 0 (j5 - (i + 1)) (j6 - j5) 0 _ 2 0 := ⟨by omega, by omega, hS6, ⟨_, hrE6⟩, ⟨_, hT6⟩, ⟨_, SlT.noneQ (rd := RdS 0 _ _)⟩, (by omega), hl6, by simp, hz5, hz6, ⟨0, trivial⟩, .inl ⟨rfl, by have := s5v; omega⟩, by omega, (by simp), (by simp), .inr rfl, by omega, by omega, by omega, by omega, (fun h => ⟨by omega, hg6 (by omega), rfl⟩), (by simpa [colB] using hw6.wide hp (by omega) hj5 (Nat.le_refl _) hj6), (fun _ => by omega), (fun _ => by omega)⟩; have HP := hidQ HPz; clear HPz)
    | (go_at_call 102; refine (refEnd_any hS6.p j6 (by omega)).mono ?_; rintro e w8 ⟨rfl, m8, hw8⟩; have hbd := below_of_drewN hw8; clear hw8; have hS90 := hS6.below hbd; obtain ⟨x9_0, x9_1, x9_2, x9_3, x9_4, x9_5, x9_6, x9_7, x9_8, x9_9, x9_10, x9_11, x9_12, x9_13, x9_14, x9_15⟩ := fif_at hS90.k; obtain ⟨hl1, hl2, hl3⟩ := laid hp hS90.s; have r0 := hl3 0 _ rfl; have r1 := hl3 1 _ rfl; have r2 := hl3 2 _ rfl; have r3 := hl3 3 _ rfl; have r4 := hl3 4 _ rfl; have r5 := hl3 5 _ rfl; have r6 := hl3 6 _ rfl; have r7 := hl3 7 _ rfl; have r8 := hl3 8 _ rfl; have r9 := hl3 9 _ rfl; have r10 := hl3 10 _ rfl; have r11 := hl3 11 _ rfl; have r12 := hl3 12 _ rfl; have r13 := hl3 13 _ rfl; have r14 := hl3 14 _ rfl; clear hl3; have HPe := hidQ (RelPQ.below HP.out hbd)))
  · exact bodyPost_ret (v := .tuple #[.agg #[.int .i64 4, .string ⟨#[]⟩, .int .i64 0, .int .i64 0, .bool false, .int .i64 (k4 : Int), .string x4, .int .i64 (m4 : Int), .slice p4 l4 c4, .int .i64 (exF x5 : Int), .int .i64 (exT x5 : Int), .slice p6 l6.length c6, .slice none 0 0, .int .i64 ((tk L sz i).a : Int), .int .i64 ((tk L sz i).a : Int)], .int .i64 ((j6 : Nat) : Int)]) (by simp [results, Try.results79, go_sem, r0, r1, r2, r3, r4, r5, r6, r7, r8, r9, r10, r11, r12, r13, r14]) rfl ⟨_, stMk 4 noB 0 0 false x5 l6 [] (tk L sz i).a (tk L sz i).a, j6, rfl, RelPQ.fin1 hp HPe.out _ _ _ _ _ _ _ _ _ _ _ _ _ _ _⟩
  · exact bodyPost_ret (v := .tuple #[.agg #[.int .i64 4, .string ⟨#[]⟩, .int .i64 0, .int .i64 0, .bool false, .int .i64 (k4 : Int), .string x4, .int .i64 (m4 : Int), .slice p4 l4 c4, .int .i64 (exF x5 : Int), .int .i64 (exT x5 : Int), .slice p6 l6.length c6, .slice none 0 0, .int .i64 ((tk L sz i).a : Int), .int .i64 (endT L sz j6 : Int)], .int .i64 ((j6 : Nat) : Int)]) (by simp [results, Try.results79, go_sem, r0, r1, r2, r3, r4, r5, r6, r7, r8, r9, r10, r11, r12, r13, r14]) rfl ⟨_, stMk 4 noB 0 0 false x5 l6 [] (tk L sz i).a (endT L sz j6), j6, rfl, RelPQ.fin0 hp HPe.out _ _ _ _ _ _ _ _ _ _ _ _ _ _ _⟩
end
end Go.Proofs.Ytjpmnholpeidmaa

namespace Go.Proofs.Ytjpmnholpeidmaa
open Go.RowKit Go.WideMaps Go.Maps
set_option linter.unusedVariables false
attribute [local go_sem ↓] Go.wp_at_zero Go.wp_at_succ
section
variable {gp : Nat} {w : World} {L : List Tok} {sz dp : Nat} {ds : List Dg} {D : Option Nat}
theorem xStmt_any (f : Nat) (hB : XBC L sz f) (hp : QSt gp w L sz ds dp D) (i : Nat) (hil : i < L.length) (hds : ds.length + 8 * (L.length - i) + 10000 ≤ 1099511627776) (hf : 2 * (L.length - i) ≤ f) :
    Calls Try.prog 79 #[.pointer (some ⟨gp, 0, none⟩), .int .i64 (i : Int)] w fun e w' => ∃ v s j, e = .returned (.tuple #[v, .int .i64 ((j : Nat) : Int)]) ∧ XS gp L sz dp D ds w w' i j s v := by
  by_cases h1 : (tk L sz i).x = kLet
  · cases hC : isT L (pNamed L sz (i + 1)).i (bs1 58)
    · exact stm_letO hp i hil hds h1 hC
    · exact stm_letL hp i hil hds h1 hC
  by_cases h2 : (tk L sz i).x = kIf
  · exact stm_ifQ i f hB hf hp hil hds h1 h2
  by_cases h3 : (tk L sz i).x = kWhile
  · exact stm_whileQ i f hB hf hp hil hds h1 h2 h3
  by_cases h4 : (tk L sz i).x = kSend
  · exact stm_snd hp i hil hds h1 h2 h3 h4
  by_cases h5 : (tk L sz i).x = kReturn
  · exact stm_ret hp i hil hds h1 h2 h3 h4 h5
  cases hN : nmB (tk L sz i).x
  · exact stm_badQ hp i hil hds h1 h2 h3 h4 h5 hN
  · cases hI : isT L (i + 1) (bs1 61)
    · exact stm_doQ hp i hil hds h1 h2 h3 h4 h5 hN hI
    · exact stm_setQ hp i hil hds h1 h2 h3 h4 h5 hN hI
end
end Go.Proofs.Ytjpmnholpeidmaa

namespace Go.Proofs.Ytjpmnholpeidmaa
open Go.RowKit
set_option linter.unusedVariables false
attribute [local go_sem ↓] Go.wp_at_zero Go.wp_at_succ
/-- Where the reading of a block stands: its statements so far. -/
def RelBQ (gp : Nat) (L : List Tok) (sz dp : Nat) (D : Option Nat) (ds : List Dg) (W : World) (i0 : Nat) (i v : Value) (wr : World) : Prop :=
  ∃ (k : Nat) (ds' : List Dg) (D' : Option Nat) (n : Nat) (l : List Tr), i = .int .i64 (k : Int) ∧ i0 + 1 ≤ k ∧ k ≤ L.length ∧ QSt gp wr L sz ds' (dp + 1) D' ∧ Stp gp D D' W wr ∧ Row (RdS n) 104 15 W.heap.size gp D' wr v l ∧ l.length ≤ 40 ∧ (∃ m, wfL (zS L m) (k - (i0 + 1)) l) ∧ ds.length ≤ ds'.length ∧ ds'.length + 8 * (L.length - k) + 8 ≤ ds.length + 8 * (L.length - i0) ∧ (ds'.length = ds.length → colB bdF l = []) ∧ InS L sz (i0 + 1) k (colB ltF l)
theorem row_slt {gp B n : Nat} {D : Option Nat} {w : World} {v : Value} {l : List Tr} (h : Row (RdS n) 104 15 B gp D w v l) (hl : l.length ≤ 1099511627776) : ∃ p c, v = .slice p l.length c ∧ SlT (okS B gp D w) (RdS n (okS B gp D w) w) w 15 l p := by
  obtain ⟨p, cap, rfl, hd⟩ := h.done (kept_S n)
  refine ⟨p, cap, rfl, hl, fun h0 => ?_⟩
  obtain ⟨g, e1, e2, e3⟩ := hd h0
  refine ⟨g, e1, e2, fun j a hj => ?_⟩
  obtain ⟨c, _, h2, h3⟩ := e3 j a hj
  exact ⟨_, h2, h3⟩
theorem infoStQ : (Try.prog.info? 104).map (fun i => (i.zero, i.size, i.bytes)) = some (some (.agg #[.int .i64 0, .string ⟨#[]⟩, .int .i64 0, .int .i64 0, .bool false, .int .i64 0, .string ⟨#[]⟩, .int .i64 0, .slice none 0 0, .int .i64 0, .int .i64 0, .slice none 0 0, .slice none 0 0, .int .i64 0, .int .i64 0]), 15, 184) := by kernel_rfl
section
variable {gp : Nat} {w : World} {L : List Tok} {sz dp : Nat} {ds : List Dg} {D : Option Nat}
set_option maxHeartbeats 8000000 in
set_option maxRecDepth 100000 in
theorem xBlock_any (f : Nat) (hS : XSC L sz f) (hp : QSt gp w L sz ds dp D) (i : Nat) (hi : i ≤ L.length) (hf : 2 * (L.length - i) ≤ f) (hds : ds.length + 8 * (L.length - i) + 10000 ≤ 1099511627776) :
    Calls Try.prog 64 #[.pointer (some ⟨gp, 0, none⟩), .int .i64 (i : Int)] w fun e w' => ∃ l p c j, e = .returned (.tuple #[.slice p (l : List Tr).length c, .int .i64 ((j : Nat) : Int)]) ∧ XB gp L sz dp D ds w w' i j l p := by
  have hlen := hp.len
  have hgp := hp.gp_lt
  have hdp := hp.dp1
  obtain ⟨i0, hi0, hz0, hz1, hz2⟩ := info_parts infoStQ
  go_enter Try.func64, Try.ntmps64
  cases hI : isT L i (bs1 123)
  · have hN : pNeed L sz i (bs1 123) = ⟨false, i, [bad L sz i 2]⟩ := by unfold pNeed; rw [hI]; rfl
    go_wp2_with (first
      | (go_at_call 40; refine (refNeed_any hp i (by omega) (bs1 123) (by omega)).mono ?_; rintro e w1 ⟨rfl, D1, hp1, hs1⟩; rw [hN] at hp1 ⊢))
    exact bodyPost_ret (v := .tuple #[.slice none 0 0, .int .i64 (i : Int)]) (by simp [results, Try.results64, go_sem]) rfl ⟨[], none, 0, i, rfl, D1, 0, _, hp1, hs1, SlT.noneQ, by simp, ⟨0, trivial⟩, Nat.le_refl _, hi, by simp, by simp; omega, fun _ => rfl, InS.nil⟩
  · have hN : pNeed L sz i (bs1 123) = ⟨true, i + 1, []⟩ := by unfold pNeed; rw [hI]; rfl
    have hil := isT_in hI
    by_cases h12 : 12 ≤ dp
    · go_wp2_with (first
        | (go_at_call 40; refine (refNeed_any hp i (by omega) (bs1 123) (by omega)).mono ?_; rintro e w1 ⟨rfl, D1, hp1, hs1⟩; rw [hN] at hp1 ⊢; rw [List.append_nil] at hp1; obtain ⟨pp, cc, vv, d0, d1, d2, d3, hfz1, htok1, hown1, hD1⟩ := hp1.cells; clear htok1 hown1)
        | (go_at_call 42; refine (refBad_any hp1 (i + 1) (by omega) 12 (by omega)).mono ?_; rintro e w2 ⟨rfl, D2, hp2, hs2⟩))
      exact bodyPost_ret (v := .tuple #[.slice none 0 0, .int .i64 ((i + 1 : Nat) : Int)]) (by simp [results, Try.results64, go_sem]) rfl ⟨[], none, 0, i + 1, rfl, D2, 0, _, hp2, hs1.trans hs2, SlT.noneQ, by simp, ⟨0, trivial⟩, by omega, by omega, by simp, by simp; omega, fun _ => rfl, InS.nil⟩
    · have hd12 : dp < 12 := by omega
      clear h12
      go_wp2_with (first
        | (go_at_call 40; refine (refNeed_any hp i (by omega) (bs1 123) (by omega)).mono ?_; rintro e w1 ⟨rfl, D1, hp1, hs1⟩; rw [hN] at hp1 ⊢; rw [List.append_nil] at hp1; obtain ⟨pp, cc, vv, d0, d1, d2, d3, hfz1, htok1, hown1, hD1⟩ := hp1.cells; clear htok1 hown1; have hfz3 := hfz1 3; obtain ⟨hp2, hs2⟩ := hp1.setDeep (dp + 1) (by omega); replace hs2 := hs1.trans hs2))
      go_loopw [1, 7] (fun i' v wr => RelBQ gp L sz dp D ds w i i' v wr) (fun i' v _ => upN (L.length + 1) i')
      case atStart => exact ⟨i + 1, ds, D1, 0, [], by go_num, Nat.le_refl _, by omega, hp2, hs2, Row.nil hgp, by simp, ⟨0, trivial⟩, Nat.le_refl _, by omega, fun _ => rfl, InS.nil⟩
      case round =>
        clear hp2 hs2 d0 d1 d2 d3 hfz1 hfz3 hp1 hs1
        obtain ⟨k, ds', D', n, l, rfl, hk1, hkL, hpC, hsC, hrow, hl40, ⟨z, hz⟩, hd1, hd2, hgd, hins⟩ := hrel
        obtain ⟨p, cap, hv, _⟩ := hrow.done (kept_S n)
        subst hv
        obtain ⟨pq, cq, vq, n0, n1, n2, n3, n4, ntok, n6, n7⟩ := hpC.cells
        clear ntok n6 n7
        have hq1 := need_bd (s := bs1 125) (sz := sz) hkL
        have HG := hidQ (And.intro hz (And.intro hgd hins))
        clear hz hgd hins
        by_cases hkl : k < L.length
        · cases hE : isT L k (bs1 125)
          · by_cases h40 : 40 ≤ l.length
            · go_wp2_with (first
                | (go_at_call 36; refine (refIs_any hpC k (by omega) (bs1 125)).mono ?_; rintro e w4 ⟨rfl, hw4⟩; subst w4; rw [hE])
                | (go_at_call 42; refine (refBad_any hpC k (by omega) 5 (by omega)).mono ?_; rintro e w5 ⟨rfl, D5, hp5, hs5⟩; have hsC5 := hsC.trans hs5; have hrow5 := hrow.step (kept_S n) hs5)
                | (go_at_call 40; refine (refNeed_any hp5 k (by omega) (bs1 125) (by simp; omega)).mono ?_; rintro e w7 ⟨rfl, D7, hp7, hs7⟩; generalize pNeed L sz k (bs1 125) = q at *; obtain ⟨hq2, hq3, hq4⟩ := hq1; have hsB := hsC5.trans hs7; have hrow7 := hrow5.step (kept_S n) hs7; obtain ⟨pp, cc, vv, d0, d1, d2, d3, hfz7, htok7, hown7, hD7⟩ := hp7.cells; clear htok7 hown7; have hfy3 := hfz7 3; obtain ⟨hp8, hs8⟩ := hp7.setDeep dp (by omega)))
              obtain ⟨hz, hgd, hins⟩ := HG.out
              obtain ⟨p9, c9, hv9, hsl⟩ := row_slt (hrow7.step (kept_S n) hs8) (by omega)
              injection hv9 with hv1 _ hv2
              subst hv1
              exact bodyPost_ret (v := .tuple #[.slice p l.length cap, .int .i64 (q.i : Int)]) (by simp [results, Try.results64, go_sem]) rfl ⟨l, p, cap, q.i, rfl, D7, n, _, hp8, hsB.trans hs8, hsl, hl40, ⟨z, wfL_up (fun c c' a hc => zS_up L _ _ c c' a (Nat.le_refl _) hc) l _ _ (by omega) hz⟩, by omega, hq3, by simp; omega, by simp; omega, fun h => hgd (by simp at h; omega), hins.wide hp (by omega) (by omega) hq2 hq3⟩
            · have hbytes : (l.length + 1) * 184 ≤ 140737488355328 := by omega
              have hmax : l.length + 1 ≤ maxLen := by unfold maxLen; omega
              clear hq1
              go_wp2_with (first
                | (go_at_call 36; refine (refIs_any hpC k (by omega) (bs1 125)).mono ?_; rintro e w4 ⟨rfl, hw4⟩; subst w4; rw [hE])
                | (go_at_call 79; refine (hS gp _ ds' (dp + 1) D' k hpC hkl (by omega) (by omega)).mono ?_; rintro e w5 ⟨v5, s5, j5, rfl, D5, n5, ds5, hp5, hs5, hr5, hz5, hi5, hj5, hd5, he5, hf5, hg5, hw5⟩; obtain ⟨k0, x0, a0_, b0_, o0, ek, ex, en, ep, el, ec, ef, et, p1, l1, c1, p2, l2, c2, f0, t0, hv⟩ := hr5.shape; subst hv; have hrow5 := hrow.step (kept_S n) hs5; have hsC5 := hsC.trans hs5; have hbA := (Below.refl w5.heap.size w5).alloc (Nat.le_refl _) (.cells #[.int .i64 (k0 : Int), .string x0, .int .i64 (a0_ : Int), .int .i64 (b0_ : Int), .bool o0, .int .i64 (ek : Int), .string ex, .int .i64 (en : Int), .slice ep el ec, .int .i64 (ef : Int), .int .i64 (et : Int), .slice p1 l1 c1, .slice p2 l2 c2, .int .i64 (f0 : Int), .int .i64 (t0 : Int)] 104); have hpA := hp5.below hbA; have hrowA := hrow5.below (kept_S n) hbA; have hsA := hsC5.trans (Stp.below hbA); have hnA := heap_alloc_new w5 (.cells #[.int .i64 (k0 : Int), .string x0, .int .i64 (a0_ : Int), .int .i64 (b0_ : Int), .bool o0, .int .i64 (ek : Int), .string ex, .int .i64 (en : Int), .slice ep el ec, .int .i64 (ef : Int), .int .i64 (et : Int), .slice p1 l1 c1, .slice p2 l2 c2, .int .i64 (f0 : Int), .int .i64 (t0 : Int)] 104); obtain ⟨a0, a1, a2, a3, a4, a5, a6, a7, a8, a9, a10, a11, a12, a13, a14, a15⟩ := fif_at hnA; have hbB := (Below.refl (w5.alloc (.cells #[.int .i64 (k0 : Int), .string x0, .int .i64 (a0_ : Int), .int .i64 (b0_ : Int), .bool o0, .int .i64 (ek : Int), .string ex, .int .i64 (en : Int), .slice ep el ec, .int .i64 (ef : Int), .int .i64 (et : Int), .slice p1 l1 c1, .slice p2 l2 c2, .int .i64 (f0 : Int), .int .i64 (t0 : Int)] 104)).heap.size (w5.alloc (.cells #[.int .i64 (k0 : Int), .string x0, .int .i64 (a0_ : Int), .int .i64 (b0_ : Int), .bool o0, .int .i64 (ek : Int), .string ex, .int .i64 (en : Int), .slice ep el ec, .int .i64 (ef : Int), .int .i64 (et : Int), .slice p1 l1 c1, .slice p2 l2 c2, .int .i64 (f0 : Int), .int .i64 (t0 : Int)] 104))).alloc (Nat.le_refl _) (.cells #[.int .i64 (k0 : Int), .string x0, .int .i64 (a0_ : Int), .int .i64 (b0_ : Int), .bool o0, .int .i64 (ek : Int), .string ex, .int .i64 (en : Int), .slice ep el ec, .int .i64 (ef : Int), .int .i64 (et : Int), .slice p1 l1 c1, .slice p2 l2 c2, .int .i64 (f0 : Int), .int .i64 (t0 : Int)] 104); have hrowB := hrowA.below (kept_S n) hbB; obtain ⟨vs, ho5, _⟩ := hrowB.own; have hz5s := hs5.size; have hzC := hsC.size; have hrE := hr5.step (Stp.below (gp := gp) (D := D5) hbA))
                | (at_builtin; refine wpList_append_lies _ rfl (.tmp 60) (.tmp 62) 32 rfl w.heap.size 104 i0 _ 15 184 Try.underlying32 hi0 hz0 hz1 hz2 rfl (by decide) _ _ _ rfl ho5 ⟨w5.heap.size + 1, 0, none⟩ 1 1 [.int .i64 (k0 : Int), .string x0, .int .i64 (a0_ : Int), .int .i64 (b0_ : Int), .bool o0, .int .i64 (ek : Int), .string ex, .int .i64 (en : Int), .slice ep el ec, .int .i64 (ef : Int), .int .i64 (et : Int), .slice p1 l1 c1, .slice p2 l2 c2, .int .i64 (f0 : Int), .int .i64 (t0 : Int)] rfl rfl (news2 _ _ _ _) (by simp [Value.oneCell']) (by decide) hmax hbytes (by simp; omega) _ rfl ?_; intro g6 cap6 w6 hown6 hgrow6 hat6 hlt6; obtain ⟨hp6, hs6, hrow6, hlow6⟩ := app_stepQ (kept_S (max n n5)) hpA hsA (hrowA.mono (fun _ _ _ _ h => h.le (Nat.le_max_left n n5))) rfl (Nat.le_refl _) (hrE.le (Nat.le_max_right n n5)) (by omega) (fun q e => Nat.lt_of_lt_of_le (hrow.lt e).2 (Nat.le_refl _)) ho5 hown6 hgrow6 hat6))
              · have hjk : j5 = k := by have := ‹((j5 : Int) == (k : Int)) = true›; simp at this; omega
                obtain ⟨hz, hgd, hins⟩ := HG.out
                obtain ⟨z5, hz6⟩ := hz5
                have hwf := wfL_snoc l _ _ s5 (wfL_up (fun c c' a hc => zS_up L _ _ c c' a (Nat.le_max_left z z5) hc) l _ _ (Nat.le_refl _) hz) (zS_up L _ _ _ _ s5 (Nat.le_max_right z z5) (Nat.le_refl _) hz6)
                have hcb := colB_snoc bdF l s5
                have hcl := colB_snoc ltF l s5
                have hap := hins.app hp hw5 (by omega) (Nat.le_refl _) hi5 hj5
                rw [← hcl] at hap
                have hgd2 : ds5.length = ds.length → colB bdF (l ++ [s5]) = [] := fun h => by rw [hcb, hgd (by omega), hg5 (by omega)]; rfl
                go_roundw
                case rel => exact ⟨j5 + 1, ds5, D5, max n n5, l ++ [s5], by go_num, by omega, by omega, hp6, hs6, by simpa using hrow6, by simp; omega, ⟨_, wfL_up (fun c c' a hc => zS_up L _ _ c c' a (Nat.le_refl _) hc) _ _ _ (by omega) hwf⟩, by omega, by omega, hgd2, hap.wide hp (Nat.le_refl _) (by omega) (by omega) (by omega)⟩
                case measure => simp [upN, intOf]; omega
              · have hjk : j5 ≠ k := by have := ‹((j5 : Int) == (k : Int)) = false›; simp at this; omega
                obtain ⟨hz, hgd, hins⟩ := HG.out
                obtain ⟨z5, hz6⟩ := hz5
                have hwf := wfL_snoc l _ _ s5 (wfL_up (fun c c' a hc => zS_up L _ _ c c' a (Nat.le_max_left z z5) hc) l _ _ (Nat.le_refl _) hz) (zS_up L _ _ _ _ s5 (Nat.le_max_right z z5) (Nat.le_refl _) hz6)
                have hcb := colB_snoc bdF l s5
                have hcl := colB_snoc ltF l s5
                have hap := hins.app hp hw5 (by omega) (Nat.le_refl _) hi5 hj5
                rw [← hcl] at hap
                have hgd2 : ds5.length = ds.length → colB bdF (l ++ [s5]) = [] := fun h => by rw [hcb, hgd (by omega), hg5 (by omega)]; rfl
                go_roundw
                case rel => exact ⟨j5, ds5, D5, max n n5, l ++ [s5], by go_num, by omega, by omega, hp6, hs6, by simpa using hrow6, by simp; omega, ⟨_, wfL_up (fun c c' a hc => zS_up L _ _ c c' a (Nat.le_refl _) hc) _ _ _ (by omega) hwf⟩, by omega, by omega, hgd2, hap⟩
                case measure => simp [upN, intOf]; omega
          · go_wp2_with (first
              | (go_at_call 36; refine (refIs_any hpC k (by omega) (bs1 125)).mono ?_; rintro e w4 ⟨rfl, hw4⟩; subst w4; rw [hE])
              | (go_at_call 40; refine (refNeed_any hpC k (by omega) (bs1 125) (by omega)).mono ?_; rintro e w7 ⟨rfl, D7, hp7, hs7⟩; generalize pNeed L sz k (bs1 125) = q at *; obtain ⟨hq2, hq3, hq4⟩ := hq1; have hsB := hsC.trans hs7; have hrow7 := hrow.step (kept_S n) hs7; obtain ⟨pp, cc, vv, d0, d1, d2, d3, hfz7, htok7, hown7, hD7⟩ := hp7.cells; clear htok7 hown7; have hfy3 := hfz7 3; obtain ⟨hp8, hs8⟩ := hp7.setDeep dp (by omega)))
            obtain ⟨hz, hgd, hins⟩ := HG.out
            obtain ⟨p9, c9, hv9, hsl⟩ := row_slt (hrow7.step (kept_S n) hs8) (by omega)
            injection hv9 with hv1 _ hv2
            subst hv1
            exact bodyPost_ret (v := .tuple #[.slice p l.length cap, .int .i64 (q.i : Int)]) (by simp [results, Try.results64, go_sem]) rfl ⟨l, p, cap, q.i, rfl, D7, n, _, hp8, hsB.trans hs8, hsl, hl40, ⟨z, wfL_up (fun c c' a hc => zS_up L _ _ c c' a (Nat.le_refl _) hc) l _ _ (by omega) hz⟩, by omega, hq3, by simp; omega, by simp; omega, fun h => hgd (by simp at h; omega), hins.wide hp (by omega) (by omega) hq2 hq3⟩
        · go_wp2_with (first
            | (go_at_call 40; refine (refNeed_any hpC k (by omega) (bs1 125) (by omega)).mono ?_; rintro e w7 ⟨rfl, D7, hp7, hs7⟩; generalize pNeed L sz k (bs1 125) = q at *; obtain ⟨hq2, hq3, hq4⟩ := hq1; have hsB := hsC.trans hs7; have hrow7 := hrow.step (kept_S n) hs7; obtain ⟨pp, cc, vv, d0, d1, d2, d3, hfz7, htok7, hown7, hD7⟩ := hp7.cells; clear htok7 hown7; have hfy3 := hfz7 3; obtain ⟨hp8, hs8⟩ := hp7.setDeep dp (by omega)))
          obtain ⟨hz, hgd, hins⟩ := HG.out
          obtain ⟨p9, c9, hv9, hsl⟩ := row_slt (hrow7.step (kept_S n) hs8) (by omega)
          injection hv9 with hv1 _ hv2
          subst hv1
          exact bodyPost_ret (v := .tuple #[.slice p l.length cap, .int .i64 (q.i : Int)]) (by simp [results, Try.results64, go_sem]) rfl ⟨l, p, cap, q.i, rfl, D7, n, _, hp8, hsB.trans hs8, hsl, hl40, ⟨z, wfL_up (fun c c' a hc => zS_up L _ _ c c' a (Nat.le_refl _) hc) l _ _ (by omega) hz⟩, by omega, hq3, by simp; omega, by simp; omega, fun h => hgd (by simp at h; omega), hins.wide hp (by omega) (by omega) hq2 hq3⟩
end
/-- Statements and blocks, with so much fuel. -/
theorem xAllS (L : List Tok) (sz f : Nat) : XSC L sz f ∧ XBC L sz f := by
  induction f with
  | zero =>
    refine ⟨?_, ?_⟩
    · intro gp w ds dp D i hp hi hf; omega
    · intro gp w ds dp D i hp hi hf; omega
  | succ f ih =>
    refine ⟨?_, ?_⟩
    · intro gp w ds dp D i hp hi hf hds
      exact xStmt_any f ih.2 hp i hi hds (by omega)
    · intro gp w ds dp D i hp hi hf hds
      exact xBlock_any f ih.1 hp i hi (by omega) hds
/-- Block, whatever it is called at. -/
theorem refBlock_any {gp : Nat} {w : World} {L : List Tok} {sz dp : Nat} {ds : List Dg} {D : Option Nat} (hp : QSt gp w L sz ds dp D) (i : Nat) (hi : i ≤ L.length) (hds : ds.length + 8 * (L.length - i) + 10000 ≤ 1099511627776) :
    Calls Try.prog 64 #[.pointer (some ⟨gp, 0, none⟩), .int .i64 (i : Int)] w fun e w' => ∃ l p c j, e = .returned (.tuple #[.slice p (l : List Tr).length c, .int .i64 ((j : Nat) : Int)]) ∧ XB gp L sz dp D ds w w' i j l p :=
  (xAllS L sz (2 * (L.length - i) + 2)).2 gp w ds dp D i hp hi (Nat.le_refl _) hds
end Go.Proofs.Ytjpmnholpeidmaa


/- Texts of this seat, one behind the other: RxSa, RxSb. -/
import Derived.Test.YtjpmnholpeidmaaZb46
import Derived.Deep.RegionHeld3
import Derived.BigRegion
namespace Go.Proofs.Ytjpmnholpeidmaa
open Go.RowKit Go.WideMaps Go.Maps
set_option linter.unusedVariables false
attribute [local go_sem ↓] Go.wp_at_zero Go.wp_at_succ
section
variable {gp : Nat} {w : World} {L : List Tok} {sz dp : Nat} {ds : List Dg} {D : Option Nat}
set_option maxHeartbeats 16000000 in
set_option maxRecDepth 100000 in
theorem stm_letO (hp : QSt gp w L sz ds dp D) (i : Nat) (hil : i < L.length) (hds : ds.length + 8 * (L.length - i) + 10000 ≤ 1099511627776) (hw : (tk L sz i).x = kLet) (hC : isT L (pNamed L sz (i + 1)).i (bs1 58) = false) :
    Calls Try.prog 79 #[.pointer (some ⟨gp, 0, none⟩), .int .i64 (i : Int)] w fun e w' => ∃ v s j, e = .returned (.tuple #[v, .int .i64 ((j : Nat) : Int)]) ∧ XS gp L sz dp D ds w w' i j s v := by
  have hlen := hp.len
  have hsiz := hp.siz
  have hgp := hp.gp_lt
  have hokL : ∀ t ∈ L, okT t := fun t ht => (hp.end_ t ht).2.1
  have htk := tk_smallQ hp i
  have hx : (tk L sz i).x.size ≤ maxLen := by unfold maxLen; omega
  have hb0 := (Below.refl w.heap.size w).alloc (Nat.le_refl _) (.cells #[.int .i64 0, .string ⟨#[]⟩, .int .i64 0, .int .i64 0, .bool false, .int .i64 0, .string ⟨#[]⟩, .int .i64 0, .slice none 0 0, .int .i64 0, .int .i64 0, .slice none 0 0, .slice none 0 0, .int .i64 0, .int .i64 0] 104)
  have hp0 := hp.below hb0
  have hfd := fun w2 => (tkFieldQ ((tk L sz i).k : Int) ((tk L sz i).a : Int) (tk L sz i).x w2).1
  have hfx := fun w2 => (tkFieldQ ((tk L sz i).k : Int) ((tk L sz i).a : Int) (tk L sz i).x w2).2
  have hfd1 := fun w2 => (tkFieldQ ((tk L sz (i + 1)).k : Int) ((tk L sz (i + 1)).a : Int) (tk L sz (i + 1)).x w2).1
  have hx_let : ((tk L sz i).x.toList == [108, 101, 116]) = true := by rw [hw]; decide +kernel
  clear hw
  obtain ⟨a, Ha⟩ : ∃ a, Hid (a = pNamed L sz (i + 1)) := ⟨_, rfl⟩
  obtain ⟨ha1, ha2, ha3⟩ := named_bd (sz := sz) hokL (i := i + 1) (by omega)
  have han := named_tkn (L := L) (sz := sz) (i + 1)
  rw [← Ha.out] at ha1 ha2 ha3 han
  have hnm : Hid ((a.v = noB) ∨ (tkn L a.v (tk L sz (i + 1)).a ∧ a.i = i + 1 + 1)) := han
  clear han
  rw [← Ha.out] at hC
  obtain ⟨c, Hc⟩ : ∃ c, Hid (c = pNeed L sz a.i (bs1 61)) := ⟨_, rfl⟩
  obtain ⟨hc1, hc2, hc3⟩ := need_bd (s := bs1 61) (sz := sz) ha2
  rw [← Hc.out] at hc1 hc2 hc3
  have G1 : Hid (1 = 1) := rfl
  have G2 : Hid (2 = 2) := rfl
  have FN : Hid (3 = 3) := rfl
  have F1 : Hid (1 = 1) := rfl
  have F2 : Hid (2 = 2) := rfl
  have F3 : Hid (3 = 3) := rfl
  have F4 : Hid (4 = 4) := rfl
  have F5 : Hid (5 = 5) := rfl
  go_enter Try.func79, Try.ntmps79
  go_wp2_with (first
    | (go_at_call 38; have f := G1; clear f G1; refine (refT_any hp0 i (by omega)).mono ?_; rintro e w1 ⟨rfl, hb1⟩; unfold tkV; have hp1 := hp0.below hb1; have hb2 := (Below.refl w1.heap.size w1).alloc (Nat.le_refl _) (.cells #[.int .i64 0, .string ⟨#[]⟩, .int .i64 0, .int .i64 0, .bool false, .int .i64 0, .string ⟨#[]⟩, .int .i64 0, .slice none 0 0, .int .i64 0, .int .i64 0, .slice none 0 0, .slice none 0 0, .int .i64 ((tk L sz i).a : Int), .int .i64 0] 104); have hp2 := hp1.below hb2)
    | (go_at_call 38; have f := G2; clear f G2; refine (refT_any hp2 i (by omega)).mono ?_; rintro e w3 ⟨rfl, hb3⟩; unfold tkV; have hS0 : SB gp w1.heap.size L sz dp ds D D (w.alloc (.cells #[.int .i64 0, .string ⟨#[]⟩, .int .i64 0, .int .i64 0, .bool false, .int .i64 0, .string ⟨#[]⟩, .int .i64 0, .slice none 0 0, .int .i64 0, .int .i64 0, .slice none 0 0, .slice none 0 0, .int .i64 0, .int .i64 0] 104)) w3 #[.int .i64 0, .string ⟨#[]⟩, .int .i64 0, .int .i64 0, .bool false, .int .i64 0, .string ⟨#[]⟩, .int .i64 0, .slice none 0 0, .int .i64 0, .int .i64 0, .slice none 0 0, .slice none 0 0, .int .i64 ((tk L sz i).a : Int), .int .i64 0] := ⟨hp2.below hb3, Stp.below (hb1.trans ((hb2.trans (hb3.mono hb2.size)).mono hb1.size)), hp1.gp_lt, hp1.ne, (hb3.block _ (by simp)).trans (heap_alloc_new w1 _), hb1.size⟩; have hzb : w.heap.size + 1 ≤ w1.heap.size := (by have h := hb1.size; simp at h; omega); have hn1 : ¬ w.heap.size = w1.heap.size := (by omega); have hn2 : ¬ w1.heap.size = w.heap.size := (by omega); have hn3 : ¬ gp = w1.heap.size := (by have h := hS0.g; omega); have hn4 : ¬ w1.heap.size = gp := (by have h := hS0.g; omega); clear hp0 hp1 hp2 hb0 hb1 hb2 hb3; obtain ⟨y0_0, y0_1, y0_2, y0_3, y0_4, y0_5, y0_6, y0_7, y0_8, y0_9, y0_10, y0_11, y0_12, y0_13, y0_14, y0_15⟩ := fif_at hS0.k)
    | (go_at_call 38; have f := F1; clear f F1; refine (refT_any hS0.p (i + 1) (by omega)).mono ?_; rintro e w10 ⟨rfl, hb10⟩; unfold tkV; have hS1 := hS0.below hb10; obtain ⟨y1_0, y1_1, y1_2, y1_3, y1_4, y1_5, y1_6, y1_7, y1_8, y1_9, y1_10, y1_11, y1_12, y1_13, y1_14, y1_15⟩ := fif_at hS1.k; have hS2 := ((hS1.set 0 (.int .i64 1)).set 2 (.int .i64 ((tk L sz (i + 1)).a : Int))).lit (ct := #[.int .i64 1, .string ⟨#[]⟩, .int .i64 ((tk L sz (i + 1)).a : Int), .int .i64 0, .bool false, .int .i64 0, .string ⟨#[]⟩, .int .i64 0, .slice none 0 0, .int .i64 0, .int .i64 0, .slice none 0 0, .slice none 0 0, .int .i64 ((tk L sz i).a : Int), .int .i64 0]) rfl)
    | (go_at_call 39; have f := F2; clear f F2; refine (refNamed_any hS2.p (i + 1) (by omega) (by (try simp only [List.length_append]); omega)).mono ?_; rintro e w11 ⟨rfl, ht1⟩; rw [← Ha.out] at ht1 ⊢; obtain ⟨D11, hS3, hst3⟩ := hS2.tol ht1; clear y1_0 y1_1 y1_2 y1_3 y1_4 y1_5 y1_6 y1_7 y1_8 y1_9 y1_10 y1_11 y1_12 y1_13 y1_14 y1_15; obtain ⟨y2_0, y2_1, y2_2, y2_3, y2_4, y2_5, y2_6, y2_7, y2_8, y2_9, y2_10, y2_11, y2_12, y2_13, y2_14, y2_15⟩ := fif_at hS3.k; have hS4 := (hS3.set 1 (.string a.v)).lit (ct := #[.int .i64 1, .string a.v, .int .i64 ((tk L sz (i + 1)).a : Int), .int .i64 0, .bool false, .int .i64 0, .string ⟨#[]⟩, .int .i64 0, .slice none 0 0, .int .i64 0, .int .i64 0, .slice none 0 0, .slice none 0 0, .int .i64 ((tk L sz i).a : Int), .int .i64 0]) rfl)
    | (go_at_call 36; have f := F3; clear f F3; refine (refIs_any hS4.p a.i (by omega) (bs1 58)).mono ?_; rintro e w13 ⟨rfl, hw13⟩; subst w13; rw [hC]; have hS5 := (hS4.set 4 (.bool true)).lit (ct := #[.int .i64 1, .string a.v, .int .i64 ((tk L sz (i + 1)).a : Int), .int .i64 0, .bool true, .int .i64 0, .string ⟨#[]⟩, .int .i64 0, .slice none 0 0, .int .i64 0, .int .i64 0, .slice none 0 0, .slice none 0 0, .int .i64 ((tk L sz i).a : Int), .int .i64 0]) rfl)
    | (go_at_call 40; have f := F4; clear f F4; refine (refNeed_any hS5.p a.i (by omega) (bs1 61) (by (try simp only [List.length_append]); omega)).mono ?_; rintro e w13 ⟨rfl, ht3⟩; rw [← Hc.out] at ht3 ⊢; obtain ⟨D13, hS6, hst6⟩ := hS5.tol ht3; clear y2_0 y2_1 y2_2 y2_3 y2_4 y2_5 y2_6 y2_7 y2_8 y2_9 y2_10 y2_11 y2_12 y2_13 y2_14 y2_15; obtain ⟨y3_0, y3_1, y3_2, y3_3, y3_4, y3_5, y3_6, y3_7, y3_8, y3_9, y3_10, y3_11, y3_12, y3_13, y3_14, y3_15⟩ := fif_at hS6.k)
    | (go_at_call 101; have f := F5; clear f F5; refine (refExpr_any hS6.p c.i (by omega) (by (try simp only [List.length_append]); omega)).mono ?_; rintro e w14 ⟨v5, x5, j5, rfl, D5, n5, ds5, hp5, hs5, hr5, hz5, hi5, hj5, hd5, he5⟩; obtain ⟨k4, x4, m4, p4, l4, c4, rfl⟩ := hr5.shape; have hS7 := hS6.step hp5 hs5; clear y3_0 y3_1 y3_2 y3_3 y3_4 y3_5 y3_6 y3_7 y3_8 y3_9 y3_10 y3_11 y3_12 y3_13 y3_14 y3_15; obtain ⟨y4_0, y4_1, y4_2, y4_3, y4_4, y4_5, y4_6, y4_7, y4_8, y4_9, y4_10, y4_11, y4_12, y4_13, y4_14, y4_15⟩ := fif_at hS7.k; have hS8 := (hS7.six (.int .i64 (k4 : Int)) (.string x4) (.int .i64 (m4 : Int)) (.slice p4 l4 c4) (.int .i64 (exF x5 : Int)) (.int .i64 (exT x5 : Int))).lit (ct := #[.int .i64 1, .string a.v, .int .i64 ((tk L sz (i + 1)).a : Int), .int .i64 0, .bool true, .int .i64 (k4 : Int), .string x4, .int .i64 (m4 : Int), .slice p4 l4 c4, .int .i64 (exF x5 : Int), .int .i64 (exT x5 : Int), .slice none 0 0, .slice none 0 0, .int .i64 ((tk L sz i).a : Int), .int .i64 0]) rfl; have hrE := (((((((hr5.base (B' := w1.heap.size + 1) hS6.lt).set (Nat.lt_succ_self _) 5 (.int .i64 (k4 : Int))).set (Nat.lt_succ_self _) 6 (.string x4)).set (Nat.lt_succ_self _) 7 (.int .i64 (m4 : Int))).set (Nat.lt_succ_self _) 8 (.slice p4 l4 c4)).set (Nat.lt_succ_self _) 9 (.int .i64 (exF x5 : Int))).set (Nat.lt_succ_self _) 10 (.int .i64 (exT x5 : Int))); (try simp only [List.length_append] at hd5 he5); have HPz : RelPQ gp L sz dp D ds (w.alloc (.cells #[.int .i64 0, .string ⟨#[]⟩, .int .i64 0, .int .i64 0, .bool false, .int .i64 0, .string ⟨#[]⟩, .int .i64 0, .slice none 0 0, .int .i64 0, .int .i64 0, .slice none 0 0, .slice none 0 0, .int .i64 0, .int .i64 0] 104)) w1.heap.size i j5 _ _ 1 a.v (tk L sz (i + 1)).a 0 true x5 [] [] k4 x4 m4 p4 l4 c4 (exF x5) (exT x5) none 0 none 0 (j5 - c.i) 0 0 _ 1 1 := ⟨by omega, by omega, hS8, ⟨_, hrE⟩, ⟨0, SlT.noneQ⟩, ⟨0, SlT.noneQ⟩, (by omega), (by simp), (by simp), hz5, ⟨0, trivial⟩, ⟨0, trivial⟩, (hnm.out.elim (fun h => .inl ⟨h, by have := s5v; omega⟩) (fun h => .inr ⟨h.1, by have := h.2; omega⟩)), by omega, (by simp), .inr (.inr rfl), .inr rfl, by omega, by omega, fun h => by omega, (by (try simp only [List.length_append]); omega), (fun h => ⟨by omega, rfl, rfl⟩), (by simpa [colB] using InS.one hp (by omega) hj5), (fun _ => by (try simp only [List.length_append]); omega), (fun _ => by (try simp only [List.length_append]); omega)⟩; have HP := hidQ HPz; clear HPz)
    | (go_at_call 40; have f := FN; clear f FN; obtain ⟨hq1, hq2, hq3⟩ := need_bd (s := bs1 59) (sz := sz) (L := L) (i := j5) (by omega); refine (refNeed_any hS8.p j5 (by omega) (bs1 59) (by (try simp only [List.length_append]); omega)).mono ?_; rintro e w9 ⟨rfl, ht9⟩; generalize pNeed L sz j5 (bs1 59) = q at *; obtain ⟨D9, hS80, hst9⟩ := hS8.tol ht9; have HP2 := hidQ (RelPQ.need HP.out hS80 hst9 hp hq1 hq2 hq3))
    | (go_at_call 102; refine (refEnd_any hS80.p q.i (by omega)).mono ?_; rintro e w8 ⟨rfl, m8, hw8⟩; have hbd := below_of_drewN hw8; clear hw8; have hS90 := hS80.below hbd; obtain ⟨x9_0, x9_1, x9_2, x9_3, x9_4, x9_5, x9_6, x9_7, x9_8, x9_9, x9_10, x9_11, x9_12, x9_13, x9_14, x9_15⟩ := fif_at hS90.k; obtain ⟨hl1, hl2, hl3⟩ := laid hp hS90.s; have r0 := hl3 0 _ rfl; have r1 := hl3 1 _ rfl; have r2 := hl3 2 _ rfl; have r3 := hl3 3 _ rfl; have r4 := hl3 4 _ rfl; have r5 := hl3 5 _ rfl; have r6 := hl3 6 _ rfl; have r7 := hl3 7 _ rfl; have r8 := hl3 8 _ rfl; have r9 := hl3 9 _ rfl; have r10 := hl3 10 _ rfl; have r11 := hl3 11 _ rfl; have r12 := hl3 12 _ rfl; have r13 := hl3 13 _ rfl; have r14 := hl3 14 _ rfl; clear hl3; have HPe := hidQ (RelPQ.below HP2.out hbd)))
  · exact bodyPost_ret (v := .tuple #[.agg #[.int .i64 1, .string a.v, .int .i64 ((tk L sz (i + 1)).a : Int), .int .i64 0, .bool true, .int .i64 (k4 : Int), .string x4, .int .i64 (m4 : Int), .slice p4 l4 c4, .int .i64 (exF x5 : Int), .int .i64 (exT x5 : Int), .slice none 0 0, .slice none 0 0, .int .i64 ((tk L sz i).a : Int), .int .i64 ((tk L sz i).a : Int)], .int .i64 ((q.i : Nat) : Int)]) (by simp [results, Try.results79, go_sem, r0, r1, r2, r3, r4, r5, r6, r7, r8, r9, r10, r11, r12, r13, r14]) rfl ⟨_, stMk 1 a.v (tk L sz (i + 1)).a 0 true x5 [] [] (tk L sz i).a (tk L sz i).a, q.i, rfl, RelPQ.fin1 hp HPe.out _ _ _ _ _ _ _ _ _ _ _ _ _ _ _⟩
  · exact bodyPost_ret (v := .tuple #[.agg #[.int .i64 1, .string a.v, .int .i64 ((tk L sz (i + 1)).a : Int), .int .i64 0, .bool true, .int .i64 (k4 : Int), .string x4, .int .i64 (m4 : Int), .slice p4 l4 c4, .int .i64 (exF x5 : Int), .int .i64 (exT x5 : Int), .slice none 0 0, .slice none 0 0, .int .i64 ((tk L sz i).a : Int), .int .i64 (endT L sz q.i : Int)], .int .i64 ((q.i : Nat) : Int)]) (by simp [results, Try.results79, go_sem, r0, r1, r2, r3, r4, r5, r6, r7, r8, r9, r10, r11, r12, r13, r14]) rfl ⟨_, stMk 1 a.v (tk L sz (i + 1)).a 0 true x5 [] [] (tk L sz i).a (endT L sz q.i), q.i, rfl, RelPQ.fin0 hp HPe.out _ _ _ _ _ _ _ _ _ _ _ _ _ _ _⟩
end
end Go.Proofs.Ytjpmnholpeidmaa

namespace Go.Proofs.Ytjpmnholpeidmaa
open Go.RowKit Go.WideMaps Go.Maps
set_option linter.unusedVariables false
attribute [local go_sem ↓] Go.wp_at_zero Go.wp_at_succ
section
variable {gp : Nat} {w : World} {L : List Tok} {sz dp : Nat} {ds : List Dg} {D : Option Nat}
set_option maxHeartbeats 16000000 in
set_option maxRecDepth 100000 in
theorem stm_letL (hp : QSt gp w L sz ds dp D) (i : Nat) (hil : i < L.length) (hds : ds.length + 8 * (L.length - i) + 10000 ≤ 1099511627776) (hw : (tk L sz i).x = kLet) (hC : isT L (pNamed L sz (i + 1)).i (bs1 58) = true) :
    Calls Try.prog 79 #[.pointer (some ⟨gp, 0, none⟩), .int .i64 (i : Int)] w fun e w' => ∃ v s j, e = .returned (.tuple #[v, .int .i64 ((j : Nat) : Int)]) ∧ XS gp L sz dp D ds w w' i j s v := by
  have hlen := hp.len
  have hsiz := hp.siz
  have hgp := hp.gp_lt
  have hokL : ∀ t ∈ L, okT t := fun t ht => (hp.end_ t ht).2.1
  have htk := tk_smallQ hp i
  have hx : (tk L sz i).x.size ≤ maxLen := by unfold maxLen; omega
  have hb0 := (Below.refl w.heap.size w).alloc (Nat.le_refl _) (.cells #[.int .i64 0, .string ⟨#[]⟩, .int .i64 0, .int .i64 0, .bool false, .int .i64 0, .string ⟨#[]⟩, .int .i64 0, .slice none 0 0, .int .i64 0, .int .i64 0, .slice none 0 0, .slice none 0 0, .int .i64 0, .int .i64 0] 104)
  have hp0 := hp.below hb0
  have hfd := fun w2 => (tkFieldQ ((tk L sz i).k : Int) ((tk L sz i).a : Int) (tk L sz i).x w2).1
  have hfx := fun w2 => (tkFieldQ ((tk L sz i).k : Int) ((tk L sz i).a : Int) (tk L sz i).x w2).2
  have hfd1 := fun w2 => (tkFieldQ ((tk L sz (i + 1)).k : Int) ((tk L sz (i + 1)).a : Int) (tk L sz (i + 1)).x w2).1
  have hx_let : ((tk L sz i).x.toList == [108, 101, 116]) = true := by rw [hw]; decide +kernel
  clear hw
  obtain ⟨a, Ha⟩ : ∃ a, Hid (a = pNamed L sz (i + 1)) := ⟨_, rfl⟩
  obtain ⟨ha1, ha2, ha3⟩ := named_bd (sz := sz) hokL (i := i + 1) (by omega)
  have han := named_tkn (L := L) (sz := sz) (i + 1)
  rw [← Ha.out] at ha1 ha2 ha3 han
  have hnm : Hid ((a.v = noB) ∨ (tkn L a.v (tk L sz (i + 1)).a ∧ a.i = i + 1 + 1)) := han
  clear han
  rw [← Ha.out] at hC
  have hC2 := isT_in hC
  obtain ⟨u, Hu⟩ : ∃ u, Hid (u = pLab L sz (a.i + 1)) := ⟨_, rfl⟩
  obtain ⟨hlt, hu2, hu3, hu4⟩ := lab_bd (L := L) (sz := sz) (i := a.i + 1) hC2
  rw [← Hu.out] at hlt hu2 hu3 hu4
  obtain ⟨c, Hc⟩ : ∃ c, Hid (c = pNeed L sz u.i (bs1 61)) := ⟨_, rfl⟩
  obtain ⟨hc1, hc2, hc3⟩ := need_bd (s := bs1 61) (sz := sz) hu4
  rw [← Hc.out] at hc1 hc2 hc3
  have G1 : Hid (1 = 1) := rfl
  have G2 : Hid (2 = 2) := rfl
  have FN : Hid (3 = 3) := rfl
  have F1 : Hid (1 = 1) := rfl
  have F2 : Hid (2 = 2) := rfl
  have F3 : Hid (3 = 3) := rfl
  have F4 : Hid (4 = 4) := rfl
  have F5 : Hid (5 = 5) := rfl
  have F6 : Hid (6 = 6) := rfl
  go_enter Try.func79, Try.ntmps79
  go_wp2_with (first
    | (go_at_call 38; have f := G1; clear f G1; refine (refT_any hp0 i (by omega)).mono ?_; rintro e w1 ⟨rfl, hb1⟩; unfold tkV; have hp1 := hp0.below hb1; have hb2 := (Below.refl w1.heap.size w1).alloc (Nat.le_refl _) (.cells #[.int .i64 0, .string ⟨#[]⟩, .int .i64 0, .int .i64 0, .bool false, .int .i64 0, .string ⟨#[]⟩, .int .i64 0, .slice none 0 0, .int .i64 0, .int .i64 0, .slice none 0 0, .slice none 0 0, .int .i64 ((tk L sz i).a : Int), .int .i64 0] 104); have hp2 := hp1.below hb2)
    | (go_at_call 38; have f := G2; clear f G2; refine (refT_any hp2 i (by omega)).mono ?_; rintro e w3 ⟨rfl, hb3⟩; unfold tkV; have hS0 : SB gp w1.heap.size L sz dp ds D D (w.alloc (.cells #[.int .i64 0, .string ⟨#[]⟩, .int .i64 0, .int .i64 0, .bool false, .int .i64 0, .string ⟨#[]⟩, .int .i64 0, .slice none 0 0, .int .i64 0, .int .i64 0, .slice none 0 0, .slice none 0 0, .int .i64 0, .int .i64 0] 104)) w3 #[.int .i64 0, .string ⟨#[]⟩, .int .i64 0, .int .i64 0, .bool false, .int .i64 0, .string ⟨#[]⟩, .int .i64 0, .slice none 0 0, .int .i64 0, .int .i64 0, .slice none 0 0, .slice none 0 0, .int .i64 ((tk L sz i).a : Int), .int .i64 0] := ⟨hp2.below hb3, Stp.below (hb1.trans ((hb2.trans (hb3.mono hb2.size)).mono hb1.size)), hp1.gp_lt, hp1.ne, (hb3.block _ (by simp)).trans (heap_alloc_new w1 _), hb1.size⟩; have hzb : w.heap.size + 1 ≤ w1.heap.size := (by have h := hb1.size; simp at h; omega); have hn1 : ¬ w.heap.size = w1.heap.size := (by omega); have hn2 : ¬ w1.heap.size = w.heap.size := (by omega); have hn3 : ¬ gp = w1.heap.size := (by have h := hS0.g; omega); have hn4 : ¬ w1.heap.size = gp := (by have h := hS0.g; omega); clear hp0 hp1 hp2 hb0 hb1 hb2 hb3; obtain ⟨y0_0, y0_1, y0_2, y0_3, y0_4, y0_5, y0_6, y0_7, y0_8, y0_9, y0_10, y0_11, y0_12, y0_13, y0_14, y0_15⟩ := fif_at hS0.k)
    | (go_at_call 38; have f := F1; clear f F1; refine (refT_any hS0.p (i + 1) (by omega)).mono ?_; rintro e w10 ⟨rfl, hb10⟩; unfold tkV; have hS1 := hS0.below hb10; obtain ⟨y1_0, y1_1, y1_2, y1_3, y1_4, y1_5, y1_6, y1_7, y1_8, y1_9, y1_10, y1_11, y1_12, y1_13, y1_14, y1_15⟩ := fif_at hS1.k; have hS2 := ((hS1.set 0 (.int .i64 1)).set 2 (.int .i64 ((tk L sz (i + 1)).a : Int))).lit (ct := #[.int .i64 1, .string ⟨#[]⟩, .int .i64 ((tk L sz (i + 1)).a : Int), .int .i64 0, .bool false, .int .i64 0, .string ⟨#[]⟩, .int .i64 0, .slice none 0 0, .int .i64 0, .int .i64 0, .slice none 0 0, .slice none 0 0, .int .i64 ((tk L sz i).a : Int), .int .i64 0]) rfl)
    | (go_at_call 39; have f := F2; clear f F2; refine (refNamed_any hS2.p (i + 1) (by omega) (by (try simp only [List.length_append]); omega)).mono ?_; rintro e w11 ⟨rfl, ht1⟩; rw [← Ha.out] at ht1 ⊢; obtain ⟨D11, hS3, hst3⟩ := hS2.tol ht1; clear y1_0 y1_1 y1_2 y1_3 y1_4 y1_5 y1_6 y1_7 y1_8 y1_9 y1_10 y1_11 y1_12 y1_13 y1_14 y1_15; obtain ⟨y2_0, y2_1, y2_2, y2_3, y2_4, y2_5, y2_6, y2_7, y2_8, y2_9, y2_10, y2_11, y2_12, y2_13, y2_14, y2_15⟩ := fif_at hS3.k; have hS4 := (hS3.set 1 (.string a.v)).lit (ct := #[.int .i64 1, .string a.v, .int .i64 ((tk L sz (i + 1)).a : Int), .int .i64 0, .bool false, .int .i64 0, .string ⟨#[]⟩, .int .i64 0, .slice none 0 0, .int .i64 0, .int .i64 0, .slice none 0 0, .slice none 0 0, .int .i64 ((tk L sz i).a : Int), .int .i64 0]) rfl)
    | (go_at_call 36; have f := F3; clear f F3; refine (refIs_any hS4.p a.i (by omega) (bs1 58)).mono ?_; rintro e w13 ⟨rfl, hw13⟩; subst w13; rw [hC]; have hS5 := (hS4.set 4 (.bool false)).lit (ct := #[.int .i64 1, .string a.v, .int .i64 ((tk L sz (i + 1)).a : Int), .int .i64 0, .bool false, .int .i64 0, .string ⟨#[]⟩, .int .i64 0, .slice none 0 0, .int .i64 0, .int .i64 0, .slice none 0 0, .slice none 0 0, .int .i64 ((tk L sz i).a : Int), .int .i64 0]) rfl)
    | (go_at_call 41; have f := F4; clear f F4; refine (refLab_any hS5.p (a.i + 1) (by omega) (by (try simp only [List.length_append]); omega)).mono ?_; rintro e w13 ⟨rfl, ht3⟩; rw [← Hu.out] at ht3 ⊢; obtain ⟨D13, hS6, hst6⟩ := hS5.tol ht3; clear y2_0 y2_1 y2_2 y2_3 y2_4 y2_5 y2_6 y2_7 y2_8 y2_9 y2_10 y2_11 y2_12 y2_13 y2_14 y2_15; obtain ⟨y3_0, y3_1, y3_2, y3_3, y3_4, y3_5, y3_6, y3_7, y3_8, y3_9, y3_10, y3_11, y3_12, y3_13, y3_14, y3_15⟩ := fif_at hS6.k; have hS7 := (hS6.set 3 (.int .i64 (u.v : Int))).lit (ct := #[.int .i64 1, .string a.v, .int .i64 ((tk L sz (i + 1)).a : Int), .int .i64 (u.v : Int), .bool false, .int .i64 0, .string ⟨#[]⟩, .int .i64 0, .slice none 0 0, .int .i64 0, .int .i64 0, .slice none 0 0, .slice none 0 0, .int .i64 ((tk L sz i).a : Int), .int .i64 0]) rfl)
    | (go_at_call 40; have f := F5; clear f F5; refine (refNeed_any hS7.p u.i (by omega) (bs1 61) (by (try simp only [List.length_append]); omega)).mono ?_; rintro e w14 ⟨rfl, ht4⟩; rw [← Hc.out] at ht4 ⊢; obtain ⟨D14, hS8, hst8⟩ := hS7.tol ht4; clear y3_0 y3_1 y3_2 y3_3 y3_4 y3_5 y3_6 y3_7 y3_8 y3_9 y3_10 y3_11 y3_12 y3_13 y3_14 y3_15; obtain ⟨y4_0, y4_1, y4_2, y4_3, y4_4, y4_5, y4_6, y4_7, y4_8, y4_9, y4_10, y4_11, y4_12, y4_13, y4_14, y4_15⟩ := fif_at hS8.k)
    | (go_at_call 101; have f := F6; clear f F6; refine (refExpr_any hS8.p c.i (by omega) (by (try simp only [List.length_append]); omega)).mono ?_; rintro e w15 ⟨v5, x5, j5, rfl, D5, n5, ds5, hp5, hs5, hr5, hz5, hi5, hj5, hd5, he5⟩; obtain ⟨k4, x4, m4, p4, l4, c4, rfl⟩ := hr5.shape; have hS9 := hS8.step hp5 hs5; clear y4_0 y4_1 y4_2 y4_3 y4_4 y4_5 y4_6 y4_7 y4_8 y4_9 y4_10 y4_11 y4_12 y4_13 y4_14 y4_15; obtain ⟨y5_0, y5_1, y5_2, y5_3, y5_4, y5_5, y5_6, y5_7, y5_8, y5_9, y5_10, y5_11, y5_12, y5_13, y5_14, y5_15⟩ := fif_at hS9.k; have hS10 := (hS9.six (.int .i64 (k4 : Int)) (.string x4) (.int .i64 (m4 : Int)) (.slice p4 l4 c4) (.int .i64 (exF x5 : Int)) (.int .i64 (exT x5 : Int))).lit (ct := #[.int .i64 1, .string a.v, .int .i64 ((tk L sz (i + 1)).a : Int), .int .i64 (u.v : Int), .bool false, .int .i64 (k4 : Int), .string x4, .int .i64 (m4 : Int), .slice p4 l4 c4, .int .i64 (exF x5 : Int), .int .i64 (exT x5 : Int), .slice none 0 0, .slice none 0 0, .int .i64 ((tk L sz i).a : Int), .int .i64 0]) rfl; have hrE := (((((((hr5.base (B' := w1.heap.size + 1) hS8.lt).set (Nat.lt_succ_self _) 5 (.int .i64 (k4 : Int))).set (Nat.lt_succ_self _) 6 (.string x4)).set (Nat.lt_succ_self _) 7 (.int .i64 (m4 : Int))).set (Nat.lt_succ_self _) 8 (.slice p4 l4 c4)).set (Nat.lt_succ_self _) 9 (.int .i64 (exF x5 : Int))).set (Nat.lt_succ_self _) 10 (.int .i64 (exT x5 : Int))); (try simp only [List.length_append] at hd5 he5); have HPz : RelPQ gp L sz dp D ds (w.alloc (.cells #[.int .i64 0, .string ⟨#[]⟩, .int .i64 0, .int .i64 0, .bool false, .int .i64 0, .string ⟨#[]⟩, .int .i64 0, .slice none 0 0, .int .i64 0, .int .i64 0, .slice none 0 0, .slice none 0 0, .int .i64 0, .int .i64 0] 104)) w1.heap.size i j5 _ _ 1 a.v (tk L sz (i + 1)).a u.v false x5 [] [] k4 x4 m4 p4 l4 c4 (exF x5) (exT x5) none 0 none 0 (j5 - c.i) 0 0 _ 1 1 := ⟨by omega, by omega, hS10, ⟨_, hrE⟩, ⟨0, SlT.noneQ⟩, ⟨0, SlT.noneQ⟩, hlt, (by simp), (by simp), hz5, ⟨0, trivial⟩, ⟨0, trivial⟩, (hnm.out.elim (fun h => .inl ⟨h, by have := s5v; omega⟩) (fun h => .inr ⟨h.1, by have := h.2; omega⟩)), by omega, (by simp), .inr (.inr rfl), .inr rfl, by omega, by omega, fun h => by omega, (by (try simp only [List.length_append]); omega), (fun h => ⟨by omega, rfl, rfl⟩), (by simpa [colB] using InS.one hp (by omega) hj5), (fun _ => by (try simp only [List.length_append]); omega), (fun _ => by (try simp only [List.length_append]); omega)⟩; have HP := hidQ HPz; clear HPz)
    | (go_at_call 40; have f := FN; clear f FN; obtain ⟨hq1, hq2, hq3⟩ := need_bd (s := bs1 59) (sz := sz) (L := L) (i := j5) (by omega); refine (refNeed_any hS10.p j5 (by omega) (bs1 59) (by (try simp only [List.length_append]); omega)).mono ?_; rintro e w9 ⟨rfl, ht9⟩; generalize pNeed L sz j5 (bs1 59) = q at *; obtain ⟨D9, hS80, hst9⟩ := hS10.tol ht9; have HP2 := hidQ (RelPQ.need HP.out hS80 hst9 hp hq1 hq2 hq3))
    | (go_at_call 102; refine (refEnd_any hS80.p q.i (by omega)).mono ?_; rintro e w8 ⟨rfl, m8, hw8⟩; have hbd := below_of_drewN hw8; clear hw8; have hS90 := hS80.below hbd; obtain ⟨x9_0, x9_1, x9_2, x9_3, x9_4, x9_5, x9_6, x9_7, x9_8, x9_9, x9_10, x9_11, x9_12, x9_13, x9_14, x9_15⟩ := fif_at hS90.k; obtain ⟨hl1, hl2, hl3⟩ := laid hp hS90.s; have r0 := hl3 0 _ rfl; have r1 := hl3 1 _ rfl; have r2 := hl3 2 _ rfl; have r3 := hl3 3 _ rfl; have r4 := hl3 4 _ rfl; have r5 := hl3 5 _ rfl; have r6 := hl3 6 _ rfl; have r7 := hl3 7 _ rfl; have r8 := hl3 8 _ rfl; have r9 := hl3 9 _ rfl; have r10 := hl3 10 _ rfl; have r11 := hl3 11 _ rfl; have r12 := hl3 12 _ rfl; have r13 := hl3 13 _ rfl; have r14 := hl3 14 _ rfl; clear hl3; have HPe := hidQ (RelPQ.below HP2.out hbd)))
  · exact bodyPost_ret (v := .tuple #[.agg #[.int .i64 1, .string a.v, .int .i64 ((tk L sz (i + 1)).a : Int), .int .i64 (u.v : Int), .bool false, .int .i64 (k4 : Int), .string x4, .int .i64 (m4 : Int), .slice p4 l4 c4, .int .i64 (exF x5 : Int), .int .i64 (exT x5 : Int), .slice none 0 0, .slice none 0 0, .int .i64 ((tk L sz i).a : Int), .int .i64 ((tk L sz i).a : Int)], .int .i64 ((q.i : Nat) : Int)]) (by simp [results, Try.results79, go_sem, r0, r1, r2, r3, r4, r5, r6, r7, r8, r9, r10, r11, r12, r13, r14]) rfl ⟨_, stMk 1 a.v (tk L sz (i + 1)).a u.v false x5 [] [] (tk L sz i).a (tk L sz i).a, q.i, rfl, RelPQ.fin1 hp HPe.out _ _ _ _ _ _ _ _ _ _ _ _ _ _ _⟩
  · exact bodyPost_ret (v := .tuple #[.agg #[.int .i64 1, .string a.v, .int .i64 ((tk L sz (i + 1)).a : Int), .int .i64 (u.v : Int), .bool false, .int .i64 (k4 : Int), .string x4, .int .i64 (m4 : Int), .slice p4 l4 c4, .int .i64 (exF x5 : Int), .int .i64 (exT x5 : Int), .slice none 0 0, .slice none 0 0, .int .i64 ((tk L sz i).a : Int), .int .i64 (endT L sz q.i : Int)], .int .i64 ((q.i : Nat) : Int)]) (by simp [results, Try.results79, go_sem, r0, r1, r2, r3, r4, r5, r6, r7, r8, r9, r10, r11, r12, r13, r14]) rfl ⟨_, stMk 1 a.v (tk L sz (i + 1)).a u.v false x5 [] [] (tk L sz i).a (endT L sz q.i), q.i, rfl, RelPQ.fin0 hp HPe.out _ _ _ _ _ _ _ _ _ _ _ _ _ _ _⟩
end
end Go.Proofs.Ytjpmnholpeidmaa


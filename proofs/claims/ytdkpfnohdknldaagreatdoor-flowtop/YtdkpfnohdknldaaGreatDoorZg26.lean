/- Texts of this seat, one behind the other: FloCall. -/
import Derived.Test.YtdkpfnohdknldaaGreatDoorZg25
namespace Go.Proofs.YtdkpfnohdknldaaGreatDoor
open Go.RowKit
set_option linter.unusedVariables false
attribute [local go_sem ↓] Go.wp_at_zero Go.wp_at_succ
theorem cell_onF {w w' : World} (hb : Below w.heap.size w w') {a : Addr} {u : Value} (h : w.cell? a = some u) : w'.cell? a = some u := (hb.cell (World.block_lt_of_cell? w a h)).trans h
theorem fnd_casesF (l : List (Int × It)) (kd : Int) (x : ByteArray) : fnd l kd x = -1 ∨ ∃ k : Nat, fnd l kd x = (k : Int) ∧ k < l.length := by
 unfold fnd
 split
 ·exact .inl rfl
 ·unfold fidx
  split
  next i h => exact .inr ⟨i, rfl, (List.findIdx?_eq_some_iff_findIdx_eq.1 h).1⟩
  next => exact .inl rfl
theorem RdF.itemF {ok : Nat → Prop} {w : World} {l : List (Int × It)} {p : Option Addr} {c : Nat} (h : RdF ok w l (.agg #[.slice p l.length c])) {k : Nat} {e : Int × It} (hk : l[k]? = some e) : ∃ g v, p = some ⟨g, 0, none⟩ ∧ ok g ∧ CellsV w g (k * 10) v ∧ RdI ok w e.1 e.2 v := by
 obtain ⟨q, d, hv, _, hits⟩ := h
 injection hv with hv
 have hv : Value.slice p l.length c = Value.slice q l.length d := by simpa using hv
 injection hv with h1 _ _
 obtain ⟨g, e1, e2, e3⟩ := hits (by have := (List.getElem?_eq_some_iff.1 hk).1; omega)
 obtain ⟨v, h2, h3⟩ := e3 k e hk
 exact ⟨g, v, h1.trans e1, e2, h2, h3⟩
theorem fn_none {l : List (Int × It)} {fs : List Nat} {x : ByteArray} (h : fnd l 2 x = -1) : fnL l x = 0 ∧ fnP l x = [] ∧ fnF l fs x = 255 := by
 have h' : fnd l ((2 : Nat) : Int) x = -1 := h
 have hh : hit l 2 x = none := by unfold hit; rw [h']; rfl
 unfold fnL fnP fnF
 rw [hh, h]
 exact ⟨rfl, rfl, rfl⟩
theorem fn_some {l : List (Int × It)} {fs : List Nat} {x : ByteArray} {k fl : Nat} {e : Int × It} (h : fnd l 2 x = (k : Int)) (he : l[k]? = some e) (hf : fs[k]? = some fl) : fnL l x = e.2.l ∧ fnP l x = e.2.ps ∧ fnF l fs x = fl := by
 have h' : fnd l ((2 : Nat) : Int) x = (k : Int) := h
 have hh : hit l 2 x = some e := by unfold hit; rw [h', if_neg (by omega), Int.toNat_natCast, he]
 unfold fnL fnP fnF
 rw [hh, h, if_neg (by omega), Int.toNat_natCast, List.getD_eq_getElem?_getD, hf]
 exact ⟨rfl, rfl, rfl⟩
theorem tenF_at {w1 : World} {b : Nat} {u0 u1 u2 u3 u4 u5 u6 u7 u8 u9 : Value} {t : TypeId} (h : w1.heap[b]? = some (.cells #[u0, u1, u2, u3, u4, u5, u6, u7, u8, u9] t (0, 0))) : w1.cell? ⟨b, 0, none⟩ = some u0 ∧ w1.cell? ⟨b, 1, none⟩ = some u1 ∧ w1.cell? ⟨b, 2, none⟩ = some u2 ∧ w1.cell? ⟨b, 3, none⟩ = some u3 ∧ w1.cell? ⟨b, 4, none⟩ = some u4 ∧ w1.cell? ⟨b, 5, none⟩ = some u5 ∧ w1.cell? ⟨b, 6, none⟩ = some u6 ∧ w1.cell? ⟨b, 7, none⟩ = some u7 ∧ w1.cell? ⟨b, 8, none⟩ = some u8 ∧ w1.cell? ⟨b, 9, none⟩ = some u9 ∧ ∀ o, w1.frozen? ⟨b, o, none⟩ = false :=
 ⟨cell_of_row _ _ _ _ _ _ h, cell_of_row _ _ _ _ _ _ h, cell_of_row _ _ _ _ _ _ h, cell_of_row _ _ _ _ _ _ h, cell_of_row _ _ _ _ _ _ h, cell_of_row _ _ _ _ _ _ h, cell_of_row _ _ _ _ _ _ h, cell_of_row _ _ _ _ _ _ h, cell_of_row _ _ _ _ _ _ h, cell_of_row _ _ _ _ _ _ h, fun o => by simp [World.frozen?, h]⟩
theorem set10_at {w : World} {b : Nat} {u0 u1 u2 u3 u4 u5 u6 u7 u8 u9 v0 v1 v2 v3 v4 v5 v6 v7 v8 v9 : Value} {t : TypeId} (h : w.heap[b]? = some (.cells #[u0, u1, u2, u3, u4, u5, u6, u7, u8, u9] t (0, 0))) :
  (((((((((((w.setCell ⟨b, 0, none⟩ v0).setCell ⟨b, 1, none⟩ v1).setCell ⟨b, 2, none⟩ v2).setCell ⟨b, 3, none⟩ v3).setCell ⟨b, 4, none⟩ v4).setCell ⟨b, 5, none⟩ v5).setCell ⟨b, 6, none⟩ v6).setCell ⟨b, 7, none⟩ v7).setCell ⟨b, 8, none⟩ v8).setCell ⟨b, 9, none⟩ v9).drew).heap[b]? = some (.cells #[v0, v1, v2, v3, v4, v5, v6, v7, v8, v9] t (0, 0)) := by
 have e : ∀ W : World, W.drew.heap = W.heap := fun _ => rfl
 rw [e]
 simp [World.setCell, Array.getElem?_modify, h]
theorem set10_below {B : Nat} {w w1 : World} {b : Nat} {v0 v1 v2 v3 v4 v5 v6 v7 v8 v9 : Value} (hb : Below B w w1) (h : B ≤ b) :
  Below B w (((((((((((w1.setCell ⟨b, 0, none⟩ v0).setCell ⟨b, 1, none⟩ v1).setCell ⟨b, 2, none⟩ v2).setCell ⟨b, 3, none⟩ v3).setCell ⟨b, 4, none⟩ v4).setCell ⟨b, 5, none⟩ v5).setCell ⟨b, 6, none⟩ v6).setCell ⟨b, 7, none⟩ v7).setCell ⟨b, 8, none⟩ v8).setCell ⟨b, 9, none⟩ v9).drew) :=
 ((((((((((hb.setCell h _).setCell h _).setCell h _).setCell h _).setCell h _).setCell h _).setCell h _).setCell h _).setCell h _).setCell h _).drew
section
variable {bo b0 pw ph : Nat} {cw ch : Array Value} {G : World → List Fv → Option Nat → Prop} {l : List (Int × It)} {fs : List Nat} {q : Option Addr} {c : Nat} {fq : Option Addr} {fc bk : Nat}
set_option maxHeartbeats 4000000 in
set_option maxRecDepth 100000 in
theorem fl_call_any {n : Nat} (hL : LsF bo b0 pw ph cw ch G) (ih : CSx bo pw ph cw ch G l fs q c fq fc bk n) : CSc bo pw ph cw ch G l fs q c fq fc bk n := by
 intro D w L env sv u k x m al f t qa ca hk hg hs hA hn
 have hb1 := (Below.refl w.heap.size w).alloc (Nat.le_refl _) (.cells #[.slice q l.length c, .slice fq fs.length fc, .int .i64 (bk : Int), .func (.func pw) #[] cw, .func (.func ph) #[] ch] 104)
 have hb2 := hb1.alloc (by simp) (.cells #[.int .i64 (k : Int), .string x, .int .i64 (m : Int), .slice qa al.length ca, .int .i64 (f : Int), .int .i64 (t : Int)] 100)
 have hb3 := hb2.alloc (by simp; omega) (.cells #[.int .i64 0, .string ⟨#[]⟩, .int .i64 0, .slice none 0 0, .slice none 0 0, .slice none 0 0, .int .i64 0, .int .i64 0, .int .i64 0, .slice none 0 0] 36)
 have e1 : (w.alloc (.cells #[.slice q l.length c, .slice fq fs.length fc, .int .i64 (bk : Int), .func (.func pw) #[] cw, .func (.func ph) #[] ch] 104)).heap.size = w.heap.size + 1 := by simp
 have e2 : ((w.alloc (.cells #[.slice q l.length c, .slice fq fs.length fc, .int .i64 (bk : Int), .func (.func pw) #[] cw, .func (.func ph) #[] ch] 104)).alloc (.cells #[.int .i64 (k : Int), .string x, .int .i64 (m : Int), .slice qa al.length ca, .int .i64 (f : Int), .int .i64 (t : Int)] 100)).heap.size = w.heap.size + 2 := by simp
 have e3 : (((w.alloc (.cells #[.slice q l.length c, .slice fq fs.length fc, .int .i64 (bk : Int), .func (.func pw) #[] cw, .func (.func ph) #[] ch] 104)).alloc (.cells #[.int .i64 (k : Int), .string x, .int .i64 (m : Int), .slice qa al.length ca, .int .i64 (f : Int), .int .i64 (t : Int)] 100)).alloc (.cells #[.int .i64 0, .string ⟨#[]⟩, .int .i64 0, .slice none 0 0, .slice none 0 0, .slice none 0 0, .int .i64 0, .int .i64 0, .int .i64 0, .slice none 0 0] 36)).heap.size = w.heap.size + 3 := by simp
 obtain ⟨y0, y1, y2, y3, y4⟩ := five_at ((Below.heap_alloc ((w.alloc (.cells #[.slice q l.length c, .slice fq fs.length fc, .int .i64 (bk : Int), .func (.func pw) #[] cw, .func (.func ph) #[] ch] 104)).alloc (.cells #[.int .i64 (k : Int), .string x, .int .i64 (m : Int), .slice qa al.length ca, .int .i64 (f : Int), .int .i64 (t : Int)] 100)) (.cells #[.int .i64 0, .string ⟨#[]⟩, .int .i64 0, .slice none 0 0, .slice none 0 0, .slice none 0 0, .int .i64 0, .int .i64 0, .int .i64 0, .slice none 0 0] 36) w.heap.size (by simp; omega)).trans ((Below.heap_alloc (w.alloc (.cells #[.slice q l.length c, .slice fq fs.length fc, .int .i64 (bk : Int), .func (.func pw) #[] cw, .func (.func ph) #[] ch] 104)) (.cells #[.int .i64 (k : Int), .string x, .int .i64 (m : Int), .slice qa al.length ca, .int .i64 (f : Int), .int .i64 (t : Int)] 100) w.heap.size (by simp)).trans (heap_alloc_new w (.cells #[.slice q l.length c, .slice fq fs.length fc, .int .i64 (bk : Int), .func (.func pw) #[] cw, .func (.func ph) #[] ch] 104))))
 have hne := heap_alloc_new (w.alloc (.cells #[.slice q l.length c, .slice fq fs.length fc, .int .i64 (bk : Int), .func (.func pw) #[] cw, .func (.func ph) #[] ch] 104)) (.cells #[.int .i64 (k : Int), .string x, .int .i64 (m : Int), .slice qa al.length ca, .int .i64 (f : Int), .int .i64 (t : Int)] 100)
 rw [e1] at hne
 obtain ⟨x0, x1, x2, x3, x4, x5⟩ := sixF_at ((Below.heap_alloc ((w.alloc (.cells #[.slice q l.length c, .slice fq fs.length fc, .int .i64 (bk : Int), .func (.func pw) #[] cw, .func (.func ph) #[] ch] 104)).alloc (.cells #[.int .i64 (k : Int), .string x, .int .i64 (m : Int), .slice qa al.length ca, .int .i64 (f : Int), .int .i64 (t : Int)] 100)) (.cells #[.int .i64 0, .string ⟨#[]⟩, .int .i64 0, .slice none 0 0, .slice none 0 0, .slice none 0 0, .int .i64 0, .int .i64 0, .int .i64 0, .slice none 0 0] 36) (w.heap.size + 1) (by simp)).trans hne)
 have hni := heap_alloc_new ((w.alloc (.cells #[.slice q l.length c, .slice fq fs.length fc, .int .i64 (bk : Int), .func (.func pw) #[] cw, .func (.func ph) #[] ch] 104)).alloc (.cells #[.int .i64 (k : Int), .string x, .int .i64 (m : Int), .slice qa al.length ca, .int .i64 (f : Int), .int .i64 (t : Int)] 100)) (.cells #[.int .i64 0, .string ⟨#[]⟩, .int .i64 0, .slice none 0 0, .slice none 0 0, .slice none 0 0, .int .i64 0, .int .i64 0, .int .i64 0, .slice none 0 0] 36)
 rw [e2] at hni
 have HF := hid (Find_any l _ 2 x (((w.alloc (.cells #[.slice q l.length c, .slice fq fs.length fc, .int .i64 (bk : Int), .func (.func pw) #[] cw, .func (.func ph) #[] ch] 104)).alloc (.cells #[.int .i64 (k : Int), .string x, .int .i64 (m : Int), .slice qa al.length ca, .int .i64 (f : Int), .int .i64 (t : Int)] 100)).alloc (.cells #[.int .i64 0, .string ⟨#[]⟩, .int .i64 0, .slice none 0 0, .slice none 0 0, .slice none 0 0, .int .i64 0, .int .i64 0, .int .i64 0, .slice none 0 0] 36)) (okS 0 bo D w) (fun k hk => Nat.lt_of_lt_of_le hk.2.1 hb3.size) (RdF.kept hk.file (fun k hk => hb3.block k hk.2.1) (fun _ h => h)))
 have HB3 := hid hb3
 obtain ⟨v0', v1', v2', v3', v4'⟩ := five_at ((Below.heap_alloc (w.alloc (.cells #[.slice q l.length c, .slice fq fs.length fc, .int .i64 (bk : Int), .func (.func pw) #[] cw, .func (.func ph) #[] ch] 104)) (.cells #[.int .i64 (k : Int), .string x, .int .i64 (m : Int), .slice qa al.length ca, .int .i64 (f : Int), .int .i64 (t : Int)] 100) w.heap.size (by simp)).trans (heap_alloc_new w (.cells #[.slice q l.length c, .slice fq fs.length fc, .int .i64 (bk : Int), .func (.func pw) #[] cw, .func (.func ph) #[] ch] 104)))
 obtain ⟨_, t1', _, t3', t4', t5'⟩ := sixF_at hne
 have HYX := hid (And.intro v0' (And.intro v1' (And.intro v2' (And.intro v3' (And.intro v4' (And.intro t1' (And.intro t3' (And.intro t4' t5'))))))))
 have HB2 := hid hb2
 have hb23 : Below (w.heap.size + 2) ((w.alloc (.cells #[.slice q l.length c, .slice fq fs.length fc, .int .i64 (bk : Int), .func (.func pw) #[] cw, .func (.func ph) #[] ch] 104)).alloc (.cells #[.int .i64 (k : Int), .string x, .int .i64 (m : Int), .slice qa al.length ca, .int .i64 (f : Int), .int .i64 (t : Int)] 100)) (((w.alloc (.cells #[.slice q l.length c, .slice fq fs.length fc, .int .i64 (bk : Int), .func (.func pw) #[] cw, .func (.func ph) #[] ch] 104)).alloc (.cells #[.int .i64 (k : Int), .string x, .int .i64 (m : Int), .slice qa al.length ca, .int .i64 (f : Int), .int .i64 (t : Int)] 100)).alloc (.cells #[.int .i64 0, .string ⟨#[]⟩, .int .i64 0, .slice none 0 0, .slice none 0 0, .slice none 0 0, .int .i64 0, .int .i64 0, .int .i64 0, .slice none 0 0] 36)) := by have h := (Below.refl ((w.alloc (.cells #[.slice q l.length c, .slice fq fs.length fc, .int .i64 (bk : Int), .func (.func pw) #[] cw, .func (.func ph) #[] ch] 104)).alloc (.cells #[.int .i64 (k : Int), .string x, .int .i64 (m : Int), .slice qa al.length ca, .int .i64 (f : Int), .int .i64 (t : Int)] 100)).heap.size ((w.alloc (.cells #[.slice q l.length c, .slice fq fs.length fc, .int .i64 (bk : Int), .func (.func pw) #[] cw, .func (.func ph) #[] ch] 104)).alloc (.cells #[.int .i64 (k : Int), .string x, .int .i64 (m : Int), .slice qa al.length ca, .int .i64 (f : Int), .int .i64 (t : Int)] 100))).alloc (Nat.le_refl _) (.cells #[.int .i64 0, .string ⟨#[]⟩, .int .i64 0, .slice none 0 0, .slice none 0 0, .slice none 0 0, .int .i64 0, .int .i64 0, .int .i64 0, .slice none 0 0] 36); rw [e2] at h; exact h
 have HB23 := hid hb23
 clear v0' v1' v2' v3' v4' t1' t3' t4' t5' hb23
 clear hb1 hb2 hb3 hne
 rcases fnd_casesF l 2 x with hF | ⟨kf, hF, hkf⟩
 ·rw [hF] at HF
  obtain ⟨eL, eP, eF⟩ := fn_none (fs := fs) hF
  obtain ⟨ps, hps⟩ : ∃ ps : List Pm, ps = [] := ⟨_, rfl⟩
  obtain ⟨pp, hpp⟩ : ∃ p : Option Addr, p = none := ⟨_, rfl⟩
  obtain ⟨lbf, hlb⟩ : ∃ n : Nat, n = 0 := ⟨_, rfl⟩
  rw [← hps] at eP
  rw [← hlb] at eL
  rw [eL, eP, eF]
  rw [eP, eF] at hn
  clear eL eP eF hF
  have i2 : (((w.alloc (.cells #[.slice q l.length c, .slice fq fs.length fc, .int .i64 (bk : Int), .func (.func pw) #[] cw, .func (.func ph) #[] ch] 104)).alloc (.cells #[.int .i64 (k : Int), .string x, .int .i64 (m : Int), .slice qa al.length ca, .int .i64 (f : Int), .int .i64 (t : Int)] 100)).alloc (.cells #[.int .i64 0, .string ⟨#[]⟩, .int .i64 0, .slice none 0 0, .slice none 0 0, .slice none 0 0, .int .i64 0, .int .i64 0, .int .i64 0, .slice none 0 0] 36)).cell? ⟨w.heap.size + 2, 2, none⟩ = some (.int .i64 (lbf : Int)) := by rw [hlb]; exact cell_of_row _ _ 2 _ _ _ hni
  have i3 : (((w.alloc (.cells #[.slice q l.length c, .slice fq fs.length fc, .int .i64 (bk : Int), .func (.func pw) #[] cw, .func (.func ph) #[] ch] 104)).alloc (.cells #[.int .i64 (k : Int), .string x, .int .i64 (m : Int), .slice qa al.length ca, .int .i64 (f : Int), .int .i64 (t : Int)] 100)).alloc (.cells #[.int .i64 0, .string ⟨#[]⟩, .int .i64 0, .slice none 0 0, .slice none 0 0, .slice none 0 0, .int .i64 0, .int .i64 0, .int .i64 0, .slice none 0 0] 36)).cell? ⟨w.heap.size + 2, 3, none⟩ = some (.slice pp ps.length 0) := by rw [hps, hpp]; exact cell_of_row _ _ 3 _ _ _ hni
  have HPs0 : Hid (∀ W, SlAt (okS 0 bo D W) W 3 pmC ps pp) := fun W => by rw [hps]; exact ⟨by decide, fun h => by cases h⟩
  clear hni hps hlb hpp
  have HB := hid (fun k => Nat.lt_of_le_of_lt (show (noF (L ++ fvAs (fvX l fs env u) (lbX l env u) ps (al.take k))).length ≤ (noF (L ++ fvAs (fvX l fs env u) (lbX l env u) ps al)).length by rw [noF_ap, noF_ap]; have := fvAs_less (F := fvX l fs env u) (B := lbX l env u) al ps k; omega) (Nat.lt_of_le_of_lt (noF_le_app _ _) hn))
  have HM := hid (fun k a (h : al[k]? = some a) => show L ++ fvAs (fvX l fs env u) (lbX l env u) ps (al.take (k + 1)) = L ++ fvAs (fvX l fs env u) (lbX l env u) ps (al.take k) ++ fvX l fs env u a ++ paF ps (lbX l env u) k a by rw [fvAs_take al ps k a h]; simp only [List.append_assoc])
  have HZ : Hid (L ++ fvAs (fvX l fs env u) (lbX l env u) ps (al.take al.length) = L ++ fvAs (fvX l fs env u) (lbX l env u) ps al) := by show _ = _; rw [List.take_length]
  have H0 : Hid (L ++ fvAs (fvX l fs env u) (lbX l env u) ps (al.take 0) = L) := by show _ = _; rw [List.take_zero]; cases ps <;> simp [fvAs]
  clear hn
  generalize hM : (fun k => L ++ fvAs (fvX l fs env u) (lbX l env u) ps (al.take k)) = M
  have hMk : ∀ k, L ++ fvAs (fvX l fs env u) (lbX l env u) ps (al.take k) = M k := fun k => by rw [← hM]
  simp only [hMk] at HB HM HZ H0
  rw [← HZ.out]
  clear hM hMk HZ
  go_enter Tryz.func164, Tryz.ntmps164
  go_wp2_with (first
   | (go_at_call 29; refine Calls.mono HF.out ?_; rintro e w5 ⟨rfl, hb5⟩; have zy0 := cell_onF hb5 y0; have zy1 := cell_onF hb5 y1; have zy2 := cell_onF hb5 y2; have zy3 := cell_onF hb5 y3; have zy4 := cell_onF hb5 y4; have zx0 := cell_onF hb5 x0; have zx1 := cell_onF hb5 x1; have zx2 := cell_onF hb5 x2; have zx3 := cell_onF hb5 x3; have zx4 := cell_onF hb5 x4; have zx5 := cell_onF hb5 x5; have zi2 := cell_onF hb5 i2; have zi3 := cell_onF hb5 i3; clear y0 y1 y2 y3 y4 x0 x1 x2 x3 x4 x5 i2 i3))
  have hbA : Below (w.heap.size + 2) ((w.alloc (.cells #[.slice q l.length c, .slice fq fs.length fc, .int .i64 (bk : Int), .func (.func pw) #[] cw, .func (.func ph) #[] ch] 104)).alloc (.cells #[.int .i64 (k : Int), .string x, .int .i64 (m : Int), .slice qa al.length ca, .int .i64 (f : Int), .int .i64 (t : Int)] 100)) w5 := HB23.out.trans (hb5.mono (by omega))
  have hsz5 := hb5.size
  clear zy0 zy1 zy2 zy3 zy4 zx0 zx1 zx2 zx3 zx4 zx5
  generalize w5 = W5 at *
  rw [e3] at hsz5
  have hPs := HPs0.out W5
  have i2 := zi2
  have i3 := zi3
  clear zi2 zi3 hb5 e1 e2 e3 HB23
  have y0 := (World.cell?_of_block (a := ⟨w.heap.size, 0, none⟩) (hbA.block (w.heap.size) (by omega))).trans HYX.out.1
  have y1 := (World.cell?_of_block (a := ⟨w.heap.size, 1, none⟩) (hbA.block (w.heap.size) (by omega))).trans HYX.out.2.1
  have y2 := (World.cell?_of_block (a := ⟨w.heap.size, 2, none⟩) (hbA.block (w.heap.size) (by omega))).trans HYX.out.2.2.1
  have y3 := (World.cell?_of_block (a := ⟨w.heap.size, 3, none⟩) (hbA.block (w.heap.size) (by omega))).trans HYX.out.2.2.2.1
  have y4 := (World.cell?_of_block (a := ⟨w.heap.size, 4, none⟩) (hbA.block (w.heap.size) (by omega))).trans HYX.out.2.2.2.2.1
  have x1 := (World.cell?_of_block (a := ⟨w.heap.size + 1, 1, none⟩) (hbA.block (w.heap.size + 1) (by omega))).trans HYX.out.2.2.2.2.2.1
  have x3 := (World.cell?_of_block (a := ⟨w.heap.size + 1, 3, none⟩) (hbA.block (w.heap.size + 1) (by omega))).trans HYX.out.2.2.2.2.2.2.1
  have x4 := (World.cell?_of_block (a := ⟨w.heap.size + 1, 4, none⟩) (hbA.block (w.heap.size + 1) (by omega))).trans HYX.out.2.2.2.2.2.2.2.1
  have x5 := (World.cell?_of_block (a := ⟨w.heap.size + 1, 5, none⟩) (hbA.block (w.heap.size + 1) (by omega))).trans HYX.out.2.2.2.2.2.2.2.2
  have hbZ : Below w.heap.size w W5 := HB2.out.trans (hbA.mono (by omega))
  have hst : Stp bo D D w W5 := Stp.below hbZ
  have hk5 := hk.step hst
  have hg5 := hL.below hg hbZ
  have hs5 := hs.step hst
  have hA5 := hA.kept (okS.step hst).1 (okS.step hst).2 (RdE.kept n (okS.step hst).1 (okS.step hst).2)
  have hfw := hid (hL.fresh (w' := W5) hg (k := w.heap.size) (Nat.le_refl _) (by omega))
  have hfe := hid (hL.fresh (w' := W5) hg (k := w.heap.size + 1) (by omega) (by omega))
  have hfi := hid (hL.fresh (w' := W5) hg (k := w.heap.size + 2) (by omega) (by omega))
  have HST := hid hst
  clear hk hg hs hA hbA hbZ hst hsz5
  obtain ⟨hlen, hits⟩ := hA5
  have h00 := H0.out
  rw [← h00] at hg5
  clear h00 H0
  go_wp2
  go_loopw [38] (fun i wr => RelF4 bo G D W5 M al.length i wr) (fun i _ => upN al.length i)
  case atStart => exact ⟨0, Nat.zero_le _, rfl, D, hg5, Stp.refl _ _ _⟩
  case round =>
   obtain ⟨j, hjl, rfl, D1, hG1, hS1⟩ := hrel
   have z0 := (okS_cell hS1 hfw.out 0).trans y0
   have z1 := (okS_cell hS1 hfw.out 1).trans y1
   have z2 := (okS_cell hS1 hfw.out 2).trans y2
   have z3 := (okS_cell hS1 hfw.out 3).trans y3
   have z4 := (okS_cell hS1 hfw.out 4).trans y4
   have HY := hid (And.intro i2 i3)
   by_cases hlt : j < al.length
   ·obtain ⟨ga, rfl, hgo1, hLA⟩ := hits (by omega)
    obtain ⟨ea, he1⟩ : ∃ e1, al[j]? = some e1 := ⟨_, List.getElem?_eq_getElem hlt⟩
    obtain ⟨v1, hcv, hR1⟩ := hLA j ea he1
    have hcv := hcv.kept ((okS.step hS1).1 ga hgo1)
    have hR1 := RdE.stp hR1 hS1
    obtain ⟨k1, x1', m1, al1, f1, t1, q1, d1, rfl, rfl⟩ := RdE.form hR1
    have d0 := hcv.get 0 _ rfl
    have d1' := hcv.get 1 _ rfl
    have d2 := hcv.get 2 _ rfl
    have d3 := hcv.get 3 _ rfl
    have d4 := hcv.get 4 _ rfl
    have d5 := hcv.get 5 _ rfl
    rw [Nat.add_zero] at d0
    have gk : (0 : Int) ≤ (j : Int) := by omega
    have gk1 : (j : Int) < (al.length : Int) := by omega
    have hkb : j < 1099511627776 := by omega
    have hba := (Below.refl wr.heap.size wr).alloc (Nat.le_refl _) (.cells #[.int .i64 (k1 : Int), .string x1', .int .i64 (m1 : Int), .slice q1 al1.length d1, .int .i64 (f1 : Int), .int .i64 (t1 : Int)] 100)
    have hsa : Stp bo D1 D1 wr _ := Stp.below hba
    have hnx := HM.out j _ he1
    have hbx := HB.out (j + 1)
    rw [hnx] at hbx
    have HC := hid (ih D1 _ (M j) env sv _ _ u ((hk5.step hS1).step hsa) (hL.below hG1 hba) ((hs5.step hS1).step hsa) (hR1.stp hsa) (Nat.lt_of_le_of_lt (noF_le_app _ _) hbx))
    have HBX := hid (Nat.lt_of_le_of_lt (noF_le_app _ _) hbx)
    have hfa := hid (hL.fresh (w' := wr.alloc (.cells #[.int .i64 (k1 : Int), .string x1', .int .i64 (m1 : Int), .slice q1 al1.length d1, .int .i64 (f1 : Int), .int .i64 (t1 : Int)] 100)) hG1 (k := wr.heap.size) (Nat.le_refl _) (by simp))
    obtain ⟨_, _, _, _, r4, r5⟩ := sixF_at (heap_alloc_new wr (.cells #[.int .i64 (k1 : Int), .string x1', .int .i64 (m1 : Int), .slice q1 al1.length d1, .int .i64 (f1 : Int), .int .i64 (t1 : Int)] 100))
    unfold paF at hnx
    simp only [exF_mk, exT_mk] at hnx
    generalize lbX l env u (exMk k1 x1' m1 al1 f1 t1) = lb1 at *
    generalize fvX l fs env u (exMk k1 x1' m1 al1 f1 t1) = X1 at *
    have HL := hid hlt
    have HS := hid (hS1.trans hsa)
    have HPs := hid (hPs.kept (okS.step (hS1.trans hsa)).1 |>.wide (okS.step (hS1.trans hsa)).2)
    have a0 := cell_alloc z0 (.cells #[.int .i64 (k1 : Int), .string x1', .int .i64 (m1 : Int), .slice q1 al1.length d1, .int .i64 (f1 : Int), .int .i64 (t1 : Int)] 100)
    have a1 := cell_alloc z1 (.cells #[.int .i64 (k1 : Int), .string x1', .int .i64 (m1 : Int), .slice q1 al1.length d1, .int .i64 (f1 : Int), .int .i64 (t1 : Int)] 100)
    have a2 := cell_alloc z2 (.cells #[.int .i64 (k1 : Int), .string x1', .int .i64 (m1 : Int), .slice q1 al1.length d1, .int .i64 (f1 : Int), .int .i64 (t1 : Int)] 100)
    have a3 := cell_alloc z3 (.cells #[.int .i64 (k1 : Int), .string x1', .int .i64 (m1 : Int), .slice q1 al1.length d1, .int .i64 (f1 : Int), .int .i64 (t1 : Int)] 100)
    have a4 := cell_alloc z4 (.cells #[.int .i64 (k1 : Int), .string x1', .int .i64 (m1 : Int), .slice q1 al1.length d1, .int .i64 (f1 : Int), .int .i64 (t1 : Int)] 100)
    have HA0 := hid (And.intro a0 (And.intro a1 (And.intro a2 (And.intro a3 a4))))
    have HFW := hid ((okS.step hsa).2 _ ((okS.step hS1).2 _ hfw.out))
    have HFI := hid ((okS.step hsa).2 _ ((okS.step hS1).2 _ hfi.out))
    have HI3 := hid (cell_alloc ((okS_cell hS1 hfi.out 3).trans i3) (.cells #[.int .i64 (k1 : Int), .string x1', .int .i64 (m1 : Int), .slice q1 al1.length d1, .int .i64 (f1 : Int), .int .i64 (t1 : Int)] 100))
    have HR45 := hid (And.intro r4 r5)
    clear hits hLA hcv hR1 he1 hbx hlt hjl hba hsa i2 i3 r4 r5 y0 y1 y2 y3 y4 x1 x3 x4 x5
    by_cases hp : j < ps.length
    ·obtain ⟨pr, hpr⟩ : ∃ p, ps[j]? = some p := ⟨_, List.getElem?_eq_getElem hp⟩
     rw [hpr] at hnx
     have HNX := hid hnx
     obtain ⟨gp, hgp, hgpo, hF⟩ := HPs.out.2 (by omega)
     subst hgp
     have HPC := hid (And.intro (hF j pr hpr 0 (.string pr.x) rfl) (And.intro (hF j pr hpr 1 (.int .i64 (pr.l : Int)) rfl) (hF j pr hpr 2 (.int .i64 (pr.a : Int)) rfl)))
     have gp1 : (j : Int) < (ps.length : Int) := by omega
     have HFf := hid (fun (W : World) (D' : Option Nat) (h : G W (M j ++ X1) D') => fl_flows_any hL h HBX.out q l.length c fq fs.length fc bk lb1 pr.l f1 t1 pr.x)
     clear hp hpr hF hnx HPs
     go_wp2_with (first
      | (go_at_call 130; refine Calls.mono HC.out ?_; rintro e w2 ⟨rfl, D2, hG2, hS2⟩; have b0' := (okS_cell hS2 HFW.out 0).trans HA0.out.1; have b1' := (okS_cell hS2 HFW.out 1).trans HA0.out.2.1; have b2' := (okS_cell hS2 HFW.out 2).trans HA0.out.2.2.1; have b3' := (okS_cell hS2 HFW.out 3).trans HA0.out.2.2.2.1; have b4' := (okS_cell hS2 HFW.out 4).trans HA0.out.2.2.2.2; have b5' := (okS_cell hS2 HFI.out 3).trans HI3.out; have b6' := (okS_cell hS2 hfa.out 4).trans HR45.out.1; have b7' := (okS_cell hS2 hfa.out 5).trans HR45.out.2; have s0 := (okS_cell hS2 hgpo (j * 3 + 0)).trans HPC.out.1; have s1 := (okS_cell hS2 hgpo (j * 3 + 1)).trans HPC.out.2.1; have s2 := (okS_cell hS2 hgpo (j * 3 + 2)).trans HPC.out.2.2; rw [Nat.add_zero] at s0; have hbp := (Below.refl w2.heap.size w2).alloc (Nat.le_refl _) (.cells #[.string pr.x, .int .i64 (pr.l : Int), .int .i64 (pr.a : Int)] 62); have HFl := hid (HFf.out _ D2 (hL.below hG2 hbp)); have u0 := cell_alloc b0'; have u1 := cell_alloc b1'; have u2 := cell_alloc b2'; have u3 := cell_alloc b3'; have u4 := cell_alloc b4'; have u6 := cell_alloc b6'; have u7 := cell_alloc b7'; clear a0 a1 a2 a3 a4)
      | (go_at_call 162; refine Calls.mono HFl.out ?_; rintro e w3 ⟨rfl, D3, hG3, hS3⟩))
     go_roundw
     case rel => exact ⟨j + 1, HL.out, by go_num, D3, by rw [HNX.out]; exact hG3, (HS.out.trans hS2).trans ((Stp.below hbp).trans hS3)⟩
     case measure => have := HL.out; simp [upN, intOf]; omega
    ·have hpn : ps[j]? = none := List.getElem?_eq_none (by omega)
     rw [hpn, List.append_nil] at hnx
     have HNX := hid hnx
     have gp1 : ¬ (j : Int) < (ps.length : Int) := by omega
     clear hp hpn hnx HPs
     go_wp2_with (first
      | (go_at_call 130; refine Calls.mono HC.out ?_; rintro e w2 ⟨rfl, D2, hG2, hS2⟩; have b5' := (okS_cell hS2 HFI.out 3).trans HI3.out))
     go_roundw
     case rel => exact ⟨j + 1, HL.out, by go_num, D2, by rw [HNX.out]; exact hG2, HS.out.trans hS2⟩
     case measure => have := HL.out; simp [upN, intOf]; omega
   ·obtain rfl : j = al.length := by omega
    have r1 := (okS_cell hS1 hfe.out 1).trans x1
    have r4 := (okS_cell hS1 hfe.out 4).trans x4
    have r5 := (okS_cell hS1 hfe.out 5).trans x5
    have HFl := hid (fl_flows_any hL hG1 (HB.out al.length) q l.length c fq fs.length fc bk u 255 f t x)
    have HI2 := hid ((okS_cell hS1 hfi.out 2).trans i2)
    have HFI := hid ((okS.step hS1).2 _ hfi.out)
    clear hlt hjl hits HM HB
    go_wp2_with (first
     | (go_at_call 162; refine Calls.mono HFl.out ?_; rintro e w3 ⟨rfl, D3, hG3, hS3⟩; have b2' := (okS_cell hS3 HFI.out 2).trans HI2.out))
    go_ret
    exact ⟨rfl, D3, hG3, (HST.out.trans hS1).trans hS3⟩
 ·obtain ⟨ef, hef⟩ : ∃ e, l[kf]? = some e := ⟨_, List.getElem?_eq_getElem hkf⟩
  obtain ⟨g, vI, hq, hgo, hcv, hI⟩ := RdF.itemF hk.file hef
  obtain ⟨p1, c1, p2, c2, p3, c3, p4, c4, rfl, hP, _⟩ := hI
  obtain ⟨gf, hgf, hgfo, hfl⟩ := hk.floors.2 (by have := hk.len; omega)
  obtain ⟨fl0, hfl0⟩ : ∃ n, fs[kf]? = some n := ⟨_, List.getElem?_eq_getElem (by have := hk.len; omega)⟩
  have hff := hfl kf fl0 hfl0 0 (.int .i64 (fl0 : Int)) rfl
  rw [Nat.mul_one, Nat.add_zero] at hff
  subst hq hgf
  rw [hF] at HF
  obtain ⟨eL, eP, eF⟩ := fn_some hF hef hfl0
  rw [eL, eP, eF]
  rw [eP, eF] at hn
  clear eL eP eF hF
  have hkl := hk.len
  have gk : (0 : Int) ≤ (kf : Int) := by omega
  have gk1 : (kf : Int) < (l.length : Int) := by omega
  have gk2 : (kf : Int) < (fs.length : Int) := by omega
  have hlen : l.length ≤ 1099511627776 := by obtain ⟨_, _, _, h, _⟩ := hk.file; exact h
  have hkb : kf < 1099511627776 := by omega
  have gge : ((kf : Int) ≥ 0) := by omega
  have gn1 : ¬ gf = w.heap.size + 2 := by have := hgfo.2.1; omega
  have gn2 : ¬ w.heap.size + 2 = gf := by omega
  have HI := hid (And.intro hni (And.intro hcv (And.intro hff hP)))
  clear hni hcv hff hP hfl hef hfl0 hkl
  have HB := hid (fun k => Nat.lt_of_le_of_lt (show (noF (L ++ fvAs (fvX l fs env u) (lbX l env u) ef.2.ps (al.take k))).length ≤ (noF (L ++ fvAs (fvX l fs env u) (lbX l env u) ef.2.ps al)).length by rw [noF_ap, noF_ap]; have := fvAs_less (F := fvX l fs env u) (B := lbX l env u) al ef.2.ps k; omega) (Nat.lt_of_le_of_lt (noF_le_app _ _) hn))
  have HM := hid (fun k a (h : al[k]? = some a) => show L ++ fvAs (fvX l fs env u) (lbX l env u) ef.2.ps (al.take (k + 1)) = L ++ fvAs (fvX l fs env u) (lbX l env u) ef.2.ps (al.take k) ++ fvX l fs env u a ++ paF ef.2.ps (lbX l env u) k a by rw [fvAs_take al ef.2.ps k a h]; simp only [List.append_assoc])
  have HZ : Hid (L ++ fvAs (fvX l fs env u) (lbX l env u) ef.2.ps (al.take al.length) = L ++ fvAs (fvX l fs env u) (lbX l env u) ef.2.ps al) := by show _ = _; rw [List.take_length]
  have H0 : Hid (L ++ fvAs (fvX l fs env u) (lbX l env u) ef.2.ps (al.take 0) = L) := by show _ = _; rw [List.take_zero]; cases ef.2.ps <;> simp [fvAs]
  clear hn
  generalize hM : (fun k => L ++ fvAs (fvX l fs env u) (lbX l env u) ef.2.ps (al.take k)) = M
  have hMk : ∀ k, L ++ fvAs (fvX l fs env u) (lbX l env u) ef.2.ps (al.take k) = M k := fun k => by rw [← hM]
  simp only [hMk] at HB HM HZ H0
  rw [← HZ.out]
  clear hM hMk HZ
  go_enter Tryz.func164, Tryz.ntmps164
  go_wp2_with (first
   | (go_at_call 29; refine Calls.mono HF.out ?_; rintro e w5 ⟨rfl, hb5⟩; have zy0 := cell_onF hb5 y0; have zy1 := cell_onF hb5 y1; have zy2 := cell_onF hb5 y2; have zy3 := cell_onF hb5 y3; have zy4 := cell_onF hb5 y4; have zx0 := cell_onF hb5 x0; have zx1 := cell_onF hb5 x1; have zx2 := cell_onF hb5 x2; have zx3 := cell_onF hb5 x3; have zx4 := cell_onF hb5 x4; have zx5 := cell_onF hb5 x5; have hbw := HB3.out.trans (hb5.mono HB3.out.size); have hst5 : Stp bo D D w w5 := Stp.below hbw; have hcw := HI.out.2.1.kept (hbw.block g hgo.2.1); have c10 := hcw.get 0 _ rfl; have c11 := hcw.get 1 _ rfl; have c12 := hcw.get 2 _ rfl; have c13 := hcw.get 3 _ rfl; have c14 := hcw.get 4 _ rfl; have c15 := hcw.get 5 _ rfl; have c16 := hcw.get 6 _ rfl; have c17 := hcw.get 7 _ rfl; have c18 := hcw.get 8 _ rfl; have c19 := hcw.get 9 _ rfl; rw [Nat.add_zero] at c10; have ff5 := (World.cell?_of_block (a := ⟨gf, kf, none⟩) (hbw.block gf hgfo.2.1)).trans HI.out.2.2.1; have hi5 := (hb5.block (w.heap.size + 2) (by omega)).trans HI.out.1; obtain ⟨_, _, _, _, _, _, _, _, _, _, fz⟩ := tenF_at hi5; clear y0 y1 y2 y3 y4 x0 x1 x2 x3 x4 x5))
  have hbA := set10_below (b := w.heap.size + 2) (v0 := .int .i64 (ef.2.k : Int)) (v1 := .string ef.2.x) (v2 := .int .i64 (ef.2.l : Int)) (v3 := .slice p1 ef.2.ps.length c1) (v4 := .slice p2 ef.2.ss.length c2) (v5 := .slice p3 ef.2.bd.length c3) (v6 := .int .i64 ef.1) (v7 := .int .i64 (ef.2.sz : Int)) (v8 := .int .i64 (ef.2.mrk : Int)) (v9 := .slice p4 ef.2.ds.length c4) (HB23.out.trans (hb5.mono (by omega))) (Nat.le_refl _)
  have hi6 := set10_at (v0 := .int .i64 (ef.2.k : Int)) (v1 := .string ef.2.x) (v2 := .int .i64 (ef.2.l : Int)) (v3 := .slice p1 ef.2.ps.length c1) (v4 := .slice p2 ef.2.ss.length c2) (v5 := .slice p3 ef.2.bd.length c3) (v6 := .int .i64 ef.1) (v7 := .int .i64 (ef.2.sz : Int)) (v8 := .int .i64 (ef.2.mrk : Int)) (v9 := .slice p4 ef.2.ds.length c4) hi5
  have HBA := hid hbA
  have HI6 := hid hi6
  have hsz5 := hb5.size
  rw [e3] at hsz5
  have HSZ := hid hsz5
  clear hbA hi6 hsz5
  go_region
  have hsz6 : w.heap.size + 3 ≤ (((((((((((w5.setCell ⟨w.heap.size + 2, 0, none⟩ (.int .i64 (ef.2.k : Int))).setCell ⟨w.heap.size + 2, 1, none⟩ (.string ef.2.x)).setCell ⟨w.heap.size + 2, 2, none⟩ (.int .i64 (ef.2.l : Int))).setCell ⟨w.heap.size + 2, 3, none⟩ (.slice p1 ef.2.ps.length c1)).setCell ⟨w.heap.size + 2, 4, none⟩ (.slice p2 ef.2.ss.length c2)).setCell ⟨w.heap.size + 2, 5, none⟩ (.slice p3 ef.2.bd.length c3)).setCell ⟨w.heap.size + 2, 6, none⟩ (.int .i64 ef.1)).setCell ⟨w.heap.size + 2, 7, none⟩ (.int .i64 (ef.2.sz : Int))).setCell ⟨w.heap.size + 2, 8, none⟩ (.int .i64 (ef.2.mrk : Int))).setCell ⟨w.heap.size + 2, 9, none⟩ (.slice p4 ef.2.ds.length c4)).drew).heap.size := by have := HSZ.out; have e : ∀ W : World, W.drew.heap = W.heap := fun _ => rfl; rw [e]; simp; omega
  have hbA := HBA.out
  have hi6 := HI6.out
  generalize ((((((((((w5.setCell ⟨w.heap.size + 2, 0, none⟩ (.int .i64 (ef.2.k : Int))).setCell ⟨w.heap.size + 2, 1, none⟩ (.string ef.2.x)).setCell ⟨w.heap.size + 2, 2, none⟩ (.int .i64 (ef.2.l : Int))).setCell ⟨w.heap.size + 2, 3, none⟩ (.slice p1 ef.2.ps.length c1)).setCell ⟨w.heap.size + 2, 4, none⟩ (.slice p2 ef.2.ss.length c2)).setCell ⟨w.heap.size + 2, 5, none⟩ (.slice p3 ef.2.bd.length c3)).setCell ⟨w.heap.size + 2, 6, none⟩ (.int .i64 ef.1)).setCell ⟨w.heap.size + 2, 7, none⟩ (.int .i64 (ef.2.sz : Int))).setCell ⟨w.heap.size + 2, 8, none⟩ (.int .i64 (ef.2.mrk : Int))).setCell ⟨w.heap.size + 2, 9, none⟩ (.slice p4 ef.2.ds.length c4)).drew = W5 at *
  obtain ⟨_, _, i2, i3, _⟩ := tenF_at hi6
  have hsz5 := hsz6
  have hbZ0 : Below w.heap.size w W5 := HB2.out.trans (hbA.mono (by omega))
  have hPs : SlAt (okS 0 bo D W5) W5 3 pmC ef.2.ps p1 := (HI.out.2.2.2.kept (fun k hk => hbZ0.block k hk.2.1)).wide (okS.step (Stp.below hbZ0)).2
  clear zy0 zy1 zy2 zy3 zy4 zx0 zx1 zx2 zx3 zx4 zx5 c10 c11 c12 c13 c14 c15 c16 c17 c18 c19 ff5 fz hi5 hi6 hcw hbw hst5 hb5 e1 e2 e3 HB23 HBA HI6 HSZ hsz6 hbZ0 HI gn1 gn2 gk gk1 gk2 gge hkb
  generalize ef.2.ps = ps at *
  generalize (some ⟨g, 0, none⟩ : Option Addr) = q at *
  generalize (some ⟨gf, 0, none⟩ : Option Addr) = fq at *
  have y0 := (World.cell?_of_block (a := ⟨w.heap.size, 0, none⟩) (hbA.block (w.heap.size) (by omega))).trans HYX.out.1
  have y1 := (World.cell?_of_block (a := ⟨w.heap.size, 1, none⟩) (hbA.block (w.heap.size) (by omega))).trans HYX.out.2.1
  have y2 := (World.cell?_of_block (a := ⟨w.heap.size, 2, none⟩) (hbA.block (w.heap.size) (by omega))).trans HYX.out.2.2.1
  have y3 := (World.cell?_of_block (a := ⟨w.heap.size, 3, none⟩) (hbA.block (w.heap.size) (by omega))).trans HYX.out.2.2.2.1
  have y4 := (World.cell?_of_block (a := ⟨w.heap.size, 4, none⟩) (hbA.block (w.heap.size) (by omega))).trans HYX.out.2.2.2.2.1
  have x1 := (World.cell?_of_block (a := ⟨w.heap.size + 1, 1, none⟩) (hbA.block (w.heap.size + 1) (by omega))).trans HYX.out.2.2.2.2.2.1
  have x3 := (World.cell?_of_block (a := ⟨w.heap.size + 1, 3, none⟩) (hbA.block (w.heap.size + 1) (by omega))).trans HYX.out.2.2.2.2.2.2.1
  have x4 := (World.cell?_of_block (a := ⟨w.heap.size + 1, 4, none⟩) (hbA.block (w.heap.size + 1) (by omega))).trans HYX.out.2.2.2.2.2.2.2.1
  have x5 := (World.cell?_of_block (a := ⟨w.heap.size + 1, 5, none⟩) (hbA.block (w.heap.size + 1) (by omega))).trans HYX.out.2.2.2.2.2.2.2.2
  have hbZ : Below w.heap.size w W5 := HB2.out.trans (hbA.mono (by omega))
  have hst : Stp bo D D w W5 := Stp.below hbZ
  have hk5 := hk.step hst
  have hg5 := hL.below hg hbZ
  have hs5 := hs.step hst
  have hA5 := hA.kept (okS.step hst).1 (okS.step hst).2 (RdE.kept n (okS.step hst).1 (okS.step hst).2)
  have hfw := hid (hL.fresh (w' := W5) hg (k := w.heap.size) (Nat.le_refl _) (by omega))
  have hfe := hid (hL.fresh (w' := W5) hg (k := w.heap.size + 1) (by omega) (by omega))
  have hfi := hid (hL.fresh (w' := W5) hg (k := w.heap.size + 2) (by omega) (by omega))
  have HST := hid hst
  clear hk hg hs hA hbA hbZ hst hsz5
  obtain ⟨hlen, hits⟩ := hA5
  have h00 := H0.out
  rw [← h00] at hg5
  clear h00 H0
  go_wp2
  go_loopw [38] (fun i wr => RelF4 bo G D W5 M al.length i wr) (fun i _ => upN al.length i)
  case atStart => exact ⟨0, Nat.zero_le _, rfl, D, hg5, Stp.refl _ _ _⟩
  case round =>
   obtain ⟨j, hjl, rfl, D1, hG1, hS1⟩ := hrel
   have z0 := (okS_cell hS1 hfw.out 0).trans y0
   have z1 := (okS_cell hS1 hfw.out 1).trans y1
   have z2 := (okS_cell hS1 hfw.out 2).trans y2
   have z3 := (okS_cell hS1 hfw.out 3).trans y3
   have z4 := (okS_cell hS1 hfw.out 4).trans y4
   have HY := hid (And.intro i2 i3)
   by_cases hlt : j < al.length
   ·obtain ⟨ga, rfl, hgo1, hLA⟩ := hits (by omega)
    obtain ⟨ea, he1⟩ : ∃ e1, al[j]? = some e1 := ⟨_, List.getElem?_eq_getElem hlt⟩
    obtain ⟨v1, hcv, hR1⟩ := hLA j ea he1
    have hcv := hcv.kept ((okS.step hS1).1 ga hgo1)
    have hR1 := RdE.stp hR1 hS1
    obtain ⟨k1, x1', m1, al1, f1, t1, q1, d1, rfl, rfl⟩ := RdE.form hR1
    have d0 := hcv.get 0 _ rfl
    have d1' := hcv.get 1 _ rfl
    have d2 := hcv.get 2 _ rfl
    have d3 := hcv.get 3 _ rfl
    have d4 := hcv.get 4 _ rfl
    have d5 := hcv.get 5 _ rfl
    rw [Nat.add_zero] at d0
    have gk : (0 : Int) ≤ (j : Int) := by omega
    have gk1 : (j : Int) < (al.length : Int) := by omega
    have hkb : j < 1099511627776 := by omega
    have hba := (Below.refl wr.heap.size wr).alloc (Nat.le_refl _) (.cells #[.int .i64 (k1 : Int), .string x1', .int .i64 (m1 : Int), .slice q1 al1.length d1, .int .i64 (f1 : Int), .int .i64 (t1 : Int)] 100)
    have hsa : Stp bo D1 D1 wr _ := Stp.below hba
    have hnx := HM.out j _ he1
    have hbx := HB.out (j + 1)
    rw [hnx] at hbx
    have HC := hid (ih D1 _ (M j) env sv _ _ u ((hk5.step hS1).step hsa) (hL.below hG1 hba) ((hs5.step hS1).step hsa) (hR1.stp hsa) (Nat.lt_of_le_of_lt (noF_le_app _ _) hbx))
    have HBX := hid (Nat.lt_of_le_of_lt (noF_le_app _ _) hbx)
    have hfa := hid (hL.fresh (w' := wr.alloc (.cells #[.int .i64 (k1 : Int), .string x1', .int .i64 (m1 : Int), .slice q1 al1.length d1, .int .i64 (f1 : Int), .int .i64 (t1 : Int)] 100)) hG1 (k := wr.heap.size) (Nat.le_refl _) (by simp))
    obtain ⟨_, _, _, _, r4, r5⟩ := sixF_at (heap_alloc_new wr (.cells #[.int .i64 (k1 : Int), .string x1', .int .i64 (m1 : Int), .slice q1 al1.length d1, .int .i64 (f1 : Int), .int .i64 (t1 : Int)] 100))
    unfold paF at hnx
    simp only [exF_mk, exT_mk] at hnx
    generalize lbX l env u (exMk k1 x1' m1 al1 f1 t1) = lb1 at *
    generalize fvX l fs env u (exMk k1 x1' m1 al1 f1 t1) = X1 at *
    have HL := hid hlt
    have HS := hid (hS1.trans hsa)
    have HPs := hid (hPs.kept (okS.step (hS1.trans hsa)).1 |>.wide (okS.step (hS1.trans hsa)).2)
    have a0 := cell_alloc z0 (.cells #[.int .i64 (k1 : Int), .string x1', .int .i64 (m1 : Int), .slice q1 al1.length d1, .int .i64 (f1 : Int), .int .i64 (t1 : Int)] 100)
    have a1 := cell_alloc z1 (.cells #[.int .i64 (k1 : Int), .string x1', .int .i64 (m1 : Int), .slice q1 al1.length d1, .int .i64 (f1 : Int), .int .i64 (t1 : Int)] 100)
    have a2 := cell_alloc z2 (.cells #[.int .i64 (k1 : Int), .string x1', .int .i64 (m1 : Int), .slice q1 al1.length d1, .int .i64 (f1 : Int), .int .i64 (t1 : Int)] 100)
    have a3 := cell_alloc z3 (.cells #[.int .i64 (k1 : Int), .string x1', .int .i64 (m1 : Int), .slice q1 al1.length d1, .int .i64 (f1 : Int), .int .i64 (t1 : Int)] 100)
    have a4 := cell_alloc z4 (.cells #[.int .i64 (k1 : Int), .string x1', .int .i64 (m1 : Int), .slice q1 al1.length d1, .int .i64 (f1 : Int), .int .i64 (t1 : Int)] 100)
    have HA0 := hid (And.intro a0 (And.intro a1 (And.intro a2 (And.intro a3 a4))))
    have HFW := hid ((okS.step hsa).2 _ ((okS.step hS1).2 _ hfw.out))
    have HFI := hid ((okS.step hsa).2 _ ((okS.step hS1).2 _ hfi.out))
    have HI3 := hid (cell_alloc ((okS_cell hS1 hfi.out 3).trans i3) (.cells #[.int .i64 (k1 : Int), .string x1', .int .i64 (m1 : Int), .slice q1 al1.length d1, .int .i64 (f1 : Int), .int .i64 (t1 : Int)] 100))
    have HR45 := hid (And.intro r4 r5)
    clear hits hLA hcv hR1 he1 hbx hlt hjl hba hsa i2 i3 r4 r5 y0 y1 y2 y3 y4 x1 x3 x4 x5
    by_cases hp : j < ps.length
    ·obtain ⟨pr, hpr⟩ : ∃ p, ps[j]? = some p := ⟨_, List.getElem?_eq_getElem hp⟩
     rw [hpr] at hnx
     have HNX := hid hnx
     obtain ⟨gp, hgp, hgpo, hF⟩ := HPs.out.2 (by omega)
     subst hgp
     have HPC := hid (And.intro (hF j pr hpr 0 (.string pr.x) rfl) (And.intro (hF j pr hpr 1 (.int .i64 (pr.l : Int)) rfl) (hF j pr hpr 2 (.int .i64 (pr.a : Int)) rfl)))
     have gp1 : (j : Int) < (ps.length : Int) := by omega
     have HFf := hid (fun (W : World) (D' : Option Nat) (h : G W (M j ++ X1) D') => fl_flows_any hL h HBX.out q l.length c fq fs.length fc bk lb1 pr.l f1 t1 pr.x)
     clear hp hpr hF hnx HPs
     go_wp2_with (first
      | (go_at_call 130; refine Calls.mono HC.out ?_; rintro e w2 ⟨rfl, D2, hG2, hS2⟩; have b0' := (okS_cell hS2 HFW.out 0).trans HA0.out.1; have b1' := (okS_cell hS2 HFW.out 1).trans HA0.out.2.1; have b2' := (okS_cell hS2 HFW.out 2).trans HA0.out.2.2.1; have b3' := (okS_cell hS2 HFW.out 3).trans HA0.out.2.2.2.1; have b4' := (okS_cell hS2 HFW.out 4).trans HA0.out.2.2.2.2; have b5' := (okS_cell hS2 HFI.out 3).trans HI3.out; have b6' := (okS_cell hS2 hfa.out 4).trans HR45.out.1; have b7' := (okS_cell hS2 hfa.out 5).trans HR45.out.2; have s0 := (okS_cell hS2 hgpo (j * 3 + 0)).trans HPC.out.1; have s1 := (okS_cell hS2 hgpo (j * 3 + 1)).trans HPC.out.2.1; have s2 := (okS_cell hS2 hgpo (j * 3 + 2)).trans HPC.out.2.2; rw [Nat.add_zero] at s0; have hbp := (Below.refl w2.heap.size w2).alloc (Nat.le_refl _) (.cells #[.string pr.x, .int .i64 (pr.l : Int), .int .i64 (pr.a : Int)] 62); have HFl := hid (HFf.out _ D2 (hL.below hG2 hbp)); have u0 := cell_alloc b0'; have u1 := cell_alloc b1'; have u2 := cell_alloc b2'; have u3 := cell_alloc b3'; have u4 := cell_alloc b4'; have u6 := cell_alloc b6'; have u7 := cell_alloc b7'; clear a0 a1 a2 a3 a4)
      | (go_at_call 162; refine Calls.mono HFl.out ?_; rintro e w3 ⟨rfl, D3, hG3, hS3⟩))
     go_roundw
     case rel => exact ⟨j + 1, HL.out, by go_num, D3, by rw [HNX.out]; exact hG3, (HS.out.trans hS2).trans ((Stp.below hbp).trans hS3)⟩
     case measure => have := HL.out; simp [upN, intOf]; omega
    ·have hpn : ps[j]? = none := List.getElem?_eq_none (by omega)
     rw [hpn, List.append_nil] at hnx
     have HNX := hid hnx
     have gp1 : ¬ (j : Int) < (ps.length : Int) := by omega
     clear hp hpn hnx HPs
     go_wp2_with (first
      | (go_at_call 130; refine Calls.mono HC.out ?_; rintro e w2 ⟨rfl, D2, hG2, hS2⟩; have b5' := (okS_cell hS2 HFI.out 3).trans HI3.out))
     go_roundw
     case rel => exact ⟨j + 1, HL.out, by go_num, D2, by rw [HNX.out]; exact hG2, HS.out.trans hS2⟩
     case measure => have := HL.out; simp [upN, intOf]; omega
   ·obtain rfl : j = al.length := by omega
    have r1 := (okS_cell hS1 hfe.out 1).trans x1
    have r4 := (okS_cell hS1 hfe.out 4).trans x4
    have r5 := (okS_cell hS1 hfe.out 5).trans x5
    have HFl := hid (fl_flows_any hL hG1 (HB.out al.length) q l.length c fq fs.length fc bk u fl0 f t x)
    have HI2 := hid ((okS_cell hS1 hfi.out 2).trans i2)
    have HFI := hid ((okS.step hS1).2 _ hfi.out)
    clear hlt hjl hits HM HB
    go_wp2_with (first
     | (go_at_call 162; refine Calls.mono HFl.out ?_; rintro e w3 ⟨rfl, D3, hG3, hS3⟩; have b2' := (okS_cell hS3 HFI.out 2).trans HI2.out))
    go_ret
    exact ⟨rfl, D3, hG3, (HST.out.trans hS1).trans hS3⟩
end
end Go.Proofs.YtdkpfnohdknldaaGreatDoor

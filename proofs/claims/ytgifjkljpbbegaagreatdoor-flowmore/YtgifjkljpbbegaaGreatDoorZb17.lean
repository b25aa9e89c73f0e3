/- Texts of this seat, one behind the other: NamItem, NamExpr, NamTree, NamStmt, NamStm2. -/
import Derived.Test.YtgifjkljpbbegaaGreatDoorZb16
import Derived.Test.YtgifjkljpbbegaaGreatDoorZb11
import Derived.Test.YtgifjkljpbbegaaGreatDoorZb07
namespace Go.Proofs.YtgifjkljpbbegaaGreatDoor
open Go.RowKit
attribute [local go_sem ↓] Go.wp_at_zero Go.wp_at_succ
theorem fnd_cases (l : List (Int × It)) (kd : Int) (x : ByteArray) : fnd l kd x = -1 ∨ ∃ k : Nat, fnd l kd x = (k : Int) ∧ k < l.length := by
  unfold fnd fidx
  split
  · exact .inl rfl
  · split
    · rename_i i h
      exact .inr ⟨i, rfl, (List.findIdx?_eq_some_iff_getElem.1 h).1⟩
    · exact .inl rfl
theorem hit_none {l : List (Int × It)} {kd : Nat} {x : ByteArray} (h : fnd l kd x = -1) : hit l kd x = none := by unfold hit; rw [h]; rfl
theorem hit_some {l : List (Int × It)} {kd k : Nat} {x : ByteArray} {e : Int × It} (h : fnd l kd x = (k : Int)) (hk : l[k]? = some e) : hit l kd x = some e := by
  unfold hit
  rw [h, if_neg (by omega), Int.toNat_natCast]
  exact hk
section
variable {bo b0 pw pu : Nat} {cw cu : Array Value} {G : World → List Ev → Option Nat → Prop} {bw : Nat} {l : List (Int × It)} {p : Int} {D : Option Nat} {w : World} {L : List Ev}
theorem Lsn.ten {w' : World} {D' : Option Nat} (hL : Lsn bo b0 pw pu cw cu G) (hg : G w' L D') (hs : Stp bo D D' w w') {b : Nat} (h1 : b0 ≤ b) (hb : w.heap.size ≤ b) (h2 : some b ≠ D') (u0 u1 u2 u3 u4 u5 u6 u7 u8 u9 : Value) :
    G ((((((((((w'.setCell ⟨b, 0, none⟩ u0).setCell ⟨b, 1, none⟩ u1).setCell ⟨b, 2, none⟩ u2).setCell ⟨b, 3, none⟩ u3).setCell ⟨b, 4, none⟩ u4).setCell ⟨b, 5, none⟩ u5).setCell ⟨b, 6, none⟩ u6).setCell ⟨b, 7, none⟩ u7).setCell ⟨b, 8, none⟩ u8).setCell ⟨b, 9, none⟩ u9) L D' ∧ Stp bo D D' w ((((((((((w'.setCell ⟨b, 0, none⟩ u0).setCell ⟨b, 1, none⟩ u1).setCell ⟨b, 2, none⟩ u2).setCell ⟨b, 3, none⟩ u3).setCell ⟨b, 4, none⟩ u4).setCell ⟨b, 5, none⟩ u5).setCell ⟨b, 6, none⟩ u6).setCell ⟨b, 7, none⟩ u7).setCell ⟨b, 8, none⟩ u8).setCell ⟨b, 9, none⟩ u9) :=
  ⟨hL.set (hL.set (hL.set (hL.set (hL.set (hL.set (hL.set (hL.set (hL.set (hL.set hg h1 h2 _ _) h1 h2 _ _) h1 h2 _ _) h1 h2 _ _) h1 h2 _ _) h1 h2 _ _) h1 h2 _ _) h1 h2 _ _) h1 h2 _ _) h1 h2 _ _, ((((((((((hs.set hb _ _).set hb _ _).set hb _ _).set hb _ _).set hb _ _).set hb _ _).set hb _ _).set hb _ _).set hb _ _).set hb _ _)⟩
/-- What item answers. -/
def ItR (l : List (Int × It)) (kd : Nat) (x : ByteArray) (e : Ending) : Prop := ∃ (k0 : Int) (x0 : ByteArray) (l0 : Int) (q : Option Addr) (n c : Nat) (q4 : Option Addr) (n4 c4 : Nat) (q5 : Option Addr) (n5 c5 : Nat) (a6 a7 a8 : Int) (q9 : Option Addr) (n9 c9 : Nat), e = .returned (.tuple #[.agg #[.int .i64 k0, .string x0, .int .i64 l0, .slice q n c, .slice q4 n4 c4, .slice q5 n5 c5, .int .i64 a6, .int .i64 a7, .int .i64 a8, .slice q9 n9 c9], .bool (hit l kd x).isSome]) ∧ ∀ i, hit l kd x = some i → n = i.2.ps.length
set_option maxHeartbeats 1000000 in
set_option maxRecDepth 100000 in
theorem nm_item_none (hL : Lsn bo b0 pw pu cw cu G) (hk : Wk bo pw pu cw cu bw l p D w) (hg : G w L D) (hn : L.length < 1099511627776) (kd : Nat) (x : ByteArray) (a : Nat) (hF : fnd l kd x = -1) :
    Calls Tryz.prog 152 #[.pointer (some ⟨bw, 0, none⟩), .int .i64 (kd : Int), .agg #[.string x, .int .i64 (a : Int)]] w fun e w' => ItR l kd x e ∧ Tl bo G D (L ++ evItem l kd x a) w w' := by
  have ew := hL.ew
  obtain ⟨q, c, c0, hR⟩ := hk.file
  have hb1 := ((Below.refl w.heap.size w).alloc (Nat.le_refl _) (.cells #[.string x, .int .i64 (a : Int)] 58)).alloc (by simp) (.cells #[.int .i64 0, .string ⟨#[]⟩, .int .i64 0, .slice none 0 0, .slice none 0 0, .slice none 0 0, .int .i64 0, .int .i64 0, .int .i64 0, .slice none 0 0] 50)
  obtain ⟨y0, y1⟩ := two_new w x a
  have y0 := cell_alloc y0 (.cells #[.int .i64 0, .string ⟨#[]⟩, .int .i64 0, .slice none 0 0, .slice none 0 0, .slice none 0 0, .int .i64 0, .int .i64 0, .int .i64 0, .slice none 0 0] 50)
  have y1 := cell_alloc y1 (.cells #[.int .i64 0, .string ⟨#[]⟩, .int .i64 0, .slice none 0 0, .slice none 0 0, .slice none 0 0, .int .i64 0, .int .i64 0, .int .i64 0, .slice none 0 0] 50)
  have hi := heap_alloc_new (w.alloc (.cells #[.string x, .int .i64 (a : Int)] 58)) (.cells #[.int .i64 0, .string ⟨#[]⟩, .int .i64 0, .slice none 0 0, .slice none 0 0, .slice none 0 0, .int .i64 0, .int .i64 0, .int .i64 0, .slice none 0 0] 50)
  have hW1 : (w.alloc (.cells #[.string x, .int .i64 (a : Int)] 58)).heap.size = w.heap.size + 1 := by simp
  have hW2 : ((w.alloc (.cells #[.string x, .int .i64 (a : Int)] 58)).alloc (.cells #[.int .i64 0, .string ⟨#[]⟩, .int .i64 0, .slice none 0 0, .slice none 0 0, .slice none 0 0, .int .i64 0, .int .i64 0, .int .i64 0, .slice none 0 0] 50)).heap.size = w.heap.size + 2 := by simp
  rw [hW1] at hi
  have hst : Stp bo D D w ((w.alloc (.cells #[.string x, .int .i64 (a : Int)] 58)).alloc (.cells #[.int .i64 0, .string ⟨#[]⟩, .int .i64 0, .slice none 0 0, .slice none 0 0, .slice none 0 0, .int .i64 0, .int .i64 0, .int .i64 0, .slice none 0 0] 50)) := Stp.below hb1
  have hk1 := hk.step hst
  have hg1 := hL.below hg hb1
  have HF := hid (Find_any l _ kd x ((w.alloc (.cells #[.string x, .int .i64 (a : Int)] 58)).alloc (.cells #[.int .i64 0, .string ⟨#[]⟩, .int .i64 0, .slice none 0 0, .slice none 0 0, .slice none 0 0, .int .i64 0, .int .i64 0, .int .i64 0, .slice none 0 0] 50)).drew (okS 0 bo D w) (fun k hk => Nat.lt_of_lt_of_le hk.2.1 hb1.size) (RdF.kept hR (fun k hk => hb1.block k hk.2.1) (fun _ h => h)))
  rw [hF] at HF
  have d0 := cell_alloc (cell_alloc c0 (.cells #[.string x, .int .i64 (a : Int)] 58)) (.cells #[.int .i64 0, .string ⟨#[]⟩, .int .i64 0, .slice none 0 0, .slice none 0 0, .slice none 0 0, .int .i64 0, .int .i64 0, .int .i64 0, .slice none 0 0] 50)
  have HO := hid (And.intro (hL.fresh (w' := ((w.alloc (.cells #[.string x, .int .i64 (a : Int)] 58)).alloc (.cells #[.int .i64 0, .string ⟨#[]⟩, .int .i64 0, .slice none 0 0, .slice none 0 0, .slice none 0 0, .int .i64 0, .int .i64 0, .int .i64 0, .slice none 0 0] 50))) hg (Nat.le_refl _) (by rw [hW2]; omega)) (hL.fresh (w' := ((w.alloc (.cells #[.string x, .int .i64 (a : Int)] 58)).alloc (.cells #[.int .i64 0, .string ⟨#[]⟩, .int .i64 0, .slice none 0 0, .slice none 0 0, .slice none 0 0, .int .i64 0, .int .i64 0, .int .i64 0, .slice none 0 0] 50))) hg (Nat.le_succ w.heap.size) (by rw [hW2]; omega)))
  have e1 := hit_none hF
  have e2 : evItem l kd x a = [evNo 6 x a] := by unfold evItem; rw [e1]
  unfold ItR
  rw [e1, e2]
  have hb0 := (hL.lt w L D hg).1
  clear hF e1 e2 hR c0
  go_enter Tryz.func152, Tryz.ntmps152
  go_wp2
  generalize (w.alloc (.cells #[.string x, .int .i64 (a : Int)] 58)).alloc (.cells #[.int .i64 0, .string ⟨#[]⟩, .int .i64 0, .slice none 0 0, .slice none 0 0, .slice none 0 0, .int .i64 0, .int .i64 0, .int .i64 0, .slice none 0 0] 50) = W at *
  go_region_held3 (fun w' => w'.cell? ⟨bw, 0, none⟩ = some (.slice q l.length c) ∧ w'.cell? ⟨w.heap.size, 0, none⟩ = some (.string x)) (first | go_keep | (with_reducible exact ⟨z0, z1⟩))
    (first
      | (go_at_call 10; refine Calls.mono HF.out ?_; rintro e w2 ⟨rfl, hb2⟩; have hs2 : Stp bo D D W w2 := (Stp.below (Below.drew (Below.refl W.heap.size W))).trans (Stp.below hb2); have z0 := (okS_cell hs2 hk1.ok 0).trans d0; have z1 := (okS_cell hs2 HO.out.1 0).trans y0))
  have z2 := (okS_cell hs2 HO.out.1 1).trans y1
  have hk2 := hk1.step hs2
  have z3 := hk2.wrong
  have hg2 : G w2 L D := hL.below hg1 (Below.trans (Below.drew (Below.refl W.heap.size W)) hb2)
  have HO2 := hid (And.intro hk2.ok (And.intro ((okS.step hs2).2 _ HO.out.1) ((okS.step hs2).2 _ HO.out.2)))
  have hi2 := ((okS.step hs2).1 _ HO.out.2).trans hi
  have hst2 := hst.trans hs2
  have HW := hid (hL.wrong6 (hL.below hg2 (Below.drew (Below.refl w2.heap.size w2))) hn x a)
  clear z0 hs2 d0 y0 y1 hi
  go_wp2
  go_region_held3 (fun w' => w'.cell? ⟨bw, 2, none⟩ = some (.func (.func pw) #[] cw) ∧ w'.cell? ⟨w.heap.size, 0, none⟩ = some (.string x) ∧ w'.cell? ⟨w.heap.size, 1, none⟩ = some (.int .i64 (a : Int))) (first | go_keep | (with_reducible exact ⟨v2, v0, v1⟩))
    (first
      | ((with_reducible refine Calls.mono HW.out ?_); rintro e w3 ⟨rfl, D3, hG3, hS3q⟩; have hS3 : Stp bo D D3 w2 w3 := (Stp.below (Below.drew (Below.refl w2.heap.size w2))).trans hS3q; have v2 := (okS_cell hS3 HO2.out.1 2).trans z3; have v0 := (okS_cell hS3 HO2.out.2.1 0).trans z1; have v1 := (okS_cell hS3 HO2.out.2.1 1).trans z2))
  have hi3 := ((okS.step hS3).1 _ HO2.out.2.2).trans hi2
  have hne := ((okS.step hS3).2 _ HO2.out.2.2).2.2.2
  obtain ⟨r0, r1, r2, r3, r4, r5, r6, r7, r8, r9, rf⟩ := ten_at hi3
  obtain ⟨t1, t2⟩ := Lsn.ten hL hG3 (hst2.trans hS3) (b := w.heap.size + 1) (by omega) (by omega) hne (.int .i64 0) (.string ⟨#[]⟩) (.int .i64 0) (.slice none 0 0) (.slice none 0 0) (.slice none 0 0) (.int .i64 0) (.int .i64 0) (.int .i64 0) (.slice none 0 0)
  have HT := hid (And.intro t1 t2)
  clear v0 v1 v2 t1 t2
  go_wp2
  exact bodyPost_ret (v := .tuple #[.agg #[.int .i64 0, .string ⟨#[]⟩, .int .i64 0, .slice none 0 0, .slice none 0 0, .slice none 0 0, .int .i64 0, .int .i64 0, .int .i64 0, .slice none 0 0], .bool false]) (by simp [results, Tryz.results152, go_sem, r0, r1, r2, r3, r4, r5, r6, r7, r8, r9]) rfl ⟨⟨_, _, _, _, _, _, _, _, _, _, _, _, _, _, _, _, _, _, rfl, fun i h => by cases h⟩, D3, HT.out.1, HT.out.2⟩
set_option maxHeartbeats 1000000 in
set_option maxRecDepth 100000 in
theorem nm_item_some (hL : Lsn bo b0 pw pu cw cu G) (hk : Wk bo pw pu cw cu bw l p D w) (hg : G w L D) (hn : L.length < 1099511627776) (kd : Nat) (x : ByteArray) (a : Nat) (k : Nat) (it : Int × It) (hF : fnd l kd x = (k : Int)) (hk0 : l[k]? = some it) :
    Calls Tryz.prog 152 #[.pointer (some ⟨bw, 0, none⟩), .int .i64 (kd : Int), .agg #[.string x, .int .i64 (a : Int)]] w fun e w' => ItR l kd x e ∧ Tl bo G D (L ++ evItem l kd x a) w w' := by
  have eu := hL.eu
  obtain ⟨q, c, c0, hR⟩ := hk.file
  have hb1 := ((Below.refl w.heap.size w).alloc (Nat.le_refl _) (.cells #[.string x, .int .i64 (a : Int)] 58)).alloc (by simp) (.cells #[.int .i64 0, .string ⟨#[]⟩, .int .i64 0, .slice none 0 0, .slice none 0 0, .slice none 0 0, .int .i64 0, .int .i64 0, .int .i64 0, .slice none 0 0] 50)
  obtain ⟨y0, y1⟩ := two_new w x a
  have y0 := cell_alloc y0 (.cells #[.int .i64 0, .string ⟨#[]⟩, .int .i64 0, .slice none 0 0, .slice none 0 0, .slice none 0 0, .int .i64 0, .int .i64 0, .int .i64 0, .slice none 0 0] 50)
  have y1 := cell_alloc y1 (.cells #[.int .i64 0, .string ⟨#[]⟩, .int .i64 0, .slice none 0 0, .slice none 0 0, .slice none 0 0, .int .i64 0, .int .i64 0, .int .i64 0, .slice none 0 0] 50)
  have hi := heap_alloc_new (w.alloc (.cells #[.string x, .int .i64 (a : Int)] 58)) (.cells #[.int .i64 0, .string ⟨#[]⟩, .int .i64 0, .slice none 0 0, .slice none 0 0, .slice none 0 0, .int .i64 0, .int .i64 0, .int .i64 0, .slice none 0 0] 50)
  have hW1 : (w.alloc (.cells #[.string x, .int .i64 (a : Int)] 58)).heap.size = w.heap.size + 1 := by simp
  have hW2 : ((w.alloc (.cells #[.string x, .int .i64 (a : Int)] 58)).alloc (.cells #[.int .i64 0, .string ⟨#[]⟩, .int .i64 0, .slice none 0 0, .slice none 0 0, .slice none 0 0, .int .i64 0, .int .i64 0, .int .i64 0, .slice none 0 0] 50)).heap.size = w.heap.size + 2 := by simp
  rw [hW1] at hi
  have hst : Stp bo D D w ((w.alloc (.cells #[.string x, .int .i64 (a : Int)] 58)).alloc (.cells #[.int .i64 0, .string ⟨#[]⟩, .int .i64 0, .slice none 0 0, .slice none 0 0, .slice none 0 0, .int .i64 0, .int .i64 0, .int .i64 0, .slice none 0 0] 50)) := Stp.below hb1
  have hk1 := hk.step hst
  have hg1 := hL.below hg hb1
  have HF := hid (Find_any l _ kd x ((w.alloc (.cells #[.string x, .int .i64 (a : Int)] 58)).alloc (.cells #[.int .i64 0, .string ⟨#[]⟩, .int .i64 0, .slice none 0 0, .slice none 0 0, .slice none 0 0, .int .i64 0, .int .i64 0, .int .i64 0, .slice none 0 0] 50)).drew (okS 0 bo D w) (fun k hk => Nat.lt_of_lt_of_le hk.2.1 hb1.size) (RdF.kept hR (fun k hk => hb1.block k hk.2.1) (fun _ h => h)))
  rw [hF] at HF
  have d0 := cell_alloc (cell_alloc c0 (.cells #[.string x, .int .i64 (a : Int)] 58)) (.cells #[.int .i64 0, .string ⟨#[]⟩, .int .i64 0, .slice none 0 0, .slice none 0 0, .slice none 0 0, .int .i64 0, .int .i64 0, .int .i64 0, .slice none 0 0] 50)
  have HO := hid (And.intro (hL.fresh (w' := ((w.alloc (.cells #[.string x, .int .i64 (a : Int)] 58)).alloc (.cells #[.int .i64 0, .string ⟨#[]⟩, .int .i64 0, .slice none 0 0, .slice none 0 0, .slice none 0 0, .int .i64 0, .int .i64 0, .int .i64 0, .slice none 0 0] 50))) hg (Nat.le_refl _) (by rw [hW2]; omega)) (hL.fresh (w' := ((w.alloc (.cells #[.string x, .int .i64 (a : Int)] 58)).alloc (.cells #[.int .i64 0, .string ⟨#[]⟩, .int .i64 0, .slice none 0 0, .slice none 0 0, .slice none 0 0, .int .i64 0, .int .i64 0, .int .i64 0, .slice none 0 0] 50))) hg (Nat.le_succ w.heap.size) (by rw [hW2]; omega)))
  have e1 := hit_some hF hk0
  have e2 : evItem l kd x a = [evYes x a (IntKind.i64.wrap (it.1 + (it.2.mrk : Int)))] := by unfold evItem; rw [e1]; rfl
  have hkl := (List.getElem?_eq_some_iff.1 hk0).1
  have hlb := (show l.length ≤ 1099511627776 by obtain ⟨_, _, _, h, _⟩ := hR; exact h)
  have gk : (0 : Int) ≤ (k : Int) := by omega
  have gk1 : (k : Int) < (l.length : Int) := by omega
  have gk2 : ¬ (k : Int) < 0 := by omega
  have gk3 : k < 1099511627776 := by omega
  have HR := hid hR
  have HK := hid hk0
  unfold ItR
  rw [e1, e2]
  have hb0 := (hL.lt w L D hg).1
  clear hF e1 e2 hR c0 hk0 hlb
  go_enter Tryz.func152, Tryz.ntmps152
  go_wp2
  generalize (w.alloc (.cells #[.string x, .int .i64 (a : Int)] 58)).alloc (.cells #[.int .i64 0, .string ⟨#[]⟩, .int .i64 0, .slice none 0 0, .slice none 0 0, .slice none 0 0, .int .i64 0, .int .i64 0, .int .i64 0, .slice none 0 0] 50) = W at *
  go_region_held3 (fun w' => w'.cell? ⟨bw, 0, none⟩ = some (.slice q l.length c) ∧ w'.cell? ⟨w.heap.size, 0, none⟩ = some (.string x)) (first | go_keep | (with_reducible exact ⟨z0, z1⟩))
    (first
      | (go_at_call 10; refine Calls.mono HF.out ?_; rintro e w2 ⟨rfl, hb2⟩; have hs2 : Stp bo D D W w2 := (Stp.below (Below.drew (Below.refl W.heap.size W))).trans (Stp.below hb2); have z0 := (okS_cell hs2 hk1.ok 0).trans d0; have z1 := (okS_cell hs2 HO.out.1 0).trans y0))
  have z2 := (okS_cell hs2 HO.out.1 1).trans y1
  have hk2 := hk1.step hs2
  have z3 := hk2.used
  have hg2 : G w2 L D := hL.below hg1 (Below.trans (Below.drew (Below.refl W.heap.size W)) hb2)
  have hst2 := hst.trans hs2
  obtain ⟨pq, cq, hpq, _, hits⟩ := RdF.kept HR.out (okS.step hst2).1 (okS.step hst2).2
  injection hpq with hpq
  have hpq : Value.slice q l.length c = Value.slice pq l.length cq := by simpa using hpq
  injection hpq with hq1 hq2 hq3
  subst hq1
  obtain ⟨g, rfl, hgo, hIs⟩ := hits (by omega)
  obtain ⟨v, hcv, hI⟩ := hIs k it HK.out
  obtain ⟨p1, c1, p2, c2, p3, c3, p4, c4, rfl, _⟩ := hI
  have i0 := hcv.get 0 _ rfl
  have i1 := hcv.get 1 _ rfl
  have i2 := hcv.get 2 _ rfl
  have i3 := hcv.get 3 _ rfl
  have i4 := hcv.get 4 _ rfl
  have i5 := hcv.get 5 _ rfl
  have i6 := hcv.get 6 _ rfl
  have i7 := hcv.get 7 _ rfl
  have i8 := hcv.get 8 _ rfl
  have i9 := hcv.get 9 _ rfl
  rw [Nat.add_zero] at i0
  have HO2 := hid (And.intro hk2.ok (And.intro ((okS.step hs2).2 _ HO.out.1) ((okS.step hs2).2 _ HO.out.2)))
  have hi2 := ((okS.step hs2).1 _ HO.out.2).trans hi
  have hba := (Below.refl w2.heap.size w2).alloc (Nat.le_refl _) (.cells #[.int .i64 (it.2.k : Int), .string it.2.x, .int .i64 (it.2.l : Int), .slice p1 it.2.ps.length c1, .slice p2 it.2.ss.length c2, .slice p3 it.2.bd.length c3, .int .i64 it.1, .int .i64 (it.2.sz : Int), .int .i64 (it.2.mrk : Int), .slice p4 it.2.ds.length c4] 50)
  have hnew := heap_alloc_new w2 (.cells #[.int .i64 (it.2.k : Int), .string it.2.x, .int .i64 (it.2.l : Int), .slice p1 it.2.ps.length c1, .slice p2 it.2.ss.length c2, .slice p3 it.2.bd.length c3, .int .i64 it.1, .int .i64 (it.2.sz : Int), .int .i64 (it.2.mrk : Int), .slice p4 it.2.ds.length c4] 50)
  obtain ⟨_, _, _, _, _, _, j6, _, j8, _, _⟩ := ten_at hnew
  have HN := hid hnew
  have HU := hid (hL.used _ L D x a (IntKind.i64.wrap (it.1 + (it.2.mrk : Int))) (hL.below hg2 hba.drew) hn)
  have hsa : Stp bo D D w2 (w2.alloc (.cells #[.int .i64 (it.2.k : Int), .string it.2.x, .int .i64 (it.2.l : Int), .slice p1 it.2.ps.length c1, .slice p2 it.2.ss.length c2, .slice p3 it.2.bd.length c3, .int .i64 it.1, .int .i64 (it.2.sz : Int), .int .i64 (it.2.mrk : Int), .slice p4 it.2.ds.length c4] 50)).drew := Stp.below hba.drew
  have HO3 := hid (hL.fresh (w' := (w2.alloc (.cells #[.int .i64 (it.2.k : Int), .string it.2.x, .int .i64 (it.2.l : Int), .slice p1 it.2.ps.length c1, .slice p2 it.2.ss.length c2, .slice p3 it.2.bd.length c3, .int .i64 it.1, .int .i64 (it.2.sz : Int), .int .i64 (it.2.mrk : Int), .slice p4 it.2.ds.length c4] 50)).drew) hg2 (Nat.le_refl _) (by simp))
  have x3 := cell_alloc z3
  have x1 := cell_alloc z1
  have x2 := cell_alloc z2
  clear hs2 d0 y0 y1 hi hcv hits hIs hnew
  go_wp2
  go_region_held3 (fun w' => w'.cell? ⟨bw, 3, none⟩ = some (.func (.func pu) #[] cu) ∧ w'.cell? ⟨w.heap.size, 0, none⟩ = some (.string x) ∧ w'.cell? ⟨w.heap.size, 1, none⟩ = some (.int .i64 (a : Int)) ∧ w'.cell? ⟨w2.heap.size, 6, none⟩ = some (.int .i64 it.1) ∧ w'.cell? ⟨w2.heap.size, 8, none⟩ = some (.int .i64 (it.2.mrk : Int))) (first | go_keep | (with_reducible exact ⟨v2, v0, v1, v6, v8⟩))
    (first
      | ((with_reducible refine Calls.mono HU.out ?_); rintro e w3 ⟨rfl, D3, hG3, hS3q⟩; have hS3 := hsa.trans hS3q; have v2 := (okS_cell hS3 HO2.out.1 3).trans z3; have v0 := (okS_cell hS3 HO2.out.2.1 0).trans z1; have v1 := (okS_cell hS3 HO2.out.2.1 1).trans z2; have v6 := (okS_cell hS3q HO3.out 6).trans j6; have v8 := (okS_cell hS3q HO3.out 8).trans j8))
  have hi3 := ((okS.step hS3).1 _ HO2.out.2.2).trans hi2
  have hne := ((okS.step hS3).2 _ HO2.out.2.2).2.2.2
  obtain ⟨n0, n1, n2, n3, n4, n5, n6, n7, n8, n9, _⟩ := ten_at (((okS.step hS3q).1 _ HO3.out).trans HN.out)
  obtain ⟨r0, r1, r2, r3, r4, r5, r6, r7, r8, r9, rf⟩ := ten_at hi3
  obtain ⟨t1, t2⟩ := Lsn.ten hL hG3 (hst2.trans hS3) (b := w.heap.size + 1) (by omega) (by omega) hne (.int .i64 (it.2.k : Int)) (.string it.2.x) (.int .i64 (it.2.l : Int)) (.slice p1 it.2.ps.length c1) (.slice p2 it.2.ss.length c2) (.slice p3 it.2.bd.length c3) (.int .i64 it.1) (.int .i64 (it.2.sz : Int)) (.int .i64 (it.2.mrk : Int)) (.slice p4 it.2.ds.length c4)
  have HT := hid (And.intro t1 t2)
  clear v0 v1 v2 v6 v8 t1 t2 x1 x2 x3
  go_wp2
  exact bodyPost_ret (v := .tuple #[.agg #[.int .i64 (it.2.k : Int), .string it.2.x, .int .i64 (it.2.l : Int), .slice p1 it.2.ps.length c1, .slice p2 it.2.ss.length c2, .slice p3 it.2.bd.length c3, .int .i64 it.1, .int .i64 (it.2.sz : Int), .int .i64 (it.2.mrk : Int), .slice p4 it.2.ds.length c4], .bool true]) (by simp [results, Tryz.results152, go_sem, r0, r1, r2, r3, r4, r5, r6, r7, r8, r9]) rfl ⟨⟨_, _, _, _, _, _, _, _, _, _, _, _, _, _, _, _, _, _, rfl, fun i h => by cases h; rfl⟩, D3, HT.out.1, HT.out.2⟩
theorem nm_item_any (hL : Lsn bo b0 pw pu cw cu G) (hk : Wk bo pw pu cw cu bw l p D w) (hg : G w L D) (hn : L.length < 1099511627776) (kd : Nat) (x : ByteArray) (a : Nat) :
    Calls Tryz.prog 152 #[.pointer (some ⟨bw, 0, none⟩), .int .i64 (kd : Int), .agg #[.string x, .int .i64 (a : Int)]] w fun e w' => ItR l kd x e ∧ Tl bo G D (L ++ evItem l kd x a) w w' := by
  rcases fnd_cases l kd x with h | ⟨k, h, hk1⟩
  · exact nm_item_none hL hk hg hn kd x a h
  · exact nm_item_some hL hk hg hn kd x a k l[k] h (List.getElem?_eq_getElem hk1)
end
end Go.Proofs.YtgifjkljpbbegaaGreatDoor
namespace Go.Proofs.YtgifjkljpbbegaaGreatDoor
open Go.RowKit
attribute [local go_sem ↓] Go.wp_at_zero Go.wp_at_succ
section
variable {bo b0 pw pu : Nat} {cw cu : Array Value} {G : World → List Ev → Option Nat → Prop} {bw : Nat} {l : List (Int × It)} {p : Int} {D : Option Nat} {w : World} {L : List Ev}
set_option maxHeartbeats 1000000 in
set_option maxRecDepth 100000 in
theorem nm_call_any (hL : Lsn bo b0 pw pu cw cu G) (hk : Wk bo pw pu cw cu bw l p D w) (hg : G w L D) (x : ByteArray) (a n : Nat) (hn : (L ++ evCall l x a n).length < 1099511627776) :
    Calls Tryz.prog 173 #[.pointer (some ⟨bw, 0, none⟩), .agg #[.string x, .int .i64 (a : Int)], .int .i64 (n : Int)] w fun e w' => e = .returned (.tuple #[]) ∧ Tl bo G D (L ++ evCall l x a n) w w' := by
  have ew := hL.ew
  have hb0 := (Below.refl w.heap.size w).alloc (Nat.le_refl _) (.cells #[.string x, .int .i64 (a : Int)] 58)
  obtain ⟨y0, y1⟩ := two_new w x a
  have hst : Stp bo D D w (w.alloc (.cells #[.string x, .int .i64 (a : Int)] 58)) := Stp.below hb0
  have hk1 := hk.step hst
  have hg1 := hL.below hg hb0
  have hfr := hid (hL.fresh (w' := w.alloc (.cells #[.string x, .int .i64 (a : Int)] 58)) hg (Nat.le_refl _) (by simp))
  unfold evCall at hn ⊢
  have HI := hid (nm_item_any hL hk1 hg1 (by simp only [List.length_append] at hn; omega) 2 x a)
  clear hb0
  cases hh : hit l 2 x with
  | none =>
    rw [hh] at hn
    simp only [List.append_nil] at hn ⊢
    have HH := hid hh
    clear hh
    go_enter Tryz.func173, Tryz.ntmps173
    go_wp2_with (first
      | (go_at_call 152; refine Calls.mono HI.out ?_; rintro e w2 ⟨⟨k0, x0, l0, q, n2, c, q4, n4, c4, q5, n5, c5, a6, a7, a8, q9, n9, c9, rfl, _⟩, D2, hG2, hS2⟩; rw [HH.out, Option.isSome_none]))
    go_end0
    exact ⟨rfl, D2, hL.below hG2 ((Below.refl w2.heap.size w2).alloc (Nat.le_refl _) _), (hst.trans hS2).trans (Stp.below ((Below.refl w2.heap.size w2).alloc (Nat.le_refl _) _))⟩
  | some i =>
    rw [hh] at hn
    simp only at hn ⊢
    by_cases hm : i.2.ps.length = n
    · rw [if_pos hm, List.append_nil] at hn ⊢
      have gm : ((n : Int) != (n : Int)) = false := by simp
      have HH := hid hh
      have HM := hid hm
      clear hh hm
      go_enter Tryz.func173, Tryz.ntmps173
      go_wp2_with (first
        | (go_at_call 152; refine Calls.mono HI.out ?_; rintro e w2 ⟨⟨k0, x0, l0, q, n2, c, q4, n4, c4, q5, n5, c5, a6, a7, a8, q9, n9, c9, rfl, hps⟩, D2, hG2, hS2⟩; rw [hps i HH.out, HM.out, HH.out, Option.isSome_some]; clear hps))
      go_end0
      exact ⟨rfl, D2, hL.below hG2 ((Below.refl w2.heap.size w2).alloc (Nat.le_refl _) _), (hst.trans hS2).trans (Stp.below ((Below.refl w2.heap.size w2).alloc (Nat.le_refl _) _))⟩
    · rw [if_neg hm] at hn ⊢
      generalize hj : i.2.ps.length = m at *
      have gm : ((m : Int) != (n : Int)) = true := by simp; omega
      have HH := hid hh
      have HM := hid hj
      have HN : Hid ((L ++ evItem l 2 x a).length < 1099511627776) := by simp only [List.length_append] at hn; show (L ++ evItem l 2 x a).length < _; rw [List.length_append]; omega
      clear hh hm hj hn
      go_enter Tryz.func173, Tryz.ntmps173
      go_wp2_with (first
        | (go_at_call 152; refine Calls.mono HI.out ?_; rintro e w2 ⟨⟨k0, x0, l0, q, n2, c, q4, n4, c4, q5, n5, c5, a6, a7, a8, q9, n9, c9, rfl, hps⟩, D2, hG2, hS2⟩; have z0 := (okS_cell hS2 hfr.out 0).trans y0; have z1 := (okS_cell hS2 hfr.out 1).trans y1; have z2 := (hk1.step hS2).wrong; rw [hps i HH.out, HM.out, HH.out, Option.isSome_some]; clear hps))
      have hfr2 := hid ((okS.step hS2).2 _ hfr.out)
      have hok2 := hid ((hk1.step hS2).ok)
      generalize hO : (Obj.cells #[.int .i64 k0, .string x0, .int .i64 l0, .slice q m c, .slice q4 n4 c4, .slice q5 n5 c5, .int .i64 a6, .int .i64 a7, .int .i64 a8, .slice q9 n9 c9] 50) = O at *
      have hbo := (Below.refl w2.heap.size w2).alloc (Nat.le_refl _) O
      have hso : Stp bo D2 D2 w2 (w2.alloc O).drew := Stp.below hbo.drew
      have HW := hid (hL.wrong5 (hL.below hG2 hbo.drew) HN.out x a)
      have o0 := cell_alloc z0 O
      have o1 := cell_alloc z1 O
      have o2 := cell_alloc z2 O
      go_region_held3 (fun w' => w'.cell? ⟨bw, 2, none⟩ = some (.func (.func pw) #[] cw) ∧ w'.cell? ⟨w.heap.size, 0, none⟩ = some (.string x) ∧ w'.cell? ⟨w.heap.size, 1, none⟩ = some (.int .i64 (a : Int))) (first | go_keep | (with_reducible exact ⟨v2, v0, v1⟩))
        (first
          | ((with_reducible refine Calls.mono HW.out ?_); rintro e w3 ⟨rfl, D3, hG3, hS3q⟩; have hS3 := hso.trans hS3q; have v2 := (okS_cell hS3 hok2.out 2).trans z2; have v0 := (okS_cell hS3 hfr2.out 0).trans z0; have v1 := (okS_cell hS3 hfr2.out 1).trans z1))
      clear v0 v1 v2
      go_wp2
      go_end0
      exact ⟨rfl, D3, by rw [← List.append_assoc]; exact hG3, (hst.trans hS2).trans hS3⟩
set_option maxHeartbeats 1000000 in
set_option maxRecDepth 100000 in
theorem nm_channel_any (hL : Lsn bo b0 pw pu cw cu G) (hk : Wk bo pw pu cw cu bw l p D w) (hg : G w L D) (x : ByteArray) (a : Nat) (hn : L.length < 1099511627776) :
    Calls Tryz.prog 115 #[.pointer (some ⟨bw, 0, none⟩), .agg #[.string x, .int .i64 (a : Int)]] w fun e w' => e = .returned (.tuple #[]) ∧ Tl bo G D (L ++ evChan l x a) w w' := by
  have hb0 := (Below.refl w.heap.size w).alloc (Nat.le_refl _) (.cells #[.string x, .int .i64 (a : Int)] 58)
  obtain ⟨y0, y1⟩ := two_new w x a
  have hst : Stp bo D D w (w.alloc (.cells #[.string x, .int .i64 (a : Int)] 58)) := Stp.below hb0
  have hk1 := hk.step hst
  have hg1 := hL.below hg hb0
  have HI := hid (nm_item_any hL hk1 hg1 hn 1 x a)
  unfold evChan
  by_cases hx : x = noB
  · rw [if_pos hx, List.append_nil]
    have gx : x.toList.isEmpty = true := by rw [hx, noB_list]; rfl
    clear hx
    go_enter Tryz.func115, Tryz.ntmps115
    go_wp2
    go_end0
    exact ⟨rfl, D, hg1, hst⟩
  · rw [if_neg hx]
    have gx : x.toList.isEmpty = false := by
      have h := (Lib.bytes_beq_false_iff x noB).2 hx
      rw [noB_list] at h
      cases hl : x.toList with
      | nil => rw [hl] at h; cases h
      | cons a r => rfl
    clear hx
    go_enter Tryz.func115, Tryz.ntmps115
    go_wp2_with (first
      | (go_at_call 152; refine Calls.mono HI.out ?_; rintro e w2 ⟨⟨k0, x0, l0, q, n2, c, q4, n4, c4, q5, n5, c5, a6, a7, a8, q9, n9, c9, rfl, _⟩, D2, hG2, hS2⟩))
    go_end0
    exact ⟨rfl, D2, hG2, hst.trans hS2⟩
end
end Go.Proofs.YtgifjkljpbbegaaGreatDoor
namespace Go.Proofs.YtgifjkljpbbegaaGreatDoor
open Go.RowKit
attribute [local go_sem ↓] Go.wp_at_zero Go.wp_at_succ
/-- What expr is to answer, of expressions no deeper than n. -/
def CNx (bo pw pu : Nat) (cw cu : Array Value) (G : World → List Ev → Option Nat → Prop) (bw : Nat) (l : List (Int × It)) (p : Int) (n : Nat) : Prop := ∀ (D : Option Nat) (w : World) (L : List Ev) (env : Env) (sv : Value) (e : Tr) (v : Value), Wk bo pw pu cw cu bw l p D w → G w L D → ScAt (okS 0 bo D w) w env sv → RdE n (okS 0 bo D w) w e v → (L ++ evX l p env e).length < 1099511627776 →
  Calls Tryz.prog 153 #[.pointer (some ⟨bw, 0, none⟩), sv, v] w fun ex w' => ex = .returned (.tuple #[]) ∧ Tl bo G D (L ++ evX l p env e) w w'
/-- So far. -/
def RelNx (bo : Nat) (G : World → List Ev → Option Nat → Prop) (D : Option Nat) (w : World) (M : Nat → List Ev) (n : Nat) (i : Value) (wr : World) : Prop := ∃ k : Nat, k ≤ n ∧ i = .int .i64 (k : Int) ∧ Tl bo G D (M k) w wr
theorem nm_flat_take {α : Type} {f : α → List Ev} {al : List α} {k : Nat} {a : α} (L : List Ev) (h : al[k]? = some a) : L ++ (al.take (k + 1)).flatMap f = L ++ (al.take k).flatMap f ++ f a := by
  rw [List.take_add_one, h, List.flatMap_append, List.append_assoc]
  simp
theorem nm_flat_less {α : Type} {f : α → List Ev} (al : List α) (k : Nat) (L : List Ev) : (L ++ (al.take k).flatMap f).length ≤ (L ++ al.flatMap f).length := by
  have h : al.flatMap f = (al.take k).flatMap f ++ (al.drop k).flatMap f := by rw [← List.flatMap_append, List.take_append_drop]
  rw [h]
  simp only [List.length_append]
  omega
section
variable {bo b0 pw pu : Nat} {cw cu : Array Value} {G : World → List Ev → Option Nat → Prop} {bw : Nat} {l : List (Int × It)} {p : Int} {D : Option Nat} {w : World} {L : List Ev}
set_option maxHeartbeats 1000000 in
set_option maxRecDepth 100000 in
theorem nm_exprs_any {n : Nat} (hL : Lsn bo b0 pw pu cw cu G) (hE : CNx bo pw pu cw cu G bw l p n) (hk : Wk bo pw pu cw cu bw l p D w) (hg : G w L D) {env : Env} {sv : Value} (hs : ScAt (okS 0 bo D w) w env sv) (al : List Tr) (q : Option Addr) (c : Nat) (hR : SlT (okS 0 bo D w) (RdE n (okS 0 bo D w) w) w 6 al q) (hn : (L ++ al.flatMap (evX l p env)).length < 1099511627776) :
    Calls Tryz.prog 172 #[.pointer (some ⟨bw, 0, none⟩), sv, .slice q al.length c] w fun ex w' => ex = .returned (.tuple #[]) ∧ Tl bo G D (L ++ al.flatMap (evX l p env)) w w' := by
  obtain ⟨hlen, hits⟩ := hR
  have HB := hid (fun k => Nat.lt_of_le_of_lt (nm_flat_less (f := evX l p env) al k L) hn)
  have HM := hid (fun k a (h : al[k]? = some a) => nm_flat_take (f := evX l p env) L h)
  have HZ : Hid (L ++ (al.take al.length).flatMap (evX l p env) = L ++ al.flatMap (evX l p env)) := by show _ = _; rw [List.take_length]
  have H0 : Hid (L ++ (al.take 0).flatMap (evX l p env) = L) := by show _ = _; simp
  clear hn
  generalize hM : (fun k => L ++ (al.take k).flatMap (evX l p env)) = M
  have hMk : ∀ k, L ++ (al.take k).flatMap (evX l p env) = M k := fun k => by rw [← hM]
  simp only [hMk] at HB HM HZ H0
  rw [← HZ.out]
  have h00 := H0.out
  rw [← h00] at hg
  clear hM hMk HZ H0 h00
  go_enter Tryz.func172, Tryz.ntmps172
  go_wp2
  go_loopw [10] (fun i wr => RelNx bo G D w M al.length i wr) (fun i _ => upN al.length i)
  case atStart => exact ⟨0, Nat.zero_le _, rfl, D, hg, Stp.refl _ _ _⟩
  case round =>
    obtain ⟨k, hkl, rfl, D1, hG1, hS1⟩ := hrel
    by_cases hlt : k < al.length
    · obtain ⟨g, rfl, hgo, hLA⟩ := hits (by omega)
      obtain ⟨e1, he1⟩ : ∃ e1, al[k]? = some e1 := ⟨_, List.getElem?_eq_getElem hlt⟩
      obtain ⟨v1, hcv, hR1⟩ := hLA k e1 he1
      have hcv := hcv.kept ((okS.step hS1).1 g hgo)
      have hR1 := RdE.stp hR1 hS1
      obtain ⟨k1, x1, m1, al1, f1, t1, p1, c1, rfl, rfl⟩ := RdE.form hR1
      have d0 := hcv.get 0 _ rfl
      have d1 := hcv.get 1 _ rfl
      have d2 := hcv.get 2 _ rfl
      have d3 := hcv.get 3 _ rfl
      have d4 := hcv.get 4 _ rfl
      have d5 := hcv.get 5 _ rfl
      rw [Nat.add_zero] at d0
      have gk : (0 : Int) ≤ (k : Int) := by omega
      have gk1 : (k : Int) < (al.length : Int) := by omega
      have hkb : k < 1099511627776 := by omega
      have hba := (Below.refl wr.heap.size wr).alloc (Nat.le_refl _) (.cells #[.int .i64 (k1 : Int), .string x1, .int .i64 (m1 : Int), .slice p1 al1.length c1, .int .i64 (f1 : Int), .int .i64 (t1 : Int)] 106)
      have hsa : Stp bo D1 D1 wr _ := Stp.below hba
      have hnx := HM.out k _ he1
      have HC := hid (hE D1 _ (M k) env sv _ _ ((hk.step hS1).step hsa) (hL.below hG1 hba) ((hs.step hS1).step hsa) (hR1.stp hsa) (by rw [← hnx]; exact HB.out (k + 1)))
      rw [← hnx] at HC
      have HL := hid hlt
      have HS := hid (hS1.trans hsa)
      clear hits hLA hcv hR1 he1 hnx hlt hkl hba hsa
      go_wp2_with (first
        | (go_at_call 153; refine Calls.mono HC.out ?_; rintro e w2 ⟨rfl, D2, hG2, hS2⟩))
      go_roundw
      case rel => exact ⟨k + 1, by have := HL.out; omega, by go_num, D2, hG2, HS.out.trans hS2⟩
      case measure => have := HL.out; simp [upN, intOf]; omega
    · obtain rfl : k = al.length := by omega
      clear hlt hkl
      go_wp2
      go_end0
      exact ⟨rfl, D1, hG1, hS1⟩
set_option maxHeartbeats 2000000 in
set_option maxRecDepth 100000 in
theorem nm_expr_any (hL : Lsn bo b0 pw pu cw cu G) (n : Nat) : CNx bo pw pu cw cu G bw l p n := by
  induction n with
  | zero => intro D w L env sv e v _ _ _ h; exact h.elim
  | succ n ih =>
    intro D w L env sv e v hk hg hs hR hn
    obtain ⟨k, x, m, al, f, t, q, c, rfl, rfl, hA⟩ := hR
    rw [evX_mk] at hn ⊢
    have hb1 := ((Below.refl w.heap.size w).alloc (Nat.le_refl _) (.cells #[.int .i64 (k : Int), .string x, .int .i64 (m : Int), .slice q al.length c, .int .i64 (f : Int), .int .i64 (t : Int)] 106)).alloc (by simp) (.cells #[.string x, .int .i64 (f : Int)] 58)
    obtain ⟨y0, y1⟩ := two_new (w.alloc (.cells #[.int .i64 (k : Int), .string x, .int .i64 (m : Int), .slice q al.length c, .int .i64 (f : Int), .int .i64 (t : Int)] 106)) x f
    obtain ⟨_, _, _, x3, _, _, _⟩ := six_at (heap_alloc_new w (.cells #[.int .i64 (k : Int), .string x, .int .i64 (m : Int), .slice q al.length c, .int .i64 (f : Int), .int .i64 (t : Int)] 106))
    have x3 := cell_alloc x3 (.cells #[.string x, .int .i64 (f : Int)] 58)
    have hW1 : (w.alloc (.cells #[.int .i64 (k : Int), .string x, .int .i64 (m : Int), .slice q al.length c, .int .i64 (f : Int), .int .i64 (t : Int)] 106)).heap.size = w.heap.size + 1 := by simp
    rw [hW1] at y0 y1
    have hst : Stp bo D D w ((w.alloc (.cells #[.int .i64 (k : Int), .string x, .int .i64 (m : Int), .slice q al.length c, .int .i64 (f : Int), .int .i64 (t : Int)] 106)).alloc (.cells #[.string x, .int .i64 (f : Int)] 58)) := Stp.below hb1
    have hk1 := hk.step hst
    have hg1 := hL.below hg hb1
    have hs1 := hs.step hst
    have hfr := hid (hL.fresh (w' := (w.alloc (.cells #[.int .i64 (k : Int), .string x, .int .i64 (m : Int), .slice q al.length c, .int .i64 (f : Int), .int .i64 (t : Int)] 106)).alloc (.cells #[.string x, .int .i64 (f : Int)] 58)) hg (Nat.le_refl _) (by simp; omega))
    have hA1 := hA.kept (okS.step hst).1 (okS.step hst).2 (RdE.kept n (okS.step hst).1 (okS.step hst).2)
    clear hb1 hs hk hg hA hW1
    by_cases h2 : k = 2
    · rw [if_pos h2] at hn ⊢
      have HC := hid (nm_local_any hL hk1 hg1 hs1 (by simp only [List.length_append] at hn; omega) x f)
      have g2 : ((k : Int) == 2) = true := by rw [h2]; rfl
      clear h2
      go_enter Tryz.func153, Tryz.ntmps153
      go_wp2_with (first
        | (go_at_call 154; refine Calls.mono HC.out ?_; rintro e w2 ⟨rfl, D2, hG2, hS2⟩))
      go_end0
      exact ⟨rfl, D2, hG2, hst.trans hS2⟩
    · rw [if_neg h2] at hn ⊢
      have g2 : ((k : Int) == 2) = false := by simp; omega
      clear h2
      by_cases h3 : k = 3
      · rw [if_pos h3] at hn ⊢
        have HC := hid (nm_exprs_any hL ih hk1 hg1 hs1 al q c hA1 hn)
        have g3 : ((k : Int) == 3) = true := by rw [h3]; rfl
        clear h3
        go_enter Tryz.func153, Tryz.ntmps153
        go_wp2_with (first
          | (go_at_call 172; refine Calls.mono HC.out ?_; rintro e w2 ⟨rfl, D2, hG2, hS2⟩))
        go_end0
        exact ⟨rfl, D2, hG2, hst.trans hS2⟩
      · rw [if_neg h3] at hn ⊢
        have g3 : ((k : Int) == 3) = false := by simp; omega
        clear h3
        by_cases h4 : k = 4
        · rw [if_pos h4] at hn ⊢
          have g4 : ((k : Int) == 4) = true := by rw [h4]; rfl
          rw [← List.append_assoc] at hn ⊢
          have HC := hid (nm_call_any hL hk1 hg1 x f al.length (by simp only [List.length_append] at hn ⊢; omega))
          have HX := hid (fun (D2 : Option Nat) (w2 : World) (hS2 : Stp bo D D2 ((w.alloc (.cells #[.int .i64 (k : Int), .string x, .int .i64 (m : Int), .slice q al.length c, .int .i64 (f : Int), .int .i64 (t : Int)] 106)).alloc (.cells #[.string x, .int .i64 (f : Int)] 58)) w2) (hG2 : G w2 (L ++ evCall l x f al.length) D2) => nm_exprs_any hL ih (hk1.step hS2) hG2 (hs1.step hS2) al q c (hA1.kept (okS.step hS2).1 (okS.step hS2).2 (RdE.kept n (okS.step hS2).1 (okS.step hS2).2)) hn)
          clear h4
          go_enter Tryz.func153, Tryz.ntmps153
          go_wp2_with (first
            | (go_at_call 173; refine Calls.mono HC.out ?_; rintro e w2 ⟨rfl, D2, hG2, hS2⟩; have z3 := (okS_cell hS2 hfr.out 3).trans x3)
            | (go_at_call 172; refine Calls.mono (HX.out D2 _ hS2 hG2) ?_; rintro e w3 ⟨rfl, D3, hG3, hS3⟩))
          go_end0
          exact ⟨rfl, D3, hG3, (hst.trans hS2).trans hS3⟩
        · rw [if_neg h4, List.append_nil] at hn ⊢
          have g4 : ((k : Int) == 4) = false := by simp; omega
          clear h4
          go_enter Tryz.func153, Tryz.ntmps153
          go_wp2
          go_end0
          exact ⟨rfl, D, hg1, hst⟩
end
end Go.Proofs.YtgifjkljpbbegaaGreatDoor
namespace Go.Proofs.YtgifjkljpbbegaaGreatDoor
open Go.RowKit
attribute [local go_sem ↓] Go.wp_at_zero Go.wp_at_succ
theorem evB_append (l : List (Int × It)) (p : Int) (A B : List Tr) : ∀ env, evB l p env (A ++ B) = evB l p env A ++ evB l p (scB env A) B := by
  induction A with
  | nil => intro env; rw [List.nil_append, evB_nil, List.nil_append]; rfl
  | cons a r ih => intro env; rw [List.cons_append, evB_cons, evB_cons, ih, List.append_assoc]; rfl
theorem nm_blk_take (l : List (Int × It)) (p : Int) (env : Env) {al : List Tr} {k : Nat} {a : Tr} (L : List Ev) (h : al[k]? = some a) : L ++ evB l p env (al.take (k + 1)) = L ++ evB l p env (al.take k) ++ evY l p (scB env (al.take k)) a ∧ scB env (al.take (k + 1)) = scS (scB env (al.take k)) a := by
  rw [List.take_add_one, h]
  simp only [Option.toList_some]
  rw [evB_app, scB_app, List.append_assoc]
  exact ⟨rfl, rfl⟩
theorem nm_blk_less (l : List (Int × It)) (p : Int) (env : Env) (al : List Tr) (k : Nat) (L : List Ev) : (L ++ evB l p env (al.take k)).length ≤ (L ++ evB l p env al).length := by
  have h : evB l p env al = evB l p env (al.take k) ++ evB l p (scB env (al.take k)) (al.drop k) := by rw [← evB_append, List.take_append_drop]
  rw [h]
  simp only [List.length_append]
  omega
/-- What stmt and block are to answer, of statements no deeper than n. -/
def CNs (bo pw pu : Nat) (cw cu : Array Value) (G : World → List Ev → Option Nat → Prop) (bw : Nat) (l : List (Int × It)) (p : Int) (n : Nat) : Prop := ∀ (D : Option Nat) (w : World) (L : List Ev) (env : Env) (sv : Value) (s : Tr) (v : Value), Wk bo pw pu cw cu bw l p D w → G w L D → ScAt (okS 0 bo D w) w env sv → RdS n (okS 0 bo D w) w s v → (L ++ evY l p env s).length < 1099511627776 →
  Calls Tryz.prog 116 #[.pointer (some ⟨bw, 0, none⟩), sv, v] w fun ex w' => ∃ v', ex = .returned v' ∧ Mkd bo G D (L ++ evY l p env s) (scS env s) v' w w'
def CNb (bo pw pu : Nat) (cw cu : Array Value) (G : World → List Ev → Option Nat → Prop) (bw : Nat) (l : List (Int × It)) (p : Int) (n : Nat) : Prop := ∀ (D : Option Nat) (w : World) (L : List Ev) (env : Env) (sv : Value) (al : List Tr) (q : Option Addr) (c : Nat), Wk bo pw pu cw cu bw l p D w → G w L D → ScAt (okS 0 bo D w) w env sv → SlT (okS 0 bo D w) (RdS n (okS 0 bo D w) w) w 15 al q → (L ++ evB l p env al).length < 1099511627776 →
  Calls Tryz.prog 97 #[.pointer (some ⟨bw, 0, none⟩), sv, .slice q al.length c] w fun ex w' => ex = .returned (.tuple #[]) ∧ Tl bo G D (L ++ evB l p env al) w w'
def RelNb (bo : Nat) (G : World → List Ev → Option Nat → Prop) (D : Option Nat) (w : World) (M : Nat → List Ev) (E : Nat → Env) (n : Nat) (sv i : Value) (wr : World) : Prop := ∃ k : Nat, k ≤ n ∧ i = .int .i64 (k : Int) ∧ Mkd bo G D (M k) (E k) sv w wr
section
variable {bo b0 pw pu : Nat} {cw cu : Array Value} {G : World → List Ev → Option Nat → Prop} {bw : Nat} {l : List (Int × It)} {p : Int}
set_option maxHeartbeats 1000000 in
set_option maxRecDepth 100000 in
theorem nm_block_any {n : Nat} (hL : Lsn bo b0 pw pu cw cu G) (hE : CNs bo pw pu cw cu G bw l p n) : CNb bo pw pu cw cu G bw l p n := by
  intro D w L env sv al q c hk hg hs hR hn
  obtain ⟨hlen, hits⟩ := hR
  have HB := hid (fun k => Nat.lt_of_le_of_lt (nm_blk_less l p env al k L) hn)
  have HM := hid (fun k a (h : al[k]? = some a) => nm_blk_take l p env L h)
  have HZ : Hid (L ++ evB l p env (al.take al.length) = L ++ evB l p env al) := by show _ = _; rw [List.take_length]
  have H0 : Hid (L ++ evB l p env (al.take 0) = L ∧ scB env (al.take 0) = env) := by show _ ∧ _; rw [List.take_zero, evB_nil, List.append_nil]; exact ⟨rfl, rfl⟩
  clear hn
  generalize hM : (fun k => L ++ evB l p env (al.take k)) = M
  generalize hE1 : (fun k => scB env (al.take k)) = E
  have hMk : ∀ k, L ++ evB l p env (al.take k) = M k := fun k => by rw [← hM]
  have hEk : ∀ k, scB env (al.take k) = E k := fun k => by rw [← hE1]
  simp only [hMk, hEk] at HB HM HZ H0
  rw [← HZ.out]
  have h00 := H0.out.1
  have h01 := H0.out.2
  rw [← h00] at hg
  rw [← h01] at hs
  clear hM hMk HZ H0 h00 h01 hE1 hEk
  go_enter Tryz.func97, Tryz.ntmps97
  go_wp2
  go_loopw [1, 10] (fun sv i wr => RelNb bo G D w M E al.length sv i wr) (fun _ i _ => upN al.length i)
  case atStart => exact ⟨0, Nat.zero_le _, rfl, D, hg, Stp.refl _ _ _, hs⟩
  case round =>
    obtain ⟨k, hkl, rfl, D1, hG1, hS1, hs1⟩ := hrel
    by_cases hlt : k < al.length
    · obtain ⟨g, rfl, hgo, hLA⟩ := hits (by omega)
      obtain ⟨e1, he1⟩ : ∃ e1, al[k]? = some e1 := ⟨_, List.getElem?_eq_getElem hlt⟩
      obtain ⟨v1, hcv, hR1⟩ := hLA k e1 he1
      have hcv := hcv.kept ((okS.step hS1).1 g hgo)
      have hR1 := RdS.stp hR1 hS1
      obtain ⟨k1, x1, a1, b1, o1, ek, ex, en, ep, el, ec, ef, et, p1, l1, c1, p2, l2, c2, f1, t1, rfl⟩ := RdS.shape hR1
      have d0 := hcv.get 0 _ rfl
      have d1 := hcv.get 1 _ rfl
      have d2 := hcv.get 2 _ rfl
      have d3 := hcv.get 3 _ rfl
      have d4 := hcv.get 4 _ rfl
      have d5 := hcv.get 5 _ rfl
      have d6 := hcv.get 6 _ rfl
      have d7 := hcv.get 7 _ rfl
      have d8 := hcv.get 8 _ rfl
      have d9 := hcv.get 9 _ rfl
      have d10 := hcv.get 10 _ rfl
      have d11 := hcv.get 11 _ rfl
      have d12 := hcv.get 12 _ rfl
      have d13 := hcv.get 13 _ rfl
      have d14 := hcv.get 14 _ rfl
      rw [Nat.add_zero] at d0
      have gk : (0 : Int) ≤ (k : Int) := by omega
      have gk1 : (k : Int) < (al.length : Int) := by omega
      have hkb : k < 1099511627776 := by omega
      have hba := (Below.refl wr.heap.size wr).alloc (Nat.le_refl _) (.cells #[.int .i64 (k1 : Int), .string x1, .int .i64 (a1 : Int), .int .i64 (b1 : Int), .bool o1, .int .i64 (ek : Int), .string ex, .int .i64 (en : Int), .slice ep el ec, .int .i64 (ef : Int), .int .i64 (et : Int), .slice p1 l1 c1, .slice p2 l2 c2, .int .i64 (f1 : Int), .int .i64 (t1 : Int)] 118)
      have hsa : Stp bo D1 D1 wr _ := Stp.below hba
      have hnx := (HM.out k _ he1).1
      have hne := (HM.out k _ he1).2
      have HC := hid (hE D1 _ (M k) (E k) _ _ _ ((hk.step hS1).step hsa) (hL.below hG1 hba) (hs1.step hsa) (hR1.stp hsa) (by rw [← hnx]; exact HB.out (k + 1)))
      rw [← hnx, ← hne] at HC
      have HL := hid hlt
      have HS := hid (hS1.trans hsa)
      clear hits hLA hcv hR1 he1 hnx hne hlt hkl hba hsa hs1
      go_wp2_with (first
        | (go_at_call 116; refine Calls.mono HC.out ?_; rintro e w2 ⟨v2, rfl, D2, hG2, hS2, hs2⟩))
      go_roundw
      case rel => exact ⟨k + 1, by have := HL.out; omega, by go_num, D2, hG2, HS.out.trans hS2, hs2⟩
      case measure => have := HL.out; simp [upN, intOf]; omega
    · obtain rfl : k = al.length := by omega
      clear hlt hkl
      go_wp2
      go_end0
      exact ⟨rfl, D1, hG1, hS1⟩
end
end Go.Proofs.YtgifjkljpbbegaaGreatDoor
namespace Go.Proofs.YtgifjkljpbbegaaGreatDoor
open Go.RowKit
attribute [local go_sem ↓] Go.wp_at_zero Go.wp_at_succ
section
variable {bo b0 pw pu : Nat} {cw cu : Array Value} {G : World → List Ev → Option Nat → Prop} {bw : Nat} {l : List (Int × It)} {p : Int}
set_option maxHeartbeats 4000000 in
set_option maxRecDepth 100000 in
theorem nm_stmt_succ {n : Nat} (hL : Lsn bo b0 pw pu cw cu G) (ih : CNs bo pw pu cw cu G bw l p n) : CNs bo pw pu cw cu G bw l p (n + 1) := by
  intro D w L env sv s v hk hg hs hR hn
  have hB := nm_block_any hL ih
  obtain ⟨k, x, a, lb, op, e, th, el, f, t, d0, d1, d2, d3, d4, d5, p1, c1, p2, c2, rfl, rfl, ⟨m, hE⟩, hT, hX⟩ := hR
  obtain ⟨ek, ex, en, eal, ef, et, ep, ec, rfl, hv⟩ := RdE.form hE
  injection hv with hv
  have hv : [d0, d1, d2, d3, d4, d5] = [.int .i64 (ek : Int), .string ex, .int .i64 (en : Int), .slice ep eal.length ec, .int .i64 (ef : Int), .int .i64 (et : Int)] := by simpa using congrArg Array.toList hv
  simp only [List.cons.injEq, and_true] at hv
  obtain ⟨rfl, rfl, rfl, rfl, rfl, rfl⟩ := hv
  rw [evY_mk] at hn ⊢
  rw [scS_mk]
  have hb0 := (Below.refl w.heap.size w).alloc (Nat.le_refl _) (.cells #[.int .i64 (k : Int), .string x, .int .i64 (a : Int), .int .i64 (lb : Int), .bool op, .int .i64 (ek : Int), .string ex, .int .i64 (en : Int), .slice ep eal.length ec, .int .i64 (ef : Int), .int .i64 (et : Int), .slice p1 th.length c1, .slice p2 el.length c2, .int .i64 (f : Int), .int .i64 (t : Int)] 118)
  obtain ⟨q0, q1, q2, q3, q4, q5, q6, q7, q8, q9, q10, q11, q12, q13, q14, _⟩ := fif_at (heap_alloc_new w (.cells #[.int .i64 (k : Int), .string x, .int .i64 (a : Int), .int .i64 (lb : Int), .bool op, .int .i64 (ek : Int), .string ex, .int .i64 (en : Int), .slice ep eal.length ec, .int .i64 (ef : Int), .int .i64 (et : Int), .slice p1 th.length c1, .slice p2 el.length c2, .int .i64 (f : Int), .int .i64 (t : Int)] 118))
  have hst : Stp bo D D w (w.alloc (.cells #[.int .i64 (k : Int), .string x, .int .i64 (a : Int), .int .i64 (lb : Int), .bool op, .int .i64 (ek : Int), .string ex, .int .i64 (en : Int), .slice ep eal.length ec, .int .i64 (ef : Int), .int .i64 (et : Int), .slice p1 th.length c1, .slice p2 el.length c2, .int .i64 (f : Int), .int .i64 (t : Int)] 118)) := Stp.below hb0
  have hk1 := hk.step hst
  have hg1 := hL.below hg hb0
  have hs1 := hs.step hst
  have hfr := hid (hL.fresh (w' := w.alloc (.cells #[.int .i64 (k : Int), .string x, .int .i64 (a : Int), .int .i64 (lb : Int), .bool op, .int .i64 (ek : Int), .string ex, .int .i64 (en : Int), .slice ep eal.length ec, .int .i64 (ef : Int), .int .i64 (et : Int), .slice p1 th.length c1, .slice p2 el.length c2, .int .i64 (f : Int), .int .i64 (t : Int)] 118)) hg (Nat.le_refl _) (by simp))
  have hT1 := hT.kept (okS.step hst).1 (okS.step hst).2 (RdS.kept n (okS.step hst).1 (okS.step hst).2)
  have hX1 := hX.kept (okS.step hst).1 (okS.step hst).2 (RdS.kept n (okS.step hst).1 (okS.step hst).2)
  have HE := hid (nm_expr_any hL m D _ L env sv _ _ hk1 hg1 hs1 (hE.stp hst) (by simp only [List.length_append] at hn ⊢; omega))
  have HZ := hid (And.intro hk1 (And.intro hs1 (And.intro hT1 hX1)))
  have HS0 := hid hst
  generalize hEv : evX l p env (exMk ek ex en eal ef et) = Ev0 at *
  clear hb0 hs hk hg hE hT hX hEv hk1 hg1 hs1 hT1 hX1 hst
  by_cases h1 : k = 1
  · rw [if_pos h1] at hn ⊢
    rw [if_pos h1]
    have g1 : ((k : Int) == 1) = true := by rw [h1]; rfl
    clear h1
    go_enter Tryz.func116, Tryz.ntmps116
    go_wp2_with (first
      | (go_at_call 153; refine Calls.mono HE.out ?_; rintro e w2 ⟨rfl, D2, hG2, hS2q⟩; have hS2 := HS0.out.trans hS2q; have z0 := (okS_cell hS2q hfr.out 0).trans q0; have z1 := (okS_cell hS2q hfr.out 1).trans q1; have z2 := (okS_cell hS2q hfr.out 2).trans q2; have z11 := (okS_cell hS2q hfr.out 11).trans q11; have z12 := (okS_cell hS2q hfr.out 12).trans q12; have y0 := cell_alloc z0; have y11 := cell_alloc z11; have y12 := cell_alloc z12; clear z0 z11 z12 q0 q1 q2 q3 q4 q5 q6 q7 q8 q9 q10 q11 q12 q13 q14; have hba := (Below.refl w2.heap.size w2).alloc (Nat.le_refl _) (.cells #[.string x, .int .i64 (a : Int)] 58); have hsa : Stp bo D2 D2 w2 _ := Stp.below hba; have hK2 := (HZ.out.1.step hS2q).step hsa; have hSc2 := (HZ.out.2.1.step hS2q).step hsa; have hG3 := hL.below hG2 hba; have HS3 := hid (hS2.trans hsa); have HM := hid (nm_makes_any hL hK2 hG3 hSc2 (by simp only [List.length_append] at hn ⊢; omega) x a))
      | (go_at_call 95; refine Calls.mono HM.out ?_; rintro e w3 ⟨v3, rfl, D3, hG4, hS4, hs4⟩))
    go_ret
    exact ⟨v3, rfl, D3, by rw [← List.append_assoc]; exact hG4, HS3.out.trans hS4, hs4⟩
  · rw [if_neg h1] at hn ⊢
    rw [if_neg h1]
    have g1 : ((k : Int) == 1) = false := by simp; omega
    clear h1
    by_cases h2 : k = 2
    · rw [if_pos h2] at hn ⊢
      have g2 : ((k : Int) == 2) = true := by rw [h2]; rfl
      clear h2
      go_enter Tryz.func116, Tryz.ntmps116
      go_wp2_with (first
        | (go_at_call 153; refine Calls.mono HE.out ?_; rintro e w2 ⟨rfl, D2, hG2, hS2q⟩; have hS2 := HS0.out.trans hS2q; have z0 := (okS_cell hS2q hfr.out 0).trans q0; have z1 := (okS_cell hS2q hfr.out 1).trans q1; have z2 := (okS_cell hS2q hfr.out 2).trans q2; have z11 := (okS_cell hS2q hfr.out 11).trans q11; have z12 := (okS_cell hS2q hfr.out 12).trans q12; have y0 := cell_alloc z0; have y11 := cell_alloc z11; have y12 := cell_alloc z12; clear z0 z11 z12 q0 q1 q2 q3 q4 q5 q6 q7 q8 q9 q10 q11 q12 q13 q14; have hba := (Below.refl w2.heap.size w2).alloc (Nat.le_refl _) (.cells #[.string x, .int .i64 (a : Int)] 58); have hsa : Stp bo D2 D2 w2 _ := Stp.below hba; have hK2 := (HZ.out.1.step hS2q).step hsa; have hSc2 := (HZ.out.2.1.step hS2q).step hsa; have hG3 := hL.below hG2 hba; have HS3 := hid (hS2.trans hsa); have HM := hid (nm_local_any hL hK2 hG3 hSc2 (by simp only [List.length_append] at hn ⊢; omega) x a))
        | (go_at_call 154; refine Calls.mono HM.out ?_; rintro e w3 ⟨rfl, D3, hG4, hS4⟩; have hs4 := hSc2.step hS4))
      go_ret
      exact ⟨_, rfl, D3, by rw [← List.append_assoc]; exact hG4, HS3.out.trans hS4, hs4⟩
    · rw [if_neg h2] at hn ⊢
      have g2 : ((k : Int) == 2) = false := by simp; omega
      clear h2
      by_cases h5 : k = 5
      · rw [if_pos h5] at hn ⊢
        have g5 : ((k : Int) == 5) = true := by rw [h5]; rfl
        clear h5
        go_enter Tryz.func116, Tryz.ntmps116
        go_wp2_with (first
          | (go_at_call 153; refine Calls.mono HE.out ?_; rintro e w2 ⟨rfl, D2, hG2, hS2q⟩; have hS2 := HS0.out.trans hS2q; have z0 := (okS_cell hS2q hfr.out 0).trans q0; have z1 := (okS_cell hS2q hfr.out 1).trans q1; have z2 := (okS_cell hS2q hfr.out 2).trans q2; have z11 := (okS_cell hS2q hfr.out 11).trans q11; have z12 := (okS_cell hS2q hfr.out 12).trans q12; have y0 := cell_alloc z0; have y11 := cell_alloc z11; have y12 := cell_alloc z12; clear z0 z11 z12 q0 q1 q2 q3 q4 q5 q6 q7 q8 q9 q10 q11 q12 q13 q14; have hba := (Below.refl w2.heap.size w2).alloc (Nat.le_refl _) (.cells #[.string x, .int .i64 (a : Int)] 58); have hsa : Stp bo D2 D2 w2 _ := Stp.below hba; have hK2 := (HZ.out.1.step hS2q).step hsa; have hSc2 := (HZ.out.2.1.step hS2q).step hsa; have hG3 := hL.below hG2 hba; have HS3 := hid (hS2.trans hsa); have HM := hid (nm_channel_any hL hK2 hG3 x a (by simp only [List.length_append] at hn ⊢; omega)))
          | (go_at_call 115; refine Calls.mono HM.out ?_; rintro e w3 ⟨rfl, D3, hG4, hS4⟩; have hs4 := hSc2.step hS4))
        go_ret
        exact ⟨_, rfl, D3, by rw [← List.append_assoc]; exact hG4, HS3.out.trans hS4, hs4⟩
      · rw [if_neg h5] at hn ⊢
        have g5 : ((k : Int) == 5) = false := by simp; omega
        clear h5
        by_cases h3 : k = 3
        · rw [if_pos h3, ← List.append_assoc, ← List.append_assoc] at hn
          rw [if_pos h3, ← List.append_assoc, ← List.append_assoc]
          have g3 : ((k : Int) == 3) = true := by rw [h3]; rfl
          have F1 : Hid (1 = 1) := rfl
          clear h3
          go_enter Tryz.func116, Tryz.ntmps116
          go_wp2_with (first
            | (go_at_call 153; refine Calls.mono HE.out ?_; rintro e w2 ⟨rfl, D2, hG2, hS2q⟩; have hS2 := HS0.out.trans hS2q; have qq12 := q12; have z0 := (okS_cell hS2q hfr.out 0).trans q0; have z1 := (okS_cell hS2q hfr.out 1).trans q1; have z2 := (okS_cell hS2q hfr.out 2).trans q2; have z11 := (okS_cell hS2q hfr.out 11).trans q11; have z12 := (okS_cell hS2q hfr.out 12).trans q12; have y0 := cell_alloc z0; have y11 := cell_alloc z11; have y12 := cell_alloc z12; clear z0 z11 z12 q0 q1 q2 q3 q4 q5 q6 q7 q8 q9 q10 q11 q12 q13 q14; have hba := (Below.refl w2.heap.size w2).alloc (Nat.le_refl _) (.cells #[.string x, .int .i64 (a : Int)] 58); have hsa : Stp bo D2 D2 w2 _ := Stp.below hba; have hK2 := (HZ.out.1.step hS2q).step hsa; have hSc2 := (HZ.out.2.1.step hS2q).step hsa; have hG3 := hL.below hG2 hba; have HS3 := hid (hS2.trans hsa); have z12 := (okS_cell hS2q hfr.out 12).trans qq12; have hfr2 := hid ((okS.step hS2q).2 _ hfr.out); have HM := hid (hB D2 _ (L ++ Ev0) env sv th p1 c1 hK2 hG3 hSc2 (HZ.out.2.2.1.kept (okS.step (hS2q.trans hsa)).1 (okS.step (hS2q.trans hsa)).2 (RdS.kept n (okS.step (hS2q.trans hsa)).1 (okS.step (hS2q.trans hsa)).2)) (by simp only [List.length_append] at hn ⊢; omega)))
            | (go_at_call 97; have ff := F1; clear ff F1; refine Calls.mono HM.out ?_; rintro e w3 ⟨rfl, D3, hG4, hS4⟩; have u12 := (okS_cell (hsa.trans hS4) hfr2.out 12).trans z12; have HN := hid (hB D3 _ _ env sv el p2 c2 (hK2.step hS4) hG4 (hSc2.step hS4) ((HZ.out.2.2.2.kept (okS.step (hS2q.trans (hsa.trans hS4))).1 (okS.step (hS2q.trans (hsa.trans hS4))).2 (RdS.kept n (okS.step (hS2q.trans (hsa.trans hS4))).1 (okS.step (hS2q.trans (hsa.trans hS4))).2))) hn); have hs4 := hSc2.step hS4)
            | (go_at_call 97; refine Calls.mono HN.out ?_; rintro e w5 ⟨rfl, D5, hG5, hS5⟩; have hs5 := hs4.step hS5))
          go_ret
          exact ⟨_, rfl, D5, hG5, (HS3.out.trans hS4).trans hS5, hs5⟩
        · rw [if_neg h3] at hn ⊢
          have g3 : ((k : Int) == 3) = false := by simp; omega
          clear h3
          by_cases h4 : k = 4
          · rw [if_pos h4] at hn ⊢
            have g4 : ((k : Int) == 4) = true := by rw [h4]; rfl
            clear h4
            go_enter Tryz.func116, Tryz.ntmps116
            go_wp2_with (first
              | (go_at_call 153; refine Calls.mono HE.out ?_; rintro e w2 ⟨rfl, D2, hG2, hS2q⟩; have hS2 := HS0.out.trans hS2q; have z0 := (okS_cell hS2q hfr.out 0).trans q0; have z1 := (okS_cell hS2q hfr.out 1).trans q1; have z2 := (okS_cell hS2q hfr.out 2).trans q2; have z11 := (okS_cell hS2q hfr.out 11).trans q11; have z12 := (okS_cell hS2q hfr.out 12).trans q12; have y0 := cell_alloc z0; have y11 := cell_alloc z11; have y12 := cell_alloc z12; clear z0 z11 z12 q0 q1 q2 q3 q4 q5 q6 q7 q8 q9 q10 q11 q12 q13 q14; have hba := (Below.refl w2.heap.size w2).alloc (Nat.le_refl _) (.cells #[.string x, .int .i64 (a : Int)] 58); have hsa : Stp bo D2 D2 w2 _ := Stp.below hba; have hK2 := (HZ.out.1.step hS2q).step hsa; have hSc2 := (HZ.out.2.1.step hS2q).step hsa; have hG3 := hL.below hG2 hba; have HS3 := hid (hS2.trans hsa); have HM := hid (hB D2 _ (L ++ Ev0) env sv th p1 c1 hK2 hG3 hSc2 (HZ.out.2.2.1.kept (okS.step (hS2q.trans hsa)).1 (okS.step (hS2q.trans hsa)).2 (RdS.kept n (okS.step (hS2q.trans hsa)).1 (okS.step (hS2q.trans hsa)).2)) (by simp only [List.length_append] at hn ⊢; omega)))
              | (go_at_call 97; refine Calls.mono HM.out ?_; rintro e w3 ⟨rfl, D3, hG4, hS4⟩; have hs4 := hSc2.step hS4))
            go_ret
            exact ⟨_, rfl, D3, by rw [← List.append_assoc]; exact hG4, HS3.out.trans hS4, hs4⟩
          · rw [if_neg h4, List.append_nil] at hn
            rw [if_neg h4, List.append_nil]
            have g4 : ((k : Int) == 4) = false := by simp; omega
            clear h4
            go_enter Tryz.func116, Tryz.ntmps116
            go_wp2_with (first
              | (go_at_call 153; refine Calls.mono HE.out ?_; rintro e w2 ⟨rfl, D2, hG2, hS2q⟩; have hS2 := HS0.out.trans hS2q; have z0 := (okS_cell hS2q hfr.out 0).trans q0; have z1 := (okS_cell hS2q hfr.out 1).trans q1; have z2 := (okS_cell hS2q hfr.out 2).trans q2; have z11 := (okS_cell hS2q hfr.out 11).trans q11; have z12 := (okS_cell hS2q hfr.out 12).trans q12; have y0 := cell_alloc z0; have y11 := cell_alloc z11; have y12 := cell_alloc z12; clear z0 z11 z12 q0 q1 q2 q3 q4 q5 q6 q7 q8 q9 q10 q11 q12 q13 q14; have hba := (Below.refl w2.heap.size w2).alloc (Nat.le_refl _) (.cells #[.string x, .int .i64 (a : Int)] 58); have hsa : Stp bo D2 D2 w2 _ := Stp.below hba; have hK2 := (HZ.out.1.step hS2q).step hsa; have hSc2 := (HZ.out.2.1.step hS2q).step hsa; have hG3 := hL.below hG2 hba; have HS3 := hid (hS2.trans hsa)))
            go_ret
            exact ⟨_, rfl, D2, hG3, HS3.out, hSc2⟩
theorem nm_stmt_any (hL : Lsn bo b0 pw pu cw cu G) (n : Nat) : CNs bo pw pu cw cu G bw l p n := by
  induction n with
  | zero => intro D w L env sv s v _ _ _ h; exact h.elim
  | succ n ih => exact nm_stmt_succ hL ih
end
end Go.Proofs.YtgifjkljpbbegaaGreatDoor

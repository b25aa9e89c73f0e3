/- Texts of this seat, one behind the other: FloHear, FloFloor, FloDiags, FloLabel, FloLab1. -/
import Derived.Test.YtdkpfnohdknldaaGreatDoorZg28
import Derived.Test.YtdkpfnohdknldaaGreatDoorZg19
import Derived.Test.YtdkpfnohdknldaaGreatDoorZg26
import Derived.Laws.MakeOwn
import Derived.Test.YtdkpfnohdknldaaGreatDoorZb02
namespace Go.Proofs.YtdkpfnohdknldaaGreatDoor
open Go.RowKit
set_option linter.unusedVariables false
attribute [local go_sem ↓] Go.wp_at_zero Go.wp_at_succ
def fdC (e : Fv) : List Value := [.int .i64 (e.f : Int), .int .i64 (e.t : Int), .int .i64 9, .string e.x]
theorem noF_no (L : List Fv) (f t : Nat) (x : ByteArray) : noF (L ++ [fvNo f t x]) = noF L ++ [fvNo f t x] := by unfold noF; rw [List.filter_append]; rfl
theorem noF_sayA (L : List Fv) (f t n : Nat) : noF (L ++ [fvSay f t n]) = noF L := by unfold noF; rw [List.filter_append]; exact List.append_nil _
def GF (bo b0 : Nat) (w : World) (L : List Fv) (D : Option Nat) : Prop := b0 ≤ w.heap.size ∧ Cpt 34 65 4 bo w ((noF L).flatMap fdC) (noF L).length D
theorem GF.kept {bo b0 : Nat} {w w' : World} {L : List Fv} {D : Option Nat} (hb0 : bo < b0) (h : GF bo b0 w L D) (hs : w.heap.size ≤ w'.heap.size) (hk : ∀ k, k < b0 ∨ some k = D → w'.heap[k]? = w.heap[k]?) : GF bo b0 w' L D :=
 ⟨Nat.le_trans h.1 hs, h.2.kept (hk bo (.inl hb0)) (fun k e => hk k (.inr e))⟩
set_option maxHeartbeats 1000000 in
set_option maxRecDepth 100000 in
theorem hear_flow (bo b0 : Nat) (w : World) (L : List Fv) (D : Option Nat) (f t : Nat) (x : ByteArray) (hg : GF bo b0 w L D) (hn : (noF L).length < 1099511627776) :
  Calls Tryz.prog 77 #[.agg #[.int .i64 (f : Int), .int .i64 (t : Int), .int .i64 9, .string x], .pointer (some ⟨bo, 0, none⟩)] w fun ex w' => ex = .returned (.tuple #[]) ∧ TlF bo (GF bo b0) D (L ++ [fvNo f t x]) w w' := by
 obtain ⟨i0, hi0, hz0, hz1, hz2⟩ := info_parts Tryz.infoDg
 obtain ⟨hsz, v, h1, h2, rfl⟩ := hg
 have hbo : bo < w.heap.size := (Array.getElem?_eq_some_iff.1 h1).1
 have hne : some bo ≠ v.ownBlock := fun e => by have := (h2.lt bo e.symm).1; omega
 have hb1 := (Below.refl w.heap.size w).alloc (Nat.le_refl _) (.cells #[.int .i64 (f : Int), .int .i64 (t : Int), .int .i64 9, .string x] 65)
 have c0 : w.cell? ⟨bo, 0, none⟩ = some v := cell_of_row _ _ 0 _ _ _ h1
 have d0 := cell_alloc c0
 have hfz : w.frozen? ⟨bo, 0, none⟩ = false := by simp [World.frozen?, h1]
 have hmax : (noF L).length + 1 ≤ maxLen := by unfold maxLen; omega
 have hbyt : ((noF L).length + 1) * 40 ≤ 140737488355328 := by omega
 have HL := hid (noF_no L f t x)
 have hb2 := hb1.alloc (by simp) (.cells #[.int .i64 (f : Int), .int .i64 (t : Int), .int .i64 9, .string x] 65)
 have hsz2 : bo + 1 ≤ ((w.alloc (.cells #[.int .i64 (f : Int), .int .i64 (t : Int), .int .i64 9, .string x] 65)).alloc (.cells #[.int .i64 (f : Int), .int .i64 (t : Int), .int .i64 9, .string x] 65)).heap.size := by simp; omega
 have hnew := World.news_of_block (heap_alloc_new (w.alloc (.cells #[.int .i64 (f : Int), .int .i64 (t : Int), .int .i64 9, .string x] 65)) (.cells #[.int .i64 (f : Int), .int .i64 (t : Int), .int .i64 9, .string x] 65))
 have e1 : (w.alloc (.cells #[.int .i64 (f : Int), .int .i64 (t : Int), .int .i64 9, .string x] 65)).heap.size = w.heap.size + 1 := by simp
 rw [e1] at hnew
 have HN := hid hnew
 have HOW := hid (World.ownsRow.alloc (World.ownsRow.alloc h2 (.cells #[.int .i64 (f : Int), .int .i64 (t : Int), .int .i64 9, .string x] 65)) (.cells #[.int .i64 (f : Int), .int .i64 (t : Int), .int .i64 9, .string x] 65))
 have HB2 := hid hb2
 clear hnew hb2 e1
 go_enter Tryz.func77, Tryz.ntmps77
 go_wp2_with (first
  | (at_builtin; refine wpList_append_lies _ rfl (.tmp 3) (.tmp 5) 34 rfl (bo + 1) 65 i0 _ 4 40 Tryz.underlying34 hi0 hz0 hz1 hz2 rfl (by decide) _ _ _ rfl HOW.out ⟨w.heap.size + 1, 0, none⟩ 1 1 [.int .i64 (f : Int), .int .i64 (t : Int), .int .i64 9, .string x] rfl rfl HN.out (by intro u hu; simp at hu; rcases hu with rfl | rfl | rfl | rfl <;> rfl) (by decide) hmax hbyt hsz2 _ rfl ?_; intro g6 cap6 w6 hown6 hgrow6 hat6 hlt6; have k6 := World.cell?_of_block (a := ⟨bo, 0, none⟩) ((hgrow6.block bo (by simp; omega) hne).trans (HB2.out.block bo hbo)); have f6 := World.frozen?_of_block (a := ⟨bo, 0, none⟩) ((hgrow6.block bo (by simp; omega) hne).trans (HB2.out.block bo hbo)); rw [c0] at k6; rw [hfz] at f6))
 go_end0
 obtain ⟨q1, q2⟩ := Cpt.put h1 h2 HB2.out hown6 hgrow6 hat6
 refine ⟨rfl, some g6, ⟨?_, ?_⟩, q2⟩
 ·have := q2.size; omega
 ·show Cpt _ _ _ _ _ ((noF (L ++ [fvNo f t x])).flatMap fdC) (noF (L ++ [fvNo f t x])).length _
  rw [HL.out, List.flatMap_append, List.length_append, List.flatMap_cons, List.flatMap_nil, List.append_nil]
  exact q1
theorem lsDiags (bo b0 : Nat) (hb0 : bo < b0) : LsF bo b0 77 78 #[.pointer (some ⟨bo, 0, none⟩)] #[] (GF bo b0) where
 ew := Tryz.call77
 eh := Tryz.call78
 lo := hb0
 lt := fun w l D h => ⟨h.1, fun k e => (h.2.lt.2 k e).2⟩
 kept := fun w w' l D h hs hk => h.kept hb0 hs hk
 wrong := fun w l D f t x hg hn => hear_flow bo b0 w l D f t x hg hn
 heard := fun w l D k x m q n c f t s hg => (unheard_any w k x m q n c f t s).mono fun ex w' h => ⟨h.1, D, by
  have h2 : GF bo b0 w' l D := hg.kept hb0 h.2.size (fun k hk => h.2.block k (by rcases hk with hk | hk; exact Nat.lt_of_lt_of_le hk hg.1; exact (hg.2.lt.2 k hk).2))
  refine ⟨h2.1, ?_⟩
  rw [noF_sayA]
  exact h2.2, Stp.below h.2⟩
end Go.Proofs.YtdkpfnohdknldaaGreatDoor
namespace Go.Proofs.YtdkpfnohdknldaaGreatDoor
open Go.RowKit
set_option linter.unusedVariables false
attribute [local go_sem ↓] Go.wp_at_zero Go.wp_at_succ
def RelFl (W : World) (NN : Nat → Nat) (n : Nat) (nv i : Value) (wr : World) : Prop := ∃ k : Nat, k ≤ n ∧ nv = .int .i64 (NN k : Int) ∧ i = .int .i64 (k : Int) ∧ Below W.heap.size W wr
def flP (l : List (Int × It)) (n : Nat) (r : Rf) : Nat := match chL l r.x with | some b => mt n b | none => n
theorem flS_eq (l : List (Int × It)) (ss : List Rf) : flS l ss = ss.foldl (flP l) 255 := rfl
theorem ch_none {l : List (Int × It)} {x : ByteArray} (h : fnd l 1 x = -1) : chL l x = none := by
 unfold chL hit
 rw [show fnd l ((1 : Nat) : Int) x = -1 from h]
 rfl
theorem ch_some {l : List (Int × It)} {x : ByteArray} {k : Nat} {e : Int × It} (h : fnd l 1 x = (k : Int)) (he : l[k]? = some e) : chL l x = some e.2.l := by
 unfold chL hit
 rw [show fnd l ((1 : Nat) : Int) x = (k : Int) from h, if_neg (by omega), Int.toNat_natCast, he]
 rfl
set_option maxHeartbeats 4000000 in
set_option maxRecDepth 100000 in
theorem floor_any (l : List (Int × It)) (q : Option Addr) (c : Nat) (w : World) (ok : Nat → Prop) (hok : ∀ k, ok k → k < w.heap.size) (hR : RdF ok w l (.agg #[.slice q l.length c])) (it : It) (pp : Int) (p1 : Option Addr) (c1 : Nat) (p2 : Option Addr) (c2 : Nat) (p3 : Option Addr) (c3 : Nat) (p4 : Option Addr) (c4 : Nat) (hS : SlAt ok w 2 rfC it.ss p2) :
  Calls Tryz.prog 44 #[.agg #[.slice q l.length c], .agg #[.int .i64 (it.k : Int), .string it.x, .int .i64 (it.l : Int), .slice p1 it.ps.length c1, .slice p2 it.ss.length c2, .slice p3 it.bd.length c3, .int .i64 pp, .int .i64 (it.sz : Int), .int .i64 (it.mrk : Int), .slice p4 it.ds.length c4]] w fun e w' => e = .returned (.int .i64 (flI l it : Int)) ∧ Below w.heap.size w w' := by
 have hb1 := (Below.refl w.heap.size w).alloc (Nat.le_refl _) (.cells #[.slice q l.length c] 25)
 have hb2 := hb1.alloc (by simp) (.cells #[.int .i64 (it.k : Int), .string it.x, .int .i64 (it.l : Int), .slice p1 it.ps.length c1, .slice p2 it.ss.length c2, .slice p3 it.bd.length c3, .int .i64 pp, .int .i64 (it.sz : Int), .int .i64 (it.mrk : Int), .slice p4 it.ds.length c4] 36)
 unfold flI
 by_cases h2 : it.k = 2
 ·rw [if_pos h2, flS_eq]
  have g2 : ((it.k : Int) != 2) = false := by rw [h2]; rfl
  have y0 := cell_alloc (one_new w (.slice q l.length c) 25) (.cells #[.int .i64 (it.k : Int), .string it.x, .int .i64 (it.l : Int), .slice p1 it.ps.length c1, .slice p2 it.ss.length c2, .slice p3 it.bd.length c3, .int .i64 pp, .int .i64 (it.sz : Int), .int .i64 (it.mrk : Int), .slice p4 it.ds.length c4] 36)
  have hRW : RdF (fun k => k < w.heap.size) ((w.alloc (.cells #[.slice q l.length c] 25)).alloc (.cells #[.int .i64 (it.k : Int), .string it.x, .int .i64 (it.l : Int), .slice p1 it.ps.length c1, .slice p2 it.ss.length c2, .slice p3 it.bd.length c3, .int .i64 pp, .int .i64 (it.sz : Int), .int .i64 (it.mrk : Int), .slice p4 it.ds.length c4] 36)) l (.agg #[.slice q l.length c]) := RdF.kept hR (fun k hk => hb2.block k (hok k hk)) (fun k hk => hok k hk)
  have hSW : SlAt (fun k => k < w.heap.size) ((w.alloc (.cells #[.slice q l.length c] 25)).alloc (.cells #[.int .i64 (it.k : Int), .string it.x, .int .i64 (it.l : Int), .slice p1 it.ps.length c1, .slice p2 it.ss.length c2, .slice p3 it.bd.length c3, .int .i64 pp, .int .i64 (it.sz : Int), .int .i64 (it.mrk : Int), .slice p4 it.ds.length c4] 36)) 2 rfC it.ss p2 := (hS.kept (fun k hk => hb2.block k (hok k hk))).wide (fun k hk => hok k hk)
  have e2 : ((w.alloc (.cells #[.slice q l.length c] 25)).alloc (.cells #[.int .i64 (it.k : Int), .string it.x, .int .i64 (it.l : Int), .slice p1 it.ps.length c1, .slice p2 it.ss.length c2, .slice p3 it.bd.length c3, .int .i64 pp, .int .i64 (it.sz : Int), .int .i64 (it.mrk : Int), .slice p4 it.ds.length c4] 36)).heap.size = w.heap.size + 2 := by simp
  have HB := hid hb2
  have HM := hid (fun k r (h : it.ss[k]? = some r) => show (it.ss.take (k + 1)).foldl (flP l) 255 = flP l ((it.ss.take k).foldl (flP l) 255) r by rw [List.take_add_one, h, List.foldl_append]; rfl)
  have HZ : Hid ((it.ss.take it.ss.length).foldl (flP l) 255 = it.ss.foldl (flP l) 255) := by show _ = _; rw [List.take_length]
  have H0 : Hid ((it.ss.take 0).foldl (flP l) 255 = 255) := by show _ = _; rfl
  generalize hN : (fun k => (it.ss.take k).foldl (flP l) 255) = NN
  have hNk : ∀ k, (it.ss.take k).foldl (flP l) 255 = NN k := fun k => by rw [← hN]
  simp only [hNk] at HM HZ H0
  rw [← HZ.out]
  have hlen : l.length ≤ 1099511627776 := by obtain ⟨_, _, _, h, _⟩ := hR; exact h
  clear hN hNk HZ hR hS hb1 hb2 h2 hok
  go_enter Tryz.func44, Tryz.ntmps44
  go_wp2
  generalize (w.alloc (.cells #[.slice q l.length c] 25)).alloc (.cells #[.int .i64 (it.k : Int), .string it.x, .int .i64 (it.l : Int), .slice p1 it.ps.length c1, .slice p2 it.ss.length c2, .slice p3 it.bd.length c3, .int .i64 pp, .int .i64 (it.sz : Int), .int .i64 (it.mrk : Int), .slice p4 it.ds.length c4] 36) = W at *
  go_loopw [5, 16] (fun nv i wr => RelFl W NN it.ss.length nv i wr) (fun _ i _ => upN it.ss.length i)
  case atStart => exact ⟨0, Nat.zero_le _, by rw [H0.out]; rfl, rfl, Below.refl _ _⟩
  case round =>
   obtain ⟨j, hjl, rfl, rfl, hbr⟩ := hrel
   by_cases hlt : j < it.ss.length
   ·obtain ⟨gs, rfl, hgs, hF⟩ := hSW.2 (by omega)
    obtain ⟨r, hr⟩ : ∃ r, it.ss[j]? = some r := ⟨_, List.getElem?_eq_getElem hlt⟩
    have hcg : ∀ o, wr.cell? ⟨gs, o, none⟩ = W.cell? ⟨gs, o, none⟩ := fun o => World.cell?_of_block (a := ⟨gs, o, none⟩) (hbr.block gs (by omega))
    have d0 := (hcg (j * 2 + 0)).trans (hF j r hr 0 (.string r.x) rfl)
    have d1 := (hcg (j * 2 + 1)).trans (hF j r hr 1 (.int .i64 (r.a : Int)) rfl)
    rw [Nat.add_zero] at d0
    have z0 := (World.cell?_of_block (a := ⟨w.heap.size, 0, none⟩) (hbr.block w.heap.size (by omega))).trans y0
    have gj : (0 : Int) ≤ (j : Int) := by omega
    have gj1 : (j : Int) < (it.ss.length : Int) := by omega
    have hjb : j < 1099511627776 := by have := hSW.1; omega
    have hba := (Below.refl wr.heap.size wr).alloc (Nat.le_refl _) (.cells #[.string r.x, .int .i64 (r.a : Int)] 45)
    have hbra := hbr.trans (hba.mono hbr.size)
    have HF := hid (Find_any l _ 1 r.x (wr.alloc (.cells #[.string r.x, .int .i64 (r.a : Int)] 45)) (fun k => k < w.heap.size) (fun k hk => by have := hbra.size; omega) (RdF.kept hRW (fun k hk => hbra.block k (by omega)) (fun _ h => h)))
    have hm := HM.out j r hr
    have HL := hid hlt
    have HBA := hid hbra
    have a0 := cell_alloc z0 (.cells #[.string r.x, .int .i64 (r.a : Int)] 45)
    clear hF hcg hr hlt hjl hba hbr hbra
    rcases fnd_casesF l 1 r.x with hF | ⟨kf, hF, hkf⟩
    ·rw [hF] at HF
     have hm2 : NN (j + 1) = NN j := by rw [hm]; unfold flP; rw [ch_none hF]
     have HM2 := hid hm2
     clear hm hm2 hF
     go_wp2_with (first
      | (go_at_call 29; refine Calls.mono HF.out ?_; rintro e w3 ⟨rfl, hb3⟩))
     go_roundw
     case rel => exact ⟨j + 1, HL.out, by rw [HM2.out], by go_num, HBA.out.trans (hb3.mono HBA.out.size)⟩
     case measure => have := HL.out; simp [upN, intOf]; omega
    ·obtain ⟨ef, hef⟩ : ∃ e, l[kf]? = some e := ⟨_, List.getElem?_eq_getElem hkf⟩
     obtain ⟨g, vI, hq, hgo, hcv, hI⟩ := RdF.itemF hRW hef
     obtain ⟨i1, d1', i2, d2', i3, d3', i4, d4', rfl, _⟩ := hI
     subst hq
     rw [hF] at HF
     have hm2 : NN (j + 1) = mt (NN j) ef.2.l := by rw [hm]; unfold flP; rw [ch_some hF hef]
     have HM2 := hid hm2
     have HCV := hid (hcv.get 2 _ rfl)
     have HJ := hid (fun a b W => meetN_any a b W)
     have gk : (0 : Int) ≤ (kf : Int) := by omega
     have gk1 : (kf : Int) < (l.length : Int) := by omega
     have hkb : kf < 1099511627776 := by omega
     have gge : ((kf : Int) ≥ 0) := by omega
     generalize ef.2.l = lf at *
     clear hm hm2 hF hcv hef
     go_wp2_with (first
      | (go_at_call 29; refine Calls.mono HF.out ?_; rintro e w3 ⟨rfl, hb3⟩; have b0 := cell_onF hb3 a0; have m2 := (World.cell?_of_block (a := ⟨g, kf * 10 + 2, none⟩) ((hb3.block g (by have := HBA.out.size; omega)).trans (HBA.out.block g (by omega)))).trans HCV.out)
      | (go_at_call 34; refine Calls.mono (HJ.out _ _ _) ?_; rintro e w4 ⟨rfl, hw4⟩; subst w4; rw [← HM2.out]))
     go_roundw
     case rel => exact ⟨j + 1, HL.out, rfl, by go_num, HBA.out.trans (hb3.mono HBA.out.size)⟩
     case measure => have := HL.out; simp [upN, intOf]; omega
   ·obtain rfl : j = it.ss.length := by omega
    clear hlt hjl
    go_wp2
    go_ret
    exact ⟨rfl, HB.out.trans (hbr.mono (by omega))⟩
 ·rw [if_neg h2]
  have g2 : ((it.k : Int) != 2) = true := by simp; omega
  clear h2
  go_enter Tryz.func44, Tryz.ntmps44
  go_wp2
  go_ret
  exact ⟨rfl, hb2⟩
end Go.Proofs.YtdkpfnohdknldaaGreatDoor
namespace Go.Proofs.YtdkpfnohdknldaaGreatDoor
open Go.RowKit
set_option linter.unusedVariables false
attribute [local go_sem ↓] Go.wp_at_zero Go.wp_at_succ
def inC (n : Nat) : List Value := [Value.int .i64 (n : Int)]
def RelFs (l : List (Int × It)) (g : Nat) (W : World) (i : Value) (wr : World) : Prop := ∃ k : Nat, k ≤ l.length ∧ i = .int .i64 (k : Int) ∧ Below g W wr ∧ ∃ cs : Array Value, wr.heap[g]? = some (.cells cs 3 (0, 0)) ∧ cs.size = l.length ∧ ∀ (j : Nat) (e : Int × It), j < k → l[j]? = some e → cs[j]? = some (.int .i64 (flI l e.2 : Int))
set_option maxHeartbeats 4000000 in
set_option maxRecDepth 100000 in
theorem Floors_any (l : List (Int × It)) (q : Option Addr) (c : Nat) (w : World) (ok : Nat → Prop) (hok : ∀ k, ok k → k < w.heap.size) (hR : RdF ok w l (.agg #[.slice q l.length c])) :
  Calls Tryz.prog 17 #[.agg #[.slice q l.length c]] w fun e w' => ∃ g fc, e = .returned (.slice (some ⟨g, 0, none⟩) l.length fc) ∧ SlAt (fun k => w.heap.size ≤ k ∧ k < w'.heap.size) w' 1 inC (flA l) (some ⟨g, 0, none⟩) ∧ Below w.heap.size w w' := by
 have hlen : l.length ≤ 1099511627776 := by obtain ⟨_, _, _, h, _⟩ := hR; exact h
 obtain ⟨i0, hi, hz0, hz1, hz2⟩ := info_parts Tryz.infoInt
 obtain ⟨M, hM⟩ : ∃ M, M = madeCells (Value.int .i64 0).cells (((l.length : Nat) : Int).toNat * i0.size) := ⟨_, rfl⟩
 have hMs : M.size = l.length := by rw [hM, size_madeCells, hz1]; simp
 have hmk : ∀ W : World, (Instr.makeSlice 48 (.int .i64 (l.length : Int)) (.int .i64 (l.length : Int))).run Tryz.prog W = .ok (.slice (some ⟨W.heap.size, 0, none⟩) l.length l.length) (W.alloc (.cells M 3)) := fun W => by
  have h := run_make (P := Tryz.prog) W 48 3 i0 (.int .i64 0) Tryz.underlying48 hi hz0 .i64 .i64 (l.length : Int) (l.length : Int) (by omega) (by omega) (by rw [hz2]; omega) (by omega)
  rw [← hM] at h
  simpa using h
 have hb1 := (Below.refl w.heap.size w).alloc (Nat.le_refl _) (.cells #[.slice q l.length c] 25)
 have hb2 := hb1.alloc (by simp) (.cells M 3)
 have e1 : (w.alloc (.cells #[.slice q l.length c] 25)).heap.size = w.heap.size + 1 := by simp
 have y0 := cell_alloc (one_new w (.slice q l.length c) 25) (.cells M 3)
 have hnw := heap_alloc_new (w.alloc (.cells #[.slice q l.length c] 25)) (.cells M 3)
 rw [e1] at hnw
 have hRW : RdF (fun k => k < w.heap.size) ((w.alloc (.cells #[.slice q l.length c] 25)).alloc (.cells M 3)) l (.agg #[.slice q l.length c]) := RdF.kept hR (fun k hk => hb2.block k (hok k hk)) (fun k hk => hok k hk)
 have e2 : ((w.alloc (.cells #[.slice q l.length c] 25)).alloc (.cells M 3)).heap.size = w.heap.size + 2 := by simp
 have HB := hid hb2
 have HMs := hid hMs
 clear hM hR hok hb1 hb2 e1 hMs
 go_enter Tryz.func17, Tryz.ntmps17
 go_wp2
 generalize (w.alloc (.cells #[.slice q l.length c] 25)).alloc (.cells M 3) = W at *
 go_loopw [13] (fun i wr => RelFs l (w.heap.size + 1) W i wr) (fun i _ => upN l.length i)
 case atStart => exact ⟨0, Nat.zero_le _, rfl, Below.refl _ _, M, hnw, HMs.out, fun j e h => by omega⟩
 case round =>
  obtain ⟨j, hjl, rfl, hbr, cs, hcs, hsz, hdn⟩ := hrel
  have z0 := (World.cell?_of_block (a := ⟨w.heap.size, 0, none⟩) (hbr.block w.heap.size (by omega))).trans y0
  by_cases hlt : j < l.length
  ·obtain ⟨e0, he0⟩ : ∃ e, l[j]? = some e := ⟨_, List.getElem?_eq_getElem hlt⟩
   obtain ⟨pp, it⟩ := e0
   have hRr : RdF (fun k => k < w.heap.size) wr l (.agg #[.slice q l.length c]) := RdF.kept hRW (fun k hk => hbr.block k (by omega)) (fun _ h => h)
   obtain ⟨g, vI, hq, hgo, hcv, hI⟩ := RdF.itemF hRr he0
   obtain ⟨p1, c1, p2, c2, p3, c3, p4, c4, rfl, _, hSs, _⟩ := hI
   subst hq
   have i0' := hcv.get 0 _ rfl
   have i1 := hcv.get 1 _ rfl
   have i2 := hcv.get 2 _ rfl
   have i3 := hcv.get 3 _ rfl
   have i4 := hcv.get 4 _ rfl
   have i5 := hcv.get 5 _ rfl
   have i6 := hcv.get 6 _ rfl
   have i7 := hcv.get 7 _ rfl
   have i8 := hcv.get 8 _ rfl
   have i9 := hcv.get 9 _ rfl
   rw [Nat.add_zero] at i0'
   have gj : (0 : Int) ≤ (j : Int) := by omega
   have gj1 : (j : Int) < (l.length : Int) := by omega
   have hjb : j < 1099511627776 := by omega
   have hba := (Below.refl wr.heap.size wr).alloc (Nat.le_refl _) (.cells #[.int .i64 (it.k : Int), .string it.x, .int .i64 (it.l : Int), .slice p1 it.ps.length c1, .slice p2 it.ss.length c2, .slice p3 it.bd.length c3, .int .i64 pp, .int .i64 (it.sz : Int), .int .i64 (it.mrk : Int), .slice p4 it.ds.length c4] 36)
   have hszr := hbr.size
   have HC := hid (floor_any l (some ⟨g, 0, none⟩) c (wr.alloc (.cells #[.int .i64 (it.k : Int), .string it.x, .int .i64 (it.l : Int), .slice p1 it.ps.length c1, .slice p2 it.ss.length c2, .slice p3 it.bd.length c3, .int .i64 pp, .int .i64 (it.sz : Int), .int .i64 (it.mrk : Int), .slice p4 it.ds.length c4] 36)) (fun k => k < w.heap.size) (fun k hk => by have := hba.size; omega) (RdF.kept hRr (fun k hk => hba.block k (by omega)) (fun _ h => h)) it pp p1 c1 p2 c2 p3 c3 p4 c4 (hSs.kept (fun k hk => hba.block k (by omega))))
   generalize hfl : flI l it = fl0 at *
   have HFL := hid hfl
   obtain ⟨u, hu⟩ : ∃ u, cs[j]? = some u := ⟨_, Array.getElem?_eq_getElem (by omega)⟩
   have HL := hid hlt
   have HE := hid he0
   have HR := hid (And.intro hbr (And.intro hba (And.intro hcs (And.intro hsz hdn))))
   have HU := hid hu
   have a0 := cell_alloc z0
   clear hcv hSs he0 hlt hjl hba hcs hsz hdn hfl hRr hu
   go_wp2_with (first
    | (go_at_call 44; refine Calls.mono HC.out ?_; rintro e w3 ⟨rfl, hb3⟩; have hcs3 := (hb3.block (w.heap.size + 1) (by have := HR.out.2.1.size; omega)).trans ((HR.out.2.1.block (w.heap.size + 1) (by omega)).trans HR.out.2.2.1); have k3 : w3.cell? ⟨w.heap.size + 1, j, none⟩ = some u := (cell_of_row _ _ j _ _ _ hcs3).trans HU.out; have f3 : w3.frozen? ⟨w.heap.size + 1, j, none⟩ = false := (by simp [World.frozen?, hcs3]); clear hcs3))
   go_roundw
   case rel =>
    have hcs3 := (hb3.block (w.heap.size + 1) (by have := HR.out.2.1.size; omega)).trans ((HR.out.2.1.block (w.heap.size + 1) (by omega)).trans HR.out.2.2.1)
    have hbz : Below (w.heap.size + 1) W w3 := HR.out.1.trans ((HR.out.2.1.trans (hb3.mono HR.out.2.1.size)).mono (by omega))
    refine ⟨j + 1, HL.out, by go_num, hbz.setCell (Nat.le_refl _) _, cs.setIfInBounds j (.int .i64 (fl0 : Int)), heap_setCell_same _ _ _ _ _ _ hcs3, by simpa using HR.out.2.2.2.1, fun i e hi he => ?_⟩
    rcases Nat.lt_or_ge i j with h | h
    ·rw [Array.getElem?_setIfInBounds_ne (by omega)]
     exact HR.out.2.2.2.2 i e h he
    ·obtain rfl : i = j := by omega
     rw [HE.out] at he
     injection he with he
     rw [Array.getElem?_setIfInBounds_self_of_lt (by have := HR.out.2.2.2.1; have := HL.out; omega), ← he, HFL.out]
   case measure => have := HL.out; simp [upN, intOf]; omega
  ·obtain rfl : j = l.length := by omega
   have hszr := hbr.size
   clear hlt hjl
   go_wp2
   go_ret
   refine ⟨w.heap.size + 1, l.length, rfl, ⟨by unfold flA; rw [List.length_map]; exact hlen, fun _ => ⟨w.heap.size + 1, rfl, ⟨by omega, (Array.getElem?_eq_some_iff.1 hcs).1⟩, fun j n hj i u hi => ?_⟩⟩, HB.out.trans (hbr.mono (by omega))⟩
   unfold flA at hj
   rw [List.getElem?_map] at hj
   obtain ⟨e, he, rfl⟩ := Option.map_eq_some_iff.1 hj
   have hi0 : i = 0 := by
    rcases i with _ | i
    ·rfl
    ·simp [inC] at hi
   subst hi0
   simp only [inC, List.getElem?_cons_zero, Option.some.injEq] at hi
   have ej : j * 1 + 0 = j := by omega
   rw [ej, cell_of_row _ _ j _ _ _ hcs, hdn j e (List.getElem?_eq_some_iff.1 he).1 he, ← hi]
set_option maxHeartbeats 4000000 in
set_option maxRecDepth 100000 in
theorem diags_any (l : List (Int × It)) (fs : List Nat) (q : Option Addr) (c : Nat) (fq : Option Addr) (fc : Nat) (w : World) (ok : Nat → Prop) (hok : ∀ k, ok k → k < w.heap.size) (hR : RdF ok w l (.agg #[.slice q l.length c])) (hF : SlAt ok w 1 inC fs fq) (hfl : fs.length = l.length) (hP : ∀ e ∈ l, e.2.ps.length ≤ 5) (i : Nat) (hi : i < l.length) (hw : ∀ (p : Int) (it : It), l[i]? = some (p, it) → ∃ T m, wfL (cwS T m) T.length it.bd ∧ T.length ≤ 1000000) :
  Calls Tryz.prog 47 #[.agg #[.slice q l.length c], .slice fq fs.length fc, .int .i64 (i : Int)] w fun e w' => ∃ v, e = .returned v ∧ w'.ownsRow w.heap.size 65 4 v (noF (fvJ l fs i)).length ((noF (fvJ l fs i)).flatMap fdC) ∧ Below w.heap.size w w' := by
 have hmf : ∀ (fn : Go.Fn) (first cap : Array Value) (w : World), (Instr.makeFunc fn first cap).run Tryz.prog w = .ok (.func fn first cap) w := fun _ _ _ _ => rfl
 have hb1 := (Below.refl w.heap.size w).alloc (Nat.le_refl _) (.cells #[.slice q l.length c] 25)
 have hb2 := hb1.alloc (by simp) (.cells #[.slice none 0 0] 34)
 have hb3 := hb2.alloc (by simp; omega) (.cells #[.slice q l.length c, .slice fq fs.length fc, .int .i64 0, .func (.func 77) #[] #[.pointer (some ⟨w.heap.size + 1, 0, none⟩)], .func (.func 78) #[] #[]] 104)
 have hC := Cpt.nil (T := 34) (TE := 65) (st := 4) (w.alloc (.cells #[.slice q l.length c] 25))
 have e1 : (w.alloc (.cells #[.slice q l.length c] 25)).heap.size = w.heap.size + 1 := by simp
 have e2 : ((w.alloc (.cells #[.slice q l.length c] 25)).alloc (.cells #[.slice none 0 0] 34)).heap.size = w.heap.size + 2 := by simp
 rw [e1] at hC
 have hb23 := (Below.refl ((w.alloc (.cells #[.slice q l.length c] 25)).alloc (.cells #[.slice none 0 0] 34)).heap.size ((w.alloc (.cells #[.slice q l.length c] 25)).alloc (.cells #[.slice none 0 0] 34))).alloc (Nat.le_refl _) (.cells #[.slice q l.length c, .slice fq fs.length fc, .int .i64 0, .func (.func 77) #[] #[.pointer (some ⟨w.heap.size + 1, 0, none⟩)], .func (.func 78) #[] #[]] 104)
 have hC3 := hC.kept (hb23.block (w.heap.size + 1) (by omega)) (fun k e => by cases e)
 have e3 : (((w.alloc (.cells #[.slice q l.length c] 25)).alloc (.cells #[.slice none 0 0] 34)).alloc (.cells #[.slice q l.length c, .slice fq fs.length fc, .int .i64 0, .func (.func 77) #[] #[.pointer (some ⟨w.heap.size + 1, 0, none⟩)], .func (.func 78) #[] #[]] 104)).heap.size = w.heap.size + 3 := by simp
 have hG : GF (w.heap.size + 1) (w.heap.size + 2) (((w.alloc (.cells #[.slice q l.length c] 25)).alloc (.cells #[.slice none 0 0] 34)).alloc (.cells #[.slice q l.length c, .slice fq fs.length fc, .int .i64 0, .func (.func 77) #[] #[.pointer (some ⟨w.heap.size + 1, 0, none⟩)], .func (.func 78) #[] #[]] 104)) [] none := ⟨by omega, hC3⟩
 have hokW : ∀ k, ok k → okS 0 (w.heap.size + 1) none (((w.alloc (.cells #[.slice q l.length c] 25)).alloc (.cells #[.slice none 0 0] 34)).alloc (.cells #[.slice q l.length c, .slice fq fs.length fc, .int .i64 0, .func (.func 77) #[] #[.pointer (some ⟨w.heap.size + 1, 0, none⟩)], .func (.func 78) #[] #[]] 104)) k := fun k hk => ⟨Nat.zero_le _, Nat.lt_of_lt_of_le (hok k hk) hb3.size, by have := hok k hk; omega, fun e => by cases e⟩
 have hW : WkF (w.heap.size + 1) l fs q c fq none (((w.alloc (.cells #[.slice q l.length c] 25)).alloc (.cells #[.slice none 0 0] 34)).alloc (.cells #[.slice q l.length c, .slice fq fs.length fc, .int .i64 0, .func (.func 77) #[] #[.pointer (some ⟨w.heap.size + 1, 0, none⟩)], .func (.func 78) #[] #[]] 104)) := ⟨RdF.kept hR (fun k hk => hb3.block k (hok k hk)) hokW, (hF.kept (fun k hk => hb3.block k (hok k hk))).wide hokW, hfl⟩
 obtain ⟨e0, he0⟩ : ∃ e, l[i]? = some e := ⟨_, List.getElem?_eq_getElem hi⟩
 obtain ⟨pp, it⟩ := e0
 obtain ⟨T, m, hwT, hTl⟩ := hw pp it he0
 have HC := hid (fl_item_any (n := 0) (bk := 0) (fc := fc) hP (lsDiags (w.heap.size + 1) (w.heap.size + 2) (by omega)) hW hG i hi pp it he0 m T.length hwT (by simp only [noF, List.filter_nil, List.length_nil]; omega))
 rw [List.nil_append] at HC
 have HB := hid hb3
 clear hR hF hok hokW hW hG hC hC3 hb1 hb2 hb3 hb23 e1 e2 hw he0 hwT hfl
 go_enter Tryz.func47, Tryz.ntmps47
 go_wp2_with (first
  | (go_at_call 50; refine Calls.mono HC.out ?_; rintro e w2 ⟨rfl, D2, ⟨hs2, v2, k1, k2, k3⟩, hS2⟩; have z2 : w2.cell? ⟨w.heap.size + 1, 0, none⟩ = some v2 := cell_of_row _ _ 0 _ _ _ k1))
 go_ret
 refine ⟨v2, rfl, own_base (base := w.heap.size + 1 + 1) (base' := w.heap.size) k2 (by omega), HB.out.trans ⟨hS2.os, hS2.tape, hS2.output, hS2.size, fun k hk => hS2.block k (Nat.lt_of_lt_of_le hk HB.out.size) (by omega) (fun e => by cases e)⟩⟩
set_option maxHeartbeats 4000000 in
set_option maxRecDepth 100000 in
theorem FDiags_any (l : List (Int × It)) (q : Option Addr) (c : Nat) (w : World) (ok : Nat → Prop) (hok : ∀ k, ok k → k < w.heap.size) (hR : RdF ok w l (.agg #[.slice q l.length c])) (hP : ∀ e ∈ l, e.2.ps.length ≤ 5) (i : Nat) (hi : i < l.length) (hw : ∀ (p : Int) (it : It), l[i]? = some (p, it) → ∃ T m, wfL (cwS T m) T.length it.bd ∧ T.length ≤ 1000000) :
  Calls Tryz.prog 21 #[.agg #[.slice q l.length c], .int .i64 (i : Int)] w fun e w' => ∃ v, e = .returned v ∧ w'.ownsRow w.heap.size 65 4 v (noF (fvJ l (flA l) i)).length ((noF (fvJ l (flA l) i)).flatMap fdC) ∧ Below w.heap.size w w' := by
 have hb1 := (Below.refl w.heap.size w).alloc (Nat.le_refl _) (.cells #[.slice q l.length c] 25)
 have y0 := one_new w (.slice q l.length c) 25
 have hbd := hb1.drew
 have hsz : (w.alloc (.cells #[.slice q l.length c] 25)).drew.heap.size = w.heap.size + 1 := by show (w.alloc _).heap.size = _; simp
 have hRW : RdF (fun k => k < w.heap.size) (w.alloc (.cells #[.slice q l.length c] 25)).drew l (.agg #[.slice q l.length c]) := RdF.kept hR (fun k hk => hbd.block k (hok k hk)) (fun k hk => hok k hk)
 have HC := hid (Floors_any l q c (w.alloc (.cells #[.slice q l.length c] 25)).drew _ (fun k hk => by omega) hRW)
 have HDf := hid (fun (W : World) (g fc : Nat) (hb : Below (w.heap.size + 1) (w.alloc (.cells #[.slice q l.length c] 25)).drew W) (hS : SlAt (fun k => w.heap.size + 1 ≤ k ∧ k < W.heap.size) W 1 inC (flA l) (some ⟨g, 0, none⟩)) => diags_any l (flA l) q c (some ⟨g, 0, none⟩) fc W (fun k => k < W.heap.size) (fun k hk => hk) (RdF.kept hRW (fun k hk => hb.block k (by omega)) (fun k hk => by have := hb.size; omega)) (hS.wide (fun k hk => hk.2)) (by unfold flA; rw [List.length_map]) hP i hi hw)
 have HB := hid hbd
 have HLA : Hid ((flA l).length = l.length) := by show _ = _; unfold flA; rw [List.length_map]
 clear hR hok hb1 hbd hRW
 go_enter Tryz.func21, Tryz.ntmps21
 go_wp2
 go_region_held3 (fun w' => w'.cell? ⟨w.heap.size, 0, none⟩ = some (.slice q l.length c)) (first | go_keep | (with_reducible exact v0) | (with_reducible exact x0))
  (first
   | (go_at_call 17; refine Calls.mono HC.out ?_; rintro e w2 ⟨g, fc, rfl, hS2, hb2⟩; rw [hsz] at hS2 hb2; have v0 := (World.cell?_of_block (a := ⟨w.heap.size, 0, none⟩) (hb2.block w.heap.size (by omega))).trans y0; have HD := hid (HDf.out w2 g fc hb2 hS2); rw [HLA.out] at HD)
   | (go_at_call 47; refine Calls.mono HD.out ?_; rintro e w3 ⟨v, rfl, hrow, hb3⟩; have x0 := (World.cell?_of_block (a := ⟨w.heap.size, 0, none⟩) (hb3.block w.heap.size (by have := hb2.size; omega))).trans v0))
 clear v0 x0
 go_wp2
 go_ret
 have hbz := HB.out.trans (hb2.mono (by omega))
 exact ⟨v, rfl, own_base (base := w2.heap.size) (base' := w.heap.size) hrow (by have := hbz.size; omega), hbz.trans (hb3.mono hbz.size)⟩
def sndB (l : List (Int × It)) : Bool := (List.range l.length).all (fun i => (noF (fvJ l (flA l) i)).isEmpty)
def RelSo (l : List (Int × It)) (W : World) (i : Value) (wr : World) : Prop := ∃ k : Nat, k ≤ l.length ∧ i = .int .i64 (k : Int) ∧ (∀ j, j < k → noF (fvJ l (flA l) j) = []) ∧ Below W.heap.size W wr
set_option maxHeartbeats 4000000 in
set_option maxRecDepth 100000 in
theorem Sound_any (l : List (Int × It)) (q : Option Addr) (c : Nat) (w : World) (ok : Nat → Prop) (hok : ∀ k, ok k → k < w.heap.size) (hR : RdF ok w l (.agg #[.slice q l.length c])) (hP : ∀ e ∈ l, e.2.ps.length ≤ 5) (hw : ∀ (i : Nat) (p : Int) (it : It), l[i]? = some (p, it) → ∃ T m, wfL (cwS T m) T.length it.bd ∧ T.length ≤ 1000000) :
  Calls Tryz.prog 23 #[.agg #[.slice q l.length c]] w fun e w' => e = .returned (.bool (sndB l)) ∧ Below w.heap.size w w' := by
 have hlen : l.length ≤ 1099511627776 := by obtain ⟨_, _, _, h, _⟩ := hR; exact h
 have hb1 := (Below.refl w.heap.size w).alloc (Nat.le_refl _) (.cells #[.slice q l.length c] 25)
 have y0 := one_new w (.slice q l.length c) 25
 have hsz : (w.alloc (.cells #[.slice q l.length c] 25)).heap.size = w.heap.size + 1 := by simp
 have hRW : RdF (fun k => k < w.heap.size) (w.alloc (.cells #[.slice q l.length c] 25)) l (.agg #[.slice q l.length c]) := RdF.kept hR (fun k hk => hb1.block k (hok k hk)) (fun k hk => hok k hk)
 have HC := hid (Floors_any l q c (w.alloc (.cells #[.slice q l.length c] 25)) _ (fun k hk => by omega) hRW)
 have HDf := hid (fun (W : World) (g fc : Nat) (ok' : Nat → Prop) (hok' : ∀ k, ok' k → k < W.heap.size) (hb : Below (w.heap.size + 1) (w.alloc (.cells #[.slice q l.length c] 25)) W) (hS : SlAt ok' W 1 inC (flA l) (some ⟨g, 0, none⟩)) (i : Nat) (hi : i < l.length) => diags_any l (flA l) q c (some ⟨g, 0, none⟩) fc W (fun k => k < W.heap.size) (fun k hk => hk) (RdF.kept hRW (fun k hk => hb.block k (by omega)) (fun k hk => by have := hb.size; omega)) (hS.wide (fun k hk => hok' k hk)) (by unfold flA; rw [List.length_map]) hP i hi (hw i))
 have HB := hid hb1
 have HLA : Hid ((flA l).length = l.length) := by show _ = _; unfold flA; rw [List.length_map]
 rw [HLA.out] at HDf
 clear hR hok hb1 hRW hw
 generalize hr : sndB l = r
 have HR := hid hr
 clear hr
 go_enter Tryz.func23, Tryz.ntmps23
 go_wp2_with (first
  | (go_at_call 17; refine Calls.mono HC.out ?_; rintro e w2 ⟨g, fc, rfl, hS2, hb2⟩; rw [hsz] at hS2 hb2; have v0 := (World.cell?_of_block (a := ⟨w.heap.size, 0, none⟩) (hb2.block w.heap.size (by omega))).trans y0))
 have hbz := HB.out.trans (hb2.mono (by omega))
 have hsz2 := hb2.size
 rw [hsz] at hsz2
 go_loopw [10] (fun i wr => RelSo l w2 i wr) (fun i _ => upN l.length i)
 case atStart => exact ⟨0, Nat.zero_le _, rfl, fun j h => by omega, Below.refl _ _⟩
 case round =>
  obtain ⟨j, hjl, rfl, hno, hbr⟩ := hrel
  have z0 := (World.cell?_of_block (a := ⟨w.heap.size, 0, none⟩) (hbr.block w.heap.size (by omega))).trans v0
  have hBr := hbz.trans (hbr.mono hbz.size)
  by_cases hlt : j < l.length
  ·have HD := hid (HDf.out wr g fc (fun k => k < w2.heap.size) (fun k hk => Nat.lt_of_lt_of_le hk hbr.size) (hb2.trans (hbr.mono (by omega))) ((hS2.wide (fun k hk => hk.2)).kept (fun k hk => hbr.block k hk)) j hlt)
   have HL := hid hlt
   have HNO := hid hno
   generalize hX : noF (fvJ l (flA l) j) = X at *
   have HX := hid hX
   clear hlt hjl hno hX
   by_cases hx : X = []
   ·subst hx
    go_wp2_with (first
     | (go_at_call 47; refine Calls.mono HD.out ?_; rintro e w3 ⟨v, rfl, hrow, hb3⟩; obtain ⟨p3, c3, rfl⟩ := own_len hrow; clear hrow))
    go_roundw
    case rel =>
     refine ⟨j + 1, HL.out, by go_num, fun i hi => ?_, hbr.trans (hb3.mono hbr.size)⟩
     rcases Nat.lt_or_ge i j with h | h
     ·exact HNO.out i h
     ·obtain rfl : i = j := by omega
      exact HX.out
    case measure => have := HL.out; simp [upN, intOf]; omega
   ·have hr : r = false := by
     rw [← HR.out]
     unfold sndB
     rw [List.all_eq_false]
     refine ⟨j, List.mem_range.2 HL.out, ?_⟩
     rw [HX.out]
     simpa using hx
    have gl : 0 < X.length := List.length_pos_iff.2 hx
    generalize X.length = xl at *
    have gx : ((xl : Int) > 0) := by omega
    subst hr
    clear hx
    go_wp2_with (first
     | (go_at_call 47; refine Calls.mono HD.out ?_; rintro e w3 ⟨v, rfl, hrow, hb3⟩; obtain ⟨p3, c3, rfl⟩ := own_len hrow; clear hrow))
    go_ret
    exact ⟨rfl, hBr.trans (hb3.mono hBr.size)⟩
  ·obtain rfl : j = l.length := by omega
   have hr : r = true := by
    rw [← HR.out]
    unfold sndB
    rw [List.all_eq_true]
    intro i hi
    rw [hno i (List.mem_range.1 hi)]
    rfl
   subst hr
   clear hlt hjl hno
   go_wp2
   go_ret
   exact ⟨rfl, hBr⟩
end Go.Proofs.YtdkpfnohdknldaaGreatDoor
namespace Go.Proofs.YtdkpfnohdknldaaGreatDoor
open Go.RowKit
set_option linter.unusedVariables false
attribute [local go_sem ↓] Go.wp_at_zero Go.wp_at_succ
def hitF (at_ : Int) (e : Fv) : Bool := !e.b && (decide ((e.f : Int) ≤ at_) && decide (at_ < (e.t : Int)))
def labR (L : List Fv) (at_ : Int) : Nat × Bool := match L.find? (hitF at_) with | some e => (e.n, true) | none => (0, false)
theorem labR_no (L : List Fv) (at_ : Int) (f t : Nat) (x : ByteArray) : labR (L ++ [fvNo f t x]) at_ = labR L at_ := by
 unfold labR
 rw [List.find?_append]
 cases L.find? (hitF at_) with
 | some e => rfl
 | none => rfl
theorem labR_say (L : List Fv) (at_ : Int) (f t n : Nat) : labR (L ++ [fvSay f t n]) at_ = if (labR L at_).2 then labR L at_ else if (f : Int) ≤ at_ ∧ at_ < (t : Int) then (n, true) else (0, false) := by
 unfold labR
 rw [List.find?_append]
 cases hf : L.find? (hitF at_) with
 | some e => rfl
 | none =>
  show (match (none : Option Fv).or (List.find? (hitF at_) [fvSay f t n]) with | some e => (e.n, true) | none => (0, false)) = _
  rw [Option.none_or, List.find?_cons]
  by_cases h : (f : Int) ≤ at_ ∧ at_ < (t : Int)
  ·have e : hitF at_ (fvSay f t n) = true := by unfold hitF fvSay; simp [h.1, h.2]
   rw [e]
   simp [h, fvSay]
  ·have e : hitF at_ (fvSay f t n) = false := by unfold hitF fvSay; simp; omega
   rw [e]
   simp [h]
theorem labR_zero {L : List Fv} {at_ : Int} (h : (labR L at_).2 = false) : labR L at_ = (0, false) := by
 unfold labR at h ⊢
 cases hf : L.find? (hitF at_) with
 | some e => rw [hf] at h; cases h
 | none => rfl
structure GL (bn bk ba : Nat) (at_ : Int) (b0 : Nat) (w : World) (L : List Fv) (D : Option Nat) : Prop where
 d : D = some bk
 lo : b0 ≤ w.heap.size
 n : w.heap[bn]? = some (.cells #[.int .i64 ((labR L at_).1 : Int)] 3 (0, 0))
 o : w.heap[bk]? = some (.cells #[.bool (labR L at_).2] 4 (0, 0))
 a : w.heap[ba]? = some (.cells #[.int .i64 at_] 3 (0, 0))
section
variable {bn bk ba b0 : Nat} {at_ : Int} {w w' : World} {L L' : List Fv} {D : Option Nat}
theorem GL.kept (h1 : bn < b0) (h2 : bk < b0) (h3 : ba < b0) (h : GL bn bk ba at_ b0 w L D) (hs : w.heap.size ≤ w'.heap.size) (hk : ∀ k, k < b0 → w'.heap[k]? = w.heap[k]?) (hL : labR L' at_ = labR L at_) : GL bn bk ba at_ b0 w' L' D :=
 ⟨h.d, Nat.le_trans h.lo hs, by rw [hL]; exact (hk bn h1).trans h.n, by rw [hL]; exact (hk bk h2).trans h.o, (hk ba h3).trans h.a⟩
set_option maxHeartbeats 1000000 in
set_option maxRecDepth 100000 in
theorem hear_label (h1 : bn < b0) (h2 : bk < b0) (h3 : ba < b0) (n1 : bn ≠ bk) (n2 : ba ≠ bn) (n3 : ba ≠ bk) (hg : GL bn bk ba at_ b0 w L D) (k : Nat) (x : ByteArray) (m : Nat) (q : Option Addr) (n c f t s : Nat) :
  Calls Tryz.prog 48 #[.agg #[.int .i64 (k : Int), .string x, .int .i64 (m : Int), .slice q n c, .int .i64 (f : Int), .int .i64 (t : Int)], .int .i64 (s : Int), .pointer (some ⟨bk, 0, none⟩), .pointer (some ⟨ba, 0, none⟩), .pointer (some ⟨bn, 0, none⟩)] w fun ex w' => ex = .returned (.tuple #[]) ∧ TlF bn (GL bn bk ba at_ b0) D (L ++ [fvSay f t s]) w w' := by
 have hb := (Below.refl w.heap.size w).alloc (Nat.le_refl _) (.cells #[.int .i64 (k : Int), .string x, .int .i64 (m : Int), .slice q n c, .int .i64 (f : Int), .int .i64 (t : Int)] 100)
 have cn : w.cell? ⟨bn, 0, none⟩ = some (.int .i64 ((labR L at_).1 : Int)) := cell_of_row _ _ 0 _ _ _ hg.n
 have ck : w.cell? ⟨bk, 0, none⟩ = some (.bool (labR L at_).2) := cell_of_row _ _ 0 _ _ _ hg.o
 have ca : w.cell? ⟨ba, 0, none⟩ = some (.int .i64 at_) := cell_of_row _ _ 0 _ _ _ hg.a
 have fn : w.frozen? ⟨bn, 0, none⟩ = false := by simp [World.frozen?, hg.n]
 have fk : w.frozen? ⟨bk, 0, none⟩ = false := by simp [World.frozen?, hg.o]
 have gn : ∀ o : Obj, (w.alloc o).frozen? ⟨bn, 0, none⟩ = false := fun o => (World.frozen?_of_block (a := ⟨bn, 0, none⟩) (Below.heap_alloc w o bn (by have := hg.lo; omega))).trans fn
 have gk : ∀ o : Obj, (w.alloc o).frozen? ⟨bk, 0, none⟩ = false := fun o => (World.frozen?_of_block (a := ⟨bk, 0, none⟩) (Below.heap_alloc w o bk (by have := hg.lo; omega))).trans fk
 have dn := cell_alloc cn
 have dk := cell_alloc ck
 have da := cell_alloc ca
 have hsy := labR_say L at_ f t s
 have hlo := hg.lo
 cases hb2 : (labR L at_).2 with
 | true =>
  rw [hb2] at ck dk hsy
  have hG2 : GL bn bk ba at_ b0 (w.alloc (.cells #[.int .i64 (k : Int), .string x, .int .i64 (m : Int), .slice q n c, .int .i64 (f : Int), .int .i64 (t : Int)] 100)) (L ++ [fvSay f t s]) D := hg.kept h1 h2 h3 hb.size (fun k hk => hb.block k (by omega)) (by rw [hsy]; rfl)
  have HG := hid hG2
  clear hG2 hsy
  go_enter Tryz.func48, Tryz.ntmps48
  go_wp2
  go_end0
  exact ⟨rfl, D, HG.out, Stp.below hb⟩
 | false =>
  have hz := labR_zero hb2
  rw [hb2] at ck dk hsy
  rw [if_neg (by simp)] at hsy
  by_cases hc1 : (f : Int) ≤ at_
  ·by_cases hc2 : at_ < (t : Int)
   ·rw [if_pos ⟨hc1, hc2⟩] at hsy
    have HSY := hid hsy
    have n1' : ¬ bk = bn := fun e => n1 e.symm
    have hnE := (Below.heap_alloc w (.cells #[.int .i64 (k : Int), .string x, .int .i64 (m : Int), .slice q n c, .int .i64 (f : Int), .int .i64 (t : Int)] 100) bn (by omega)).trans hg.n
    have hkE := (Below.heap_alloc w (.cells #[.int .i64 (k : Int), .string x, .int .i64 (m : Int), .slice q n c, .int .i64 (f : Int), .int .i64 (t : Int)] 100) bk (by omega)).trans hg.o
    have haE := (Below.heap_alloc w (.cells #[.int .i64 (k : Int), .string x, .int .i64 (m : Int), .slice q n c, .int .i64 (f : Int), .int .i64 (t : Int)] 100) ba (by omega)).trans hg.a
    have HE3 := hid (And.intro hnE (And.intro hkE haE))
    have HBd := hid hb
    clear hsy hz hnE hkE haE hb
    go_enter Tryz.func48, Tryz.ntmps48
    go_wp2
    go_end0
    have hd := hg.d
    generalize hW : w.alloc (.cells #[.int .i64 (k : Int), .string x, .int .i64 (m : Int), .slice q n c, .int .i64 (f : Int), .int .i64 (t : Int)] 100) = W at *
    have hne : ∀ j, j ≠ bn → j ≠ bk → ((W.setCell ⟨bn, 0, none⟩ (.int .i64 (s : Int))).setCell ⟨bk, 0, none⟩ (.bool true)).heap[j]? = W.heap[j]? := fun j h1 h2 => (Below.heap_setCell _ _ _ j (show j ≠ bk from h2)).trans (Below.heap_setCell _ _ _ j (show j ≠ bn from h1))
    have hsz : ((W.setCell ⟨bn, 0, none⟩ (.int .i64 (s : Int))).setCell ⟨bk, 0, none⟩ (.bool true)).heap.size = W.heap.size := by simp
    refine ⟨rfl, D, ⟨hg.d, by rw [hsz]; exact Nat.le_trans hg.lo HBd.out.size, ?_, ?_, (hne ba n2 n3).trans HE3.out.2.2⟩, HBd.out.os, HBd.out.tape, HBd.out.output, by rw [hsz]; exact HBd.out.size, fun j hj h4 h5 => (hne j h4 (fun e => h5 (by rw [hd, e]))).trans (HBd.out.block j hj), .inl rfl⟩
    ·rw [HSY.out]
     exact (Below.heap_setCell _ _ _ bn (show bn ≠ bk from n1)).trans (by rw [heap_setCell_same _ _ _ _ _ _ HE3.out.1]; rfl)
    ·rw [HSY.out]
     exact (heap_setCell_same _ _ _ _ _ _ ((Below.heap_setCell _ _ _ bk (show bk ≠ bn from n1')).trans HE3.out.2.1)).trans rfl
   ·rw [if_neg (fun h => hc2 h.2), ← hz] at hsy
    have hG2 : GL bn bk ba at_ b0 (w.alloc (.cells #[.int .i64 (k : Int), .string x, .int .i64 (m : Int), .slice q n c, .int .i64 (f : Int), .int .i64 (t : Int)] 100)) (L ++ [fvSay f t s]) D := hg.kept h1 h2 h3 hb.size (fun k hk => hb.block k (by omega)) hsy
    have HG := hid hG2
    clear hG2 hsy hz
    go_enter Tryz.func48, Tryz.ntmps48
    go_wp2
    go_end0
    exact ⟨rfl, D, HG.out, Stp.below hb⟩
  ·rw [if_neg (fun h => hc1 h.1), ← hz] at hsy
   have hG2 : GL bn bk ba at_ b0 (w.alloc (.cells #[.int .i64 (k : Int), .string x, .int .i64 (m : Int), .slice q n c, .int .i64 (f : Int), .int .i64 (t : Int)] 100)) (L ++ [fvSay f t s]) D := hg.kept h1 h2 h3 hb.size (fun k hk => hb.block k (by omega)) hsy
   have HG := hid hG2
   clear hG2 hsy hz
   go_enter Tryz.func48, Tryz.ntmps48
   go_wp2
   go_end0
   exact ⟨rfl, D, HG.out, Stp.below hb⟩
end
end Go.Proofs.YtdkpfnohdknldaaGreatDoor
namespace Go.Proofs.YtdkpfnohdknldaaGreatDoor
open Go.RowKit
set_option linter.unusedVariables false
theorem set5_below {B b : Nat} {w w1 : World} {v0 v1 v2 v3 v4 : Value} (hb : Below B w w1) (h : B ≤ b) : Below B w (((((w1.setCell ⟨b, 0, none⟩ v0).setCell ⟨b, 1, none⟩ v1).setCell ⟨b, 2, none⟩ v2).setCell ⟨b, 3, none⟩ v3).setCell ⟨b, 4, none⟩ v4) := ((((hb.setCell h _).setCell h _).setCell h _).setCell h _).setCell h _
theorem set5_other {b : Nat} (w1 : World) {v0 v1 v2 v3 v4 : Value} (k : Nat) (h : k ≠ b) : (((((w1.setCell ⟨b, 0, none⟩ v0).setCell ⟨b, 1, none⟩ v1).setCell ⟨b, 2, none⟩ v2).setCell ⟨b, 3, none⟩ v3).setCell ⟨b, 4, none⟩ v4).heap[k]? = w1.heap[k]? := (Below.heap_setCell _ _ _ k h).trans ((Below.heap_setCell _ _ _ k h).trans ((Below.heap_setCell _ _ _ k h).trans ((Below.heap_setCell _ _ _ k h).trans (Below.heap_setCell _ _ _ k h))))
theorem set5_at {w : World} {b : Nat} {u0 u1 u2 u3 u4 v0 v1 v2 v3 v4 : Value} {t : TypeId} (h : w.heap[b]? = some (.cells #[u0, u1, u2, u3, u4] t (0, 0))) :
  (((((w.setCell ⟨b, 0, none⟩ v0).setCell ⟨b, 1, none⟩ v1).setCell ⟨b, 2, none⟩ v2).setCell ⟨b, 3, none⟩ v3).setCell ⟨b, 4, none⟩ v4).heap[b]? = some (.cells #[v0, v1, v2, v3, v4] t (0, 0)) := by
 simp [World.setCell, Array.getElem?_modify, h]
def RelLb (l : List (Int × It)) (q : Option Addr) (c b : Nat) (W : World) (s11 : Value) (wx : World) : Prop := ∃ g fc wb, s11 = .pointer (some ⟨wb, 0, none⟩) ∧ wx.heap[wb]? = some (.cells #[.slice q l.length c, .slice (some ⟨g, 0, none⟩) l.length fc, .int .i64 0, .func (.func 49) #[] #[], .func (.func 48) #[] #[.pointer (some ⟨b + 1 + 1 + 1, 0, none⟩), .pointer (some ⟨b + 1, 0, none⟩), .pointer (some ⟨b + 1 + 1, 0, none⟩)]] 104 (0, 0)) ∧ Below (b + 4) W wx ∧ SlAt (fun k => b + 4 ≤ k ∧ k < wx.heap.size) wx 1 inC (flA l) (some ⟨g, 0, none⟩)
theorem relA {l : List (Int × It)} {q : Option Addr} {c b g fc : Nat} {W w2 : World} (hz : Below (b + 4) W W.drew) (hb2 : Below (b + 4) W.drew w2) (hS2 : SlAt (fun k => b + 4 ≤ k ∧ k < w2.heap.size) w2 1 inC (flA l) (some ⟨g, 0, none⟩)) (hs : b + 4 ≤ w2.heap.size := by omega) : RelLb l q c b W (.pointer (some ⟨w2.heap.size, 0, none⟩)) (w2.alloc (.cells #[.slice q l.length c, .slice (some ⟨g, 0, none⟩) l.length fc, .int .i64 0, .func (.func 49) #[] #[], .func (.func 48) #[] #[.pointer (some ⟨b + 1 + 1 + 1, 0, none⟩), .pointer (some ⟨b + 1, 0, none⟩), .pointer (some ⟨b + 1 + 1, 0, none⟩)]] 104)) :=
 have hbK := (Below.refl w2.heap.size w2).alloc (Nat.le_refl _) (.cells #[.slice q l.length c, .slice (some ⟨g, 0, none⟩) l.length fc, .int .i64 0, .func (.func 49) #[] #[], .func (.func 48) #[] #[.pointer (some ⟨b + 1 + 1 + 1, 0, none⟩), .pointer (some ⟨b + 1, 0, none⟩), .pointer (some ⟨b + 1 + 1, 0, none⟩)]] 104)
 ⟨g, fc, _, rfl, heap_alloc_new _ _, hz.trans (hb2.trans (hbK.mono hs)), (hS2.kept (fun k hk => hbK.block k hk.2)).wide (fun k hk => ⟨hk.1, Nat.lt_of_lt_of_le hk.2 hbK.size⟩)⟩
theorem relB {l : List (Int × It)} {q : Option Addr} {c b g fc : Nat} {W Wb w2 : World} {u0 u1 u2 u3 u4 : Value} (hz : Below (b + 4) W Wb) (hb2 : Below (b + 5) Wb w2) (hS2 : SlAt (fun k => b + 5 ≤ k ∧ k < w2.heap.size) w2 1 inC (flA l) (some ⟨g, 0, none⟩)) (hn : w2.heap[b + 4]? = some (.cells #[u0, u1, u2, u3, u4] 104 (0, 0))) : RelLb l q c b W (.pointer (some ⟨b + 4, 0, none⟩)) (((((w2.setCell ⟨b + 4, 0, none⟩ (.slice q l.length c)).setCell ⟨b + 4, 1, none⟩ (.slice (some ⟨g, 0, none⟩) l.length fc)).setCell ⟨b + 4, 2, none⟩ (.int .i64 0)).setCell ⟨b + 4, 3, none⟩ (.func (.func 49) #[] #[])).setCell ⟨b + 4, 4, none⟩ (.func (.func 48) #[] #[.pointer (some ⟨b + 1 + 1 + 1, 0, none⟩), .pointer (some ⟨b + 1, 0, none⟩), .pointer (some ⟨b + 1 + 1, 0, none⟩)])) :=
 have hbS := set5_below (Below.refl (b + 4) w2) (Nat.le_refl (b + 4))
 ⟨g, fc, _, rfl, set5_at hn, hz.trans ((hb2.mono (by omega)).trans hbS), (hS2.kept (fun k hk => set5_other w2 k (by omega))).wide (fun k hk => ⟨by omega, Nat.lt_of_lt_of_le hk.2 hbS.size⟩)⟩
theorem frz_of {w2 : World} {b : Nat} {cs : Array Value} {t : TypeId} (h : w2.heap[b]? = some (.cells cs t (0, 0))) : ∀ o, w2.frozen? ⟨b, o, none⟩ = false := fun o => by simp [World.frozen?, h]
end Go.Proofs.YtdkpfnohdknldaaGreatDoor

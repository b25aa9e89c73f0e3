/- Texts of this seat, one behind the other: FloLab2. -/
import Derived.Test.YtdkpfnohdknldaaGreatDoorZg29
import Derived.Deep.CutRange
namespace Go.Proofs.YtdkpfnohdknldaaGreatDoor
open Go.RowKit
set_option linter.unusedVariables false
attribute [local go_sem ↓] Go.wp_at_zero Go.wp_at_succ
theorem lsLabel {bn bk ba b0 : Nat} {at_ : Int} (h1 : bn < b0) (h2 : bk < b0) (h3 : ba < b0) (n1 : bn ≠ bk) (n2 : ba ≠ bn) (n3 : ba ≠ bk) : LsF bn b0 49 48 #[] #[.pointer (some ⟨bk, 0, none⟩), .pointer (some ⟨ba, 0, none⟩), .pointer (some ⟨bn, 0, none⟩)] (GL bn bk ba at_ b0) where
 ew := Tryz.call49
 eh := Tryz.call48
 lo := h1
 lt := fun w l D h => ⟨h.lo, fun k e => by rw [h.d] at e; injection e with e; have := h.lo; omega⟩
 kept := fun w w' l D h hs hk => h.kept h1 h2 h3 hs (fun k hk2 => hk k (.inl hk2)) rfl
 wrong := fun w l D f t x hg hn => (unsaid_any w f t 9 x).mono fun ex w' h => ⟨h.1, D, hg.kept h1 h2 h3 h.2.size (fun k hk => h.2.block k (by have := hg.lo; omega)) (labR_no l at_ f t x), Stp.below h.2⟩
 heard := fun w l D k x m q n c f t s hg => hear_label h1 h2 h3 n1 n2 n3 hg k x m q n c f t s
set_option maxHeartbeats 4000000 in
set_option maxRecDepth 100000 in
theorem Label_any (l : List (Int × It)) (q : Option Addr) (c : Nat) (w : World) (ok : Nat → Prop) (hok : ∀ k, ok k → k < w.heap.size) (hR : RdF ok w l (.agg #[.slice q l.length c])) (hP : ∀ e ∈ l, e.2.ps.length ≤ 5) (i : Nat) (hi : i < l.length) (at_ : Int) (hw : ∀ (p : Int) (it : It), l[i]? = some (p, it) → ∃ T m, wfL (cwS T m) T.length it.bd ∧ T.length ≤ 1000000) :
  Calls Tryz.prog 22 #[.agg #[.slice q l.length c], .int .i64 (i : Int), .int .i64 at_] w fun e w' => e = .returned (.tuple #[.int .i64 ((labR (fvJ l (flA l) i) at_).1 : Int), .bool (labR (fvJ l (flA l) i) at_).2]) ∧ Below w.heap.size w w' := by
 have hmf : ∀ (fn : Go.Fn) (first cap : Array Value) (w : World), (Instr.makeFunc fn first cap).run Tryz.prog w = .ok (.func fn first cap) w := fun _ _ _ _ => rfl
 have hb1 := (Below.refl w.heap.size w).alloc (Nat.le_refl _) (.cells #[.slice q l.length c] 25)
 have hb2 := hb1.alloc (by simp) (.cells #[.int .i64 at_] 3)
 have hb3 := hb2.alloc (by simp; omega) (.cells #[.int .i64 0] 3)
 have hb4 := hb3.alloc (by simp; omega) (.cells #[.bool false] 4)
 have e1 : (w.alloc (.cells #[.slice q l.length c] 25)).heap.size = w.heap.size + 1 := by simp
 have e2 : ((w.alloc (.cells #[.slice q l.length c] 25)).alloc (.cells #[.int .i64 at_] 3)).heap.size = w.heap.size + 2 := by simp
 have e3 : (((w.alloc (.cells #[.slice q l.length c] 25)).alloc (.cells #[.int .i64 at_] 3)).alloc (.cells #[.int .i64 0] 3)).heap.size = w.heap.size + 3 := by simp
 have e4 : ((((w.alloc (.cells #[.slice q l.length c] 25)).alloc (.cells #[.int .i64 at_] 3)).alloc (.cells #[.int .i64 0] 3)).alloc (.cells #[.bool false] 4)).heap.size = w.heap.size + 4 := by simp
 have y0 := cell_alloc (cell_alloc (cell_alloc (one_new w (.slice q l.length c) 25) (.cells #[.int .i64 at_] 3)) (.cells #[.int .i64 0] 3)) (.cells #[.bool false] 4)
 have a1 := heap_alloc_new (w.alloc (.cells #[.slice q l.length c] 25)) (.cells #[.int .i64 at_] 3)
 rw [e1] at a1
 have a1 := (Below.heap_alloc (((w.alloc (.cells #[.slice q l.length c] 25)).alloc (.cells #[.int .i64 at_] 3)).alloc (.cells #[.int .i64 0] 3)) (.cells #[.bool false] 4) (w.heap.size + 1) (by omega)).trans ((Below.heap_alloc ((w.alloc (.cells #[.slice q l.length c] 25)).alloc (.cells #[.int .i64 at_] 3)) (.cells #[.int .i64 0] 3) (w.heap.size + 1) (by omega)).trans a1)
 have a2 := heap_alloc_new ((w.alloc (.cells #[.slice q l.length c] 25)).alloc (.cells #[.int .i64 at_] 3)) (.cells #[.int .i64 0] 3)
 rw [e2] at a2
 have a2 := (Below.heap_alloc (((w.alloc (.cells #[.slice q l.length c] 25)).alloc (.cells #[.int .i64 at_] 3)).alloc (.cells #[.int .i64 0] 3)) (.cells #[.bool false] 4) (w.heap.size + 2) (by omega)).trans a2
 have a3 := heap_alloc_new (((w.alloc (.cells #[.slice q l.length c] 25)).alloc (.cells #[.int .i64 at_] 3)).alloc (.cells #[.int .i64 0] 3)) (.cells #[.bool false] 4)
 rw [e3] at a3
 have hG : GL (w.heap.size + 1 + 1) (w.heap.size + 1 + 1 + 1) (w.heap.size + 1) at_ (w.heap.size + 4) ((((w.alloc (.cells #[.slice q l.length c] 25)).alloc (.cells #[.int .i64 at_] 3)).alloc (.cells #[.int .i64 0] 3)).alloc (.cells #[.bool false] 4)) [] (some (w.heap.size + 1 + 1 + 1)) := ⟨rfl, by omega, a2, a3, a1⟩
 have hbd := hb4.drew
 have hsz : ((((w.alloc (.cells #[.slice q l.length c] 25)).alloc (.cells #[.int .i64 at_] 3)).alloc (.cells #[.int .i64 0] 3)).alloc (.cells #[.bool false] 4)).drew.heap.size = w.heap.size + 4 := e4
 have hRW : RdF (fun k => k < w.heap.size) ((((w.alloc (.cells #[.slice q l.length c] 25)).alloc (.cells #[.int .i64 at_] 3)).alloc (.cells #[.int .i64 0] 3)).alloc (.cells #[.bool false] 4)).drew l (.agg #[.slice q l.length c]) := RdF.kept hR (fun k hk => hbd.block k (hok k hk)) (fun k hk => hok k hk)
 have hbzA : Below (w.heap.size + 4) ((((w.alloc (.cells #[.slice q l.length c] 25)).alloc (.cells #[.int .i64 at_] 3)).alloc (.cells #[.int .i64 0] 3)).alloc (.cells #[.bool false] 4)) ((((w.alloc (.cells #[.slice q l.length c] 25)).alloc (.cells #[.int .i64 at_] 3)).alloc (.cells #[.int .i64 0] 3)).alloc (.cells #[.bool false] 4)).drew := Below.drew (Below.refl _ _)
 have hbzB : Below (w.heap.size + 4) ((((w.alloc (.cells #[.slice q l.length c] 25)).alloc (.cells #[.int .i64 at_] 3)).alloc (.cells #[.int .i64 0] 3)).alloc (.cells #[.bool false] 4)) (((((w.alloc (.cells #[.slice q l.length c] 25)).alloc (.cells #[.int .i64 at_] 3)).alloc (.cells #[.int .i64 0] 3)).alloc (.cells #[.bool false] 4)).alloc (.cells #[.slice none 0 0, .slice none 0 0, .int .i64 0, .nilFunc, .nilFunc] 104)).drew := ((Below.refl _ _).alloc (by omega) _).drew
 have hszB : (((((w.alloc (.cells #[.slice q l.length c] 25)).alloc (.cells #[.int .i64 at_] 3)).alloc (.cells #[.int .i64 0] 3)).alloc (.cells #[.bool false] 4)).alloc (.cells #[.slice none 0 0, .slice none 0 0, .int .i64 0, .nilFunc, .nilFunc] 104)).drew.heap.size = w.heap.size + 5 := by show (((((w.alloc (.cells #[.slice q l.length c] 25)).alloc (.cells #[.int .i64 at_] 3)).alloc (.cells #[.int .i64 0] 3)).alloc (.cells #[.bool false] 4)).alloc (.cells #[.slice none 0 0, .slice none 0 0, .int .i64 0, .nilFunc, .nilFunc] 104)).heap.size = _; simp
 have hnB : (((((w.alloc (.cells #[.slice q l.length c] 25)).alloc (.cells #[.int .i64 at_] 3)).alloc (.cells #[.int .i64 0] 3)).alloc (.cells #[.bool false] 4)).alloc (.cells #[.slice none 0 0, .slice none 0 0, .int .i64 0, .nilFunc, .nilFunc] 104)).drew.heap[w.heap.size + 4]? = some (.cells #[.slice none 0 0, .slice none 0 0, .int .i64 0, .nilFunc, .nilFunc] 104 (0, 0)) := by have h := heap_alloc_new ((((w.alloc (.cells #[.slice q l.length c] 25)).alloc (.cells #[.int .i64 at_] 3)).alloc (.cells #[.int .i64 0] 3)).alloc (.cells #[.bool false] 4)) (.cells #[.slice none 0 0, .slice none 0 0, .int .i64 0, .nilFunc, .nilFunc] 104); rw [e4] at h; exact h
 have hRB : RdF (fun k => k < w.heap.size) (((((w.alloc (.cells #[.slice q l.length c] 25)).alloc (.cells #[.int .i64 at_] 3)).alloc (.cells #[.int .i64 0] 3)).alloc (.cells #[.bool false] 4)).alloc (.cells #[.slice none 0 0, .slice none 0 0, .int .i64 0, .nilFunc, .nilFunc] 104)).drew l (.agg #[.slice q l.length c]) := RdF.kept hR (fun k hk => (hbzB.block k (by have := hok k hk; omega)).trans (hb4.block k (hok k hk))) (fun k hk => hok k hk)
 have HCA := hid (Floors_any l q c ((((w.alloc (.cells #[.slice q l.length c] 25)).alloc (.cells #[.int .i64 at_] 3)).alloc (.cells #[.int .i64 0] 3)).alloc (.cells #[.bool false] 4)).drew _ (fun k hk => by omega) hRW)
 have HCB := hid (Floors_any l q c (((((w.alloc (.cells #[.slice q l.length c] 25)).alloc (.cells #[.int .i64 at_] 3)).alloc (.cells #[.int .i64 0] 3)).alloc (.cells #[.bool false] 4)).alloc (.cells #[.slice none 0 0, .slice none 0 0, .int .i64 0, .nilFunc, .nilFunc] 104)).drew _ (fun k hk => by omega) hRB)
 rw [hsz] at HCA
 rw [hszB] at HCB
 have HNB := hid hnB
 clear hnB hRB
 have HLA : Hid ((flA l).length = l.length) := by show _ = _; unfold flA; rw [List.length_map]
 obtain ⟨e0, he0⟩ : ∃ e, l[i]? = some e := ⟨_, List.getElem?_eq_getElem hi⟩
 obtain ⟨pp, it⟩ := e0
 obtain ⟨T, m, hwT, hTl⟩ := hw pp it he0
 have hLs := lsLabel (bn := w.heap.size + 1 + 1) (bk := w.heap.size + 1 + 1 + 1) (ba := w.heap.size + 1) (b0 := w.heap.size + 4) (at_ := at_) (by omega) (by omega) (by omega) (by omega) (by omega) (by omega)
 have HIt := hid (fun (W : World) (g fc : Nat) (hb : Below (w.heap.size + 4) ((((w.alloc (.cells #[.slice q l.length c] 25)).alloc (.cells #[.int .i64 at_] 3)).alloc (.cells #[.int .i64 0] 3)).alloc (.cells #[.bool false] 4)).drew W) (hS : SlAt (fun k => w.heap.size + 4 ≤ k ∧ k < W.heap.size) W 1 inC (flA l) (some ⟨g, 0, none⟩)) => by
  have hGW : GL (w.heap.size + 1 + 1) (w.heap.size + 1 + 1 + 1) (w.heap.size + 1) at_ (w.heap.size + 4) W [] (some (w.heap.size + 1 + 1 + 1)) := GL.kept (by omega) (by omega) (by omega) hG (by have := hb.size; rw [hsz] at this; omega) (fun k hk => hb.block k hk) rfl
  have hbs := hb.size
  rw [hsz] at hbs
  have hWk : WkF (w.heap.size + 1 + 1) l (flA l) q c (some ⟨g, 0, none⟩) (some (w.heap.size + 1 + 1 + 1)) W := ⟨RdF.kept hRW (fun k hk => hb.block k (by omega)) (fun k hk => ⟨Nat.zero_le _, by omega, by omega, fun e => by injection e with e; omega⟩), hS.wide (fun k hk => ⟨Nat.zero_le _, hk.2, by omega, fun e => by injection e with e; omega⟩), by unfold flA; rw [List.length_map]⟩
  exact fl_item_any (n := 0) (bk := 0) (fc := fc) hP hLs hWk hGW i hi pp it he0 m T.length hwT (by simp only [noF, List.filter_nil, List.length_nil]; omega))
 have HB := hid hb4
 clear hR hok hb1 hb2 hb3 hb4 hbd hRW hw hwT he0 hG a1 a2 a3 e1 e2 e3 e4 hLs
 go_enter Tryz.func22, Tryz.ntmps22
 go_wp2
 generalize ((((w.alloc (.cells #[.slice q l.length c] 25)).alloc (.cells #[.int .i64 at_] 3)).alloc (.cells #[.int .i64 0] 3)).alloc (.cells #[.bool false] 4)) = W at *
 have y0a := cell_alloc y0
 go_cut [11] from 13 (fun s11 wx => RelLb l q c w.heap.size W s11 wx)
 case first =>
  go_region_with (first
   | (go_at_call 17; (with_reducible refine Calls.mono HCA.out ?_); rintro e w2 ⟨g, fc, rfl, hS2, hb2⟩; have v0 := (World.cell?_of_block (a := ⟨w.heap.size, 0, none⟩) (hb2.block w.heap.size (by omega))).trans y0; have v0a := cell_alloc v0)
   | (go_at_call 17; (with_reducible refine Calls.mono HCB.out ?_); rintro e w2 ⟨g, fc, rfl, hS2, hb2⟩; have v0 := (World.cell?_of_block (a := ⟨w.heap.size, 0, none⟩) ((hb2.block w.heap.size (by omega)).trans (hbzB.block w.heap.size (by omega)))).trans y0; have hn2 := (hb2.block (w.heap.size + 4) (by omega)).trans HNB.out; have u0 := (five_at hn2).1; have u1 := (five_at hn2).2.1; have u2 := (five_at hn2).2.2.1; have u3 := (five_at hn2).2.2.2.1; have u4 := (five_at hn2).2.2.2.2; have uf := frz_of hn2))
  all_goals (go_wp2_with fail; go_meet)
  all_goals (first
   | (exact relB hbzB hb2 hS2 hn2)
   | (exact relA hbzA hb2 hS2 (by have := hb2.size; omega)))
 case rest =>
 obtain ⟨g, fc, wb, rfl, hwb, hbT, hS5⟩ := hcut
 have hI := hid (HIt.out wc g fc ((Below.mk rfl rfl rfl (Nat.le_refl _) (fun _ _ => rfl) : Below (w.heap.size + 4) W.drew W).trans hbT) hS5)
 rw [List.nil_append, HLA.out] at hI
 obtain ⟨x0, x1, x2, x3, x4⟩ := five_at hwb
 clear y0 y0a hS5 hwb
 go_wp2_with (first
  | (go_at_call 50; refine Calls.mono hI.out ?_; rintro e w3 ⟨rfl, D3, hG3, hS3⟩; have z2 : w3.cell? ⟨w.heap.size + 1 + 1, 0, none⟩ = some _ := cell_of_row _ _ 0 _ _ _ hG3.n; have z3 : w3.cell? ⟨w.heap.size + 1 + 1 + 1, 0, none⟩ = some _ := cell_of_row _ _ 0 _ _ _ hG3.o))
 go_quiet (fail)
 go_wp2
 exact bodyPost_ret (v := .tuple #[.int .i64 ((labR (fvJ l (flA l) i) at_).1 : Int), .bool (labR (fvJ l (flA l) i) at_).2]) (by simp [results, Tryz.results22, go_sem]) rfl ⟨rfl, below_drewN ((HB.out.trans (hbT.mono (by omega))).trans ⟨hS3.os, hS3.tape, hS3.output, hS3.size, fun k hk => hS3.block k (by have := hbT.size; have hszW : W.heap.size = w.heap.size + 4 := hsz; omega) (by omega) (fun e => by injection e with e; omega)⟩) _⟩
end Go.Proofs.YtdkpfnohdknldaaGreatDoor

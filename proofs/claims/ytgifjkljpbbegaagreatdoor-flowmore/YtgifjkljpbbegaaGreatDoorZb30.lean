/- Texts of this seat, one behind the other: FloLab2, LawFTags. -/
import Derived.Test.YtgifjkljpbbegaaGreatDoorZb29
import Derived.Deep.CutRange
import Derived.Test.YtgifjkljpbbegaaGreatDoorZb24
import Derived.Test.YtgifjkljpbbegaaGreatDoorZb07
import Derived.Test.YtgifjkljpbbegaaGreatDoorZb17
namespace Go.Proofs.YtgifjkljpbbegaaGreatDoor
open Go.RowKit
set_option linter.unusedVariables false
attribute [local go_sem ↓] Go.wp_at_zero Go.wp_at_succ
theorem lsLabel {bn bk ba b0 : Nat} {at_ : Int} (h1 : bn < b0) (h2 : bk < b0) (h3 : ba < b0) (n1 : bn ≠ bk) (n2 : ba ≠ bn) (n3 : ba ≠ bk) : LsF bn b0 60 59 #[] #[.pointer (some ⟨bk, 0, none⟩), .pointer (some ⟨ba, 0, none⟩), .pointer (some ⟨bn, 0, none⟩)] (GL bn bk ba at_ b0) where
  ew := Tryz.call60
  eh := Tryz.call59
  lo := h1
  lt := fun w l D h => ⟨h.lo, fun k e => by rw [h.d] at e; injection e with e; have := h.lo; omega⟩
  kept := fun w w' l D h hs hk => h.kept h1 h2 h3 hs (fun k hk2 => hk k (.inl hk2)) rfl
  wrong := fun w l D f t x hg hn => (unsaid_any w f t 9 x).mono fun ex w' h => ⟨h.1, D, hg.kept h1 h2 h3 h.2.size (fun k hk => h.2.block k (by have := hg.lo; omega)) (labR_no l at_ f t x), Stp.below h.2⟩
  heard := fun w l D k x m q n c f t s hg => hear_label h1 h2 h3 n1 n2 n3 hg k x m q n c f t s
set_option maxHeartbeats 4000000 in
set_option maxRecDepth 100000 in
theorem Label_any (l : List (Int × It)) (q : Option Addr) (c : Nat) (w : World) (ok : Nat → Prop) (hok : ∀ k, ok k → k < w.heap.size) (hR : RdF ok w l (.agg #[.slice q l.length c])) (hP : ∀ e ∈ l, e.2.ps.length ≤ 5) (i : Nat) (hi : i < l.length) (at_ : Int) (hw : ∀ (p : Int) (it : It), l[i]? = some (p, it) → ∃ T m, wfL (cwS T m) T.length it.bd ∧ T.length ≤ 1000000) :
    Calls Tryz.prog 28 #[.agg #[.slice q l.length c], .int .i64 (i : Int), .int .i64 at_] w fun e w' => e = .returned (.tuple #[.int .i64 ((labR (fvJ l (flA l) i) at_).1 : Int), .bool (labR (fvJ l (flA l) i) at_).2]) ∧ Below w.heap.size w w' := by
  have hmf : ∀ (fn : Go.Fn) (first cap : Array Value) (w : World), (Instr.makeFunc fn first cap).run Tryz.prog w = .ok (.func fn first cap) w := fun _ _ _ _ => rfl
  have hb1 := (Below.refl w.heap.size w).alloc (Nat.le_refl _) (.cells #[.slice q l.length c] 24)
  have hb2 := hb1.alloc (by simp) (.cells #[.int .i64 at_] 3)
  have hb3 := hb2.alloc (by simp; omega) (.cells #[.int .i64 0] 3)
  have hb4 := hb3.alloc (by simp; omega) (.cells #[.bool false] 4)
  have e1 : (w.alloc (.cells #[.slice q l.length c] 24)).heap.size = w.heap.size + 1 := by simp
  have e2 : ((w.alloc (.cells #[.slice q l.length c] 24)).alloc (.cells #[.int .i64 at_] 3)).heap.size = w.heap.size + 2 := by simp
  have e3 : (((w.alloc (.cells #[.slice q l.length c] 24)).alloc (.cells #[.int .i64 at_] 3)).alloc (.cells #[.int .i64 0] 3)).heap.size = w.heap.size + 3 := by simp
  have e4 : ((((w.alloc (.cells #[.slice q l.length c] 24)).alloc (.cells #[.int .i64 at_] 3)).alloc (.cells #[.int .i64 0] 3)).alloc (.cells #[.bool false] 4)).heap.size = w.heap.size + 4 := by simp
  have y0 := cell_alloc (cell_alloc (cell_alloc (one_new w (.slice q l.length c) 24) (.cells #[.int .i64 at_] 3)) (.cells #[.int .i64 0] 3)) (.cells #[.bool false] 4)
  have a1 := heap_alloc_new (w.alloc (.cells #[.slice q l.length c] 24)) (.cells #[.int .i64 at_] 3)
  rw [e1] at a1
  have a1 := (Below.heap_alloc (((w.alloc (.cells #[.slice q l.length c] 24)).alloc (.cells #[.int .i64 at_] 3)).alloc (.cells #[.int .i64 0] 3)) (.cells #[.bool false] 4) (w.heap.size + 1) (by omega)).trans ((Below.heap_alloc ((w.alloc (.cells #[.slice q l.length c] 24)).alloc (.cells #[.int .i64 at_] 3)) (.cells #[.int .i64 0] 3) (w.heap.size + 1) (by omega)).trans a1)
  have a2 := heap_alloc_new ((w.alloc (.cells #[.slice q l.length c] 24)).alloc (.cells #[.int .i64 at_] 3)) (.cells #[.int .i64 0] 3)
  rw [e2] at a2
  have a2 := (Below.heap_alloc (((w.alloc (.cells #[.slice q l.length c] 24)).alloc (.cells #[.int .i64 at_] 3)).alloc (.cells #[.int .i64 0] 3)) (.cells #[.bool false] 4) (w.heap.size + 2) (by omega)).trans a2
  have a3 := heap_alloc_new (((w.alloc (.cells #[.slice q l.length c] 24)).alloc (.cells #[.int .i64 at_] 3)).alloc (.cells #[.int .i64 0] 3)) (.cells #[.bool false] 4)
  rw [e3] at a3
  have hG : GL (w.heap.size + 1 + 1) (w.heap.size + 1 + 1 + 1) (w.heap.size + 1) at_ (w.heap.size + 4) ((((w.alloc (.cells #[.slice q l.length c] 24)).alloc (.cells #[.int .i64 at_] 3)).alloc (.cells #[.int .i64 0] 3)).alloc (.cells #[.bool false] 4)) [] (some (w.heap.size + 1 + 1 + 1)) := ⟨rfl, by omega, a2, a3, a1⟩
  have hbd := hb4.drew
  have hsz : ((((w.alloc (.cells #[.slice q l.length c] 24)).alloc (.cells #[.int .i64 at_] 3)).alloc (.cells #[.int .i64 0] 3)).alloc (.cells #[.bool false] 4)).drew.heap.size = w.heap.size + 4 := e4
  have hRW : RdF (fun k => k < w.heap.size) ((((w.alloc (.cells #[.slice q l.length c] 24)).alloc (.cells #[.int .i64 at_] 3)).alloc (.cells #[.int .i64 0] 3)).alloc (.cells #[.bool false] 4)).drew l (.agg #[.slice q l.length c]) := RdF.kept hR (fun k hk => hbd.block k (hok k hk)) (fun k hk => hok k hk)
  have hbzA : Below (w.heap.size + 4) ((((w.alloc (.cells #[.slice q l.length c] 24)).alloc (.cells #[.int .i64 at_] 3)).alloc (.cells #[.int .i64 0] 3)).alloc (.cells #[.bool false] 4)) ((((w.alloc (.cells #[.slice q l.length c] 24)).alloc (.cells #[.int .i64 at_] 3)).alloc (.cells #[.int .i64 0] 3)).alloc (.cells #[.bool false] 4)).drew := Below.drew (Below.refl _ _)
  have hbzB : Below (w.heap.size + 4) ((((w.alloc (.cells #[.slice q l.length c] 24)).alloc (.cells #[.int .i64 at_] 3)).alloc (.cells #[.int .i64 0] 3)).alloc (.cells #[.bool false] 4)) (((((w.alloc (.cells #[.slice q l.length c] 24)).alloc (.cells #[.int .i64 at_] 3)).alloc (.cells #[.int .i64 0] 3)).alloc (.cells #[.bool false] 4)).alloc (.cells #[.slice none 0 0, .slice none 0 0, .int .i64 0, .nilFunc, .nilFunc] 110)).drew := ((Below.refl _ _).alloc (by omega) _).drew
  have hszB : (((((w.alloc (.cells #[.slice q l.length c] 24)).alloc (.cells #[.int .i64 at_] 3)).alloc (.cells #[.int .i64 0] 3)).alloc (.cells #[.bool false] 4)).alloc (.cells #[.slice none 0 0, .slice none 0 0, .int .i64 0, .nilFunc, .nilFunc] 110)).drew.heap.size = w.heap.size + 5 := by show (((((w.alloc (.cells #[.slice q l.length c] 24)).alloc (.cells #[.int .i64 at_] 3)).alloc (.cells #[.int .i64 0] 3)).alloc (.cells #[.bool false] 4)).alloc (.cells #[.slice none 0 0, .slice none 0 0, .int .i64 0, .nilFunc, .nilFunc] 110)).heap.size = _; simp
  have hnB : (((((w.alloc (.cells #[.slice q l.length c] 24)).alloc (.cells #[.int .i64 at_] 3)).alloc (.cells #[.int .i64 0] 3)).alloc (.cells #[.bool false] 4)).alloc (.cells #[.slice none 0 0, .slice none 0 0, .int .i64 0, .nilFunc, .nilFunc] 110)).drew.heap[w.heap.size + 4]? = some (.cells #[.slice none 0 0, .slice none 0 0, .int .i64 0, .nilFunc, .nilFunc] 110 (0, 0)) := by have h := heap_alloc_new ((((w.alloc (.cells #[.slice q l.length c] 24)).alloc (.cells #[.int .i64 at_] 3)).alloc (.cells #[.int .i64 0] 3)).alloc (.cells #[.bool false] 4)) (.cells #[.slice none 0 0, .slice none 0 0, .int .i64 0, .nilFunc, .nilFunc] 110); rw [e4] at h; exact h
  have hRB : RdF (fun k => k < w.heap.size) (((((w.alloc (.cells #[.slice q l.length c] 24)).alloc (.cells #[.int .i64 at_] 3)).alloc (.cells #[.int .i64 0] 3)).alloc (.cells #[.bool false] 4)).alloc (.cells #[.slice none 0 0, .slice none 0 0, .int .i64 0, .nilFunc, .nilFunc] 110)).drew l (.agg #[.slice q l.length c]) := RdF.kept hR (fun k hk => (hbzB.block k (by have := hok k hk; omega)).trans (hb4.block k (hok k hk))) (fun k hk => hok k hk)
  have HCA := hid (Floors_any l q c ((((w.alloc (.cells #[.slice q l.length c] 24)).alloc (.cells #[.int .i64 at_] 3)).alloc (.cells #[.int .i64 0] 3)).alloc (.cells #[.bool false] 4)).drew _ (fun k hk => by omega) hRW)
  have HCB := hid (Floors_any l q c (((((w.alloc (.cells #[.slice q l.length c] 24)).alloc (.cells #[.int .i64 at_] 3)).alloc (.cells #[.int .i64 0] 3)).alloc (.cells #[.bool false] 4)).alloc (.cells #[.slice none 0 0, .slice none 0 0, .int .i64 0, .nilFunc, .nilFunc] 110)).drew _ (fun k hk => by omega) hRB)
  rw [hsz] at HCA
  rw [hszB] at HCB
  have HNB := hid hnB
  clear hnB hRB
  have HLA : Hid ((flA l).length = l.length) := by show _ = _; unfold flA; rw [List.length_map]
  obtain ⟨e0, he0⟩ : ∃ e, l[i]? = some e := ⟨_, List.getElem?_eq_getElem hi⟩
  obtain ⟨pp, it⟩ := e0
  obtain ⟨T, m, hwT, hTl⟩ := hw pp it he0
  have hLs := lsLabel (bn := w.heap.size + 1 + 1) (bk := w.heap.size + 1 + 1 + 1) (ba := w.heap.size + 1) (b0 := w.heap.size + 4) (at_ := at_) (by omega) (by omega) (by omega) (by omega) (by omega) (by omega)
  have HIt := hid (fun (W : World) (g fc : Nat) (hb : Below (w.heap.size + 4) ((((w.alloc (.cells #[.slice q l.length c] 24)).alloc (.cells #[.int .i64 at_] 3)).alloc (.cells #[.int .i64 0] 3)).alloc (.cells #[.bool false] 4)).drew W) (hS : SlAt (fun k => w.heap.size + 4 ≤ k ∧ k < W.heap.size) W 1 inC (flA l) (some ⟨g, 0, none⟩)) => by
    have hGW : GL (w.heap.size + 1 + 1) (w.heap.size + 1 + 1 + 1) (w.heap.size + 1) at_ (w.heap.size + 4) W [] (some (w.heap.size + 1 + 1 + 1)) := GL.kept (by omega) (by omega) (by omega) hG (by have := hb.size; rw [hsz] at this; omega) (fun k hk => hb.block k hk) rfl
    have hbs := hb.size
    rw [hsz] at hbs
    have hWk : WkF (w.heap.size + 1 + 1) l (flA l) q c (some ⟨g, 0, none⟩) (some (w.heap.size + 1 + 1 + 1)) W := ⟨RdF.kept hRW (fun k hk => hb.block k (by omega)) (fun k hk => ⟨Nat.zero_le _, by omega, by omega, fun e => by injection e with e; omega⟩), hS.wide (fun k hk => ⟨Nat.zero_le _, hk.2, by omega, fun e => by injection e with e; omega⟩), by unfold flA; rw [List.length_map]⟩
    exact fl_item_any (n := 0) (bk := 0) (fc := fc) hP hLs hWk hGW i hi pp it he0 m T.length hwT (by simp only [noF, List.filter_nil, List.length_nil]; omega))
  have HB := hid hb4
  clear hR hok hb1 hb2 hb3 hb4 hbd hRW hw hwT he0 hG a1 a2 a3 e1 e2 e3 e4 hLs
  go_enter Tryz.func28, Tryz.ntmps28
  go_wp2
  generalize ((((w.alloc (.cells #[.slice q l.length c] 24)).alloc (.cells #[.int .i64 at_] 3)).alloc (.cells #[.int .i64 0] 3)).alloc (.cells #[.bool false] 4)) = W at *
  have y0a := cell_alloc y0
  go_cut [11] from 13 (fun s11 wx => RelLb l q c w.heap.size W s11 wx)
  case first =>
    go_region_with (first
      | (go_at_call 24; (with_reducible refine Calls.mono HCA.out ?_); rintro e w2 ⟨g, fc, rfl, hS2, hb2⟩; have v0 := (World.cell?_of_block (a := ⟨w.heap.size, 0, none⟩) (hb2.block w.heap.size (by omega))).trans y0; have v0a := cell_alloc v0)
      | (go_at_call 24; (with_reducible refine Calls.mono HCB.out ?_); rintro e w2 ⟨g, fc, rfl, hS2, hb2⟩; have v0 := (World.cell?_of_block (a := ⟨w.heap.size, 0, none⟩) ((hb2.block w.heap.size (by omega)).trans (hbzB.block w.heap.size (by omega)))).trans y0; have hn2 := (hb2.block (w.heap.size + 4) (by omega)).trans HNB.out; have u0 := (five_at hn2).1; have u1 := (five_at hn2).2.1; have u2 := (five_at hn2).2.2.1; have u3 := (five_at hn2).2.2.2.1; have u4 := (five_at hn2).2.2.2.2; have uf := frz_of hn2))
    all_goals (go_wp2_with fail; go_meet)
    all_goals (first
      | (exact relB hbzB hb2 hS2 hn2)
      | (exact relA hbzA hb2 hS2 (by have := hb2.size; omega)))
  case rest =>
  obtain ⟨g, fc, wb, rfl, hwb, hbT, hS5⟩ := hcut
  have hI := hid (HIt.out wc g fc ((Below.mk rfl rfl rfl (Nat.le_refl _) (fun _ _ => rfl) : Below (w.heap.size + 4) W.drew W).trans hbT) hS5)
  rw [List.nil_append, HLA.out] at hI
  obtain ⟨x0, x1, x2, x3, x4⟩ := five_at hwb
  clear y0 y0a hS5 hwb
  go_wp2_with (first
    | (go_at_call 61; refine Calls.mono hI.out ?_; rintro e w3 ⟨rfl, D3, hG3, hS3⟩; have z2 : w3.cell? ⟨w.heap.size + 1 + 1, 0, none⟩ = some _ := cell_of_row _ _ 0 _ _ _ hG3.n; have z3 : w3.cell? ⟨w.heap.size + 1 + 1 + 1, 0, none⟩ = some _ := cell_of_row _ _ 0 _ _ _ hG3.o))
  go_quiet (fail)
  go_wp2
  exact bodyPost_ret (v := .tuple #[.int .i64 ((labR (fvJ l (flA l) i) at_).1 : Int), .bool (labR (fvJ l (flA l) i) at_).2]) (by simp [results, Tryz.results28, go_sem]) rfl ⟨rfl, below_drewN ((HB.out.trans (hbT.mono (by omega))).trans ⟨hS3.os, hS3.tape, hS3.output, hS3.size, fun k hk => hS3.block k (by have := hbT.size; have hszW : W.heap.size = w.heap.size + 4 := hsz; omega) (by omega) (fun e => by injection e with e; omega)⟩) _⟩
end Go.Proofs.YtgifjkljpbbegaaGreatDoor
namespace Go.Proofs.YtgifjkljpbbegaaGreatDoor
open Go.RowKit
set_option linter.unusedVariables false
attribute [local go_sem ↓] Go.wp_at_zero Go.wp_at_succ
theorem tgX_mk (k : Nat) (x : ByteArray) (a lb : Nat) (o : Bool) (e : Tr) (th el : List Tr) (f t : Nat) : tgX (stMk k x a lb o e th el f t) = (lb != 0 || th.any tgX || el.any tgX) := by
  rw [tgX_eq, stL_mk, stTh_mk, stEl_mk]
theorem cell_onT {w w' : World} (hb : Below w.heap.size w w') {a : Addr} {u : Value} (h : w.cell? a = some u) : w'.cell? a = some u := (hb.cell (World.block_lt_of_cell? w a h)).trans h
def RelTg (al : List Tr) (W : World) (i : Value) (wr : World) : Prop := ∃ k : Nat, k ≤ al.length ∧ i = .int .i64 (k : Int) ∧ (∀ (j : Nat) (a : Tr), j < k → al[j]? = some a → tgX a = false) ∧ Below W.heap.size W wr
theorem any_hit {al : List Tr} {k : Nat} {a : Tr} (h : al[k]? = some a) (hx : tgX a = true) : al.any tgX = true := List.any_eq_true.2 ⟨a, List.mem_of_getElem? h, hx⟩
theorem any_miss {al : List Tr} (h : ∀ (j : Nat) (a : Tr), j < al.length → al[j]? = some a → tgX a = false) : al.any tgX = false := by
  rw [List.any_eq_false]
  intro a ha
  obtain ⟨j, hj⟩ := List.mem_iff_getElem?.1 ha
  rw [h j a (List.getElem?_eq_some_iff.1 hj).1 hj]
  exact Bool.false_ne_true
set_option maxHeartbeats 4000000 in
set_option maxRecDepth 100000 in
theorem tags6_any (n : Nat) : ∀ (al : List Tr) (q : Option Addr) (c : Nat) (w : World) (ok : Nat → Prop), (∀ k, ok k → k < w.heap.size) → SlT ok (RdS n ok w) w 15 al q →
    Calls Tryz.prog 35 #[.slice q al.length c] w fun e w' => e = .returned (.bool (al.any tgX)) ∧ Below w.heap.size w w' := by
  induction n with
  | zero =>
    intro al q c w ok hok hR
    obtain ⟨hlen, hits⟩ := hR
    cases al with
    | nil =>
      go_enter Tryz.func35, Tryz.ntmps35
      go_wp2
      go_loopw [7] (fun i wr => i = .int .i64 0 ∧ wr = w) (fun i _ => 0)
      case atStart => exact ⟨rfl, rfl⟩
      case round =>
        obtain ⟨rfl, rfl⟩ := hrel
        go_wp2
        go_ret
        exact ⟨rfl, Below.refl _ _⟩
    | cons a r =>
      obtain ⟨g, _, _, hLA⟩ := hits (by simp)
      obtain ⟨v, _, hf⟩ := hLA 0 a rfl
      exact hf.elim
  | succ n ih =>
    intro al q c w ok hok hR
    obtain ⟨hlen, hits⟩ := hR
    generalize hr : al.any tgX = r
    have HR := hid hr
    clear hr
    go_enter Tryz.func35, Tryz.ntmps35
    go_wp2
    go_loopw [7] (fun i wr => RelTg al w i wr) (fun i _ => upN al.length i)
    case atStart => exact ⟨0, Nat.zero_le _, rfl, fun j a h => by omega, Below.refl _ _⟩
    case round =>
      obtain ⟨j, hjl, rfl, hno, hbr⟩ := hrel
      by_cases hlt : j < al.length
      · obtain ⟨g, rfl, hgo, hLA⟩ := hits (by omega)
        obtain ⟨ea, he1⟩ : ∃ e1, al[j]? = some e1 := ⟨_, List.getElem?_eq_getElem hlt⟩
        obtain ⟨v1, hcv, hR1⟩ := hLA j ea he1
        have hcv := hcv.kept (hbr.block g (hok g hgo))
        obtain ⟨k, x, a, lb, o, e, th, el, f, t, d0, d1, d2, d3, d4, d5, p1, c1, p2, c2, rfl, rfl, ⟨m, hE⟩, hT, hX⟩ := hR1
        obtain ⟨ek, ex, en, eal, ef, et, ep, ec, rfl, hv⟩ := RdE.form hE
        injection hv with hv
        have hv : [d0, d1, d2, d3, d4, d5] = [.int .i64 (ek : Int), .string ex, .int .i64 (en : Int), .slice ep eal.length ec, .int .i64 (ef : Int), .int .i64 (et : Int)] := by simpa using congrArg Array.toList hv
        simp only [List.cons.injEq, and_true] at hv
        obtain ⟨rfl, rfl, rfl, rfl, rfl, rfl⟩ := hv
        have i0 := hcv.get 0 _ rfl
        have i1 := hcv.get 1 _ rfl
        have i2 := hcv.get 2 _ rfl
        have i3 := hcv.get 3 _ rfl
        have i4 := hcv.get 4 _ rfl
        have i5 := hcv.get 5 _ rfl
        have i6 := hcv.get 6 _ rfl
        have i7 := hcv.get 7 _ rfl
        have i8 := hcv.get 8 _ rfl
        have i9 := hcv.get 9 _ rfl
        have i10 := hcv.get 10 _ rfl
        have i11 := hcv.get 11 _ rfl
        have i12 := hcv.get 12 _ rfl
        have i13 := hcv.get 13 _ rfl
        have i14 := hcv.get 14 _ rfl
        rw [Nat.add_zero] at i0
        have gk : (0 : Int) ≤ (j : Int) := by omega
        have gk1 : (j : Int) < (al.length : Int) := by omega
        have hkb : j < 1099511627776 := by omega
        have hba := (Below.refl wr.heap.size wr).alloc (Nat.le_refl _) (.cells #[.int .i64 (k : Int), .string x, .int .i64 (a : Int), .int .i64 (lb : Int), .bool o, .int .i64 (ek : Int), .string ex, .int .i64 (en : Int), .slice ep eal.length ec, .int .i64 (ef : Int), .int .i64 (et : Int), .slice p1 th.length c1, .slice p2 el.length c2, .int .i64 (f : Int), .int .i64 (t : Int)] 118)
        have hbra := hbr.trans (hba.mono hbr.size)
        obtain ⟨s0, s1, s2, s3, s4, s5, s6, s7, s8, s9, s10, s11, s12, s13, s14, _⟩ := fif_at (heap_alloc_new wr (.cells #[.int .i64 (k : Int), .string x, .int .i64 (a : Int), .int .i64 (lb : Int), .bool o, .int .i64 (ek : Int), .string ex, .int .i64 (en : Int), .slice ep eal.length ec, .int .i64 (ef : Int), .int .i64 (et : Int), .slice p1 th.length c1, .slice p2 el.length c2, .int .i64 (f : Int), .int .i64 (t : Int)] 118))
        have HC1 := hid (ih th p1 c1 (wr.alloc (.cells #[.int .i64 (k : Int), .string x, .int .i64 (a : Int), .int .i64 (lb : Int), .bool o, .int .i64 (ek : Int), .string ex, .int .i64 (en : Int), .slice ep eal.length ec, .int .i64 (ef : Int), .int .i64 (et : Int), .slice p1 th.length c1, .slice p2 el.length c2, .int .i64 (f : Int), .int .i64 (t : Int)] 118)) ok (fun k hk => Nat.lt_of_lt_of_le (hok k hk) hbra.size) (hT.kept (fun k hk => hbra.block k (hok k hk)) (fun _ h => h) (RdS.kept n (fun k hk => hbra.block k (hok k hk)) (fun _ h => h))))
        have HC2 := hid (fun (W : World) (hb : Below w.heap.size w W) => ih el p2 c2 W ok (fun k hk => Nat.lt_of_lt_of_le (hok k hk) hb.size) (hX.kept (fun k hk => hb.block k (hok k hk)) (fun _ h => h) (RdS.kept n (fun k hk => hb.block k (hok k hk)) (fun _ h => h))))
        have hmk := tgX_mk k x a lb o (exMk ek ex en eal ef et) th el f t
        have HL := hid hlt
        have HE := hid he1
        have HNO := hid hno
        have HBA := hid hbra
        have HS12 := hid s12
        generalize hth : th.any tgX = bt at *
        generalize hel : el.any tgX = be at *
        generalize htg : tgX (stMk k x a lb o (exMk ek ex en eal ef et) th el f t) = tb at *
        have HTB := hid htg
        have F1 : Hid (1 = 1) := rfl
        clear hits hLA hcv he1 hlt hjl hba hbra hno hT hX hE hbr htg hth hel
        by_cases hlb : lb = 0
        · have glb : ((lb : Int) != 0) = false := by rw [hlb]; rfl
          have hmk : tb = (bt || be) := by rw [hmk, hlb]; simp
          clear hlb
          cases bt with
          | true =>
            have hrt : r = true := by rw [← HR.out]; exact any_hit HE.out (by rw [HTB.out, hmk]; rfl)
            subst hrt
            clear hmk
            go_wp2_with (first
              | (go_at_call 35; refine Calls.mono HC1.out ?_; rintro e w3 ⟨rfl, hb3⟩))
            go_ret
            exact ⟨rfl, HBA.out.trans (hb3.mono HBA.out.size)⟩
          | false =>
            cases be with
            | true =>
              have hrt : r = true := by rw [← HR.out]; exact any_hit HE.out (by rw [HTB.out, hmk]; rfl)
              subst hrt
              clear hmk
              go_wp2_with (first
                | (go_at_call 35; have ff := F1; clear ff F1; refine Calls.mono HC1.out ?_; rintro e w3 ⟨rfl, hb3⟩; have u12 := cell_onT hb3 HS12.out; have hB3 := HBA.out.trans (hb3.mono HBA.out.size); have HC3 := hid (HC2.out w3 hB3))
                | (go_at_call 35; refine Calls.mono HC3.out ?_; rintro e w4 ⟨rfl, hb4⟩))
              go_ret
              exact ⟨rfl, hB3.trans (hb4.mono hB3.size)⟩
            | false =>
              have HMK := hid hmk
              clear hmk
              go_wp2_with (first
                | (go_at_call 35; have ff := F1; clear ff F1; refine Calls.mono HC1.out ?_; rintro e w3 ⟨rfl, hb3⟩; have u12 := cell_onT hb3 HS12.out; have hB3 := HBA.out.trans (hb3.mono HBA.out.size); have HC3 := hid (HC2.out w3 hB3))
                | (go_at_call 35; refine Calls.mono HC3.out ?_; rintro e w4 ⟨rfl, hb4⟩))
              go_roundw
              case rel =>
                refine ⟨j + 1, HL.out, by go_num, fun i b hi hib => ?_, hB3.trans (hb4.mono hB3.size)⟩
                rcases Nat.lt_or_ge i j with h | h
                · exact HNO.out i b h hib
                · obtain rfl : i = j := by omega
                  rw [HE.out] at hib
                  injection hib with hib
                  rw [← hib, HTB.out, HMK.out]
                  rfl
              case measure => have := HL.out; simp [upN, intOf]; omega
        · have glb : ((lb : Int) != 0) = true := by simp; omega
          have hrt : r = true := by rw [← HR.out]; exact any_hit HE.out (by rw [HTB.out, hmk]; simp [hlb])
          subst hrt
          clear hmk hlb
          go_wp2
          go_ret
          exact ⟨rfl, HBA.out⟩
      · obtain rfl : j = al.length := by omega
        have hrt : r = false := by rw [← HR.out]; exact any_miss hno
        subst hrt
        clear hlt hjl hno
        go_wp2
        go_ret
        exact ⟨rfl, hbr⟩
end Go.Proofs.YtgifjkljpbbegaaGreatDoor

/- Texts of this seat, one behind the other: FilAg, LawLaid, FilAgain, FilFile. -/
import Derived.Test.YtfioihehhlpgcaaGreatDoorZb05
import Derived.Test.YtfioihehhlpgcaaGreatDoorZb07
import Derived.Deep.RegionHeld3
import Derived.Test.YtfioihehhlpgcaaGreatDoorRows
import Derived.ProofKit
import Derived.LaidMore
import Derived.OpenShut
import Derived.Stop.Joined
import Derived.Stop.LaidErr
import Derived.Test.YtfioihehhlpgcaaGreatDoorZb03
import Derived.Test.YtfioihehhlpgcaaGreatDoorZb11
namespace Go.Proofs.YtfioihehhlpgcaaGreatDoor
open Go.RowKit Go.WideMaps Go.Maps
theorem Tryz.infoIt : (Tryz.prog.info? 36).map (fun i => (i.zero, i.size, i.bytes)) = some (some (.agg #[.int .i64 0, .string ⟨#[]⟩, .int .i64 0, .slice none 0 0, .slice none 0 0, .slice none 0 0, .int .i64 0, .int .i64 0, .int .i64 0, .slice none 0 0]), 10, 152) := by kernel_rfl
theorem zeroI (w : World) : (zeroValue 3).run Tryz.prog w = .ok (.int .i64 0) w := by kernel_rfl
/-- Where strconv's variable lies. -/
def VarAt (w : World) : Prop := 2 < w.heap.size ∧ VarOk w
theorem VarAt.below {w w' : World} (h : VarAt w) (hb : Below w.heap.size w w') : VarAt w' := ⟨Nat.lt_of_lt_of_le h.1 hb.size, h.2.kept (hb.block _ h.1)⟩
theorem VarAt.stp {gp : Nat} {w w' : World} (h : VarAt w) (hs : Stp gp none none w w') (hg : 2 ≠ gp) : VarAt w' := ⟨Nat.lt_of_lt_of_le h.1 hs.size, h.2.kept (hs.block _ h.1 hg (by simp))⟩
/-- What Item is to answer. -/
def CItem : Prop := ∀ (s : ByteArray) (at_ : Int) (w : World), s.size ≤ 1048576 → VarAt w →
  Calls Tryz.prog 57 #[.string s, .int .i64 at_] w fun e w' => ∃ v, e = .returned v ∧ RdI (fun k => w.heap.size ≤ k ∧ k < w'.heap.size) w' at_ (itm s) v ∧ Below w.heap.size w w'
/-- What Own is to answer. -/
def COwn : Prop := ∀ (it : It) (at_ : Int) (v : Value) (w : World) (ok : Nat → Prop), (∀ k, ok k → k < w.heap.size) → smL it.bd → RdI ok w at_ it v →
  Calls Tryz.prog 46 #[v] w fun e w' => ∃ v', e = .returned v' ∧ RdI (fun k => w.heap.size ≤ k ∧ k < w'.heap.size) w' at_ it v' ∧ Below w.heap.size w w'
def rdIt : (Nat → Prop) → World → (Int × It) → Value → Prop := fun ok w e v => RdI ok w e.1 e.2 v
theorem kept_It : Kept rdIt := fun _ _ _ _ h1 h2 _ _ h => RdI.kept h h1 h2
/-- Items are made: their list in block oB. -/
structure Ag (oB : Nat) (W0 wr : World) (l : List (Int × It)) (v : Value) : Prop where
  blk : wr.heap[oB]? = some (.cells #[v] 25 (0, 0))
  row : Row rdIt 36 10 (oB + 1) oB none wr v l
  stp : Stp oB none none W0 wr
  siz : W0.heap.size = oB + 1
theorem take_len' (t : ByteArray) (k : Nat) (h : k ≤ (cts t).length) : ((fil t).take k).length = k := by rw [List.length_take, fil_len]; omega
theorem take_snoc (t : ByteArray) (k : Nat) (h : k < (cts t).length) : (fil t).take (k + 1) = (fil t).take k ++ [((cn t k : Int), itI t k)] := by
  rw [List.take_add_one, fil_get t k h]; rfl
theorem Stp.cell0 {gp : Nat} {w : World} (u : Value) : Stp gp none none w (w.setCell ⟨gp, 0, none⟩ u) := ⟨rfl, rfl, rfl, by simp, fun k _ hk _ => Below.heap_setCell w _ _ k hk, .inl rfl⟩
theorem Ag.start {wt : World} : Ag wt.heap.size (wt.alloc (.cells #[.slice none 0 0] 25)) (wt.alloc (.cells #[.slice none 0 0] 25)) [] (.slice none 0 0) :=
  ⟨heap_alloc_new wt _, Row.nil (Nat.lt_succ_self _), Stp.refl _ _ _, by simp⟩
theorem Ag.lt {oB : Nat} {W0 wr : World} {l : List (Int × It)} {v : Value} (h : Ag oB W0 wr l v) : oB < wr.heap.size := (Array.getElem?_eq_some_iff.1 h.blk).1
theorem Ag.next {oB : Nat} {W0 wr : World} {l : List (Int × It)} {v : Value} (h : Ag oB W0 wr l v) {w5 wa w6 : World} {g cap : Nat} {c xs : List Value} {e : Int × It} (hb5 : Below wr.heap.size wr w5) (hba : Below w5.heap.size w5 wa)
    (hI : RdI (fun j => wr.heap.size ≤ j ∧ j < w5.heap.size) w5 e.1 e.2 (.agg c.toArray)) (hc : c.length = 10)
    (hown0 : wa.ownsRow (oB + 1) 36 10 v l.length xs) (hown6 : w6.ownsRow (oB + 1) 36 10 (.slice (some ⟨g, 0, none⟩) (l.length + 1) cap) (l.length + 1) (xs ++ c)) (hgrow6 : wa.grownBy w6 v.ownBlock) (hat6 : v.ownBlock = some g ∨ g = wa.heap.size) :
    Ag oB W0 (w6.setCell ⟨oB, 0, none⟩ (.slice (some ⟨g, 0, none⟩) (l.length + 1) cap)) (l ++ [e]) (.slice (some ⟨g, 0, none⟩) (l.length + 1) cap) := by
  have hba' := hb5.trans (hba.mono hb5.size)
  have hoB := h.lt
  have hvlt := fun g e => h.row.lt (g := g) e
  have hrow := (h.row.below kept_It hb5).below kept_It hba
  have hsn := Row.snoc (W := wr.heap.size) (a := e) kept_It hrow hc
    (RdI.kept hI (fun j hj => hba.block j hj.2) (fun j hj => ⟨⟨hj.1, Nat.lt_of_lt_of_le hj.2 hba.size, by have := hj.1; omega, by simp⟩, fun e => by have := (hvlt j e.symm).2; have := hj.1; omega⟩))
    hoB hown0 hown6 hgrow6 hat6 (fun k e => by cases e)
  have hne : some oB ≠ v.ownBlock := fun e => by have := (hvlt oB e.symm).1; omega
  refine ⟨?_, hsn.step kept_It (Stp.cell0 _), (((h.stp.trans (Stp.below hb5)).trans (Stp.below hba)).grown hgrow6 (fun j e => by have := (hvlt j e).1; have := h.siz; omega)).trans (Stp.cell0 _), h.siz⟩
  have hb6 := ((hgrow6.block oB (Nat.lt_of_lt_of_le hoB hba'.size) hne).trans (hba'.block oB hoB)).trans h.blk
  simp [World.setCell, Array.getElem?_modify, hb6]
end Go.Proofs.YtfioihehhlpgcaaGreatDoor
namespace Go.Proofs.YtfioihehhlpgcaaGreatDoor
open Go.ChangeShapes Go.WideShapes Go.ChangeAt Go.RowKit
theorem own : ownKnob Tryz.prog.godebug = none := by kernel_rfl
/-- The listed variables. -/
def laid5 {H : Type} : List (String × DataW H) := [("math/bits.deBruijn32tab", Rows.laid_math_bits_deBruijn32tab), ("math/bits.deBruijn64tab", Rows.laid_math_bits_deBruijn64tab), ("internal/strconv.uint64pow10", Rows.laid_internal_strconv_uint64pow10), ("strconv.ErrRange", Rows.laid_strconv_ErrRange), ("strconv.ErrSyntax", Rows.laid_strconv_ErrSyntax)]
theorem gER : Tryz.prog.globalNamed "strconv.ErrRange" = some 2 := by kernel_rfl
theorem gERt : (Tryz.prog.globals[2]?).map (·.type) = some 251 := by kernel_rfl
theorem cellsES : Tryz.prog.cellsOf 271 = 1 := by kernel_rfl
theorem cellsS : Tryz.prog.cellsOf 9 = 1 := by kernel_rfl
theorem starES : "*" ++ "errors.errorString" = "*errors.errorString" := by decide
theorem rowES (u : TypeId) (h : Tryz.prog.typeName? 3 u = some "*errors.errorString") : u = 269 :=
  typeName_ptr_named (nm := "errors.errorString") (by rw [starES]; kernel_rfl) (by kernel_rfl) (by decide) u (by rw [starES]; exact h)
/-- What the condition gives the walks. -/
theorem var_of_laid {W : World} (h : laidMetH Tryz.prog laid5 W) : VarAt W := by
  rw [MakeChecks.laidMetH_plain _ _ _ (by kernel_rfl)] at h
  have h4 : laidMet Tryz.prog [("strconv.ErrRange", Rows.laid_strconv_ErrRange), ("strconv.ErrSyntax", Rows.laid_strconv_ErrSyntax)] W := h.tail.tail.tail
  obtain ⟨a, s, hv, _, _, _⟩ := laid_sentinel h4 gER gERt Tryz.underlying251 rowES Tryz.underlying269 Tryz.underlying271 rfl rfl Tryz.underlying9 cellsES cellsS
  have hc : W.cell? ⟨2, 0, none⟩ = some (.iface 269 (.pointer (some a))) := by
    have h0 := World.var?_cell gER hv 0
    simpa using h0
  exact ⟨World.block_lt_of_cell? W _ hc, _, hc, .inr ⟨_, _, rfl⟩⟩
set_option maxRecDepth 100000 in
/-- The door's own heap meets the condition. -/
theorem door_met (os : Os) (args : Array Value) : laidMetH Tryz.prog laid5 ((World.doorLaid Tryz.prog 400 os).forCall (fun _ _ => 0) ⟨#[], args, []⟩).memory :=
  laidMetH_of_parts3 (fuel := 8) (laidMet_of_run' 8 (by kernel_rfl) (by kernel_rfl)) (by kernel_rfl) (by kernel_rfl)
end Go.Proofs.YtfioihehhlpgcaaGreatDoor
namespace Go.Proofs.YtfioihehhlpgcaaGreatDoor
open Go.RowKit Go.WideMaps Go.Maps
attribute [local go_sem ↓] Go.wp_at_zero Go.wp_at_succ
attribute [local go_sem ↓] app_hide app_hide3
def RelAg (s t : ByteArray) (oB : Nat) (W0 : World) (fr i : Value) (wr : World) : Prop :=
  ∃ k v, k ≤ (cts t).length ∧ i = .int .i64 (k : Int) ∧ fr = .int .i64 (nwN s t k : Int) ∧ Ag oB W0 wr ((fil t).take k) v
theorem KnAt.kept {w w' : World} {b : Nat} {s : ByteArray} {k : Nat} (h : KnAt w b s k) (hg : w'.heap[b]? = w.heap[b]?) : KnAt w' b s k := by
  obtain ⟨es, clock, h1, h2⟩ := h
  exact ⟨es, clock, hg.trans h1, h2⟩
theorem Ag.done {oB : Nat} {W0 wr : World} {l : List (Int × It)} {v : Value} (h : Ag oB W0 wr l v) (hl : l.length ≤ 1099511627776) : RdF (fun k => oB + 1 ≤ k ∧ k < wr.heap.size) wr l (.agg #[v]) := by
  obtain ⟨p, cap, rfl, h1⟩ := h.row.done kept_It
  refine ⟨p, cap, rfl, hl, fun h0 => ?_⟩
  obtain ⟨g, e1, e2, e3⟩ := h1 h0
  refine ⟨g, e1, ⟨e2.1, e2.2.1⟩, fun j e hj => ?_⟩
  obtain ⟨c, _, h3, h4⟩ := e3 j e hj
  exact ⟨_, h3, RdI.kept h4 (fun _ _ => rfl) (fun k hk => ⟨hk.1, hk.2.1⟩)⟩
/-- Behind a call that reads an item: what the list's row and its place are. -/
theorem ag_call {oB : Nat} {W0 wr w5 : World} {l : List (Int × It)} {q : Option Addr} {k cq : Nat} (h : Ag oB W0 wr l (.slice q k cq)) (hl : l.length = k) (cO : wr.cell? ⟨oB, 0, none⟩ = some (.slice q k cq)) (hb : Below wr.heap.size wr w5) (u0 u1 u2 u3 u4 u5 u6 u7 u8 u9 : Value)
    (e0 : u0.oneCell' = true) (e1 : u1.oneCell' = true) (e2 : u2.oneCell' = true) (e3 : u3.oneCell' = true) (e4 : u4.oneCell' = true) (e5 : u5.oneCell' = true) (e6 : u6.oneCell' = true) (e7 : u7.oneCell' = true) (e8 : u8.oneCell' = true) (e9 : u9.oneCell' = true) :
    Below wr.heap.size wr w5 ∧ w5.cell? ⟨oB, 0, none⟩ = some (.slice q k cq) ∧ (∀ o, (w5.alloc o).cell? ⟨oB, 0, none⟩ = some (.slice q k cq)) ∧ Below w5.heap.size w5 (w5.alloc (.cells #[u0, u1, u2, u3, u4, u5, u6, u7, u8, u9] 36)) ∧
      (∃ xs, (w5.alloc (.cells #[u0, u1, u2, u3, u4, u5, u6, u7, u8, u9] 36)).ownsRow (oB + 1) 36 10 (.slice q k cq) k xs) ∧
      (∀ j u, [u0, u1, u2, u3, u4, u5, u6, u7, u8, u9][j]? = some u → (w5.alloc (.cells #[u0, u1, u2, u3, u4, u5, u6, u7, u8, u9] 36)).cell? ((⟨w5.heap.size, 0, none⟩ : Addr).add j) = some u) ∧
      (∀ u ∈ [u0, u1, u2, u3, u4, u5, u6, u7, u8, u9], u.oneCell' = true) ∧ oB + 1 ≤ (w5.alloc (.cells #[u0, u1, u2, u3, u4, u5, u6, u7, u8, u9] 36)).heap.size := by
  have hlt := h.lt
  have c5 := (hb.cell (p := ⟨oB, 0, none⟩) hlt).trans cO
  have hbn : Below w5.heap.size w5 (w5.alloc (.cells #[u0, u1, u2, u3, u4, u5, u6, u7, u8, u9] 36)) := (Below.refl _ _).alloc (Nat.le_refl _) _
  obtain ⟨vs, ho, _⟩ := ((h.row.below kept_It hb).below kept_It hbn).own
  have hs := hb.size
  refine ⟨hb, c5, cell_alloc c5, hbn, ⟨_, by rw [hl] at ho; exact ho⟩, World.news_of_block (heap_alloc_new w5 _), ?_, by simp; omega⟩
  intro u hu
  simp at hu
  rcases hu with rfl | rfl | rfl | rfl | rfl | rfl | rfl | rfl | rfl | rfl <;> assumption
theorem ag_grown {oB : Nat} {W0 wr w5 wa w6 : World} {l : List (Int × It)} {v : Value} (h : Ag oB W0 wr l v) (hb : Below wr.heap.size wr w5) (hbn : Below w5.heap.size w5 wa) (hg : wa.grownBy w6 v.ownBlock) : w6.cell? ⟨oB, 0, none⟩ = some v ∧ ∀ o, w6.frozen? ⟨oB, o, none⟩ = false := by
  have hlt := h.lt
  have hba := hb.trans (hbn.mono hb.size)
  have hne : some oB ≠ v.ownBlock := fun e => by have := (h.row.lt e.symm).1; omega
  have e := ((hg.block oB (Nat.lt_of_lt_of_le hlt hba.size) hne).trans (hba.block oB hlt)).trans h.blk
  exact ⟨cell_of_row _ _ 0 _ _ _ e, fun o => by simp [World.frozen?, e]⟩
set_option maxHeartbeats 2000000 in
set_option maxRecDepth 100000 in
theorem again_ok (s t : ByteArray) (fv : Value) (w : World) (ok : Nat → Prop) (hok : ∀ k, ok k → k < w.heap.size) (hs : s.size ≤ 4000) (hf : RdF ok w (fil s) fv) (hV : VarAt w) (hI : CItem) (hO : 0 < (cts s).length → COwn) (hE : flE t = 0) :
    Calls Tryz.prog 31 #[fv, .string s, .string t] w fun e w' => ∃ v, e = .returned (.tuple #[v, .int .i64 (nwN s t (cts t).length : Int), .int .i64 0]) ∧ RdF (fun k => w.heap.size ≤ k ∧ k < w'.heap.size) w' (fil t) v ∧ Below w.heap.size w w' := by
  have hE0 : ((flE t : Nat) : Int) = 0 := by omega
  have hT := flE_ok hE
  obtain ⟨p, cap, hfv, _, hits⟩ := id hf
  subst hfv
  obtain ⟨i0, hi0, hz0, hz1, hz2⟩ := info_parts Tryz.infoIt
  have hb0 := ((Below.refl w.heap.size w).alloc (Nat.le_refl _) (.cells #[.slice p (fil s).length cap] 25)).alloc (by simp) (.cells #[.slice none 0 0] 25)
  have hF0 : ((w.alloc (.cells #[.slice p (fil s).length cap] 25)).alloc (.cells #[.slice none 0 0] 25)).heap[w.heap.size]? = some (.cells #[.slice p (fil s).length cap] 25 (0, 0)) := (Below.heap_alloc _ _ _ (by simp)).trans (heap_alloc_new w _)
  have hR0 : ((w.alloc (.cells #[.slice p (fil s).length cap] 25)).alloc (.cells #[.slice none 0 0] 25)).heap[w.heap.size + 1]? = some (.cells #[.slice none 0 0] 25 (0, 0)) := by have h := heap_alloc_new (w.alloc (.cells #[.slice p (fil s).length cap] 25)) (.cells #[.slice none 0 0] 25); simpa using h
  have hz00 : ((w.alloc (.cells #[.slice p (fil s).length cap] 25)).alloc (.cells #[.slice none 0 0] 25)).heap.size = w.heap.size + 2 := by simp
  go_enter Tryz.func31, Tryz.ntmps31
  go_wp2_with (first
    | (go_at_call 55; refine (cut_any t _).mono ?_; rintro e wc ⟨vc, rfl, hcut, hbc⟩; rw [hE0]; obtain ⟨gc, ccap, hvc, hcc, hgc1, hgc2, hcells⟩ := hcut hE; subst hvc; have hFc := (hbc.block w.heap.size (by simp; omega)).trans hF0; have cF := cell_of_row _ _ 0 _ _ _ hFc; simp only [List.getElem?_toArray, List.getElem?_cons_zero] at cF; have hbw := hb0.trans (hbc.mono hb0.size); have hfc := RdF.kept hf (fun k hk => hbw.block k (hok k hk)) (fun _ h => h))
    | (go_at_call 56; refine (texts_any s _ _ ok (fun k hk => Nat.lt_of_lt_of_le (hok k hk) hbw.size) hs hfc).mono ?_; rintro e wt ⟨rfl, hkn, hbt⟩))
  go_loopw [13, 38] (fun fr i wr => RelAg s t wt.heap.size (wt.alloc (.cells #[.slice none 0 0] 25)) fr i wr) (fun _ i _ => upN (cts t).length i)
  case atStart => exact ⟨0, _, Nat.zero_le _, rfl, rfl, Ag.start⟩
  case round =>
    obtain ⟨k, v, hk, rfl, rfl, hA⟩ := hrel
    have hW0 : Below wt.heap.size wt (wt.alloc (.cells #[.slice none 0 0] 25)) := (Below.refl _ _).alloc (Nat.le_refl _) _
    have hold : ∀ b, b < wt.heap.size → wr.heap[b]? = wt.heap[b]? := fun b hb => (hA.stp.block b (by simp; omega) (by omega) (by simp)).trans (hW0.block b hb)
    have hzc := hbc.size
    have hzt := hbt.size
    have hzA := hA.lt
    rw [hz00] at hzc hgc1
    by_cases hlt : k < (cts t).length
    · obtain ⟨q, cq, hvq, hq⟩ := hA.row.done kept_It
      have hlen := take_len' t k hk
      rw [hlen] at hvq
      subst hvq
      have hce : ∀ j, j ≤ (cts t).length → wr.cell? ⟨gc, j, none⟩ = some (.int .i64 (cn t j : Int)) := fun j hj => ((World.cell?_of_block (a := ⟨gc, j, none⟩) (hold gc (by omega))).trans (World.cell?_of_block (a := ⟨gc, j, none⟩) (hbt.block gc (by omega)))).trans (hcells j hj)
      have ck := hce k (by omega)
      have ck1 := hce (k + 1) (by omega)
      have hkn' : World.ownsMap wr Tryz.prog 9 (plainElem (H := Unit) Tryz.prog 3) (wc.heap.size + 1) (cts s).length (knD s (cts s).length) := KnAt.kept hkn (hold _ (by obtain ⟨es, cl, h1, _⟩ := hkn; exact (Array.getElem?_eq_some_iff.1 h1).1))
      have hFr := (hold w.heap.size (by omega)).trans ((hbt.block w.heap.size (by omega)).trans hFc)
      have cFr := cell_of_row _ _ 0 _ _ _ hFr
      simp only [List.getElem?_toArray, List.getElem?_cons_zero] at cFr
      have cO := cell_of_row _ _ 0 _ _ _ hA.blk
      simp only [List.getElem?_toArray, List.getElem?_cons_zero] at cO
      have fO : ∀ o, wr.frozen? ⟨wt.heap.size, o, none⟩ = false := fun o => by simp [World.frozen?, hA.blk]
      have hab := cn_lt t k hlt
      have hbs := cn_le t (k + 1)
      have hts := hT.1
      have hV5 : VarAt wr := ((((hV.below hb0).below hbc).below hbt).below hW0).stp hA.stp (by have := hV.1; omega)
      have hVd : ∀ W : World, W.heap = wr.heap → VarAt W := fun W e => ⟨by rw [e]; exact hV5.1, hV5.2.kept (by rw [e])⟩
      have gk : (0 : Int) ≤ (k : Int) := by omega
      have gk1 : (k : Int) < ((cts t).length : Int) := by omega
      have gw1 : IntKind.i64.wrap ((k : Int) + 1) = (k : Int) + 1 := wrap_id _ (by omega) (by omega)
      have gk2 : (k : Int) + 1 < ((cts t).length : Int) + 1 := by omega
      have hnl := nwN_le s t k
      have gw3 : IntKind.i64.wrap ((nwN s t k : Int) + 1) = (nwN s t k : Int) + 1 := wrap_id _ (by omega) (by omega)
      have HT : Hid ((fil t).take (k + 1) = (fil t).take k ++ [((cn t k : Int), itI t k)]) := take_snoc t k hlt
      have hmax : k + 1 ≤ maxLen := by unfold maxLen; omega
      have hby : (k + 1) * 152 ≤ 140737488355328 := by omega
      have hpred : ∀ x, knB s (cts s).length x = Maps.has (knD s (cts s).length) (kyB x) := fun x => rfl
      have hkey := keyS (txI t k) (by unfold txI; rw [ext_size' _ _ _ hbs]; unfold maxLen; omega)
      have h20 : (txI t k).size ≤ 1048576 := by unfold txI; rw [ext_size' _ _ _ hbs]; omega
      have hI5 : ∀ w', VarAt w' → Calls Tryz.prog 57 #[.string (txI t k), .int .i64 (cn t k : Int)] w' fun e w'' => ∃ v, e = .returned v ∧ RdI (fun j => w'.heap.size ≤ j ∧ j < w''.heap.size) w'' (cn t k : Int) (itI t k) v ∧ Below w'.heap.size w' w'' := fun w' hv => hI _ _ w' h20 hv
      have HN : Hid (nwN s t (k + 1) = nwN s t k + (if knB s (cts s).length (txI t k) then 0 else 1)) := rfl
      have HKA : Hid (∀ c, knB s (cts s).length (txI t k) = true → (knD s (cts s).length).atKey (kyB (txI t k)) (.lit (.int .i64 0)) = .lit (.int .i64 c) → ∃ i, i < (cts s).length ∧ c = (i : Int) ∧ itI s i = itI t k) := fun c h1 h2 => (let ⟨i, a1, a2, a3⟩ := knD_at s _ _ c h1 h2; ⟨i, a1, a3, itI_same a2⟩)
      have HSM : Hid (smL (itI t k).bd) := by show smL (itI t k).bd; rw [itI_tx]; exact itm_small _
      obtain ⟨x, hx⟩ : ∃ x, x = txI t k := ⟨_, rfl⟩
      have hxe : t.extract (cn t k) (cn t (k + 1)) = x := hx.symm
      rw [← hx] at hkey h20 hI5 HN HKA
      have HLN : Hid (((fil t).take k).length = k) := hlen
      have HX : Hid (x = txI t k) := hx
      clear hx hlen hce hcells hq hnl hlt hk
      generalize hca : cn t k = a at *
      generalize hcb : cn t (k + 1) = b at *
      generalize hit : itI t k = it at *
      generalize hDD : knD s (cts s).length = D at *
      generalize hnn : nwN s t k = nn at *
      generalize hll : (fil t).take k = l at *
      have ga : (0 : Int) ≤ (a : Int) := by omega
      have gab : (a : Int) ≤ (b : Int) := by omega
      have gbs : (b : Int) ≤ (t.size : Int) := by omega
      cases hh : knB s (cts s).length x
      · have hh2 : Maps.has D (kyB x) = false := by rw [← hpred]; exact hh
        rw [hh] at HN
        clear hh HKA hpred
        go_wp2_with (first
          | (at_lookup; refine wpList_lookup_own_ok_int _ rfl _ _ 108 rfl 9 3 .i64 kStr Tryz.underlying108 Tryz.underlying3 (zeroI _) (wc.heap.size + 1) (cts s).length _ rfl hkn' _ _ rfl hkey ?_; intro c hat hwc; rw [hh2]))
        go_region_with (first
            | (go_at_call 57; refine (hI5 _ (hVd _ (by rfl))).mono ?_; rintro e w5 ⟨v5, rfl, hR5, hb5q⟩; obtain ⟨p1, c1, p2, c2, p3, c3, p4, c4, hv5, _⟩ := id hR5; subst hv5; obtain ⟨hb5, cO5, cO6, hbn, ⟨xs, ho5⟩, hnew, hone, hbase⟩ := ag_call hA HLN.out cO ⟨hb5q.os, hb5q.tape, hb5q.output, hb5q.size, hb5q.block⟩ (.int .i64 (it.k : Int)) (.string it.x) (.int .i64 (it.l : Int)) (.slice p1 it.ps.length c1) (.slice p2 it.ss.length c2) (.slice p3 it.bd.length c3) (.int .i64 (a : Int)) (.int .i64 (it.sz : Int)) (.int .i64 (it.mrk : Int)) (.slice p4 it.ds.length c4) rfl rfl rfl rfl rfl rfl rfl rfl rfl rfl; obtain ⟨g6, cap6, w6, hrun, hown6, hgrow6, hat6, hlt6⟩ := run_append_lies (P := Tryz.prog) (w5.alloc (.cells #[.int .i64 (it.k : Int), .string it.x, .int .i64 (it.l : Int), .slice p1 it.ps.length c1, .slice p2 it.ss.length c2, .slice p3 it.bd.length c3, .int .i64 (a : Int), .int .i64 (it.sz : Int), .int .i64 (it.mrk : Int), .slice p4 it.ds.length c4] 36)) 23 23 (wt.heap.size + 1) 36 i0 _ 10 152 Tryz.underlying23 hi0 hz0 hz1 hz2 rfl (by decide) (.slice q k cq) k xs ho5 ⟨w5.heap.size, 0, none⟩ 1 1 [.int .i64 (it.k : Int), .string it.x, .int .i64 (it.l : Int), .slice p1 it.ps.length c1, .slice p2 it.ss.length c2, .slice p3 it.bd.length c3, .int .i64 (a : Int), .int .i64 (it.sz : Int), .int .i64 (it.mrk : Int), .slice p4 it.ds.length c4] rfl hnew hone (by decide) hmax hby hbase _ rfl; have hA6 : appR Tryz.prog #[23, 23] 23 #[.slice q k cq, .slice (some ⟨w5.heap.size, 0, none⟩) 1 1] (w5.alloc (.cells #[.int .i64 (it.k : Int), .string it.x, .int .i64 (it.l : Int), .slice p1 it.ps.length c1, .slice p2 it.ss.length c2, .slice p3 it.bd.length c3, .int .i64 (a : Int), .int .i64 (it.sz : Int), .int .i64 (it.mrk : Int), .slice p4 it.ds.length c4] 36)) = _ := hrun; obtain ⟨cO7, fO7⟩ := ag_grown hA hb5 hbn hgrow6; clear hrun hone hnew hbase))
        all_goals (go_wp2; go_roundw)
        all_goals (first
          | (simp [upN, intOf]; omega)
          | (refine ⟨k + 1, .slice (some ⟨g6, 0, none⟩) (k + 1) cap6, by omega, by go_num, by rw [HN.out]; simp, ?_⟩; rw [HT.out]; have hnx := hA.next (e := ((a : Int), it)) (c := [.int .i64 (it.k : Int), .string it.x, .int .i64 (it.l : Int), .slice p1 it.ps.length c1, .slice p2 it.ss.length c2, .slice p3 it.bd.length c3, .int .i64 (a : Int), .int .i64 (it.sz : Int), .int .i64 (it.mrk : Int), .slice p4 it.ds.length c4]) hb5 hbn hR5 rfl (by rw [HLN.out]; exact ho5) (by rw [HLN.out]; exact hown6) hgrow6 hat6; rw [HLN.out] at hnx; exact hnx))
      · have hh2 : Maps.has D (kyB x) = true := by rw [← hpred]; exact hh
        rw [hh] at HN
        have hi1 : 0 < (cts s).length := by obtain ⟨i1, h1, _⟩ := (knB_iff s _ x).1 hh; omega
        have hOwn := hO (by omega)
        obtain ⟨g, hpg, hg, hR⟩ := hits (by rw [fil_len]; omega)
        subst hpg
        have hkk : ∀ k, ok k → wr.heap[k]? = w.heap[k]? := fun k hk => (hold k (by have := hok k hk; have := hbw.size; omega)).trans ((hbt.block k (by have := hok k hk; have := hbw.size; omega)).trans (hbw.block k (hok k hk)))
        have hall : ∀ i, i < (cts s).length → ∃ v, CellsV wr g (i * 10) v ∧ RdI ok wr (cn s i : Int) (itI s i) v := fun i hi => RdIs.at hR (hkk g hg) hkk (fil_get s i hi)
        have hokr : ∀ k, ok k → k < wr.heap.size := fun k hk => Nat.lt_of_lt_of_le (hok k hk) (by omega)
        have HC : Hid (∀ c, (D.atKey (kyB x) (.lit (.int .i64 0)) : DataW Unit) = .lit (.int .i64 c) → ∃ i, i < (cts s).length ∧ c = (i : Int) ∧ itI s i = it) := fun c h => HKA.out c hh h
        have HAL : Hid (∀ i, i < (cts s).length → ∃ v, CellsV wr g (i * 10) v ∧ RdI ok wr (cn s i : Int) (itI s i) v) := hall
        have hfl : (fil s).length = (cts s).length := fil_len s
        have HOK : Hid (∀ k, ok k → k < wr.heap.size) := hokr
        have HOW : Hid COwn := hOwn
        clear hh HKA hpred hall hR hits hi1 hI5 hkk hokr hOwn hold
        have HFL : Hid ((fil s).length = (cts s).length) := hfl
        clear hfl
        go_wp2_with (first
          | (at_lookup; refine wpList_lookup_own_ok_int _ rfl _ _ 108 rfl 9 3 .i64 kStr Tryz.underlying108 Tryz.underlying3 (zeroI _) (wc.heap.size + 1) (cts s).length _ rfl hkn' _ _ rfl hkey ?_; intro c hat hwc; rw [hh2]; obtain ⟨i, hi, hci, hii⟩ := HC.out c hat; subst hci; obtain ⟨v, hcv, hRv⟩ := HAL.out i hi; rw [hii] at hRv; generalize cn s i = ai at hRv; obtain ⟨p1, c1, p2, c2, p3, c3, p4, c4, hv, _⟩ := id hRv; subst hv; have d0 := hcv.get 0 _ rfl; have d1 := hcv.get 1 _ rfl; have d2 := hcv.get 2 _ rfl; have d3 := hcv.get 3 _ rfl; have d4 := hcv.get 4 _ rfl; have d5 := hcv.get 5 _ rfl; have d6 := hcv.get 6 _ rfl; have d7 := hcv.get 7 _ rfl; have d8 := hcv.get 8 _ rfl; have d9 := hcv.get 9 _ rfl; rw [Nat.add_zero] at d0; have gi : (0 : Int) ≤ (i : Int) := (by omega); have gi2 : (i : Int) < ((fil s).length : Int) := (by rw [HFL.out]; omega); clear hcv)
          | (go_at_call 46; refine (HOW.out it (ai : Int) _ wr ok HOK.out HSM.out hRv).mono ?_; rintro e w5 ⟨v5, rfl, hR5, hb5⟩; obtain ⟨q1, b1, q2, b2, q3, b3, q4, b4, hv5, hx5⟩ := id hR5; subst hv5; have hR6 : RdI (fun j => wr.heap.size ≤ j ∧ j < w5.heap.size) w5 (a : Int) it (.agg #[.int .i64 (it.k : Int), .string it.x, .int .i64 (it.l : Int), .slice q1 it.ps.length b1, .slice q2 it.ss.length b2, .slice q3 it.bd.length b3, .int .i64 (a : Int), .int .i64 (it.sz : Int), .int .i64 (it.mrk : Int), .slice q4 it.ds.length b4]) := ⟨q1, b1, q2, b2, q3, b3, q4, b4, rfl, hx5⟩; have hb51 : Below wr.heap.size wr (w5.alloc (.cells #[.int .i64 (it.k : Int), .string it.x, .int .i64 (it.l : Int), .slice q1 it.ps.length b1, .slice q2 it.ss.length b2, .slice q3 it.bd.length b3, .int .i64 (a : Int), .int .i64 (it.sz : Int), .int .i64 (it.mrk : Int), .slice q4 it.ds.length b4] 36)) := hb5.alloc hb5.size _; have hz51 : (w5.alloc (.cells #[.int .i64 (it.k : Int), .string it.x, .int .i64 (it.l : Int), .slice q1 it.ps.length b1, .slice q2 it.ss.length b2, .slice q3 it.bd.length b3, .int .i64 (a : Int), .int .i64 (it.sz : Int), .int .i64 (it.mrk : Int), .slice q4 it.ds.length b4] 36)).heap.size = w5.heap.size + 1 := (by simp); obtain ⟨_, cO5, cO6, hbn, ⟨xs, ho5⟩, hnew, hone, hbase⟩ := ag_call hA HLN.out cO hb51 (.int .i64 (it.k : Int)) (.string it.x) (.int .i64 (it.l : Int)) (.slice q1 it.ps.length b1) (.slice q2 it.ss.length b2) (.slice q3 it.bd.length b3) (.int .i64 (a : Int)) (.int .i64 (it.sz : Int)) (.int .i64 (it.mrk : Int)) (.slice q4 it.ds.length b4) rfl rfl rfl rfl rfl rfl rfl rfl rfl rfl; rw [hz51] at hnew; have hba : Below w5.heap.size w5 ((w5.alloc (.cells #[.int .i64 (it.k : Int), .string it.x, .int .i64 (it.l : Int), .slice q1 it.ps.length b1, .slice q2 it.ss.length b2, .slice q3 it.bd.length b3, .int .i64 (a : Int), .int .i64 (it.sz : Int), .int .i64 (it.mrk : Int), .slice q4 it.ds.length b4] 36)).alloc (.cells #[.int .i64 (it.k : Int), .string it.x, .int .i64 (it.l : Int), .slice q1 it.ps.length b1, .slice q2 it.ss.length b2, .slice q3 it.bd.length b3, .int .i64 (a : Int), .int .i64 (it.sz : Int), .int .i64 (it.mrk : Int), .slice q4 it.ds.length b4] 36)) := ((Below.refl _ _).alloc (Nat.le_refl _) _).alloc (by simp) _; clear hx5 hR5)
          | (at_builtin; refine wpList_append_lies _ rfl (.tmp 67) (.tmp 69) 23 rfl (wt.heap.size + 1) 36 i0 _ 10 152 Tryz.underlying23 hi0 hz0 hz1 hz2 rfl (by decide) _ _ _ rfl ho5 ⟨w5.heap.size + 1, 0, none⟩ 1 1 [.int .i64 (it.k : Int), .string it.x, .int .i64 (it.l : Int), .slice q1 it.ps.length b1, .slice q2 it.ss.length b2, .slice q3 it.bd.length b3, .int .i64 (a : Int), .int .i64 (it.sz : Int), .int .i64 (it.mrk : Int), .slice q4 it.ds.length b4] rfl rfl hnew hone (by decide) hmax hby hbase _ rfl ?_; intro g6 cap6 w6 hown6 hgrow6 hat6 hlt6; obtain ⟨cO7, fO7⟩ := ag_grown hA hb51 hbn hgrow6))
        go_roundw
        case rel =>
          refine ⟨k + 1, .slice (some ⟨g6, 0, none⟩) (k + 1) cap6, by omega, by go_num, by rw [HN.out]; simp, ?_⟩
          rw [HT.out]
          have hnx := hA.next (e := ((a : Int), it)) (c := [.int .i64 (it.k : Int), .string it.x, .int .i64 (it.l : Int), .slice q1 it.ps.length b1, .slice q2 it.ss.length b2, .slice q3 it.bd.length b3, .int .i64 (a : Int), .int .i64 (it.sz : Int), .int .i64 (it.mrk : Int), .slice q4 it.ds.length b4]) hb5 hba hR6 rfl (by rw [HLN.out]; exact ho5) (by rw [HLN.out]; exact hown6) hgrow6 hat6
          rw [HLN.out] at hnx
          exact hnx
        case measure => simp [upN, intOf]; omega
    · obtain rfl : k = (cts t).length := by omega
      obtain ⟨q, cq, hvq, hq⟩ := hA.row.done kept_It
      have hall : (fil t).take (cts t).length = fil t := List.take_of_length_le (by rw [fil_len]; exact Nat.le_refl _)
      rw [hall] at hA hvq
      rw [fil_len] at hvq
      have cO := cell_of_row _ _ 0 _ _ _ hA.blk
      simp only [List.getElem?_toArray, List.getElem?_cons_zero] at cO
      have hRr := (hold (w.heap.size + 1) (by omega)).trans ((hbt.block (w.heap.size + 1) (by omega)).trans ((hbc.block (w.heap.size + 1) (by simp)).trans hR0))
      have cR := cell_of_row _ _ 0 _ _ _ hRr
      simp only [List.getElem?_toArray, List.getElem?_cons_zero] at cR
      have fR : ∀ o, wr.frozen? ⟨w.heap.size + 1, o, none⟩ = false := fun o => by simp [World.frozen?, hRr]
      have hd := hA.done (by rw [fil_len]; omega)
      have hBB : Below w.heap.size w wr := (hbw.trans ((hbt.mono hbw.size).trans ((hW0.mono (Nat.le_trans hbw.size hbt.size)).trans ⟨hA.stp.os, hA.stp.tape, hA.stp.output, hA.stp.size, fun b hb => hA.stp.block b (by have := hbw.size; simp; omega) (by have := hbw.size; omega) (by simp)⟩)))
      clear hq hall hcut hf hits hold hcells
      subst hvq
      go_wp2
      refine bodyPost_ret (v := .tuple #[.agg #[.slice q (cts t).length cq], .int .i64 (nwN s t (cts t).length : Int), .int .i64 0]) (by simp [results, Tryz.results31, go_sem, cR]) rfl ⟨_, rfl, ?_, hBB.setCell (by simp) _⟩
      exact RdF.kept hd (fun j hj => Below.heap_setCell _ _ _ j (by have := hj.1; simp; omega)) (fun j hj => ⟨by omega, by have := hj.2; simp; omega⟩)
end Go.Proofs.YtfioihehhlpgcaaGreatDoor
namespace Go.Proofs.YtfioihehhlpgcaaGreatDoor
open Go.RowKit Go.WideMaps Go.Maps
attribute [local go_sem ↓] Go.wp_at_zero Go.wp_at_succ
theorem citem : CItem := fun s at_ w hs hV => Item_any s at_ w hs hV
set_option maxHeartbeats 1000000 in
set_option maxRecDepth 100000 in
theorem again_no (x : Value) (hx : ∃ p n c, x = .slice p n c) (s t : ByteArray) (w : World) (hE : flE t ≠ 0) :
    Calls Tryz.prog 31 #[.agg #[x], .string s, .string t] w fun e w' => e = .returned (.tuple #[.agg #[.slice none 0 0], .int .i64 0, .int .i64 (flE t : Int)]) ∧ Below w.heap.size w w' := by
  obtain ⟨p, n, c, rfl⟩ := hx
  have hE0 : ¬ ((flE t : Nat) : Int) = 0 := by omega
  have hb0 := ((Below.refl w.heap.size w).alloc (Nat.le_refl _) (.cells #[.slice p n c] 25)).alloc (by simp) (.cells #[.slice none 0 0] 25)
  have hR0 : ((w.alloc (.cells #[.slice p n c] 25)).alloc (.cells #[.slice none 0 0] 25)).heap[w.heap.size + 1]? = some (.cells #[.slice none 0 0] 25 (0, 0)) := by have h := heap_alloc_new (w.alloc (.cells #[.slice p n c] 25)) (.cells #[.slice none 0 0] 25); simpa using h
  go_enter Tryz.func31, Tryz.ntmps31
  go_wp2_with (first
    | (go_at_call 55; refine (cut_any t _).mono ?_; rintro e wc ⟨vc, rfl, _, hbc⟩; have hRr := (hbc.block (w.heap.size + 1) (by simp)).trans hR0; have cR := cell_of_row _ _ 0 _ _ _ hRr; simp only [List.getElem?_toArray, List.getElem?_cons_zero] at cR; have fR : ∀ o, wc.frozen? ⟨w.heap.size + 1, o, none⟩ = false := fun o => (by simp [World.frozen?, hRr]); have hbw := hb0.trans (hbc.mono hb0.size)))
  exact bodyPost_ret (v := .tuple #[.agg #[.slice none 0 0], .int .i64 0, .int .i64 (flE t : Int)]) (by simp [results, Tryz.results31, go_sem, cR]) rfl ⟨rfl, hbw.setCell (by simp) _⟩
/-- What comes of a text as a file. -/
def FileTold (w w' : World) (t : ByteArray) (v : Value) : Prop := (flE t = 0 → RdF (fun k => w.heap.size ≤ k ∧ k < w'.heap.size) w' (fil t) v) ∧ (flE t ≠ 0 → v = .agg #[.slice none 0 0])
theorem noB_file (w : World) : RdF (fun _ => False) w (fil noB) (.agg #[.slice none 0 0]) := by
  rw [noB_fil]
  exact ⟨none, 0, rfl, by simp, fun h => absurd h (by simp)⟩
theorem again_file (t : ByteArray) (w : World) (hV : VarAt w) :
    Calls Tryz.prog 31 #[.agg #[.slice none 0 0], .string ⟨#[]⟩, .string t] w fun e w' => ∃ p m c n, e = .returned (.tuple #[.agg #[.slice p m c], .int .i64 n, .int .i64 (flE t : Int)]) ∧ FileTold w w' t (.agg #[.slice p m c]) ∧ Below w.heap.size w w' := by
  by_cases hE : flE t = 0
  · refine (again_ok noB t _ w (fun _ => False) (fun _ h => h.elim) (by decide) (noB_file w) hV citem (fun h => absurd h (by rw [noB_cts]; decide)) hE).mono ?_
    rintro e w' ⟨v, rfl, hf, hb⟩
    obtain ⟨p, cap, hv, _⟩ := id hf
    subst hv
    exact ⟨_, _, _, _, by rw [hE]; rfl, ⟨fun _ => hf, fun h => absurd hE h⟩, hb⟩
  · refine (again_no _ ⟨none, 0, 0, rfl⟩ noB t w hE).mono ?_
    rintro e w' ⟨rfl, hb⟩
    exact ⟨_, _, _, _, rfl, ⟨fun h => absurd h hE, fun _ => rfl⟩, hb⟩
theorem FileTold.kept {w w1 w2 w0 : World} {t : ByteArray} {v : Value} (h : FileTold w w1 t v) (hw : ∀ k, w.heap.size ≤ k → k < w1.heap.size → w2.heap[k]? = w1.heap[k]?) (hs : w1.heap.size ≤ w2.heap.size) (h0 : w0.heap.size ≤ w.heap.size) : FileTold w0 w2 t v :=
  ⟨fun e => RdF.kept (h.1 e) (fun k hk => hw k hk.1 hk.2) (fun _ hk => ⟨Nat.le_trans h0 hk.1, Nat.lt_of_lt_of_le hk.2 hs⟩), h.2⟩
set_option maxHeartbeats 1000000 in
set_option maxRecDepth 100000 in
theorem File_any (t : ByteArray) (w : World) (hV : VarAt w) :
    Calls Tryz.prog 10 #[.string t] w fun e w' => ∃ p m c, e = .returned (.tuple #[.agg #[.slice p m c], .int .i64 (flE t : Int)]) ∧ FileTold w w' t (.agg #[.slice p m c]) ∧ Below w.heap.size w w' := by
  have hb0 := (Below.refl w.heap.size w).alloc (Nat.le_refl _) (.cells #[.slice none 0 0] 25)
  have hV0 := hV.below hb0
  go_enter Tryz.func10, Tryz.ntmps10
  go_wp2_with (fail)
  go_at_call 31
  refine (again_file t _ hV0).mono ?_
  rintro e w1 ⟨p, m, c, n, rfl, hft, hb1⟩
  have hR1 := (hb1.block w.heap.size (by simp)).trans (heap_alloc_new w _)
  have c0 := cell_of_row _ _ 0 _ _ _ hR1
  simp only [List.getElem?_toArray, List.getElem?_cons_zero] at c0
  have cR := cell_alloc c0
  have hz1 : w.heap.size + 1 ≤ w1.heap.size := (by simpa using hb1.size)
  have hn1 : ¬ w.heap.size = w1.heap.size := (by omega)
  have hn2 : ¬ w1.heap.size = w.heap.size := (by omega)
  have fR : ∀ o k, (w1.alloc o).frozen? ⟨w.heap.size, k, none⟩ = false := (fun o k => frozen_alloc (by simp [World.frozen?, hR1]) (by show w.heap.size < w1.heap.size; omega) o)
  go_wp2
  have hbw := hb0.trans (hb1.mono hb0.size)
  refine bodyPost_ret (v := .tuple #[.agg #[.slice p m c], .int .i64 (flE t : Int)]) (by simp [results, Tryz.results10, go_sem, cR]) rfl ⟨p, m, c, rfl, ?_, (hbw.alloc hbw.size _).setCell (Nat.le_refl _) _⟩
  exact hft.kept (fun k h1 h2 => (Below.heap_setCell _ _ _ k (by simp at h1 ⊢; omega)).trans (Below.heap_alloc _ _ k h2)) (by simp) (by simp)
end Go.Proofs.YtfioihehhlpgcaaGreatDoor

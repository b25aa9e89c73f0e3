/- Numbers as texts and back, and a byte's place: the library's functions, at every input. -/
import Derived.Test.YtbkihppmikjcoaaDoorFrBase
import Derived.Test.YtbkihppmikjcoaaDoorShelf
import Derived.Lib.Bytes
import Derived.Deep.DrawnRows
namespace Go.Proofs.YtbkihppmikjcoaaDoor
open Go.RowKit Go.Shelf
set_option linter.unusedVariables false
attribute [local go_sem ↓] Go.wp_at_zero Go.wp_at_succ
/-- The library's variables hold what they hold. -/
def ErrAt (g : Nat) (w : World) : Prop := ∃ ev, w.cell? ⟨g, 0, none⟩ = some ev ∧ (ev = .nilIface ∨ ∃ te pe, ev = .iface te pe)
structure Lw (w : World) : Prop where
  low : 3 ≤ w.heap.size
  syn : ErrAt (Tryd.laysAtoi_ren.g 15) w
  ran : ErrAt (Tryd.laysAtoi_ren.g 16) w
  tab : Lib.TabIs Tryd.prog w "internal/strconv.uint64pow10" .u64 Lib.pow10Tab
theorem gTab : Tryd.prog.globalNamed "internal/strconv.uint64pow10" = some 0 := by kernel_rfl
theorem tab_kept {w w' : World} (h : Lib.TabIs Tryd.prog w "internal/strconv.uint64pow10" .u64 Lib.pow10Tab) (h0 : w'.heap[0]? = w.heap[0]?) : Lib.TabIs Tryd.prog w' "internal/strconv.uint64pow10" .u64 Lib.pow10Tab := by
  unfold Lib.TabIs World.var? at *
  rw [gTab] at h ⊢
  simp only [Option.bind_some] at h ⊢
  rw [h0]
  exact h
theorem Lw.kept {w w' : World} (h : Lw w) (hs : w.heap.size ≤ w'.heap.size) (hk : ∀ k, k < 3 → w'.heap[k]? = w.heap[k]?) : Lw w' := by
  obtain ⟨h1, ⟨s1, s2, s3⟩, ⟨r1, r2, r3⟩, h4⟩ := h
  exact ⟨by omega, ⟨s1, (World.cell?_of_block (a := ⟨Tryd.laysAtoi_ren.g 15, 0, none⟩) (hk _ (by decide))).trans s2, s3⟩, ⟨r1, (World.cell?_of_block (a := ⟨Tryd.laysAtoi_ren.g 16, 0, none⟩) (hk _ (by decide))).trans r2, r3⟩, tab_kept h4 (hk 0 (by decide))⟩
theorem Lw.below {w w' : World} {B : Nat} (h : Lw w) (hB : 3 ≤ B) (hb : Below B w w') : Lw w' := h.kept hb.size (fun k hk => hb.block k (by omega))
theorem Lw.tabB {w : World} {B : Nat} (h : Lw w) (hB : 3 ≤ B) : Lib.TabBelow Tryd.prog B w "internal/strconv.uint64pow10" .u64 Lib.pow10Tab := fun w' hb => tab_kept h.tab (hb.block 0 (by omega))
theorem i64 {n : Int} (h : I64 n) : -9223372036854775808 ≤ n ∧ n ≤ 9223372036854775807 := h
/-- strconv.Atoi, of any text. -/
theorem atoi_any (s : List UInt8) (hs : s.length ≤ 1099511627776) (w : World) (hL : Lw w) :
    Calls Tryd.prog 24 #[.string (ba s)] w fun e w' => ∃ v er, e = .returned (.tuple #[.int .i64 v, er]) ∧ Below w.heap.size w w' ∧
      ((Lib.atoiAll s = .ok v ∧ er = .nilIface) ∨ ((∀ n, Lib.atoiAll s ≠ .ok n) ∧ ∃ t p, er = .iface t p)) := by
  have hsz := ba_size s
  have hl := ba_list s
  match h : Lib.atoiAll s with
  | .ok v =>
    refine (show Calls Tryd.prog 24 #[.string (ba s)] w _ from Any.strconv_Atoi_ok Tryd.laysAtoi (ba s) (by omega) v (by rw [hl]; exact h) w).mono ?_
    rintro e w' ⟨rfl, rfl | ⟨t, rfl⟩⟩
    · exact ⟨_, _, rfl, Below.refl _ _, .inl ⟨rfl, rfl⟩⟩
    · exact ⟨_, _, rfl, ⟨rfl, rfl, rfl, by rw [Lib.bytesWorld_size]; omega, fun j hj => Lib.bytesWorld_at_old w _ t j hj⟩, .inl ⟨rfl, rfl⟩⟩
  | .syntax =>
    obtain ⟨ev, h1, h2⟩ := hL.syn
    refine (show Calls Tryd.prog 24 #[.string (ba s)] w _ from Any.strconv_Atoi_syntax Tryd.laysAtoi (ba s) (by omega) (by rw [hl]; exact h) ev w h1 h2).mono ?_
    rintro e w' ⟨N, rfl, _, _, hb⟩
    exact ⟨_, _, rfl, hb, .inr ⟨nofun, _, _, rfl⟩⟩
  | .range =>
    obtain ⟨ev, h1, h2⟩ := hL.ran
    refine (show Calls Tryd.prog 24 #[.string (ba s)] w _ from Any.strconv_Atoi_range Tryd.laysAtoi (ba s) (by omega) (by rw [hl]; exact h) ev w h1 h2).mono ?_
    rintro e w' ⟨N, rfl, _, _, hb⟩
    exact ⟨_, _, rfl, hb, .inr ⟨nofun, _, _, rfl⟩⟩
theorem format_any (n : Int) (hn : I64 n) (w : World) (hL : Lw w) : Calls Tryd.prog 26 #[.int .i64 n, .int .i64 10] w fun e w' => e = .returned (.string (ba (Lib.itoa n))) ∧ Below w.heap.size w w' := by
  refine (show Calls Tryd.prog 26 #[.int .i64 n, .int .i64 10] w _ from Any.internal_strconv_FormatInt_10 Tryd.laysFormatInt n hn.1 hn.2 w hL.tab).mono ?_
  rintro e w' ⟨rfl, k, os, rfl⟩
  exact ⟨rfl, Lib.below_grow _ w (Nat.le_refl _) k os⟩
theorem itoaIn_any (n : Int) (hn : I64 n) (w : World) (hL : Lw w) : Calls Tryd.prog 20 #[.int .i64 n] w fun e w' => e = .returned (.string (ba (Lib.itoa n))) ∧ Below w.heap.size w w' := by
  go_enter Tryd.func20, Tryd.ntmps20
  go_wp2_with (go_at_call 26; refine (format_any n hn _ hL).mono ?_; rintro e w2 ⟨rfl, hb2⟩)
  go_ret
  exact ⟨rfl, hb2⟩
/-- strconv.Itoa, of any int. -/
theorem itoa_any (n : Int) (hn : I64 n) (w : World) (hL : Lw w) : Calls Tryd.prog 15 #[.int .i64 n] w fun e w' => e = .returned (.string (ba (Lib.itoa n))) ∧ Below w.heap.size w w' := by
  go_enter Tryd.func15, Tryd.ntmps15
  go_wp2_with (go_at_call 20; refine (itoaIn_any n hn _ hL).mono ?_; rintro e w2 ⟨rfl, hb2⟩)
  go_ret
  exact ⟨rfl, hb2⟩
/-- strconv.AppendInt, onto a row of the call's own. -/
theorem appendInt_any (B n : Nat) (i : Int) (hi : I64 i) (sv : Value) (xs : List Value) (w : World) (hL : Lw w) (hB : 3 ≤ B) (hown : w.ownsRow B 5 1 sv n xs) (hBw : B ≤ w.heap.size) (hlim : n ≤ 1099511627776) :
    Calls Tryd.prog 25 #[sv, .int .i64 i, .int .i64 10] w fun e w' => ∃ v', e = .returned v' ∧ w'.ownsRow B 5 1 v' (n + (Lib.itoa i).length) (xs ++ Lib.byteCells (Lib.itoa i)) ∧ Below B w w' ∧ Lib.OthersKept 5 none w w' :=
  Any.strconv_AppendInt_10 Tryd.laysAppendInt B n i hi.1 hi.2 sv xs w hown hBw (by omega) (hL.tabB hB)
theorem byt_getD {l : List UInt8} {i : Nat} (h : i < l.length) : (l.map (fun b => ((b.toNat : Nat) : Int))).getD i 0 = ((l[i].toNat : Nat) : Int) := by
  rw [List.getD_eq_getElem?_getD, List.getElem?_map, List.getElem?_eq_getElem h]
  rfl
theorem bytesOf_map (l : List UInt8) : Lib.bytesOf (l.map (fun b => ((b.toNat : Nat) : Int))) = l := by
  unfold Lib.bytesOf
  rw [List.map_map]
  conv => rhs; rw [← List.map_id l]
  apply List.map_congr_left
  intro b _
  simp
theorem Byt.at {w : World} {g o : Nat} {l : List UInt8} (h : Byt w g o l) {n : Nat} (hn : l.length = n) : ∀ i, i < n → w.cell? ⟨g, o + i, none⟩ = some (.int .u8 ((l.map (fun b => ((b.toNat : Nat) : Int))).getD i 0)) := by
  intro i hi
  rw [byt_getD (by omega)]
  exact h i _ (List.getElem?_eq_getElem (by omega))
/-- bytes.IndexByte, of bytes in memory. -/
theorem indexByte_any (w : World) (g o c n : Nat) (l : List UInt8) (hl : l.length = n) (h : Byt w g o l) (e : UInt8) :
    Calls Tryd.prog 35 #[.slice (some ⟨g, o, none⟩) n c, .int .u8 (e.toNat : Int)] w fun ex w' => ex = .returned (.int .i64 (Lib.indexByte l e)) ∧ w' = w := by
  have := Any.bytes_IndexByte Tryd.laysIndexByte g o n c (l.map (fun b => ((b.toNat : Nat) : Int))) (e.toNat : Int) w (by rw [List.length_map]; exact hl) (h.at hl)
  rw [bytesOf_map] at this
  have e1 : ((e.toNat : Nat) : Int).toNat.toUInt8 = e := by simp
  rw [e1] at this
  exact this
/-- Bytes as a text. -/
theorem conv_byt (w : World) (g o c n : Nat) (l : List UInt8) (hl : l.length = n) (h : Byt w g o l) :
    (convert 23 9 (.slice (some ⟨g, o, none⟩) n c)).run Tryd.prog w = .ok (.string (ba l)) w := by
  have := run_convert_bytes_arg (P := Tryd.prog) w 23 5 Tryd.underlying23 Tryd.underlying5 g o n c (l.map (fun b => ((b.toNat : Nat) : Int))) (by rw [List.length_map]; exact hl) (h.at hl) 9 Tryd.underlying9
  rw [this]
  have e : strOfNums (l.map (fun b => ((b.toNat : Nat) : Int))) = ba l := by
    have := Lib.strOfNums_toList (l.map (fun b => ((b.toNat : Nat) : Int)))
    rw [bytesOf_map] at this
    have h2 := (Lib.toList_data _).symm.trans this
    rw [← ba_of (strOfNums (l.map (fun b => ((b.toNat : Nat) : Int)))), h2]
  rw [e]
end Go.Proofs.YtbkihppmikjcoaaDoor

/- Texts of this seat, one behind the other: SmMath, FilCut, FilTexts. -/
import Derived.Test.YtfioihehhlpgcaaGreatDoorZb03
import Derived.Test.YtfioihehhlpgcaaGreatDoorZb01
import Derived.Test.YtfioihehhlpgcaaGreatDoorZb01b
import Derived.Test.YtfioihehhlpgcaaGreatDoorZb02
import Derived.Deep.AppendLies
namespace Go.Proofs.YtfioihehhlpgcaaGreatDoor
/-- No block of this statement has more than 40 statements, nor has one further in. -/
def smS : Nat → Tr → Prop
  | 0, _ => True
  | n + 1, s => ∀ (k : Nat) (x : ByteArray) (a lb : Nat) (o : Bool) (e : Tr) (th el : List Tr) (f t : Nat), s = stMk k x a lb o e th el f t → th.length ≤ 40 ∧ el.length ≤ 40 ∧ (∀ u ∈ th, smS n u) ∧ (∀ u ∈ el, smS n u)
def smL (l : List Tr) : Prop := l.length ≤ 40 ∧ ∀ u ∈ l, ∀ n, smS n u
theorem smL_nil : smL [] := ⟨by simp, fun u h => absurd h (List.not_mem_nil)⟩
theorem smS_mk {k : Nat} {x : ByteArray} {a lb : Nat} {o : Bool} {e : Tr} {th el : List Tr} {f t : Nat} (h1 : smL th) (h2 : smL el) : ∀ n, smS n (stMk k x a lb o e th el f t) := by
  intro n
  cases n with
  | zero => trivial
  | succ n =>
    intro k' x' a' lb' o' e' th' el' f' t' h
    obtain ⟨_, _, _, _, _, _, rfl, rfl, _, _⟩ := stMk_inj h
    exact ⟨h1.1, h2.1, fun u hu => h1.2 u hu n, fun u hu => h2.2 u hu n⟩
theorem stmt_small (L : List Tok) (sz f : Nat) : (∀ d i, smL (pBlock L sz f d i).v) ∧ (∀ d i l, smL l → smL (pStmts L sz f d i l).v) ∧ (∀ d i n, smS n (pStmt L sz f d i).v) := by
  induction f with
  | zero =>
    refine ⟨fun d i => ?_, fun d i l hl => ?_, fun d i => ?_⟩
    · rw [pBlock_zero]; exact smL_nil
    · rw [pStmts_zero]; exact hl
    · rw [pStmt_zero]; exact smS_mk smL_nil smL_nil
  | succ f ih =>
    obtain ⟨ihB, ihS, ihT⟩ := ih
    refine ⟨fun d i => ?_, fun d i l hl => ?_, fun d i => ?_⟩
    · rw [pBlock_succ]
      split
      · split
        · exact smL_nil
        · exact ihS _ _ _ smL_nil
      · exact smL_nil
    · rw [pStmts_succ]
      split
      · split
        · exact hl
        · rename_i h40
          refine ihS _ _ _ ⟨by rw [List.length_append, List.length_singleton]; omega, fun u hu => ?_⟩
          rcases List.mem_append.1 hu with hu | hu
          · exact hl.2 u hu
          · rw [List.mem_singleton] at hu
            rw [hu]
            exact ihT d i
      · exact hl
    · rw [pStmt_succ]
      simp only
      split
      · exact smS_mk smL_nil smL_nil
      · split
        · split
          · exact smS_mk (ihB _ _) (ihB _ _)
          · exact smS_mk (ihB _ _) smL_nil
        · split
          · exact smS_mk (ihB _ _) smL_nil
          · split
            · exact smS_mk smL_nil smL_nil
            · split
              · exact smS_mk smL_nil smL_nil
              · split
                · split
                  · exact smS_mk smL_nil smL_nil
                  · exact smS_mk smL_nil smL_nil
                · exact smS_mk smL_nil smL_nil
theorem it_small (L : List Tok) (sz : Nat) : smL (pIt L sz).bd := by
  unfold pIt
  split
  · exact (stmt_small L sz _).1 0 _
  · split
    · exact smL_nil
    · exact smL_nil
theorem itm_small (s : ByteArray) : smL (itm s).bd := it_small _ _
end Go.Proofs.YtfioihehhlpgcaaGreatDoor
namespace Go.Proofs.YtfioihehhlpgcaaGreatDoor
open Go.RowKit
attribute [local go_sem ↓] Go.wp_at_zero Go.wp_at_succ
/-- A text's cuts and its end, in memory. -/
def CutAt (w : World) (B : Nat) (s : ByteArray) (v : Value) : Prop := ∃ g cap, v = .slice (some ⟨g, 0, none⟩) ((cts s).length + 1) cap ∧ (cts s).length + 1 ≤ cap ∧ B ≤ g ∧ g < w.heap.size ∧ ∀ j, j ≤ (cts s).length → w.cell? ⟨g, j, none⟩ = some (.int .i64 (cn s j : Int))
theorem cut_at {w : World} {B : Nat} {s : ByteArray} {g cap : Nat} (h : w.ownsRow B 3 1 (.slice (some ⟨g, 0, none⟩) ((cts s).length + 1) cap) ((cts s).length + 1) (intC (cts s) ++ [.int .i64 (s.size : Int)])) : CutAt w B s (.slice (some ⟨g, 0, none⟩) ((cts s).length + 1) cap) := by
  have hlt := h.lt g rfl
  have hc := h.cells (g := g) rfl
  obtain ⟨_, ⟨h1, _⟩ | ⟨g', cap', cur, h1, _, _, hcap, _⟩⟩ := h
  · cases h1
  · injection h1 with h1 h2 h3
    injection h1 with h1
    injection h1 with h1
    subst h1 h3
    refine ⟨g, cap, rfl, by simpa using hcap, hlt.1, hlt.2, fun j hj => ?_⟩
    have e : (⟨g, 0, none⟩ : Addr).add j = ⟨g, j, none⟩ := by simp only [Addr.add, Nat.zero_add]; split <;> simp_all
    rw [← e]
    refine hc j _ ?_
    rcases Nat.lt_or_ge j (cts s).length with h2 | h2
    · rw [List.getElem?_append_left (by simpa [intC] using h2)]
      simp [intC, cn_get s j h2]
    · rw [List.getElem?_append_right (by simpa [intC] using h2), cn_end s j h2]
      have : j - (intC (cts s)).length = 0 := by simp [intC]; omega
      rw [this]
      rfl
set_option maxHeartbeats 1000000 in
set_option maxRecDepth 100000 in
theorem cut_any (s : ByteArray) (w : World) :
    Calls Tryz.prog 55 #[.string s] w fun e w' => ∃ v, e = .returned (.tuple #[v, .int .i64 (flE s : Int)]) ∧ (flE s = 0 → CutAt w' w.heap.size s v) ∧ Below w.heap.size w w' := by
  obtain ⟨i0, hi, hz0, hz1, hz2⟩ := info_parts Tryz.infoInt
  go_enter Tryz.func55, Tryz.ntmps55
  by_cases h1 : 4000 < s.size
  · have e : flE s = 4 := by unfold flE; rw [if_pos h1]
    have hg : ((s.size : Int) > 4000) := by omega
    rw [e]
    clear h1 e
    go_wp2
    exact bodyPost_ret (v := .tuple #[.slice none 0 0, .int .i64 4]) (by simp [results, Tryz.results55, go_sem]) rfl ⟨_, rfl, (fun h => by cases h), Below.refl _ _⟩
  · have hg : ¬ ((s.size : Int) > 4000) := by omega
    have hs : s.size ≤ 1099511627776 := by omega
    by_cases h2 : 30 < (cts s).length
    · have e : flE s = 5 := by unfold flE; rw [if_neg h1, if_pos h2]
      have hg2 : (((cts s).length : Int) > 30) := by omega
      rw [e]
      clear h1 h2 e
      go_wp2_with (first
        | (go_at_call 80; refine (cuts_any s _ hs).mono ?_; rintro e w1 ⟨v, rfl, hown, hb1⟩; obtain ⟨p, cap, rfl⟩ := own_len hown))
      exact bodyPost_ret (v := .tuple #[.slice none 0 0, .int .i64 5]) (by simp [results, Tryz.results55, go_sem]) rfl ⟨_, rfl, (fun h => by cases h), hb1⟩
    · have e : flE s = 0 := by unfold flE; rw [if_neg h1, if_neg h2]
      have hg2 : ¬ (((cts s).length : Int) > 30) := by omega
      have hl : (cts s).length + 1 ≤ maxLen := by unfold maxLen; omega
      have hby : ((cts s).length + 1) * 8 ≤ 140737488355328 := by omega
      rw [e]
      clear h1 h2 e
      go_wp2_with (first
        | (go_at_call 80; refine (cuts_any s _ hs).mono ?_; rintro e w1 ⟨v, rfl, hown, hb1⟩; obtain ⟨p, cap, rfl⟩ := own_len hown; have hsz1 := hb1.size)
        | (at_builtin; refine wpList_append_lies _ rfl (.tmp 13) (.tmp 16) 48 rfl w.heap.size 3 i0 _ 1 8 Tryz.underlying48 hi hz0 hz1 hz2 rfl (by decide) _ _ _ rfl (hown.alloc _) ⟨w1.heap.size, 0, none⟩ 1 1 [.int .i64 (s.size : Int)] rfl rfl (World.news_of_block (heap_alloc_new w1 _)) (by intro u hu; simp at hu; subst hu; rfl) (by decide) hl hby (by simp; omega) _ rfl ?_; intro g6 cap6 w6 hown6 hgrow6 hat6 hlt6))
      exact bodyPost_ret (v := .tuple #[.slice (some ⟨g6, 0, none⟩) ((cts s).length + 1) cap6, .int .i64 0]) (by simp [results, Tryz.results55, go_sem]) rfl ⟨_, rfl, cut_at hown6, (hb1.alloc hsz1 _).grown hgrow6 (by simp; omega) (own_ge hown)⟩
end Go.Proofs.YtfioihehhlpgcaaGreatDoor
namespace Go.Proofs.YtfioihehhlpgcaaGreatDoor
open Go.RowKit Go.WideMaps Go.Maps
attribute [local go_sem ↓] Go.wp_at_zero Go.wp_at_succ
theorem kStr : Keyed Tryz.prog 9 := string_keyed Tryz.underlying9
theorem keyS (x : ByteArray) (h : x.size ≤ maxLen) : keyOf Tryz.prog 9 (.string x) = some (kyB x) := keyOf_string_mk Tryz.underlying9 h
/-- The texts of a file's items, as a map in memory. -/
def KnAt (w : World) (b : Nat) (s : ByteArray) (k : Nat) : Prop := w.ownsMap Tryz.prog 9 (plainElem (H := Unit) Tryz.prog 3) b k (knD s k)
def RelTx (s : ByteArray) (W : World) (i : Value) (wr : World) : Prop := ∃ k : Nat, k ≤ (cts s).length ∧ i = .int .i64 (k : Int) ∧ KnAt wr W.heap.size s k ∧ Below W.heap.size W wr
set_option maxHeartbeats 1000000 in
set_option maxRecDepth 100000 in
theorem texts_any (s : ByteArray) (fv : Value) (w : World) (ok : Nat → Prop) (hok : ∀ k, ok k → k < w.heap.size) (hs : s.size ≤ 4000) (hf : RdF ok w (fil s) fv) :
    Calls Tryz.prog 56 #[fv, .string s] w fun e w' => e = .returned (.map (some (w.heap.size + 1))) ∧ KnAt w' (w.heap.size + 1) s (cts s).length ∧ Below w.heap.size w w' := by
  have hmm := @run_makeMap Tryz.prog
  obtain ⟨p, cap, rfl, _, hits⟩ := hf
  rw [fil_len] at hits ⊢
  have hcl := cts_le s
  have hn40 : (cts s).length ≤ 1099511627776 := by omega
  have hbx := (Below.refl w.heap.size w).alloc (Nat.le_refl _) (.cells #[.slice p (cts s).length cap] 25)
  go_enter Tryz.func56, Tryz.ntmps56
  go_wp2
  go_loopw [12] (fun i wr => RelTx s (w.alloc (.cells #[.slice p (cts s).length cap] 25)) i wr) (fun i _ => upN (cts s).length i)
  case atStart => exact ⟨0, Nat.zero_le _, rfl, World.ownsMap_made _ _ _ _, (Below.refl _ _).alloc (Nat.le_refl _) _⟩
  case round =>
    obtain ⟨k, hk, rfl, hown, hbel⟩ := hrel
    have hsz := hbel.size
    have hown' : World.ownsMap wr Tryz.prog 9 (plainElem (H := Unit) Tryz.prog 3) (w.heap.size + 1) k (knD s k) := by have h := hown; rw [show (w.alloc (.cells #[.slice p (cts s).length cap] 25)).heap.size = w.heap.size + 1 by simp] at h; exact h
    clear hown
    have hB := hbx.trans (hbel.mono hbx.size)
    by_cases hlt : k < (cts s).length
    · obtain ⟨g, rfl, hg, hR⟩ := hits (by omega)
      obtain ⟨v, hcv, p1, c1, p2, c2, p3, c3, p4, c4, rfl, _⟩ := hR k _ (fil_get s k hlt)
      have hgw := hok g hg
      have hcell : ∀ i u, (#[.int .i64 ((itI s k).k : Int), .string (itI s k).x, .int .i64 ((itI s k).l : Int), .slice p1 (itI s k).ps.length c1, .slice p2 (itI s k).ss.length c2, .slice p3 (itI s k).bd.length c3, .int .i64 (cn s k : Int), .int .i64 ((itI s k).sz : Int), .int .i64 ((itI s k).mrk : Int), .slice p4 (itI s k).ds.length c4] : Array Value)[i]? = some u → wr.cell? ⟨g, k * 10 + i, none⟩ = some u := fun i u hi => (hB.cell (p := ⟨g, k * 10 + i, none⟩) hgw).trans (hcv.get i u hi)
      have d0 := hcell 0 _ rfl
      have d1 := hcell 1 _ rfl
      have d2 := hcell 2 _ rfl
      have d3 := hcell 3 _ rfl
      have d4 := hcell 4 _ rfl
      have d5 := hcell 5 _ rfl
      have d6 := hcell 6 _ rfl
      have d7 := hcell 7 _ rfl
      have d8 := hcell 8 _ rfl
      have d9 := hcell 9 _ rfl
      rw [Nat.add_zero] at d0
      have hz := (itI_sz s k).1
      have hl1 := cn_lt s k hlt
      have hl2 := cn_le s (k + 1)
      have hx : txI s k = s.extract (cn s k) (cn s k + (itI s k).sz) := by rw [hz, show cn s k + (cn s (k + 1) - cn s k) = cn s (k + 1) by omega]; rfl
      have HX : Hid (txI s k = s.extract (cn s k) (cn s k + (itI s k).sz)) := hx
      have hle : cn s k + (itI s k).sz ≤ s.size := by omega
      have hkey := keyS (s.extract (cn s k) (cn s k + (itI s k).sz)) (by rw [ext_size' _ _ _ hle]; unfold maxLen; omega)
      clear hx hz hl1 hl2 hcell hcv hR hits
      generalize hA : cn s k = a at *
      generalize hZ : (itI s k).sz = z at *
      have ga : (0 : Int) ≤ (a : Int) := by omega
      have gz : (0 : Int) ≤ (z : Int) := by omega
      have gk : (0 : Int) ≤ (k : Int) := by omega
      have gk2 : (k : Int) < ((cts s).length : Int) := by omega
      have gw1 : IntKind.i64.wrap ((s.size : Int) - (a : Int)) = (s.size : Int) - (a : Int) := wrap_id _ (by omega) (by omega)
      have gw2 : IntKind.i64.wrap ((a : Int) + (z : Int)) = (a : Int) + (z : Int) := wrap_id _ (by omega) (by omega)
      have gl : (z : Int) ≤ (s.size : Int) - (a : Int) := by omega
      go_wp2_with (first
        | (at_mapUpdate; refine wpList_mapUpdate_own _ rfl _ _ _ 108 rfl 9 3 kStr Tryz.underlying108 _ (w.heap.size + 1) k _ rfl (hown'.alloc _) (by unfold maxLen; omega) _ _ _ rfl rfl hkey _ [] (plainElem_int Tryz.underlying3 (WalkArith.wf_i64 (by omega))) ?_; intro w2 hown2 hgrow2))
      go_roundw
      case rel =>
        refine ⟨k + 1, by omega, by go_num, ?_, (hbel.alloc (by omega) _).grown hgrow2 (by simp at hsz ⊢; omega) (fun j hj => by cases hj; simp)⟩
        rw [show (w.alloc (.cells #[.slice (some ⟨g, 0, none⟩) (cts s).length cap] 25)).heap.size = w.heap.size + 1 by simp]
        show World.ownsMap _ _ _ _ _ _ ((knD s k).put (kyB (txI s k)) _)
        rw [HX.out]
        exact hown2
      case measure => simp [upN, intOf]; omega
    · obtain rfl : k = (cts s).length := by omega
      go_wp2
      go_ret
      exact ⟨rfl, hown', hB⟩
end Go.Proofs.YtfioihehhlpgcaaGreatDoor

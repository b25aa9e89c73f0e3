/- Texts of this seat, one behind the other: EShelf, EffRise, EffOwn, EffDfs, EffReach, EffEnter. -/
import Derived.Shelf.Sort.Plain
import Derived.Shelf.Slices.In.SortNone
import Derived.Shelf.Slices.CompactS
import Derived.Test.YtjpmnholpeidmaaProg
import Derived.Test.YtjpmnholpeidmaaZb38
import Derived.Test.YtjpmnholpeidmaaZb21
import Derived.Sort.OwnSorted
import Derived.Sort.Grow
import Derived.Lib.OwnBridge
import Derived.Lib.RowBridge
import Derived.Maps.AppendAt
import Derived.Laws.AppendOwnNone
import Derived.Deep.RegionHeld3
namespace Go.Proofs
open Go.Shelf
def Try.laysSort_ren : Go.Shelf.Ren := ⟨fun | 190 => 46 | 125 => 71 | 258 => 70 | 128 => 92 | 129 => 93 | 302 => 83 | 303 => 84 | 304 => 85 | 305 => 86 | 306 => 87 | 307 => 88 | 308 => 89 | 309 => 90 | 310 => 91 | 333 => 103 | 329 => 104 | 330 => 105 | 334 => 106 | 335 => 107 | 336 => 108 | 344 => 114 | n => n, fun | 31 => 36 | 9 => 9 | 3 => 3 | 46 => 131 | 0 => 0 | 51 => 155 | 53 => 157 | 4 => 4 | 183 => 148 | 182 => 147 | 131 => 93 | 5 => 5 | 218 => 170 | 222 => 174 | 228 => 180 | 229 => 95 | n => n, fun | n => n⟩
theorem Try.laysSort : Go.Proofs.Lays.n190 Try.prog Try.laysSort_ren := {
  mixed := by kernel_rfl
  f125 := Try.func71.trans (congrArg some (by kernel_rfl))
  f128 := Try.func92.trans (congrArg some (by kernel_rfl))
  f129 := Try.func93.trans (congrArg some (by kernel_rfl))
  f190 := Try.func46.trans (congrArg some (by kernel_rfl))
  f258 := Try.func70.trans (congrArg some (by kernel_rfl))
  f302 := Try.func83.trans (congrArg some (by kernel_rfl))
  f303 := Try.func84.trans (congrArg some (by kernel_rfl))
  f304 := Try.func85.trans (congrArg some (by kernel_rfl))
  f305 := Try.func86.trans (congrArg some (by kernel_rfl))
  f306 := Try.func87.trans (congrArg some (by kernel_rfl))
  f307 := Try.func88.trans (congrArg some (by kernel_rfl))
  f308 := Try.func89.trans (congrArg some (by kernel_rfl))
  f309 := Try.func90.trans (congrArg some (by kernel_rfl))
  f310 := Try.func91.trans (congrArg some (by kernel_rfl))
  f329 := Try.func104.trans (congrArg some (by kernel_rfl))
  f330 := Try.func105.trans (congrArg some (by kernel_rfl))
  f333 := Try.func103.trans (congrArg some (by kernel_rfl))
  f334 := Try.func106.trans (congrArg some (by kernel_rfl))
  f335 := Try.func107.trans (congrArg some (by kernel_rfl))
  f336 := Try.func108.trans (congrArg some (by kernel_rfl))
  f344 := Try.func114.trans (congrArg some (by kernel_rfl))
  t0 := Try.underlying0
  a0 := Try.isAgg0
  z0 := Try.sizeOf0
  v0 := Try.zeroValue0
  t3 := Try.underlying3
  a3 := Try.isAgg3
  z3 := Try.sizeOf3
  v3 := Try.zeroValue3
  t4 := Try.underlying4
  a4 := Try.isAgg4
  z4 := Try.sizeOf4
  v4 := Try.zeroValue4
  t5 := Try.underlying5
  a5 := Try.isAgg5
  z5 := Try.sizeOf5
  v5 := Try.zeroValue5
  t9 := Try.underlying9
  a9 := Try.isAgg9
  z9 := Try.sizeOf9
  v9 := Try.zeroValue9
  t31 := Try.underlying36
  a31 := Try.isAgg36
  z31 := Try.sizeOf36
  v31 := Try.zeroValue36
  t46 := Try.underlying131
  a46 := Try.isAgg131
  z46 := Try.sizeOf131
  v46 := Try.zeroValue131
  t51 := Try.underlying155
  a51 := Try.isAgg155
  z51 := Try.sizeOf155
  v51 := Try.zeroValue155
  t53 := Try.underlying157
  a53 := Try.isAgg157
  z53 := Try.sizeOf157
  v53 := Try.zeroValue157
  t131 := Try.underlying93
  a131 := Try.isAgg93
  z131 := Try.sizeOf93
  v131 := Try.zeroValue93
  t182 := Try.underlying147
  a182 := Try.isAgg147
  z182 := Try.sizeOf147
  v182 := Try.zeroValue147
  t183 := Try.underlying148
  a183 := Try.isAgg148
  z183 := Try.sizeOf148
  v183 := Try.zeroValue148
  t218 := Try.underlying170
  a218 := Try.isAgg170
  z218 := Try.sizeOf170
  v218 := Try.zeroValue170
  t222 := Try.underlying174
  a222 := Try.isAgg174
  z222 := Try.sizeOf174
  v222 := Try.zeroValue174
  t228 := Try.underlying180
  a228 := Try.isAgg180
  z228 := Try.sizeOf180
  v228 := Try.zeroValue180
  t229 := Try.underlying95
  a229 := Try.isAgg95
  z229 := Try.sizeOf95
  v229 := Try.zeroValue95 }
def Try.laysCompact_ren : Go.Shelf.Ren := ⟨fun | 194 => 47 | n => n, fun | 31 => 36 | 9 => 9 | 3 => 3 | 4 => 4 | 0 => 0 | n => n, fun | n => n⟩
theorem Try.laysCompact : Go.Proofs.Lays.n194 Try.prog Try.laysCompact_ren := {
  mixed := by kernel_rfl
  f194 := Try.func47.trans (congrArg some (by kernel_rfl))
  t0 := Try.underlying0
  a0 := Try.isAgg0
  z0 := Try.sizeOf0
  v0 := Try.zeroValue0
  t3 := Try.underlying3
  a3 := Try.isAgg3
  z3 := Try.sizeOf3
  v3 := Try.zeroValue3
  t4 := Try.underlying4
  a4 := Try.isAgg4
  z4 := Try.sizeOf4
  v4 := Try.zeroValue4
  t9 := Try.underlying9
  a9 := Try.isAgg9
  z9 := Try.sizeOf9
  v9 := Try.zeroValue9
  t31 := Try.underlying36
  a31 := Try.isAgg36
  z31 := Try.sizeOf36
  v31 := Try.zeroValue36 }
end Go.Proofs
namespace Go.Proofs.Ytjpmnholpeidmaa
open Go.RowKit Go.Sort
set_option linter.unusedVariables false
attribute [local go_sem ↓] Go.wp_at_zero Go.wp_at_succ
/-- Sorted, each once. -/
def srtB (ss : List (List UInt8)) : List (List UInt8) := Lib.compact (ss.mergeSort fun x y => decide (x ≤ y))
def noE (l : List (List UInt8)) : List (List UInt8) := match l with | [] :: r => r | l => l
def risB (ss : List (List UInt8)) : List (List UInt8) := noE (srtB ss)
theorem srtB_le (ss : List (List UInt8)) : (srtB ss).length ≤ ss.length := by
  have h := Lib.compact_length_le (ss.mergeSort fun x y => decide (x ≤ y))
  rw [List.length_mergeSort] at h
  exact h
theorem noE_head (a : UInt8) (s : List UInt8) (r : List (List UInt8)) : noE ((a :: s) :: r) = (a :: s) :: r := rfl
theorem risB_nil : risB [] = [] := by simp [risB, srtB, Lib.compact, Lib.compactUpTo, noE]
/-- Strings, where they are read: the own block of v. -/
def StrAt (w : World) (D : Option Nat) (ss : List (List UInt8)) (v : Value) : Prop := ∃ p cap, v = .slice p ss.length cap ∧ (p = none → cap = 0 ∧ ss.length = 0) ∧ (0 < ss.length → ∃ g o, p = some ⟨g, o, none⟩ ∧ some g = D ∧ g < w.heap.size ∧ ∀ j s, ss[j]? = some s → w.cell? ⟨g, o + j, none⟩ = some (encStr s))
theorem StrAt.kept {w w' : World} {D : Option Nat} {ss : List (List UInt8)} {v : Value} (h : StrAt w D ss v) (hs : w.heap.size ≤ w'.heap.size) (hk : ∀ k, some k = D → w'.heap[k]? = w.heap[k]?) : StrAt w' D ss v := by
  obtain ⟨p, cap, e, h1, h2⟩ := h
  refine ⟨p, cap, e, h1, fun hl => ?_⟩
  obtain ⟨g, o, e1, e2, e3, e4⟩ := h2 hl
  exact ⟨g, o, e1, e2, Nat.lt_of_lt_of_le e3 hs, fun j s hj => (World.cell?_of_block (a := ⟨g, o + j, none⟩) (hk g e2)).trans (e4 j s hj)⟩
/-- What sorting and compacting leave. -/
theorem rise_own {w : World} {B g cap n nn q : Nat} {os : Array Obj} {ss : List (List UInt8)} (hown : w.ownsRow B 9 1 (.slice (some ⟨g, 0, none⟩) n cap) n (ss.map encStr)) (hlen : ss.length = n) :
    (putRow encStr (Sort.ahead (grow (putRow encStr (Sort.ahead w nn) g 0 (ss.mergeSort fun x y => decide (x ≤ y)).toArray) os) q) g 0 (Lib.compact (ss.mergeSort fun x y => decide (x ≤ y)) ++ List.replicate (n - (Lib.compact (ss.mergeSort fun x y => decide (x ≤ y))).length) []).toArray).ownsRow B 9 1 (.slice (some ⟨g, 0, none⟩) (srtB ss).length cap) (srtB ss).length ((srtB ss).map encStr) ∧
    w.grownBy (putRow encStr (Sort.ahead (grow (putRow encStr (Sort.ahead w nn) g 0 (ss.mergeSort fun x y => decide (x ≤ y)).toArray) os) q) g 0 (Lib.compact (ss.mergeSort fun x y => decide (x ≤ y)) ++ List.replicate (n - (Lib.compact (ss.mergeSort fun x y => decide (x ≤ y))).length) []).toArray) (some g) := by
  have hl2 : (ss.mergeSort fun x y => decide (x ≤ y)).length = ss.length := List.length_mergeSort ss
  have hle := Lib.compact_length_le (ss.mergeSort fun x y => decide (x ≤ y))
  subst hlen
  rcases hown.2 with ⟨h0, _⟩ | ⟨g', cap', cur, hv, hbase, hb, h1, h2, h3, h4⟩
  · cases h0
  cases hv
  have hs := ownsRow_sorted (n := nn) (os := os) (ts := ss.mergeSort fun x y => decide (x ≤ y)) hl2 hbase hb h1 h2 h3
  have hc := Lib.ownsRow_putRow (q := q) (k := (Lib.compact (ss.mergeSort fun x y => decide (x ≤ y))).length) (ys := Lib.compact (ss.mergeSort fun x y => decide (x ≤ y)) ++ List.replicate (ss.length - (Lib.compact (ss.mergeSort fun x y => decide (x ≤ y))).length) []) hs (by simp; omega) (by omega)
  rw [List.take_left] at hc
  have hg := grownBy_sorted (w := w) (g := g) (n := nn) (os := os) (ss.mergeSort fun x y => decide (x ≤ y)).toArray
  refine ⟨hc, hg.os, hg.tape, hg.output, ?_, fun k hk hne => ?_⟩
  · simp [putRow, mapBlock, Sort.ahead, grow]
  · rw [← hg.block k hk hne]
    have hne2 : g ≠ k := fun e => hne (by rw [e])
    simp [putRow, mapBlock, Sort.ahead, Array.getElem?_modify, hne2]
theorem encStr_nil : encStr [] = .string ⟨#[]⟩ := rfl
theorem add0E (g j : Nat) : (⟨g, 0, none⟩ : Addr).add j = ⟨g, j, none⟩ := by simp only [Addr.add, Nat.zero_add]; split <;> simp_all
theorem enc_empty (a : UInt8) (s : List UInt8) : ((⟨(a :: s).toArray⟩ : ByteArray).toList.isEmpty) = false := by
  have h : (⟨(a :: s).toArray⟩ : ByteArray) ≠ noB := fun e => by
    have := congrArg (fun x : ByteArray => x.data.toList) e
    simp [noB] at this
  exact nonempty_of h
set_option maxHeartbeats 2000000 in
set_option maxRecDepth 100000 in
theorem rising_any (v : Value) (n B : Nat) (ss : List (List UInt8)) (w : World) (hown : w.ownsRow B 9 1 v n (ss.map encStr)) (hn : n < 1099511627776) :
    Calls Try.prog 23 #[v] w fun e w' => ∃ v', e = .returned v' ∧ StrAt w' v.ownBlock (risB ss) v' ∧ w.grownBy w' v.ownBlock := by
  by_cases hv : v = .slice none 0 0
  · subst hv
    have h0 : n = 0 := by
      rcases hown.2 with ⟨_, h⟩ | ⟨_, _, _, h, _⟩
      · exact h
      · cases h
    have hs0 : ss = [] := by
      have := hown.1
      rw [h0] at this
      exact List.eq_nil_of_length_eq_zero (by simpa using this)
    subst hs0
    have HSo := hid (show Calls Try.prog 46 #[.slice none 0 0] w _ from Any.slices_Sort_string_none Try.laysSort none 0 w)
    have HCo := hid (show Calls Try.prog 47 #[.slice none 0 0] w _ from Any.slices_Compact_string_empty Try.laysCompact none 0 w)
    clear hown hn
    go_enter Try.func23, Try.ntmps23
    go_wp2_with (first
      | (go_at_call 46; refine Calls.mono HSo.out ?_; rintro e w' ⟨rfl, rfl⟩)
      | (go_at_call 47; refine Calls.mono HCo.out ?_; rintro e w' ⟨rfl, rfl⟩))
    go_ret
    rw [risB_nil]
    exact ⟨_, rfl, ⟨none, 0, rfl, fun _ => ⟨rfl, rfl⟩, fun h => by exact absurd h (by decide)⟩, rfl, rfl, rfl, Nat.le_refl _, fun _ _ _ => rfl⟩
  · obtain ⟨g, cap, rfl, hbg, hgl, hncap, hcm, hlen, hH⟩ := Lib.holds_of_ownsRow hown hv
    have hsort := Any.slices_Sort_string Try.laysSort g 0 cap ss w hH hgl (by omega)
    rw [hlen] at hsort
    have HSo := hid (show Calls Try.prog 46 #[.slice (some ⟨g, 0, none⟩) n cap] w _ from hsort)
    have hl2 : (ss.mergeSort fun x y => decide (x ≤ y)).length = n := by rw [List.length_mergeSort]; exact hlen
    have HCo := hid (fun (nn : Nat) (os : Array Obj) => show Calls Try.prog 47 #[.slice (some ⟨g, 0, none⟩) n cap] (grow (putRow encStr (Sort.ahead w nn) g 0 (ss.mergeSort fun x y => decide (x ≤ y)).toArray) os) _ from by
      have hH2 : Holds encStr (grow (putRow encStr (Sort.ahead w nn) g 0 (ss.mergeSort fun x y => decide (x ≤ y)).toArray) os) g 0 (ss.mergeSort fun x y => decide (x ≤ y)).toArray :=
        holds_grow encStr _ os g 0 _ (by simpa [putRow, mapBlock, Sort.ahead] using hgl) (holds_putRow encStr _ g 0 _ _ (holds_ahead encStr w nn g 0 _ hH) (by simp))
      have hcomp := Any.slices_Compact_string Try.laysCompact g 0 cap (ss.mergeSort fun x y => decide (x ≤ y)) _ hH2 (by omega) (by omega)
      rw [hl2] at hcomp
      exact hcomp)
    have HRO := hid (fun (nn q : Nat) (os : Array Obj) => rise_own (nn := nn) (q := q) (os := os) hown hlen)
    have hle := srtB_le ss
    have hD : (Value.slice (some ⟨g, 0, none⟩) n cap).ownBlock = some g := rfl
    rw [hD]
    have hcap2 : (srtB ss).length ≤ cap := by omega
    have hsrt : (Lib.compact (ss.mergeSort fun x y => decide (x ≤ y))) = srtB ss := rfl
    unfold risB
    rw [hsrt] at HCo HRO
    generalize srtB ss = R at *
    generalize (ss.mergeSort fun x y => decide (x ≤ y)) = M at *
    clear hown hv hH hsort hl2 hsrt hbg
    cases R with
    | nil =>
      go_enter Try.func23, Try.ntmps23
      go_wp2_with (first
        | (go_at_call 46; refine Calls.mono HSo.out ?_; rintro e w2 ⟨rfl, nn, os, rfl⟩; have HC2 := hid (HCo.out nn os))
        | (go_at_call 47; refine Calls.mono HC2.out ?_; rintro e w3 ⟨rfl, q, hw3⟩; have HR3 := hid (HRO.out nn q os); rw [← hw3] at HR3; clear hw3))
      go_ret
      exact ⟨_, rfl, ⟨_, _, rfl, (fun e => by cases e), fun h => by exact absurd h (by decide)⟩, HR3.out.2⟩
    | cons s R =>
      have gp : ((R.length + 1 : Nat) : Int) > 0 := by omega
      cases s with
      | nil =>
        have gx : (⟨#[]⟩ : ByteArray).toList.isEmpty = true := by show noB.toList.isEmpty = true; rw [noB_list]; rfl
        have hc1 : 1 ≤ cap := by simp at hcap2; omega
        have HCP := hid (show R.length + 1 ≤ cap by simpa using hcap2)
        go_enter Try.func23, Try.ntmps23
        go_wp2_with (first
          | (go_at_call 46; refine Calls.mono HSo.out ?_; rintro e w2 ⟨rfl, nn, os, rfl⟩; have HC2 := hid (HCo.out nn os))
          | (go_at_call 47; (refine Calls.mono HC2.out ?_; rintro e w3 ⟨rfl, q, hw3⟩; have HR3 := hid (HRO.out nn q os); rw [← hw3] at HR3; clear hw3; have y0 : w3.cell? ⟨g, 0, none⟩ = some (.string ⟨#[]⟩) := (by have h := HR3.out.1.cells (g := g) rfl 0 (encStr []) rfl; rwa [add0E] at h))))
        · go_ret
          refine ⟨_, rfl, ⟨_, _, rfl, (fun e => by cases e), fun h => ?_⟩, HR3.out.2⟩
          have h2 : 0 < R.length := h
          have := HCP.out
          omega
        · go_ret
          refine ⟨_, rfl, ⟨_, _, rfl, (fun e => by cases e), fun h => ⟨g, 1, rfl, rfl, (HR3.out.1.lt g rfl).2, fun j s hj => ?_⟩⟩, HR3.out.2⟩
          have h2 : R[j]? = some s := hj
          have h3 := HR3.out.1.cells (g := g) rfl (j + 1) (encStr s) (by simp [h2])
          rw [add0E] at h3
          rw [Nat.add_comm 1 j]
          exact h3
      | cons a s =>
        have gx := enc_empty a s
        go_enter Try.func23, Try.ntmps23
        go_wp2_with (first
          | (go_at_call 46; refine Calls.mono HSo.out ?_; rintro e w2 ⟨rfl, nn, os, rfl⟩; have HC2 := hid (HCo.out nn os))
          | (go_at_call 47; (refine Calls.mono HC2.out ?_; rintro e w3 ⟨rfl, q, hw3⟩; have HR3 := hid (HRO.out nn q os); rw [← hw3] at HR3; clear hw3; have y0 : w3.cell? ⟨g, 0, none⟩ = some (.string ⟨(a :: s).toArray⟩) := (by have h := HR3.out.1.cells (g := g) rfl 0 (encStr (a :: s)) rfl; rwa [add0E] at h))))
        go_ret
        refine ⟨_, rfl, ⟨_, _, rfl, (fun e => by cases e), fun h => ⟨g, 0, rfl, rfl, (HR3.out.1.lt g rfl).2, fun j s2 hj => ?_⟩⟩, HR3.out.2⟩
        have h2 : ((a :: s) :: R)[j]? = some s2 := hj
        have h3 := HR3.out.1.cells (g := g) rfl j (encStr s2) (by rw [List.getElem?_map, h2]; rfl)
        rw [add0E] at h3
        rw [Nat.zero_add]
        exact h3
end Go.Proofs.Ytjpmnholpeidmaa

namespace Go.Proofs.Ytjpmnholpeidmaa
open Go.RowKit Go.Sort
set_option linter.unusedVariables false
attribute [local go_sem ↓] Go.wp_at_zero Go.wp_at_succ
theorem frz_ofE {w2 : World} {b : Nat} {cs : Array Value} {t : TypeId} (h : w2.heap[b]? = some (.cells cs t (0, 0))) : ∀ o, w2.frozen? ⟨b, o, none⟩ = false := fun o => by simp [World.frozen?, h]
def bsL (l : List ByteArray) : List (List UInt8) := l.map (·.data.toList)
theorem flat_enc (l : List ByteArray) : l.flatMap stC = (bsL l).map encStr := by
  unfold bsL
  rw [Lib.map_encStr]
  induction l with
  | nil => rfl
  | cons a r ih => rw [List.flatMap_cons, ih]; rfl
/-- The names of an item: those to which it sends, those that it calls. -/
def esI (it : It) : List Nv := if it.k = 2 then esB it.bd else []
def snI (it : It) : List (List UInt8) := risB (bsL (sdN (esI it)))
def caI (it : It) : List (List UInt8) := risB (bsL (clN (esI it)))
/-- Names in blocks of one's own. -/
def NewS (B : Nat) (w : World) (ss : List (List UInt8)) (v : Value) : Prop := ∃ D, StrAt w D ss v ∧ ∀ k, some k = D → B ≤ k
theorem own_end {bs bc : Nat} {w w6 w7 w8 : World} {L : List Nv} {Ds Dc : Option Nat} {v1 v2 : Value} {s1 s2 : List (List UInt8)} (hg : GE bs bc w6 L Ds Dc) (hb : Below w.heap.size w w6) (hbs : w.heap.size ≤ bs) (hbc : w.heap.size ≤ bc)
    (h1 : StrAt w7 Ds s1 v1) (g1 : w6.grownBy w7 Ds) (h2 : StrAt w8 Dc s2 v2) (g2 : w7.grownBy w8 Dc) :
    NewS w.heap.size ((w8.setCell ⟨bs, 0, none⟩ v1).setCell ⟨bc, 0, none⟩ v2) s1 v1 ∧ NewS w.heap.size ((w8.setCell ⟨bs, 0, none⟩ v1).setCell ⟨bc, 0, none⟩ v2) s2 v2 ∧ Below w.heap.size w ((w8.setCell ⟨bs, 0, none⟩ v1).setCell ⟨bc, 0, none⟩ v2) := by
  have hset : ∀ k, k ≠ bs → k ≠ bc → ((w8.setCell ⟨bs, 0, none⟩ v1).setCell ⟨bc, 0, none⟩ v2).heap[k]? = w8.heap[k]? := fun k a b => (Below.heap_setCell _ _ _ k b).trans (Below.heap_setCell _ _ _ k a)
  have hsz : ((w8.setCell ⟨bs, 0, none⟩ v1).setCell ⟨bc, 0, none⟩ v2).heap.size = w8.heap.size := by simp
  have l1 := fun k e => hg.s.lt.2 k e
  have l2 := fun k e => hg.c.lt.2 k e
  have n1 : ∀ k, some k = Ds → k ≠ bs ∧ k ≠ bc := fun k e => ⟨by have := (l1 k e).1; omega, fun e2 => hg.cs (by rw [← e2]; exact e)⟩
  have n2 : ∀ k, some k = Dc → k ≠ bs ∧ k ≠ bc := fun k e => ⟨fun e2 => hg.sc (by rw [← e2]; exact e), by have := (l2 k e).1; omega⟩
  refine ⟨⟨Ds, h1.kept (by rw [hsz]; exact g2.size) (fun k e => (hset k (n1 k e).1 (n1 k e).2).trans (g2.block k (Nat.lt_of_lt_of_le (l1 k e).2 g1.size) (fun e2 => hg.dd k e (by rw [e2])))), fun k e => by have := (l1 k e).1; omega⟩, ⟨Dc, h2.kept (by rw [hsz]; exact Nat.le_refl _) (fun k e => hset k (n2 k e).1 (n2 k e).2), fun k e => by have := (l2 k e).1; omega⟩, ?_⟩
  refine ⟨g2.os.trans (g1.os.trans hb.os), g2.tape.trans (g1.tape.trans hb.tape), g2.output.trans (g1.output.trans hb.output), by rw [hsz]; exact Nat.le_trans hb.size (Nat.le_trans g1.size g2.size), fun k hk => ?_⟩
  have hw := hb.size
  exact (hset k (by omega) (by omega)).trans ((g2.block k (by have := g1.size; omega) (fun e => by have := (l2 k e).1; omega)).trans ((g1.block k (by omega) (fun e => by have := (l1 k e).1; omega)).trans (hb.block k hk)))
set_option maxHeartbeats 4000000 in
set_option maxRecDepth 100000 in
theorem effOwn_any (it : It) (at_ : Int) (v : Value) (w : World) (ok : Nat → Prop) (hok : ∀ k, ok k → k < w.heap.size) (hI : RdI ok w at_ it v) (hn : (esI it).length < 1099511627776) :
    Calls Try.prog 7 #[v] w fun e w' => ∃ v1 v2, e = .returned (.tuple #[v1, v2]) ∧ NewS w.heap.size w' (snI it) v1 ∧ NewS w.heap.size w' (caI it) v2 ∧ Below w.heap.size w w' := by
  obtain ⟨p1, c1, p2, c2, p3, c3, p4, c4, rfl, _, _, ⟨nb, hB⟩, _⟩ := hI
  have hmf : ∀ (fn : Go.Fn) (first cap : Array Value) (w : World), (Instr.makeFunc fn first cap).run Try.prog w = .ok (.func fn first cap) w := fun _ _ _ _ => rfl
  have hsf := fun (a : Addr) (fn : Go.Fn) (x y : Array Value) (m : Mode) (w : World) => run_store Try.prog w a (.func fn x y) m rfl
  have hb1 := (Below.refl w.heap.size w).alloc (Nat.le_refl _) (.cells #[.int .i64 (it.k : Int), .string it.x, .int .i64 (it.l : Int), .slice p1 it.ps.length c1, .slice p2 it.ss.length c2, .slice p3 it.bd.length c3, .int .i64 at_, .int .i64 (it.sz : Int), .int .i64 (it.mrk : Int), .slice p4 it.ds.length c4] 35)
  have hb2 := hb1.alloc (by simp) (.cells #[.slice none 0 0] 36)
  have hb3 := hb2.alloc (by simp; omega) (.cells #[.slice none 0 0] 36)
  have z1 : (w.alloc (.cells #[.int .i64 (it.k : Int), .string it.x, .int .i64 (it.l : Int), .slice p1 it.ps.length c1, .slice p2 it.ss.length c2, .slice p3 it.bd.length c3, .int .i64 at_, .int .i64 (it.sz : Int), .int .i64 (it.mrk : Int), .slice p4 it.ds.length c4] 35)).heap.size = w.heap.size + 1 := by simp
  have z2 : ((w.alloc (.cells #[.int .i64 (it.k : Int), .string it.x, .int .i64 (it.l : Int), .slice p1 it.ps.length c1, .slice p2 it.ss.length c2, .slice p3 it.bd.length c3, .int .i64 at_, .int .i64 (it.sz : Int), .int .i64 (it.mrk : Int), .slice p4 it.ds.length c4] 35)).alloc (.cells #[.slice none 0 0] 36)).heap.size = w.heap.size + 1 + 1 := by simp
  have z3 : (((w.alloc (.cells #[.int .i64 (it.k : Int), .string it.x, .int .i64 (it.l : Int), .slice p1 it.ps.length c1, .slice p2 it.ss.length c2, .slice p3 it.bd.length c3, .int .i64 at_, .int .i64 (it.sz : Int), .int .i64 (it.mrk : Int), .slice p4 it.ds.length c4] 35)).alloc (.cells #[.slice none 0 0] 36)).alloc (.cells #[.slice none 0 0] 36)).heap.size = w.heap.size + 1 + 1 + 1 := by simp
  have hn0 := (Below.heap_alloc ((w.alloc (.cells #[.int .i64 (it.k : Int), .string it.x, .int .i64 (it.l : Int), .slice p1 it.ps.length c1, .slice p2 it.ss.length c2, .slice p3 it.bd.length c3, .int .i64 at_, .int .i64 (it.sz : Int), .int .i64 (it.mrk : Int), .slice p4 it.ds.length c4] 35)).alloc (.cells #[.slice none 0 0] 36)) (.cells #[.slice none 0 0] 36) w.heap.size (by omega)).trans ((Below.heap_alloc (w.alloc (.cells #[.int .i64 (it.k : Int), .string it.x, .int .i64 (it.l : Int), .slice p1 it.ps.length c1, .slice p2 it.ss.length c2, .slice p3 it.bd.length c3, .int .i64 at_, .int .i64 (it.sz : Int), .int .i64 (it.mrk : Int), .slice p4 it.ds.length c4] 35)) (.cells #[.slice none 0 0] 36) w.heap.size (by omega)).trans (heap_alloc_new w (.cells #[.int .i64 (it.k : Int), .string it.x, .int .i64 (it.l : Int), .slice p1 it.ps.length c1, .slice p2 it.ss.length c2, .slice p3 it.bd.length c3, .int .i64 at_, .int .i64 (it.sz : Int), .int .i64 (it.mrk : Int), .slice p4 it.ds.length c4] 35)))
  have hn1 := (Below.heap_alloc ((w.alloc (.cells #[.int .i64 (it.k : Int), .string it.x, .int .i64 (it.l : Int), .slice p1 it.ps.length c1, .slice p2 it.ss.length c2, .slice p3 it.bd.length c3, .int .i64 at_, .int .i64 (it.sz : Int), .int .i64 (it.mrk : Int), .slice p4 it.ds.length c4] 35)).alloc (.cells #[.slice none 0 0] 36)) (.cells #[.slice none 0 0] 36) (w.heap.size + 1) (by omega)).trans (show ((w.alloc (.cells #[.int .i64 (it.k : Int), .string it.x, .int .i64 (it.l : Int), .slice p1 it.ps.length c1, .slice p2 it.ss.length c2, .slice p3 it.bd.length c3, .int .i64 at_, .int .i64 (it.sz : Int), .int .i64 (it.mrk : Int), .slice p4 it.ds.length c4] 35)).alloc (.cells #[.slice none 0 0] 36)).heap[w.heap.size + 1]? = some (.cells #[.slice none 0 0] 36 (0, 0)) by have h := heap_alloc_new (w.alloc (.cells #[.int .i64 (it.k : Int), .string it.x, .int .i64 (it.l : Int), .slice p1 it.ps.length c1, .slice p2 it.ss.length c2, .slice p3 it.bd.length c3, .int .i64 at_, .int .i64 (it.sz : Int), .int .i64 (it.mrk : Int), .slice p4 it.ds.length c4] 35)) (.cells #[.slice none 0 0] 36); rw [z1] at h; exact h)
  have hn2 : (((w.alloc (.cells #[.int .i64 (it.k : Int), .string it.x, .int .i64 (it.l : Int), .slice p1 it.ps.length c1, .slice p2 it.ss.length c2, .slice p3 it.bd.length c3, .int .i64 at_, .int .i64 (it.sz : Int), .int .i64 (it.mrk : Int), .slice p4 it.ds.length c4] 35)).alloc (.cells #[.slice none 0 0] 36)).alloc (.cells #[.slice none 0 0] 36)).heap[w.heap.size + 1 + 1]? = some (.cells #[.slice none 0 0] 36 (0, 0)) := by have h := heap_alloc_new ((w.alloc (.cells #[.int .i64 (it.k : Int), .string it.x, .int .i64 (it.l : Int), .slice p1 it.ps.length c1, .slice p2 it.ss.length c2, .slice p3 it.bd.length c3, .int .i64 at_, .int .i64 (it.sz : Int), .int .i64 (it.mrk : Int), .slice p4 it.ds.length c4] 35)).alloc (.cells #[.slice none 0 0] 36)) (.cells #[.slice none 0 0] 36); rw [z2] at h; exact h
  obtain ⟨x0, x1, x2, x3, x4, x5, x6, x7, x8, x9, _⟩ := tenF_at hn0
  by_cases hk : it.k = 2
  · have g2 : ((it.k : Int) != 2) = false := by rw [hk]; rfl
    have he : esI it = esB it.bd := by unfold esI; rw [if_pos hk]
    unfold snI caI
    rw [he] at hn ⊢
    have hbN := hb3.alloc (by omega) (.cells #[.func (.func 20) #[] #[.pointer (some ⟨w.heap.size + 1, 0, none⟩)], .func (.func 21) #[] #[.pointer (some ⟨w.heap.size + 1 + 1, 0, none⟩)]] 51)
    have hb4 := hbN
    have hg3 : GE (w.heap.size + 1) (w.heap.size + 1 + 1) (((w.alloc (.cells #[.int .i64 (it.k : Int), .string it.x, .int .i64 (it.l : Int), .slice p1 it.ps.length c1, .slice p2 it.ss.length c2, .slice p3 it.bd.length c3, .int .i64 at_, .int .i64 (it.sz : Int), .int .i64 (it.mrk : Int), .slice p4 it.ds.length c4] 35)).alloc (.cells #[.slice none 0 0] 36)).alloc (.cells #[.slice none 0 0] 36)) [] none none := ⟨⟨_, hn1, World.ownsRow_nil _ _ _ _, rfl⟩, ⟨_, hn2, World.ownsRow_nil _ _ _ _, rfl⟩, by omega, (fun e => by cases e), (fun e => by cases e), fun k e => by cases e⟩
    have hb34 := (Below.refl (((w.alloc (.cells #[.int .i64 (it.k : Int), .string it.x, .int .i64 (it.l : Int), .slice p1 it.ps.length c1, .slice p2 it.ss.length c2, .slice p3 it.bd.length c3, .int .i64 at_, .int .i64 (it.sz : Int), .int .i64 (it.mrk : Int), .slice p4 it.ds.length c4] 35)).alloc (.cells #[.slice none 0 0] 36)).alloc (.cells #[.slice none 0 0] 36)).heap.size (((w.alloc (.cells #[.int .i64 (it.k : Int), .string it.x, .int .i64 (it.l : Int), .slice p1 it.ps.length c1, .slice p2 it.ss.length c2, .slice p3 it.bd.length c3, .int .i64 at_, .int .i64 (it.sz : Int), .int .i64 (it.mrk : Int), .slice p4 it.ds.length c4] 35)).alloc (.cells #[.slice none 0 0] 36)).alloc (.cells #[.slice none 0 0] 36))).alloc (Nat.le_refl _) (.cells #[.func (.func 20) #[] #[.pointer (some ⟨w.heap.size + 1, 0, none⟩)], .func (.func 21) #[] #[.pointer (some ⟨w.heap.size + 1 + 1, 0, none⟩)]] 51)
    have hg4 := hg3.below hb34
    have hz4 : ((((w.alloc (.cells #[.int .i64 (it.k : Int), .string it.x, .int .i64 (it.l : Int), .slice p1 it.ps.length c1, .slice p2 it.ss.length c2, .slice p3 it.bd.length c3, .int .i64 at_, .int .i64 (it.sz : Int), .int .i64 (it.mrk : Int), .slice p4 it.ds.length c4] 35)).alloc (.cells #[.slice none 0 0] 36)).alloc (.cells #[.slice none 0 0] 36)).alloc (.cells #[.func (.func 20) #[] #[.pointer (some ⟨w.heap.size + 1, 0, none⟩)], .func (.func 21) #[] #[.pointer (some ⟨w.heap.size + 1 + 1, 0, none⟩)]] 51)).heap.size = w.heap.size + 1 + 1 + 1 + 1 := by simp
    have hB4 : SlT (okZ (w.heap.size + 1) (w.heap.size + 1 + 1) none none ((((w.alloc (.cells #[.int .i64 (it.k : Int), .string it.x, .int .i64 (it.l : Int), .slice p1 it.ps.length c1, .slice p2 it.ss.length c2, .slice p3 it.bd.length c3, .int .i64 at_, .int .i64 (it.sz : Int), .int .i64 (it.mrk : Int), .slice p4 it.ds.length c4] 35)).alloc (.cells #[.slice none 0 0] 36)).alloc (.cells #[.slice none 0 0] 36)).alloc (.cells #[.func (.func 20) #[] #[.pointer (some ⟨w.heap.size + 1, 0, none⟩)], .func (.func 21) #[] #[.pointer (some ⟨w.heap.size + 1 + 1, 0, none⟩)]] 51))) (RdS nb (okZ (w.heap.size + 1) (w.heap.size + 1 + 1) none none ((((w.alloc (.cells #[.int .i64 (it.k : Int), .string it.x, .int .i64 (it.l : Int), .slice p1 it.ps.length c1, .slice p2 it.ss.length c2, .slice p3 it.bd.length c3, .int .i64 at_, .int .i64 (it.sz : Int), .int .i64 (it.mrk : Int), .slice p4 it.ds.length c4] 35)).alloc (.cells #[.slice none 0 0] 36)).alloc (.cells #[.slice none 0 0] 36)).alloc (.cells #[.func (.func 20) #[] #[.pointer (some ⟨w.heap.size + 1, 0, none⟩)], .func (.func 21) #[] #[.pointer (some ⟨w.heap.size + 1 + 1, 0, none⟩)]] 51))) ((((w.alloc (.cells #[.int .i64 (it.k : Int), .string it.x, .int .i64 (it.l : Int), .slice p1 it.ps.length c1, .slice p2 it.ss.length c2, .slice p3 it.bd.length c3, .int .i64 at_, .int .i64 (it.sz : Int), .int .i64 (it.mrk : Int), .slice p4 it.ds.length c4] 35)).alloc (.cells #[.slice none 0 0] 36)).alloc (.cells #[.slice none 0 0] 36)).alloc (.cells #[.func (.func 20) #[] #[.pointer (some ⟨w.heap.size + 1, 0, none⟩)], .func (.func 21) #[] #[.pointer (some ⟨w.heap.size + 1 + 1, 0, none⟩)]] 51))) ((((w.alloc (.cells #[.int .i64 (it.k : Int), .string it.x, .int .i64 (it.l : Int), .slice p1 it.ps.length c1, .slice p2 it.ss.length c2, .slice p3 it.bd.length c3, .int .i64 at_, .int .i64 (it.sz : Int), .int .i64 (it.mrk : Int), .slice p4 it.ds.length c4] 35)).alloc (.cells #[.slice none 0 0] 36)).alloc (.cells #[.slice none 0 0] 36)).alloc (.cells #[.func (.func 20) #[] #[.pointer (some ⟨w.heap.size + 1, 0, none⟩)], .func (.func 21) #[] #[.pointer (some ⟨w.heap.size + 1 + 1, 0, none⟩)]] 51)) 15 it.bd p3 := SlT.kept hB (fun k hk => hb4.block k (hok k hk)) (fun k hk => ⟨by have := hok k hk; omega, by have := hok k hk; omega, by have := hok k hk; omega, (fun e => by cases e), (fun e => by cases e)⟩) (RdS.kept nb (fun k hk => hb4.block k (hok k hk)) (fun k hk => ⟨by have := hok k hk; omega, by have := hok k hk; omega, by have := hok k hk; omega, (fun e => by cases e), (fun e => by cases e)⟩))
    have HC := hid (eff_block_any (bs := w.heap.size + 1) (bc := w.heap.size + 1 + 1) nb none none ((((w.alloc (.cells #[.int .i64 (it.k : Int), .string it.x, .int .i64 (it.l : Int), .slice p1 it.ps.length c1, .slice p2 it.ss.length c2, .slice p3 it.bd.length c3, .int .i64 at_, .int .i64 (it.sz : Int), .int .i64 (it.mrk : Int), .slice p4 it.ds.length c4] 35)).alloc (.cells #[.slice none 0 0] 36)).alloc (.cells #[.slice none 0 0] 36)).alloc (.cells #[.func (.func 20) #[] #[.pointer (some ⟨w.heap.size + 1, 0, none⟩)], .func (.func 21) #[] #[.pointer (some ⟨w.heap.size + 1 + 1, 0, none⟩)]] 51)) [] it.bd p3 c3 hg4 hB4 (by rw [List.nil_append]; exact hn))
    rw [List.nil_append] at HC
    have hnw := heap_alloc_new (((w.alloc (.cells #[.int .i64 (it.k : Int), .string it.x, .int .i64 (it.l : Int), .slice p1 it.ps.length c1, .slice p2 it.ss.length c2, .slice p3 it.bd.length c3, .int .i64 at_, .int .i64 (it.sz : Int), .int .i64 (it.mrk : Int), .slice p4 it.ds.length c4] 35)).alloc (.cells #[.slice none 0 0] 36)).alloc (.cells #[.slice none 0 0] 36)) (.cells #[.func (.func 20) #[] #[.pointer (some ⟨w.heap.size + 1, 0, none⟩)], .func (.func 21) #[] #[.pointer (some ⟨w.heap.size + 1 + 1, 0, none⟩)]] 51)
    rw [z3] at hnw
    obtain ⟨a0, a1⟩ := two_at hnw
    have af := frz_ofE hnw
    have x5' : ((((w.alloc (.cells #[.int .i64 (it.k : Int), .string it.x, .int .i64 (it.l : Int), .slice p1 it.ps.length c1, .slice p2 it.ss.length c2, .slice p3 it.bd.length c3, .int .i64 at_, .int .i64 (it.sz : Int), .int .i64 (it.mrk : Int), .slice p4 it.ds.length c4] 35)).alloc (.cells #[.slice none 0 0] 36)).alloc (.cells #[.slice none 0 0] 36)).alloc (.cells #[.func (.func 20) #[] #[.pointer (some ⟨w.heap.size + 1, 0, none⟩)], .func (.func 21) #[] #[.pointer (some ⟨w.heap.size + 1 + 1, 0, none⟩)]] 51)).cell? ⟨w.heap.size, 5, none⟩ = some (.slice p3 it.bd.length c3) := (World.cell?_of_block (a := ⟨w.heap.size, 5, none⟩) (hb34.block w.heap.size (by omega))).trans x5
    have HX5 := hid x5'
    have HB4 := hid hb4
    have HZ4 := hid hz4
    have HNL := hid (And.intro (Nat.lt_of_le_of_lt (sdN_len _) hn) (Nat.lt_of_le_of_lt (clN_len _) hn))
    generalize esB it.bd = L at *
    clear hb1 hb2 hb3 hb4 hb34 hbN hg3 hg4 hB4 hB hnw hn0 hn1 hn2 z1 z2 z3 hz4 hk he hn hok
    go_enter Try.func7, Try.ntmps7
    go_wp2_with (first
      | (go_at_call 22; (refine Calls.mono HC.out ?_; rintro e w5 ⟨rfl, Ds, Dc, hg5, hs5⟩; have hb5 : Below w.heap.size w w5 := HB4.out.trans ⟨hs5.os, hs5.tape, hs5.output, hs5.size, fun k hk => hs5.block k (by rw [HZ4.out]; omega) (by omega) (by omega) (fun e => by cases e) (fun e => by cases e)⟩)))
    have hdr := Below.drew (Below.refl w5.heap.size w5)
    have hg6 := hg5.below hdr
    have hb6 := hb5.trans (hdr.mono hb5.size)
    obtain ⟨vs, r1, r2, r3⟩ := hg6.s
    obtain ⟨vc, t1, t2, t3⟩ := hg6.c
    have cs5 : w5.cell? ⟨w.heap.size + 1, 0, none⟩ = some vs := cell_of_row _ _ 0 _ _ _ r1
    have cc5 : w5.cell? ⟨w.heap.size + 1 + 1, 0, none⟩ = some vc := cell_of_row _ _ 0 _ _ _ t1
    rw [flat_enc] at r2 t2
    have HR1 := hid (rising_any vs _ _ _ w5.drew r2 HNL.out.1)
    rw [r3] at HR1
    have HR2f := hid (fun (w7 : World) (g : w5.drew.grownBy w7 Ds) => show Calls Try.prog 23 #[vc] w7 _ from by
      have h := rising_any vc _ _ _ w7 (own_kept t2 (fun k e => g.block k ((t2.lt k e).2) (fun e2 => hg6.dd k e2 (by rw [← t3]; exact e.symm)))) HNL.out.2
      rw [t3] at h
      exact h)
    have HGE := hid (And.intro hg6 hb6)
    have hls := hg6.lt
    have HLS := hid hls
    have fs6 : ∀ o, w5.frozen? ⟨w.heap.size + 1, o, none⟩ = false := frz_ofE r1
    have fc6 : ∀ o, w5.frozen? ⟨w.heap.size + 1 + 1, o, none⟩ = false := frz_ofE t1
    have F1 : Hid (1 = 1) := rfl
    have HBK := hid (And.intro r1 t1)
    have hne12 : ¬ w.heap.size + 1 = w.heap.size + 1 + 1 := by omega
    clear r1 r2 t1 t2 hg5 hg6 hs5 hb5 hb6 hdr hls
    go_region_with
      (first
        | (go_at_call 23; have ff := F1; clear ff F1; refine Calls.mono HR1.out ?_; rintro e w7 ⟨v1, rfl, hS1, hG1⟩; obtain ⟨pA, cA, hvA, _⟩ := id hS1; subst hvA; have bs7 := (hG1.block (w.heap.size + 1) HLS.out.1.1 (fun e => by have := (HGE.out.1.s.lt.2 _ e).1; omega)).trans HBK.out.1; have bc7 := (hG1.block (w.heap.size + 1 + 1) HLS.out.2.1 HGE.out.1.cs).trans HBK.out.2; have cs7 := cell_of_row _ _ 0 _ _ _ bs7; have cc7 := cell_of_row _ _ 0 _ _ _ bc7; have HR2 := hid (HR2f.out w7 hG1))
        | (go_at_call 23; refine Calls.mono HR2.out ?_; rintro e w8 ⟨v2, rfl, hS2, hG2⟩; obtain ⟨pB, cB, hvB, _⟩ := id hS2; subst hvB; have bs8 := (hG2.block (w.heap.size + 1) (Nat.lt_of_lt_of_le HLS.out.1.1 hG1.size) HGE.out.1.sc).trans bs7; have bc8 := (hG2.block (w.heap.size + 1 + 1) (Nat.lt_of_lt_of_le HLS.out.2.1 hG1.size) (fun e => by have := (HGE.out.1.c.lt.2 _ e).1; omega)).trans bc7; have cs8 := cell_of_row _ _ 0 _ _ _ bs8; have cc8 := cell_of_row _ _ 0 _ _ _ bc8; have fs8 := frz_ofE bs8; have fc8 := frz_ofE bc8; clear bs7 bc7 bs8 bc8))
    all_goals
      have q1 : ((w8.setCell ⟨w.heap.size + 1, 0, none⟩ (.slice pA (risB (bsL (sdN L))).length cA)).setCell ⟨w.heap.size + 1 + 1, 0, none⟩ (.slice pB (risB (bsL (clN L))).length cB)).cell? ⟨w.heap.size + 1, 0, none⟩ = some (.slice pA (risB (bsL (sdN L))).length cA) := (World.cell?_setCell_other _ _ _ _ (by intro e; simp only [Addr.mk.injEq] at e; omega)).trans (World.cell?_setCell_same _ _ _ cs8)
      have q2 : ((w8.setCell ⟨w.heap.size + 1, 0, none⟩ (.slice pA (risB (bsL (sdN L))).length cA)).setCell ⟨w.heap.size + 1 + 1, 0, none⟩ (.slice pB (risB (bsL (clN L))).length cB)).cell? ⟨w.heap.size + 1 + 1, 0, none⟩ = some (.slice pB (risB (bsL (clN L))).length cB) := World.cell?_setCell_same _ _ _ ((World.cell?_setCell_other _ _ _ _ (by intro e; simp only [Addr.mk.injEq] at e; omega)).trans cc8)
      have hend := own_end HGE.out.1 HGE.out.2 (by omega) (by omega) hS1 hG1 hS2 hG2
      generalize (w8.setCell ⟨w.heap.size + 1, 0, none⟩ (.slice pA (risB (bsL (sdN L))).length cA)).setCell ⟨w.heap.size + 1 + 1, 0, none⟩ (.slice pB (risB (bsL (clN L))).length cB) = WE at *
      go_wp2
      exact bodyPost_ret (v := .tuple #[(.slice pA (risB (bsL (sdN L))).length cA), (.slice pB (risB (bsL (clN L))).length cB)]) (by simp [results, Try.results7, go_sem, q1, q2]) rfl ⟨_, _, rfl, hend⟩
  · have g2 : ((it.k : Int) != 2) = true := by simp; omega
    have he : esI it = [] := by unfold esI; rw [if_neg hk]
    unfold snI caI
    rw [he]
    have e1 : risB (bsL (sdN [])) = [] := risB_nil
    have e2 : risB (bsL (clN [])) = [] := risB_nil
    rw [e1, e2]
    have c1' : (((w.alloc (.cells #[.int .i64 (it.k : Int), .string it.x, .int .i64 (it.l : Int), .slice p1 it.ps.length c1, .slice p2 it.ss.length c2, .slice p3 it.bd.length c3, .int .i64 at_, .int .i64 (it.sz : Int), .int .i64 (it.mrk : Int), .slice p4 it.ds.length c4] 35)).alloc (.cells #[.slice none 0 0] 36)).alloc (.cells #[.slice none 0 0] 36)).cell? ⟨w.heap.size + 1, 0, none⟩ = some (.slice none 0 0) := cell_of_row _ _ 0 _ _ _ hn1
    have c2' : (((w.alloc (.cells #[.int .i64 (it.k : Int), .string it.x, .int .i64 (it.l : Int), .slice p1 it.ps.length c1, .slice p2 it.ss.length c2, .slice p3 it.bd.length c3, .int .i64 at_, .int .i64 (it.sz : Int), .int .i64 (it.mrk : Int), .slice p4 it.ds.length c4] 35)).alloc (.cells #[.slice none 0 0] 36)).alloc (.cells #[.slice none 0 0] 36)).cell? ⟨w.heap.size + 1 + 1, 0, none⟩ = some (.slice none 0 0) := cell_of_row _ _ 0 _ _ _ hn2
    have f1 : ∀ o, (((w.alloc (.cells #[.int .i64 (it.k : Int), .string it.x, .int .i64 (it.l : Int), .slice p1 it.ps.length c1, .slice p2 it.ss.length c2, .slice p3 it.bd.length c3, .int .i64 at_, .int .i64 (it.sz : Int), .int .i64 (it.mrk : Int), .slice p4 it.ds.length c4] 35)).alloc (.cells #[.slice none 0 0] 36)).alloc (.cells #[.slice none 0 0] 36)).frozen? ⟨w.heap.size + 1, o, none⟩ = false := frz_ofE hn1
    have f2 : ∀ o, (((w.alloc (.cells #[.int .i64 (it.k : Int), .string it.x, .int .i64 (it.l : Int), .slice p1 it.ps.length c1, .slice p2 it.ss.length c2, .slice p3 it.bd.length c3, .int .i64 at_, .int .i64 (it.sz : Int), .int .i64 (it.mrk : Int), .slice p4 it.ds.length c4] 35)).alloc (.cells #[.slice none 0 0] 36)).alloc (.cells #[.slice none 0 0] 36)).frozen? ⟨w.heap.size + 1 + 1, o, none⟩ = false := frz_ofE hn2
    have HB3 := hid hb3
    clear hb1 hb2 hb3 hn0 hn1 hn2 z1 z2 z3 hk he hn hok hB
    go_enter Try.func7, Try.ntmps7
    go_wp2
    refine bodyPost_ret (v := .tuple #[.slice none 0 0, .slice none 0 0]) (by simp [results, Try.results7, go_sem, c1', c2']) rfl ⟨_, _, rfl, ⟨none, ⟨none, 0, rfl, fun _ => ⟨rfl, rfl⟩, fun h => by exact absurd h (by decide)⟩, fun k e => by cases e⟩, ⟨none, ⟨none, 0, rfl, fun _ => ⟨rfl, rfl⟩, fun h => by exact absurd h (by decide)⟩, fun k e => by cases e⟩, HB3.out⟩
end Go.Proofs.Ytjpmnholpeidmaa

namespace Go.Proofs.Ytjpmnholpeidmaa
open Go.RowKit
set_option linter.unusedVariables false
/-- A name's bytes as Go has them. -/
def bA (s : List UInt8) : ByteArray := ⟨s.toArray⟩
theorem encStr_bA (s : List UInt8) : encStr s = .string (bA s) := rfl
/-- How many are not entered yet. -/
def cntF (en : List Bool) : Nat := en.countP (fun b => !b)
theorem cntF_set {en : List Bool} {i : Nat} (h : en[i]? = some false) : cntF (en.set i true) + 1 = cntF en := by
  unfold cntF
  induction en generalizing i with
  | nil => simp at h
  | cons b r ih =>
    cases i with
    | zero =>
      simp at h
      subst h
      simp
    | succ i =>
      simp at h
      have := ih h
      rw [List.set_cons_succ, List.countP_cons, List.countP_cons]
      omega
theorem cntF_zero {en : List Bool} (h : cntF en = 0) {i : Nat} (hi : i < en.length) : en[i]? = some true := by
  have h2 := List.countP_eq_zero.1 h en[i] (List.getElem_mem hi)
  rw [List.getElem?_eq_getElem hi]
  simpa using h2
section
variable (l : List (Int × It))
/-- From item i on: what is entered, and all names to which those send. -/
def dfs : Nat → List Bool × List (List UInt8) → Int → List Bool × List (List UInt8)
  | 0, st, _ => st
  | m + 1, st, i => if i < 0 ∨ (l.length : Int) ≤ i then st else match st.1[i.toNat]?, l[i.toNat]? with
    | some false, some e => (caI e.2).foldl (fun st s => dfs m st (fnd l 2 (bA s))) (st.1.set i.toNat true, st.2 ++ snI e.2)
    | _, _ => st
theorem dfs_len (m : Nat) : ∀ (st : List Bool × List (List UInt8)) (i : Int), (dfs l m st i).1.length = st.1.length ∧ cntF (dfs l m st i).1 ≤ cntF st.1 := by
  induction m with
  | zero => intro st i; exact ⟨rfl, Nat.le_refl _⟩
  | succ m ih =>
    intro st i
    unfold dfs
    split
    · exact ⟨rfl, Nat.le_refl _⟩
    · split
      · rename_i e h1 h2
        have hf : ∀ (ns : List (List UInt8)) (s0 : List Bool × List (List UInt8)), (ns.foldl (fun st s => dfs l m st (fnd l 2 (bA s))) s0).1.length = s0.1.length ∧ cntF (ns.foldl (fun st s => dfs l m st (fnd l 2 (bA s))) s0).1 ≤ cntF s0.1 := by
          intro ns
          induction ns with
          | nil => intro s0; exact ⟨rfl, Nat.le_refl _⟩
          | cons a r ihr =>
            intro s0
            rw [List.foldl_cons]
            have h3 := ihr (dfs l m s0 (fnd l 2 (bA a)))
            have h4 := ih s0 (fnd l 2 (bA a))
            exact ⟨h3.1.trans h4.1, Nat.le_trans h3.2 h4.2⟩
        have h5 := hf (caI e.2) (st.1.set i.toNat true, st.2 ++ snI e.2)
        have h6 := cntF_set h1
        refine ⟨by rw [h5.1]; exact List.length_set, Nat.le_trans h5.2 ?_⟩
        show cntF (st.1.set i.toNat true) ≤ _
        omega
      · exact ⟨rfl, Nat.le_refl _⟩
end
end Go.Proofs.Ytjpmnholpeidmaa

namespace Go.Proofs.Ytjpmnholpeidmaa
open Go.RowKit Go.Sort
set_option linter.unusedVariables false
attribute [local go_sem ↓] Go.wp_at_zero Go.wp_at_succ
def fnE (bf be ba bn : Nat) : Value := .func (.func 43) #[] #[.pointer (some ⟨bf, 0, none⟩), .pointer (some ⟨be, 0, none⟩), .pointer (some ⟨ba, 0, none⟩), .pointer (some ⟨bn, 0, none⟩)]
/-- The closure's variables in memory. -/
structure SE (bf be ba bn ge : Nat) (l : List (Int × It)) (fq : Option Addr) (fc ce : Nat) (w : World) (st : List Bool × List (List UInt8)) (Da : Option Nat) : Prop where
  f : w.cell? ⟨bf, 0, none⟩ = some (.slice fq l.length fc)
  r : RdF (fun k => k < bf) w l (.agg #[.slice fq l.length fc])
  e : w.cell? ⟨be, 0, none⟩ = some (.slice (some ⟨ge, 0, none⟩) l.length ce)
  b : (∃ cur, w.heap[ge]? = some (.cells cur 4 (0, 0))) ∧ ∀ j x, st.1[j]? = some x → w.cell? ⟨ge, j, none⟩ = some (.bool x)
  a : Cpt 36 9 1 ba w (st.2.map encStr) st.2.length Da
  n : w.cell? ⟨bn, 0, none⟩ = some (fnE bf be ba bn)
  len : st.1.length = l.length
  lo : bf < be ∧ bf < ba ∧ bf < bn ∧ bf < ge ∧ be < w.heap.size ∧ bn < w.heap.size
  ne : be ≠ ba ∧ be ≠ ge ∧ bn ≠ ba ∧ bn ≠ ge ∧ ba ≠ ge
  dd : some be ≠ Da ∧ some bn ≠ Da ∧ some ge ≠ Da
section
variable {bf be ba bn ge : Nat} {l : List (Int × It)} {fq : Option Addr} {fc ce : Nat} {w w' : World} {st : List Bool × List (List UInt8)} {Da : Option Nat}
theorem SE.below (h : SE bf be ba bn ge l fq fc ce w st Da) (hb : Below w.heap.size w w') : SE bf be ba bn ge l fq fc ce w' st Da := by
  obtain ⟨cur, hc⟩ := h.b.1
  have hge := (Array.getElem?_eq_some_iff.1 hc).1
  have hlo := h.lo
  exact ⟨cell_onF hb h.f, RdF.kept h.r (fun k hk => hb.block k (by omega)) (fun _ h => h), cell_onF hb h.e, ⟨⟨cur, (hb.block ge hge).trans hc⟩, fun j x hj => cell_onF hb (h.b.2 j x hj)⟩, h.a.kept (hb.block ba h.a.lt.1) (fun k e => hb.block k (h.a.lt.2 k e).2), cell_onF hb h.n, h.len, ⟨hlo.1, hlo.2.1, hlo.2.2.1, hlo.2.2.2.1, Nat.lt_of_lt_of_le hlo.2.2.2.2.1 hb.size, Nat.lt_of_lt_of_le hlo.2.2.2.2.2 hb.size⟩, h.ne, h.dd⟩
/-- An item is entered. -/
theorem SE.enter (h : SE bf be ba bn ge l fq fc ce w st Da) {i : Nat} (hi : i < l.length) : SE bf be ba bn ge l fq fc ce (w.setCell ⟨ge, i, none⟩ (.bool true)) (st.1.set i true, st.2) Da ∧ Stz ba ge Da none Da none w (w.setCell ⟨ge, i, none⟩ (.bool true)) := by
  obtain ⟨cur, hc⟩ := h.b.1
  have hge := (Array.getElem?_eq_some_iff.1 hc).1
  have hlo := h.lo
  have hne := h.ne
  have hblk : ∀ z, z ≠ ge → (w.setCell ⟨ge, i, none⟩ (.bool true)).heap[z]? = w.heap[z]? := fun z hz => Below.heap_setCell _ _ _ z hz
  have hcl : ∀ z, z ≠ ge → ∀ o, (w.setCell ⟨ge, i, none⟩ (.bool true)).cell? ⟨z, o, none⟩ = w.cell? ⟨z, o, none⟩ := fun z hz o => World.cell?_of_block (a := ⟨z, o, none⟩) (hblk z hz)
  obtain ⟨x0, hx0⟩ : ∃ x, st.1[i]? = some x := ⟨_, List.getElem?_eq_getElem (by rw [h.len]; exact hi)⟩
  refine ⟨⟨(hcl bf (by omega) 0).trans h.f, RdF.kept h.r (fun k hk => hblk k (by omega)) (fun _ h => h), (hcl be hne.2.1 0).trans h.e, ⟨⟨cur.setIfInBounds i (.bool true), by simp [World.setCell, Array.getElem?_modify, hc]⟩, fun j x hj => ?_⟩, h.a.kept (hblk ba hne.2.2.2.2) (fun k e => hblk k (fun e2 => h.dd.2.2 (by rw [← e2]; exact e))), (hcl bn hne.2.2.2.1 0).trans h.n, by show (st.1.set i true).length = _; rw [List.length_set]; exact h.len, ⟨hlo.1, hlo.2.1, hlo.2.2.1, hlo.2.2.2.1, by simpa using hlo.2.2.2.2.1, by simpa using hlo.2.2.2.2.2⟩, hne, h.dd⟩, rfl, rfl, rfl, by simp, fun k hk _ k2 _ _ => hblk k k2, .inl rfl, .inl rfl⟩
  have hj : (st.1.set i true)[j]? = some x := hj
  rw [List.getElem?_set] at hj
  by_cases hij : i = j
  · subst hij
    rw [if_pos rfl, if_pos (by rw [h.len]; exact hi)] at hj
    injection hj with hj
    subst hj
    exact World.cell?_setCell_same _ _ _ (h.b.2 i x0 hx0)
  · rw [if_neg hij] at hj
    exact (World.cell?_setCell_other _ _ _ _ (by intro e; simp only [Addr.mk.injEq] at e; omega)).trans (h.b.2 j x hj)
/-- Names are put behind the others. -/
theorem SE.names (h : SE bf be ba bn ge l fq fc ce w st Da) {v v' : Value} {w6 : World} {ns : List (List UInt8)} (h1 : w.heap[ba]? = some (.cells #[v] 36 (0, 0))) (h3 : v.ownBlock = Da) (hlt : ∀ k, some k = Da → ba < k ∧ k < w.heap.size) (hown : w6.ownsRow (ba + 1) 9 1 v' (st.2.length + ns.length) (st.2.map encStr ++ ns.map encStr)) (hg : w.grownBy w6 v.ownBlock) (hat : v'.ownBlock = v.ownBlock ∨ v'.ownBlock = some w.heap.size) :
    SE bf be ba bn ge l fq fc ce (w6.setCell ⟨ba, 0, none⟩ v') (st.1, st.2 ++ ns) v'.ownBlock ∧ Stz ba ge Da none v'.ownBlock none w (w6.setCell ⟨ba, 0, none⟩ v') := by
  have hlo := h.lo
  have hne := h.ne
  have hdd := h.dd
  obtain ⟨cur, hc⟩ := h.b.1
  have hgl := (Array.getElem?_eq_some_iff.1 hc).1
  have hba := h.a.lt.1
  have hbaD : some ba ≠ Da := fun e => by have := (hlt ba e).1; omega
  have hblk : ∀ z, z < w.heap.size → z ≠ ba → some z ≠ Da → (w6.setCell ⟨ba, 0, none⟩ v').heap[z]? = w.heap[z]? := fun z hz h2 h4 => (Below.heap_setCell _ _ _ z h2).trans (hg.block z hz (by rw [h3]; exact h4))
  have hcl : ∀ z, z < w.heap.size → z ≠ ba → some z ≠ Da → ∀ o, (w6.setCell ⟨ba, 0, none⟩ v').cell? ⟨z, o, none⟩ = w.cell? ⟨z, o, none⟩ := fun z a b c o => World.cell?_of_block (a := ⟨z, o, none⟩) (hblk z a b c)
  have hlowD : ∀ z, z ≤ bf → some z ≠ Da := fun z hz e => by have := (hlt z e).1; omega
  have hbb : w6.heap[ba]? = some (.cells #[v] 36 (0, 0)) := (hg.block ba hba (by rw [h3]; exact hbaD)).trans h1
  have hnew : ∀ z, z < w.heap.size → some z ≠ Da → some z ≠ v'.ownBlock := fun z hz hd e => by
    rcases hat with e2 | e2
    · rw [e2, h3] at e; exact hd e
    · rw [e2] at e; injection e with e; omega
  have hownlt : ∀ k, v'.ownBlock = some k → ba + 1 ≤ k := fun k e => (hown.lt k e).1
  refine ⟨⟨(hcl bf (by omega) (by omega) (hlowD bf (Nat.le_refl _)) 0).trans h.f, RdF.kept h.r (fun k hk => hblk k (by omega) (by omega) (hlowD k (by omega))) (fun _ h => h), (hcl be hlo.2.2.2.2.1 hne.1 hdd.1 0).trans h.e, ⟨⟨cur, (hblk ge hgl (Ne.symm hne.2.2.2.2) hdd.2.2).trans hc⟩, fun j x hj => (hcl ge hgl (Ne.symm hne.2.2.2.2) hdd.2.2 j).trans (h.b.2 j x hj)⟩, ⟨v', by simp [World.setCell, Array.getElem?_modify, hbb], ?_, rfl⟩, (hcl bn hlo.2.2.2.2.2 hne.2.2.1 hdd.2.1 0).trans h.n, h.len, ⟨hlo.1, hlo.2.1, hlo.2.2.1, hlo.2.2.2.1, by have := hg.size; simp; omega, by have := hg.size; simp; omega⟩, hne, hnew be hlo.2.2.2.2.1 hdd.1, hnew bn hlo.2.2.2.2.2 hdd.2.1, hnew ge hgl hdd.2.2⟩, ⟨hg.os, hg.tape, hg.output, by simpa using hg.size, fun k hk a b c d => hblk k hk a c, ?_, .inl rfl⟩⟩
  · show World.ownsRow _ _ _ _ _ (st.2 ++ ns).length ((st.2 ++ ns).map encStr)
    rw [List.length_append, List.map_append]
    exact ownsRow_setCell_other hown (a := ⟨ba, 0, none⟩) (fun e => by have := hownlt ba e; omega) v'
  · rcases hat with e2 | e2
    · exact .inl (by rw [e2, h3])
    · exact .inr ⟨_, e2, Nat.le_refl _⟩
end
end Go.Proofs.Ytjpmnholpeidmaa

namespace Go.Proofs.Ytjpmnholpeidmaa
open Go.RowKit Go.Sort
set_option linter.unusedVariables false
attribute [local go_sem ↓] Go.wp_at_zero Go.wp_at_succ
def CEn (bf be ba bn ge : Nat) (l : List (Int × It)) (fq : Option Addr) (fc ce m : Nat) : Prop := ∀ (Da : Option Nat) (w : World) (st : List Bool × List (List UInt8)) (i : Int), SE bf be ba bn ge l fq fc ce w st Da → cntF st.1 ≤ m → (dfs l m st i).2.length < 1099511627776 →
  Calls Try.prog 43 #[.int .i64 i, .pointer (some ⟨bf, 0, none⟩), .pointer (some ⟨be, 0, none⟩), .pointer (some ⟨ba, 0, none⟩), .pointer (some ⟨bn, 0, none⟩)] w fun ex w' => ex = .returned (.tuple #[]) ∧ ∃ Da', SE bf be ba bn ge l fq fc ce w' (dfs l m st i) Da' ∧ Stz ba ge Da none Da' none w w'
section
variable {bf be ba bn ge : Nat} {l : List (Int × It)} {fq : Option Addr} {fc ce : Nat}
set_option maxHeartbeats 1000000 in
set_option maxRecDepth 100000 in
theorem enter_skip {Da : Option Nat} {w : World} {st : List Bool × List (List UInt8)} (h : SE bf be ba bn ge l fq fc ce w st Da) (i : Int) (hi : i < 0 ∨ (l.length : Int) ≤ i ∨ st.1[i.toNat]? = some true) :
    Calls Try.prog 43 #[.int .i64 i, .pointer (some ⟨bf, 0, none⟩), .pointer (some ⟨be, 0, none⟩), .pointer (some ⟨ba, 0, none⟩), .pointer (some ⟨bn, 0, none⟩)] w fun ex w' => ex = .returned (.tuple #[]) ∧ ∃ Da', SE bf be ba bn ge l fq fc ce w' st Da' ∧ Stz ba ge Da none Da' none w w' := by
  have HS := hid h
  have c0 := h.f
  have c1 := h.e
  have hlen : l.length ≤ 1099511627776 := by obtain ⟨_, _, _, h, _⟩ := h.r; exact h
  by_cases h0 : i < 0
  · have g0 : decide (i < 0) = true := by simpa using h0
    clear h hi
    go_enter Try.func43, Try.ntmps43
    go_wp2
    exact bodyPost_ret (v := .tuple #[]) (by simp [results, Try.results43, go_sem]) rfl ⟨rfl, Da, HS.out, Stz.refl _ _ _ _ _⟩
  · have g0 : decide (i < 0) = false := by simpa using h0
    by_cases h1 : (l.length : Int) ≤ i
    · have g1 : decide (i ≥ (l.length : Int)) = true := by simpa using h1
      clear h hi
      go_enter Try.func43, Try.ntmps43
      go_wp2
      exact bodyPost_ret (v := .tuple #[]) (by simp [results, Try.results43, go_sem]) rfl ⟨rfl, Da, HS.out, Stz.refl _ _ _ _ _⟩
    · have g1 : decide (i ≥ (l.length : Int)) = false := by simpa using h1
      obtain ⟨k, rfl⟩ : ∃ k : Nat, i = (k : Int) := ⟨i.toNat, by omega⟩
      have hk : st.1[k]? = some true := by
        rcases hi with h2 | h2 | h2
        · omega
        · omega
        · simpa using h2
      have c2 := h.b.2 k true hk
      have gk : (0 : Int) ≤ (k : Int) := by omega
      have gk1 : (k : Int) < (l.length : Int) := by omega
      have hkb : k < 1099511627776 := by omega
      clear h hi hk
      go_enter Try.func43, Try.ntmps43
      go_wp2
      exact bodyPost_ret (v := .tuple #[]) (by simp [results, Try.results43, go_sem]) rfl ⟨rfl, Da, HS.out, Stz.refl _ _ _ _ _⟩
theorem dfs_more (l : List (Int × It)) (m : Nat) : ∀ (st : List Bool × List (List UInt8)) (i : Int), st.2.length ≤ (dfs l m st i).2.length := by
  induction m with
  | zero => intro st i; exact Nat.le_refl _
  | succ m ih =>
    intro st i
    unfold dfs
    split
    · exact Nat.le_refl _
    · split
      · rename_i e h1 h2
        have hf : ∀ (ns : List (List UInt8)) (s0 : List Bool × List (List UInt8)), s0.2.length ≤ (ns.foldl (fun st s => dfs l m st (fnd l 2 (bA s))) s0).2.length := by
          intro ns
          induction ns with
          | nil => intro s0; exact Nat.le_refl _
          | cons a r ihr => intro s0; rw [List.foldl_cons]; exact Nat.le_trans (ih s0 _) (ihr _)
        refine Nat.le_trans ?_ (hf (caI e.2) _)
        show st.2.length ≤ (st.2 ++ snI e.2).length
        rw [List.length_append]
        omega
      · exact Nat.le_refl _
/-- The first j calls. -/
def foE (l : List (Int × It)) (m : Nat) (ns : List (List UInt8)) (s0 : List Bool × List (List UInt8)) : List Bool × List (List UInt8) := ns.foldl (fun st s => dfs l m st (fnd l 2 (bA s))) s0
theorem foE_take (l : List (Int × It)) (m : Nat) {ns : List (List UInt8)} {j : Nat} {s : List UInt8} (s0 : List Bool × List (List UInt8)) (h : ns[j]? = some s) : foE l m (ns.take (j + 1)) s0 = dfs l m (foE l m (ns.take j) s0) (fnd l 2 (bA s)) := by
  unfold foE
  rw [List.take_add_one, h, List.foldl_append]
  rfl
theorem foE_facts (l : List (Int × It)) (m : Nat) : ∀ (ns : List (List UInt8)) (s0 : List Bool × List (List UInt8)), cntF (foE l m ns s0).1 ≤ cntF s0.1 ∧ s0.2.length ≤ (foE l m ns s0).2.length := by
  intro ns
  induction ns with
  | nil => intro s0; exact ⟨Nat.le_refl _, Nat.le_refl _⟩
  | cons a r ih =>
    intro s0
    have h := ih (dfs l m s0 (fnd l 2 (bA a)))
    exact ⟨Nat.le_trans h.1 (dfs_len l m s0 _).2, Nat.le_trans (dfs_more l m s0 _) h.2⟩
theorem foE_less (l : List (Int × It)) (m : Nat) (ns : List (List UInt8)) (s0 : List Bool × List (List UInt8)) (j : Nat) : (foE l m (ns.take j) s0).2.length ≤ (foE l m ns s0).2.length := by
  have h : foE l m ns s0 = foE l m (ns.drop j) (foE l m (ns.take j) s0) := by unfold foE; rw [← List.foldl_append, List.take_append_drop]
  rw [h]
  exact (foE_facts l m (ns.drop j) _).2
def RelEn (bf be ba bn ge : Nat) (l : List (Int × It)) (fq : Option Addr) (fc ce : Nat) (Da : Option Nat) (W : World) (M : Nat → List Bool × List (List UInt8)) (n : Nat) (j : Value) (wr : World) : Prop := ∃ (k : Nat) (Da' : Option Nat), k ≤ n ∧ j = .int .i64 (k : Int) ∧ SE bf be ba bn ge l fq fc ce wr (M k) Da' ∧ Stz ba ge Da none Da' none W wr
end
end Go.Proofs.Ytjpmnholpeidmaa


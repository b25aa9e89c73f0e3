/- Texts of this seat, one behind the other: OwnClone, OwnList, OwnExpr, OwnStmt, OwnItem. -/
import Derived.Test.YtdkpfnohdknldaaGreatDoorZb12
import Derived.Test.YtdkpfnohdknldaaGreatDoorZb11
import Derived.Test.YtdkpfnohdknldaaGreatDoorZb05
namespace Go.Proofs.YtdkpfnohdknldaaGreatDoor
open Go.RowKit
attribute [local go_sem ↓] Go.wp_at_zero Go.wp_at_succ
theorem own_empty (w : World) (T : TypeId) (st : Nat) : (w.alloc (.cells #[] T)).ownsRow w.heap.size T st (.slice (some ⟨w.heap.size, 0, none⟩) 0 0) 0 [] :=
 ⟨by simp, .inr ⟨w.heap.size, 0, #[], rfl, Nat.le_refl _, heap_alloc_new w _, Nat.le_refl _, by unfold maxLen; omega, by simp, by simp⟩⟩
theorem add0 (g j : Nat) : (⟨g, 0, none⟩ : Addr).add j = ⟨g, j, none⟩ := by simp only [Addr.add, Nat.zero_add]; split <;> simp_all
theorem slnilPm (a : Addr) (n c : Nat) (w : World) : (binOp .eql 31 (.slice (some a) n c) (.slice none 0 0)).run Tryz.prog w = .ok (.bool false) w := by kernel_rfl
theorem slnonePm (n c : Nat) (w : World) : (binOp .eql 31 (.slice none n c) (.slice none 0 0)).run Tryz.prog w = .ok (.bool true) w := by kernel_rfl
set_option maxHeartbeats 1000000 in
set_option maxRecDepth 100000 in
theorem clonePm_any (g n c : Nat) (xs : List Value) (w : World) (hn : 0 < n) (hn2 : n ≤ 1099511627776) (hx : xs.length = n * 3) (hone : ∀ u ∈ xs, u.oneCell' = true) (hc : ∀ j u, xs[j]? = some u → w.cell? ⟨g, j, none⟩ = some u) :
  Calls Tryz.prog 51 #[.slice (some ⟨g, 0, none⟩) n c] w fun e w' => ∃ g' c', e = .returned (.slice (some ⟨g', 0, none⟩) n c') ∧ w'.ownsRow w.heap.size 62 3 (.slice (some ⟨g', 0, none⟩) n c') n xs ∧ Below w.heap.size w w' := by
 obtain ⟨i0, hi0, hz0, hz1, hz2⟩ := info_parts Tryz.infoPm
 have hnl := slnilPm ⟨g, 0, none⟩ n c
 have hmax : 0 + n ≤ maxLen := by unfold maxLen; omega
 have hby : (0 + n) * 32 ≤ 140737488355328 := by omega
 have hnews : ∀ j u, xs[j]? = some u → (w.alloc (.cells #[] 62)).cell? ((⟨g, 0, none⟩ : Addr).add j) = some u := fun j u h => by rw [add0]; exact cell_alloc (hc j u h) _
 clear hc
 go_enter Tryz.func51, Tryz.ntmps51
 go_wp2_with (first
  | (at_builtin; refine wpList_append_lies _ rfl (.tmp 5) (.tmp 6) 31 rfl w.heap.size 62 i0 _ 3 32 Tryz.underlying31 hi0 hz0 hz1 hz2 rfl (by decide) _ _ _ rfl (own_empty w 62 3) ⟨g, 0, none⟩ n c xs rfl hx hnews hone hn hmax hby (by simp) _ rfl ?_; intro g6 cap6 w6 hown6 hgrow6 hat6 hlt6))
 go_ret
 rw [Nat.zero_add] at hown6
 exact ⟨g6, cap6, rfl, hown6, ((Below.refl w.heap.size w).alloc (Nat.le_refl _) _).grown hgrow6 (by simp) (fun j hj => by cases hj; exact Nat.le_refl _)⟩
set_option maxHeartbeats 1000000 in
set_option maxRecDepth 100000 in
theorem clonePm_none (p : Option Addr) (c : Nat) (w : World) :
  Calls Tryz.prog 51 #[.slice p 0 c] w fun e w' => ∃ q c', e = .returned (.slice q 0 c') ∧ Below w.heap.size w w' := by
 cases p with
 | none =>
  have hnl := slnonePm 0 c
  go_enter Tryz.func51, Tryz.ntmps51
  go_wp2
  go_ret
  exact ⟨_, _, rfl, Below.refl _ _⟩
 | some a =>
  have hnl := slnilPm a 0 c
  go_enter Tryz.func51, Tryz.ntmps51
  go_wp2
  go_ret
  exact ⟨_, _, rfl, (Below.refl w.heap.size w).alloc (Nat.le_refl _) _⟩
theorem slnilRf (a : Addr) (n c : Nat) (w : World) : (binOp .eql 32 (.slice (some a) n c) (.slice none 0 0)).run Tryz.prog w = .ok (.bool false) w := by kernel_rfl
theorem slnoneRf (n c : Nat) (w : World) : (binOp .eql 32 (.slice none n c) (.slice none 0 0)).run Tryz.prog w = .ok (.bool true) w := by kernel_rfl
set_option maxHeartbeats 1000000 in
set_option maxRecDepth 100000 in
theorem cloneRf_any (g n c : Nat) (xs : List Value) (w : World) (hn : 0 < n) (hn2 : n ≤ 1099511627776) (hx : xs.length = n * 2) (hone : ∀ u ∈ xs, u.oneCell' = true) (hc : ∀ j u, xs[j]? = some u → w.cell? ⟨g, j, none⟩ = some u) :
  Calls Tryz.prog 52 #[.slice (some ⟨g, 0, none⟩) n c] w fun e w' => ∃ g' c', e = .returned (.slice (some ⟨g', 0, none⟩) n c') ∧ w'.ownsRow w.heap.size 45 2 (.slice (some ⟨g', 0, none⟩) n c') n xs ∧ Below w.heap.size w w' := by
 obtain ⟨i0, hi0, hz0, hz1, hz2⟩ := info_parts Tryz.infoRf
 have hnl := slnilRf ⟨g, 0, none⟩ n c
 have hmax : 0 + n ≤ maxLen := by unfold maxLen; omega
 have hby : (0 + n) * 24 ≤ 140737488355328 := by omega
 have hnews : ∀ j u, xs[j]? = some u → (w.alloc (.cells #[] 45)).cell? ((⟨g, 0, none⟩ : Addr).add j) = some u := fun j u h => by rw [add0]; exact cell_alloc (hc j u h) _
 clear hc
 go_enter Tryz.func52, Tryz.ntmps52
 go_wp2_with (first
  | (at_builtin; refine wpList_append_lies _ rfl (.tmp 5) (.tmp 6) 32 rfl w.heap.size 45 i0 _ 2 24 Tryz.underlying32 hi0 hz0 hz1 hz2 rfl (by decide) _ _ _ rfl (own_empty w 45 2) ⟨g, 0, none⟩ n c xs rfl hx hnews hone hn hmax hby (by simp) _ rfl ?_; intro g6 cap6 w6 hown6 hgrow6 hat6 hlt6))
 go_ret
 rw [Nat.zero_add] at hown6
 exact ⟨g6, cap6, rfl, hown6, ((Below.refl w.heap.size w).alloc (Nat.le_refl _) _).grown hgrow6 (by simp) (fun j hj => by cases hj; exact Nat.le_refl _)⟩
set_option maxHeartbeats 1000000 in
set_option maxRecDepth 100000 in
theorem cloneRf_none (p : Option Addr) (c : Nat) (w : World) :
  Calls Tryz.prog 52 #[.slice p 0 c] w fun e w' => ∃ q c', e = .returned (.slice q 0 c') ∧ Below w.heap.size w w' := by
 cases p with
 | none =>
  have hnl := slnoneRf 0 c
  go_enter Tryz.func52, Tryz.ntmps52
  go_wp2
  go_ret
  exact ⟨_, _, rfl, Below.refl _ _⟩
 | some a =>
  have hnl := slnilRf a 0 c
  go_enter Tryz.func52, Tryz.ntmps52
  go_wp2
  go_ret
  exact ⟨_, _, rfl, (Below.refl w.heap.size w).alloc (Nat.le_refl _) _⟩
theorem slnilDg (a : Addr) (n c : Nat) (w : World) : (binOp .eql 34 (.slice (some a) n c) (.slice none 0 0)).run Tryz.prog w = .ok (.bool false) w := by kernel_rfl
theorem slnoneDg (n c : Nat) (w : World) : (binOp .eql 34 (.slice none n c) (.slice none 0 0)).run Tryz.prog w = .ok (.bool true) w := by kernel_rfl
set_option maxHeartbeats 1000000 in
set_option maxRecDepth 100000 in
theorem cloneDg_any (g n c : Nat) (xs : List Value) (w : World) (hn : 0 < n) (hn2 : n ≤ 1099511627776) (hx : xs.length = n * 4) (hone : ∀ u ∈ xs, u.oneCell' = true) (hc : ∀ j u, xs[j]? = some u → w.cell? ⟨g, j, none⟩ = some u) :
  Calls Tryz.prog 54 #[.slice (some ⟨g, 0, none⟩) n c] w fun e w' => ∃ g' c', e = .returned (.slice (some ⟨g', 0, none⟩) n c') ∧ w'.ownsRow w.heap.size 65 4 (.slice (some ⟨g', 0, none⟩) n c') n xs ∧ Below w.heap.size w w' := by
 obtain ⟨i0, hi0, hz0, hz1, hz2⟩ := info_parts Tryz.infoDg
 have hnl := slnilDg ⟨g, 0, none⟩ n c
 have hmax : 0 + n ≤ maxLen := by unfold maxLen; omega
 have hby : (0 + n) * 40 ≤ 140737488355328 := by omega
 have hnews : ∀ j u, xs[j]? = some u → (w.alloc (.cells #[] 65)).cell? ((⟨g, 0, none⟩ : Addr).add j) = some u := fun j u h => by rw [add0]; exact cell_alloc (hc j u h) _
 clear hc
 go_enter Tryz.func54, Tryz.ntmps54
 go_wp2_with (first
  | (at_builtin; refine wpList_append_lies _ rfl (.tmp 5) (.tmp 6) 34 rfl w.heap.size 65 i0 _ 4 40 Tryz.underlying34 hi0 hz0 hz1 hz2 rfl (by decide) _ _ _ rfl (own_empty w 65 4) ⟨g, 0, none⟩ n c xs rfl hx hnews hone hn hmax hby (by simp) _ rfl ?_; intro g6 cap6 w6 hown6 hgrow6 hat6 hlt6))
 go_ret
 rw [Nat.zero_add] at hown6
 exact ⟨g6, cap6, rfl, hown6, ((Below.refl w.heap.size w).alloc (Nat.le_refl _) _).grown hgrow6 (by simp) (fun j hj => by cases hj; exact Nat.le_refl _)⟩
set_option maxHeartbeats 1000000 in
set_option maxRecDepth 100000 in
theorem cloneDg_none (p : Option Addr) (c : Nat) (w : World) :
  Calls Tryz.prog 54 #[.slice p 0 c] w fun e w' => ∃ q c', e = .returned (.slice q 0 c') ∧ Below w.heap.size w w' := by
 cases p with
 | none =>
  have hnl := slnoneDg 0 c
  go_enter Tryz.func54, Tryz.ntmps54
  go_wp2
  go_ret
  exact ⟨_, _, rfl, Below.refl _ _⟩
 | some a =>
  have hnl := slnilDg a 0 c
  go_enter Tryz.func54, Tryz.ntmps54
  go_wp2
  go_ret
  exact ⟨_, _, rfl, (Below.refl w.heap.size w).alloc (Nat.le_refl _) _⟩
theorem Tryz.infoStC : (Tryz.prog.info? 111).map (fun i => (i.zero, i.size, i.bytes)) = some (some (.agg #[.int .i64 0, .string ⟨#[]⟩, .int .i64 0, .int .i64 0, .bool false, .int .i64 0, .string ⟨#[]⟩, .int .i64 0, .slice none 0 0, .int .i64 0, .int .i64 0, .slice none 0 0, .slice none 0 0, .int .i64 0, .int .i64 0]), 15, 184) := by kernel_rfl
theorem slnilSt (a : Addr) (n c : Nat) (w : World) : (binOp .eql 33 (.slice (some a) n c) (.slice none 0 0)).run Tryz.prog w = .ok (.bool false) w := by kernel_rfl
theorem slnoneSt (n c : Nat) (w : World) : (binOp .eql 33 (.slice none n c) (.slice none 0 0)).run Tryz.prog w = .ok (.bool true) w := by kernel_rfl
set_option maxHeartbeats 1000000 in
set_option maxRecDepth 100000 in
theorem cloneSt_any (g n c : Nat) (xs : List Value) (w : World) (hn : 0 < n) (hn2 : n ≤ 549755813888) (hx : xs.length = n * 15) (hone : ∀ u ∈ xs, u.oneCell' = true) (hc : ∀ j u, xs[j]? = some u → w.cell? ⟨g, j, none⟩ = some u) :
  Calls Tryz.prog 82 #[.slice (some ⟨g, 0, none⟩) n c] w fun e w' => ∃ g' c', e = .returned (.slice (some ⟨g', 0, none⟩) n c') ∧ w'.ownsRow w.heap.size 111 15 (.slice (some ⟨g', 0, none⟩) n c') n xs ∧ Below w.heap.size w w' := by
 obtain ⟨i0, hi0, hz0, hz1, hz2⟩ := info_parts Tryz.infoStC
 have hnl := slnilSt ⟨g, 0, none⟩ n c
 have hmax : 0 + n ≤ maxLen := by unfold maxLen; omega
 have hby : (0 + n) * 184 ≤ 140737488355328 := by omega
 have hnews : ∀ j u, xs[j]? = some u → (w.alloc (.cells #[] 111)).cell? ((⟨g, 0, none⟩ : Addr).add j) = some u := fun j u h => by rw [add0]; exact cell_alloc (hc j u h) _
 clear hc
 go_enter Tryz.func82, Tryz.ntmps82
 go_wp2_with (first
  | (at_builtin; refine wpList_append_lies _ rfl (.tmp 5) (.tmp 6) 33 rfl w.heap.size 111 i0 _ 15 184 Tryz.underlying33 hi0 hz0 hz1 hz2 rfl (by decide) _ _ _ rfl (own_empty w 111 15) ⟨g, 0, none⟩ n c xs rfl hx hnews hone hn hmax hby (by simp) _ rfl ?_; intro g6 cap6 w6 hown6 hgrow6 hat6 hlt6))
 go_ret
 rw [Nat.zero_add] at hown6
 exact ⟨g6, cap6, rfl, hown6, ((Below.refl w.heap.size w).alloc (Nat.le_refl _) _).grown hgrow6 (by simp) (fun j hj => by cases hj; exact Nat.le_refl _)⟩
set_option maxHeartbeats 1000000 in
set_option maxRecDepth 100000 in
theorem cloneSt_none (p : Option Addr) (c : Nat) (w : World) :
  Calls Tryz.prog 82 #[.slice p 0 c] w fun e w' => ∃ q c', e = .returned (.slice q 0 c') ∧ Below w.heap.size w w' := by
 cases p with
 | none =>
  have hnl := slnoneSt 0 c
  go_enter Tryz.func82, Tryz.ntmps82
  go_wp2
  go_ret
  exact ⟨_, _, rfl, Below.refl _ _⟩
 | some a =>
  have hnl := slnilSt a 0 c
  go_enter Tryz.func82, Tryz.ntmps82
  go_wp2
  go_ret
  exact ⟨_, _, rfl, (Below.refl w.heap.size w).alloc (Nat.le_refl _) _⟩
theorem Tryz.infoExC : (Tryz.prog.info? 100).map (fun i => (i.zero, i.size, i.bytes)) = some (some (.agg #[.int .i64 0, .string ⟨#[]⟩, .int .i64 0, .slice none 0 0, .int .i64 0, .int .i64 0]), 6, 72) := by kernel_rfl
theorem slnilEx (a : Addr) (n c : Nat) (w : World) : (binOp .eql 98 (.slice (some a) n c) (.slice none 0 0)).run Tryz.prog w = .ok (.bool false) w := by kernel_rfl
theorem slnoneEx (n c : Nat) (w : World) : (binOp .eql 98 (.slice none n c) (.slice none 0 0)).run Tryz.prog w = .ok (.bool true) w := by kernel_rfl
set_option maxHeartbeats 1000000 in
set_option maxRecDepth 100000 in
theorem cloneEx_any (g n c : Nat) (xs : List Value) (w : World) (hn : 0 < n) (hn2 : n ≤ 1099511627776) (hx : xs.length = n * 6) (hone : ∀ u ∈ xs, u.oneCell' = true) (hc : ∀ j u, xs[j]? = some u → w.cell? ⟨g, j, none⟩ = some u) :
  Calls Tryz.prog 101 #[.slice (some ⟨g, 0, none⟩) n c] w fun e w' => ∃ g' c', e = .returned (.slice (some ⟨g', 0, none⟩) n c') ∧ w'.ownsRow w.heap.size 100 6 (.slice (some ⟨g', 0, none⟩) n c') n xs ∧ Below w.heap.size w w' := by
 obtain ⟨i0, hi0, hz0, hz1, hz2⟩ := info_parts Tryz.infoExC
 have hnl := slnilEx ⟨g, 0, none⟩ n c
 have hmax : 0 + n ≤ maxLen := by unfold maxLen; omega
 have hby : (0 + n) * 72 ≤ 140737488355328 := by omega
 have hnews : ∀ j u, xs[j]? = some u → (w.alloc (.cells #[] 100)).cell? ((⟨g, 0, none⟩ : Addr).add j) = some u := fun j u h => by rw [add0]; exact cell_alloc (hc j u h) _
 clear hc
 go_enter Tryz.func101, Tryz.ntmps101
 go_wp2_with (first
  | (at_builtin; refine wpList_append_lies _ rfl (.tmp 5) (.tmp 6) 98 rfl w.heap.size 100 i0 _ 6 72 Tryz.underlying98 hi0 hz0 hz1 hz2 rfl (by decide) _ _ _ rfl (own_empty w 100 6) ⟨g, 0, none⟩ n c xs rfl hx hnews hone hn hmax hby (by simp) _ rfl ?_; intro g6 cap6 w6 hown6 hgrow6 hat6 hlt6))
 go_ret
 rw [Nat.zero_add] at hown6
 exact ⟨g6, cap6, rfl, hown6, ((Below.refl w.heap.size w).alloc (Nat.le_refl _) _).grown hgrow6 (by simp) (fun j hj => by cases hj; exact Nat.le_refl _)⟩
set_option maxHeartbeats 1000000 in
set_option maxRecDepth 100000 in
theorem cloneEx_none (p : Option Addr) (c : Nat) (w : World) :
  Calls Tryz.prog 101 #[.slice p 0 c] w fun e w' => ∃ q c', e = .returned (.slice q 0 c') ∧ Below w.heap.size w w' := by
 cases p with
 | none =>
  have hnl := slnoneEx 0 c
  go_enter Tryz.func101, Tryz.ntmps101
  go_wp2
  go_ret
  exact ⟨_, _, rfl, Below.refl _ _⟩
 | some a =>
  have hnl := slnilEx a 0 c
  go_enter Tryz.func101, Tryz.ntmps101
  go_wp2
  go_ret
  exact ⟨_, _, rfl, (Below.refl w.heap.size w).alloc (Nat.le_refl _) _⟩
end Go.Proofs.YtdkpfnohdknldaaGreatDoor
namespace Go.Proofs.YtdkpfnohdknldaaGreatDoor
open Go.RowKit
def okN (B g : Nat) (w : World) (k : Nat) : Prop := B ≤ k ∧ k < w.heap.size ∧ k ≠ g
structure OwnR (rd : (Nat → Prop) → World → Tr → Value → Prop) (T : TypeId) (st : Nat) (ok : Nat → Prop) (g : Nat) (w wr : World) (l : List Tr) (i : Nat) : Prop where
 blk : ∃ cur, wr.heap[g]? = some (.cells cur T (0, 0))
 els : ∀ (j : Nat) (a : Tr), l[j]? = some a → ∃ v, CellsV wr g (j * st) v ∧ (j < i → rd (okN w.heap.size g wr) wr a v) ∧ (i ≤ j → rd ok wr a v)
 bel : Below w.heap.size w wr
 low : w.heap.size ≤ g
section
variable {rd : (Nat → Prop) → World → Tr → Value → Prop} {T : TypeId} {st : Nat} {ok : Nat → Prop} {g : Nat} {w wr W : World} {l : List Tr} {i : Nat}
theorem OwnR.lt (h : OwnR rd T st ok g w wr l i) : g < wr.heap.size := by
 obtain ⟨cur, hb⟩ := h.blk
 exact (Array.getElem?_eq_some_iff.1 hb).1
theorem OwnR.fro (h : OwnR rd T st ok g w wr l i) : ∀ o, wr.frozen? ⟨g, o, none⟩ = false := by
 obtain ⟨cur, hb⟩ := h.blk
 exact fun o => by simp [World.frozen?, hb]
theorem CellsV.off {w' : World} {o : Nat} {v : Value} (h : CellsV w g o v) (hc : ∀ m cs, v = .agg cs → m < cs.size → w'.cell? ⟨g, o + m, none⟩ = w.cell? ⟨g, o + m, none⟩) : CellsV w' g o v := by
 obtain ⟨cs, e, h⟩ := h
 exact ⟨cs, e, fun m u hm => (hc m cs e (Array.getElem?_eq_some_iff.1 hm).1).trans (h m u hm)⟩
theorem OwnR.next (hk : Kept rd) (hsz : ∀ ok w a cs, rd ok w a (.agg cs) → cs.size = st) (hok : ∀ k, ok k → k < w.heap.size) (h : OwnR rd T st ok g w wr l i) {a : Tr} {v : Value} (ha : l[i]? = some a) (hW : ∀ k, k < wr.heap.size → k ≠ g → W.heap[k]? = wr.heap[k]?) (hb : Below w.heap.size w W) (hs : wr.heap.size ≤ W.heap.size) (hg : ∃ cur, W.heap[g]? = some (.cells cur T (0, 0)))
  (hc : ∀ o, o < i * st ∨ i * st + st ≤ o → W.cell? ⟨g, o, none⟩ = wr.cell? ⟨g, o, none⟩) (hv : CellsV W g (i * st) v) (hr : rd (okN w.heap.size g W) W a v) : OwnR rd T st ok g w W l (i + 1) := by
 have hlt := h.lt
 have hwl := h.bel.size
 have hlow := h.low
 have o1 : ∀ k, ok k → W.heap[k]? = wr.heap[k]? := fun k hk => hW k (Nat.lt_of_lt_of_le (hok k hk) hwl) (by have := hok k hk; omega)
 have o2 : ∀ k, okN w.heap.size g wr k → W.heap[k]? = wr.heap[k]? := fun k hk => hW k hk.2.1 hk.2.2
 have o3 : ∀ k, okN w.heap.size g wr k → okN w.heap.size g W k := fun k hk => ⟨hk.1, Nat.lt_of_lt_of_le hk.2.1 hs, hk.2.2⟩
 refine ⟨hg, fun j b hj => ?_, hb, hlow⟩
 by_cases hji : j = i
 ·subst hji
  rw [ha] at hj
  injection hj with hj
  subst hj
  exact ⟨v, hv, fun _ => hr, fun h => by omega⟩
 ·obtain ⟨u, h1, h2, h3⟩ := h.els j b hj
  have hsize : ∀ cs, u = .agg cs → cs.size = st := fun cs e => by
   subst e
   by_cases hl : j < i
   ·exact hsz _ _ _ _ (h2 hl)
   ·exact hsz _ _ _ _ (h3 (by omega))
  refine ⟨u, h1.off (fun m cs e hm => hc _ ?_), fun hl => hk _ _ _ _ o2 o3 _ _ (h2 (by omega)), fun hl => hk _ _ _ _ o1 (fun _ h => h) _ _ (h3 (by omega))⟩
  have := hsize cs e
  rcases Nat.lt_or_gt_of_ne hji with hl | hl
  ·left
   have : (j + 1) * st ≤ i * st := Nat.mul_le_mul_right _ hl
   rw [Nat.succ_mul] at this
   omega
  ·right
   have : (i + 1) * st ≤ j * st := Nat.mul_le_mul_right _ hl
   rw [Nat.succ_mul] at this
   omega
theorem OwnR.done (hk : Kept rd) (h : OwnR rd T st ok g w wr l l.length) (hl : l.length ≤ 1099511627776) : SlT (fun k => w.heap.size ≤ k ∧ k < wr.heap.size) (rd (fun k => w.heap.size ≤ k ∧ k < wr.heap.size) wr) wr st l (some ⟨g, 0, none⟩) := by
 refine ⟨hl, fun _ => ⟨g, rfl, ⟨h.low, h.lt⟩, fun j a hj => ?_⟩⟩
 obtain ⟨v, h1, h2, _⟩ := h.els j a hj
 exact ⟨v, h1, hk _ _ _ _ (fun _ _ => rfl) (fun k hk => ⟨hk.1, hk.2.1⟩) _ _ (h2 (List.getElem?_eq_some_iff.1 hj).1)⟩
theorem flat_cells (hsz : ∀ ok w a cs, rd ok w a (.agg cs) → cs.size = st) (hag : ∀ ok w a v, rd ok w a v → ∃ cs, v = .agg cs) (h1c : ∀ ok w a cs, rd ok w a (.agg cs) → ∀ u ∈ cs.toList, u.oneCell' = true) : ∀ (l : List Tr) (o : Nat), (∀ (j : Nat) (a : Tr), l[j]? = some a → ∃ va, CellsV w g (o + j * st) va ∧ rd ok w a va) →
  ∃ xs : List Value, xs.length = l.length * st ∧ (∀ u ∈ xs, u.oneCell' = true) ∧ (∀ j u, xs[j]? = some u → w.cell? ⟨g, o + j, none⟩ = some u) ∧ ∀ (j : Nat) (a : Tr), l[j]? = some a → ∃ cs : List Value, cs.length = st ∧ rd ok w a (.agg cs.toArray) ∧ ∀ m u, cs[m]? = some u → xs[j * st + m]? = some u := by
 intro l
 induction l with
 | nil => intro o _; exact ⟨[], by simp, by simp, by simp, by simp⟩
 | cons a l ih =>
  intro o hl
  obtain ⟨xs, h1, h2, h3, h4⟩ := ih (o + st) (fun j b hj => by
   have := hl (j + 1) b (by simpa using hj)
   rw [show o + (j + 1) * st = o + st + j * st by rw [Nat.succ_mul]; omega] at this
   exact this)
  obtain ⟨va, hc, hr⟩ := hl 0 a rfl
  rw [Nat.zero_mul, Nat.add_zero] at hc
  obtain ⟨cs, rfl⟩ := hag _ _ _ _ hr
  have hn : cs.toList.length = st := by have := hsz _ _ _ _ hr; simpa using this
  refine ⟨cs.toList ++ xs, ?_, fun u hu => ?_, fun j u hj => ?_, fun j b hj => ?_⟩
  ·rw [List.length_append, hn, h1, List.length_cons, Nat.succ_mul]; omega
  ·rcases List.mem_append.1 hu with hu | hu
   ·exact h1c _ _ _ _ hr u hu
   ·exact h2 u hu
  ·rcases Nat.lt_or_ge j st with hj2 | hj2
   ·rw [List.getElem?_append_left (by omega)] at hj
    exact hc.get j u (by simpa using hj)
   ·rw [List.getElem?_append_right (by omega), hn] at hj
    have := h3 _ u hj
    rwa [show o + st + (j - st) = o + j by omega] at this
  ·cases j with
   | zero =>
    simp at hj
    subst hj
    refine ⟨cs.toList, hn, by simpa using hr, fun m u hm => ?_⟩
    rw [Nat.zero_mul, Nat.zero_add, List.getElem?_append_left (List.getElem?_eq_some_iff.1 hm).1]
    exact hm
   | succ j =>
    obtain ⟨ds, g1, g2, g3⟩ := h4 j b (by simpa using hj)
    refine ⟨ds, g1, g2, fun m u hm => ?_⟩
    rw [Nat.succ_mul, show j * st + st + m = st + (j * st + m) by omega, List.getElem?_append_right (by omega), hn, Nat.add_sub_cancel_left]
    exact g3 m u hm
theorem OwnR.start (hk : Kept rd) {w1 : World} {c : Nat} {xs : List Value} (hok : ∀ k, ok k → k < w.heap.size) (hown : w1.ownsRow w.heap.size T st (.slice (some ⟨g, 0, none⟩) l.length c) l.length xs) (hb : Below w.heap.size w w1)
  (hx : ∀ (j : Nat) (a : Tr), l[j]? = some a → ∃ cs : List Value, cs.length = st ∧ rd ok w a (.agg cs.toArray) ∧ ∀ m u, cs[m]? = some u → xs[j * st + m]? = some u) : OwnR rd T st ok g w w1 l 0 := by
 have hlt := hown.lt g rfl
 have hc := hown.cells (g := g) rfl
 obtain ⟨_, ⟨h1, _⟩ | ⟨g', cap', cur, h1, _, h2, _⟩⟩ := hown
 ·cases h1
 ·injection h1 with h1
  injection h1 with h1
  injection h1 with h1
  subst h1
  refine ⟨⟨cur, h2⟩, fun j a hj => ?_, hb, hlt.1⟩
  obtain ⟨cs, g1, g2, g3⟩ := hx j a hj
  refine ⟨.agg cs.toArray, ⟨_, rfl, fun m u hm => ?_⟩, fun h => by omega, fun _ => hk _ _ _ _ (fun k hk => hb.block k (hok k hk)) (fun _ h => h) _ _ g2⟩
  have := hc _ u (g3 m u (by simpa using hm))
  rwa [add0] at this
end
end Go.Proofs.YtdkpfnohdknldaaGreatDoor
namespace Go.Proofs.YtdkpfnohdknldaaGreatDoor
open Go.RowKit
attribute [local go_sem ↓] Go.wp_at_zero Go.wp_at_succ
theorem rdE_size (n : Nat) : ∀ (ok : Nat → Prop) (w : World) (a : Tr) (cs : Array Value), RdE n ok w a (.agg cs) → cs.size = 6 := by
 intro ok w a cs h
 obtain ⟨k, x, m, p, l, c, hv⟩ := h.shape
 injection hv with hv
 rw [hv]; rfl
theorem rdE_agg (n : Nat) : ∀ (ok : Nat → Prop) (w : World) (a : Tr) (v : Value), RdE n ok w a v → ∃ cs, v = .agg cs := by
 intro ok w a v h
 obtain ⟨k, x, m, p, l, c, hv⟩ := h.shape
 exact ⟨_, hv⟩
theorem rdE_one (n : Nat) : ∀ (ok : Nat → Prop) (w : World) (a : Tr) (cs : Array Value), RdE n ok w a (.agg cs) → ∀ u ∈ cs.toList, u.oneCell' = true := by
 intro ok w a cs h
 obtain ⟨k, x, m, p, l, c, hv⟩ := h.shape
 injection hv with hv
 subst hv
 intro u hu
 simp at hu
 rcases hu with rfl | rfl | rfl | rfl | rfl | rfl <;> rfl
def COE (n : Nat) : Prop := ∀ (al : List Tr) (p : Option Addr) (c : Nat) (w : World) (ok : Nat → Prop), (∀ k, ok k → k < w.heap.size) → SlT ok (RdE n ok w) w 6 al p →
 Calls Tryz.prog 83 #[.slice p al.length c] w fun e w' => ∃ q c', e = .returned (.slice q al.length c') ∧ SlT (fun k => w.heap.size ≤ k ∧ k < w'.heap.size) (RdE n (fun k => w.heap.size ≤ k ∧ k < w'.heap.size) w') w' 6 al q ∧ Below w.heap.size w w'
def RelOE (n : Nat) (ok : Nat → Prop) (g : Nat) (w : World) (l : List Tr) (i : Value) (wr : World) : Prop := ∃ k : Nat, k ≤ l.length ∧ i = .int .i64 (k : Int) ∧ OwnR (RdE n) 100 6 ok g w wr l k
theorem ownE_step {n : Nat} {ok : Nat → Prop} {g : Nat} {w wr w5 : World} {l : List Tr} {i : Nat} (hok : ∀ k, ok k → k < w.heap.size) (h : OwnR (RdE (n + 1)) 100 6 ok g w wr l i) {k m f t : Nat} {x : ByteArray} {al : List Tr} {p : Option Addr} {cap : Nat} (ha : l[i]? = some (exMk k x m al f t))
  (hcv : CellsV wr g (i * 6) (.agg #[.int .i64 (k : Int), .string x, .int .i64 (m : Int), .slice p al.length cap, .int .i64 (f : Int), .int .i64 (t : Int)])) (hb5 : Below wr.heap.size wr w5) {q : Option Addr} {c' : Nat} (hS : SlT (fun k => wr.heap.size ≤ k ∧ k < w5.heap.size) (RdE n (fun k => wr.heap.size ≤ k ∧ k < w5.heap.size) w5) w5 6 al q) :
  OwnR (RdE (n + 1)) 100 6 ok g w (w5.setCell ⟨g, i * 6 + 3, none⟩ (.slice q al.length c')) l (i + 1) := by
 have hlt := h.lt
 have hwl := h.bel.size
 have hlow := h.low
 have hkk : ∀ k, k ≠ g → (w5.setCell ⟨g, i * 6 + 3, none⟩ (.slice q al.length c')).heap[k]? = w5.heap[k]? := fun k hk => Below.heap_setCell w5 _ _ k hk
 have hsz : (w5.setCell ⟨g, i * 6 + 3, none⟩ (.slice q al.length c')).heap.size = w5.heap.size := by simp
 have h3 := hcv.get 3 _ rfl
 have h35 := (hb5.cell (p := ⟨g, i * 6 + 3, none⟩) hlt).trans h3
 have hcell : ∀ o, o ≠ i * 6 + 3 → (w5.setCell ⟨g, i * 6 + 3, none⟩ (.slice q al.length c')).cell? ⟨g, o, none⟩ = wr.cell? ⟨g, o, none⟩ := fun o ho => (World.cell?_setCell_other _ _ _ _ (by intro e; simp only [Addr.mk.injEq] at e; omega)).trans (hb5.cell (p := ⟨g, o, none⟩) hlt)
 have hnew : (w5.setCell ⟨g, i * 6 + 3, none⟩ (.slice q al.length c')).cell? ⟨g, i * 6 + 3, none⟩ = some (.slice q al.length c') := World.cell?_setCell_same _ _ _ h35
 refine h.next (kept_E (n + 1)) (rdE_size (n + 1)) hok (v := .agg #[.int .i64 (k : Int), .string x, .int .i64 (m : Int), .slice q al.length c', .int .i64 (f : Int), .int .i64 (t : Int)]) ha (fun b hb hne => (hkk b hne).trans (hb5.block b hb)) ((h.bel.trans (hb5.mono hwl)).setCell hlow _) (by rw [hsz]; exact hb5.size) ?_ (fun o ho => hcell o (by omega)) ?_ ?_
 ·obtain ⟨cur, hcur⟩ := h.blk
  have := (hb5.block g hlt).trans hcur
  exact ⟨cur.setIfInBounds (i * 6 + 3) (.slice q al.length c'), by simp [World.setCell, Array.getElem?_modify, this]⟩
 ·refine ⟨_, rfl, fun j u hj => ?_⟩
  by_cases h33 : j = 3
  ·subst h33
   simp at hj
   subst hj
   exact hnew
  ·rw [hcell _ (by omega)]
   refine hcv.get j u ?_
   match j, h33, hj with
   | 0, _, hj => exact hj
   | 1, _, hj => exact hj
   | 2, _, hj => exact hj
   | 4, _, hj => exact hj
   | 5, _, hj => exact hj
   | j + 6, _, hj => simp at hj
 ·have o1 : ∀ k, (wr.heap.size ≤ k ∧ k < w5.heap.size) → (w5.setCell ⟨g, i * 6 + 3, none⟩ (.slice q al.length c')).heap[k]? = w5.heap[k]? := fun k hk => hkk k (by omega)
  have o2 : ∀ k, (wr.heap.size ≤ k ∧ k < w5.heap.size) → okN w.heap.size g (w5.setCell ⟨g, i * 6 + 3, none⟩ (.slice q al.length c')) k := fun k hk => ⟨by omega, by rw [hsz]; exact hk.2, by omega⟩
  exact ⟨k, x, m, al, f, t, q, c', rfl, rfl, SlT.kept hS o1 o2 (RdE.kept n o1 o2)⟩
set_option maxHeartbeats 2000000 in
set_option maxRecDepth 100000 in
theorem ownExprs_any (n : Nat) : COE n := by
 induction n with
 | zero =>
  intro al p c w ok hok h
  have h0 : al.length = 0 := by
   rcases Nat.eq_zero_or_pos al.length with h1 | h1
   ·exact h1
   ·obtain ⟨g, _, _, hl⟩ := h.2 h1
    obtain ⟨va, _, hr⟩ := hl 0 _ (List.getElem?_eq_getElem h1)
    exact hr.elim
  rw [h0]
  go_enter Tryz.func83, Tryz.ntmps83
  go_wp2_with (first
   | (go_at_call 101; refine (cloneEx_none p c _).mono ?_; rintro e w1 ⟨q, c1, rfl, hb1⟩))
  go_loopw [9] (fun i wr => i = .int .i64 0 ∧ wr = w1) (fun _ _ => 0)
  case atStart => exact ⟨rfl, rfl⟩
  case round =>
   obtain ⟨rfl, rfl⟩ := hrel
   go_wp2
   go_ret
   exact ⟨q, c1, rfl, ⟨by omega, fun h => absurd h (by omega)⟩, hb1⟩
 | succ n ih =>
  intro al p c w ok hok h
  by_cases h0 : al.length = 0
  ·rw [h0]
   go_enter Tryz.func83, Tryz.ntmps83
   go_wp2_with (first
    | (go_at_call 101; refine (cloneEx_none p c _).mono ?_; rintro e w1 ⟨q, c1, rfl, hb1⟩))
   go_loopw [9] (fun i wr => i = .int .i64 0 ∧ wr = w1) (fun _ _ => 0)
   case atStart => exact ⟨rfl, rfl⟩
   case round =>
    obtain ⟨rfl, rfl⟩ := hrel
    go_wp2
    go_ret
    exact ⟨q, c1, rfl, ⟨by omega, fun h => absurd h (by omega)⟩, hb1⟩
  ·obtain ⟨g, rfl, hg, hL⟩ := h.2 (by omega)
   have hlen := h.1
   obtain ⟨xs, x1, x2, x3, x4⟩ := flat_cells (rdE_size (n + 1)) (rdE_agg (n + 1)) (rdE_one (n + 1)) al 0 (fun j a hj => by rw [Nat.zero_add]; exact hL j a hj)
   have x3' : ∀ j u, xs[j]? = some u → w.cell? ⟨g, j, none⟩ = some u := fun j u hj => by have := x3 j u hj; rwa [Nat.zero_add] at this
   have hpos : 0 < al.length := by omega
   have HL : Hid (al.length ≤ 1099511627776) := hlen
   clear x3 hL h h0 hlen
   go_enter Tryz.func83, Tryz.ntmps83
   go_wp2_with (first
    | (go_at_call 101; refine (cloneEx_any g al.length c xs _ hpos HL.out x1 x2 x3').mono ?_; rintro e w1 ⟨g1, c1, rfl, hown, hb1⟩; have hst := OwnR.start (kept_E (n + 1)) hok hown hb1 x4; clear hown x4 x3' x2 x1))
   go_loopw [9] (fun i wr => RelOE (n + 1) ok g1 w al i wr) (fun i _ => upN al.length i)
   case atStart => exact ⟨0, Nat.zero_le _, rfl, hst⟩
   case round =>
    obtain ⟨k, hk, rfl, hR⟩ := hrel
    clear hst
    by_cases hlt : k < al.length
    ·obtain ⟨a, ha⟩ : ∃ a, al[k]? = some a := ⟨_, List.getElem?_eq_getElem hlt⟩
     obtain ⟨v, hcv, _, hold⟩ := hR.els k a ha
     obtain ⟨ek, ex, em, eal, ef, et, ep, ecap, rfl, rfl, hS⟩ := hold (Nat.le_refl _)
     have d3 := hcv.get 3 _ rfl
     have hokr : ∀ k, ok k → k < wr.heap.size := fun k hk => Nat.lt_of_lt_of_le (hok k hk) hR.bel.size
     have gk : (0 : Int) ≤ (k : Int) := by omega
     have gk1 : (k : Int) < (al.length : Int) := by omega
     have HK : Hid (k < al.length) := hlt
     have HO : Hid (∀ k, ok k → k < wr.heap.size) := hokr
     have HS : Hid (SlT ok (RdE n ok wr) wr 6 eal ep) := hS
     have hgl := hR.lt
     have hk40 : k < 1099511627776 := by have := HL.out; omega
     clear hold hokr hS hlt hk
     go_wp2_with (first
      | (go_at_call 83; refine (ih eal ep ecap _ ok HO.out HS.out).mono ?_; rintro e w5 ⟨q5, c5, rfl, hS5, hb5⟩; have d5 := (hb5.cell (p := ⟨g1, k * 6 + 3, none⟩) hgl).trans d3; have f5 : ∀ o, w5.frozen? ⟨g1, o, none⟩ = false := (fun o => (World.frozen?_of_block (a := ⟨g1, o, none⟩) (hb5.block g1 hgl)).trans (hR.fro o))))
     go_roundw
     case rel => exact ⟨k + 1, by have := HK.out; omega, by go_num, ownE_step hok hR ha hcv hb5 hS5⟩
     case measure => have := HK.out; simp [upN, intOf]; omega
    ·obtain rfl : k = al.length := by omega
     clear hlt hk
     go_wp2
     go_ret
     exact ⟨some ⟨g1, 0, none⟩, c1, rfl, hR.done (kept_E (n + 1)) HL.out, hR.bel⟩
end Go.Proofs.YtdkpfnohdknldaaGreatDoor
namespace Go.Proofs.YtdkpfnohdknldaaGreatDoor
open Go.RowKit
attribute [local go_sem ↓] Go.wp_at_zero Go.wp_at_succ
theorem rdS_size (n : Nat) : ∀ (ok : Nat → Prop) (w : World) (a : Tr) (cs : Array Value), RdS n ok w a (.agg cs) → cs.size = 15 := by
 intro ok w a cs h
 obtain ⟨k, x, a0, lb, op, ek, ex, en, ep, el, ec, ef, et, p1, l1, c1, p2, l2, c2, f, t, hv⟩ := h.shape
 injection hv with hv
 rw [hv]; rfl
theorem rdS_agg (n : Nat) : ∀ (ok : Nat → Prop) (w : World) (a : Tr) (v : Value), RdS n ok w a v → ∃ cs, v = .agg cs := by
 intro ok w a v h
 obtain ⟨k, x, a0, lb, op, ek, ex, en, ep, el, ec, ef, et, p1, l1, c1, p2, l2, c2, f, t, hv⟩ := h.shape
 exact ⟨_, hv⟩
theorem rdS_one (n : Nat) : ∀ (ok : Nat → Prop) (w : World) (a : Tr) (cs : Array Value), RdS n ok w a (.agg cs) → ∀ u ∈ cs.toList, u.oneCell' = true := by
 intro ok w a cs h
 obtain ⟨k, x, a0, lb, op, ek, ex, en, ep, el, ec, ef, et, p1, l1, c1, p2, l2, c2, f, t, hv⟩ := h.shape
 injection hv with hv
 subst hv
 intro u hu
 simp at hu
 rcases hu with rfl | rfl | rfl | rfl | rfl | rfl | rfl | rfl | rfl | rfl | rfl | rfl | rfl | rfl | rfl <;> rfl
structure Mid (g : Nat) (w wr W : World) (i : Nat) (cs : Array Value) : Prop where
 hW : ∀ k, k < wr.heap.size → k ≠ g → W.heap[k]? = wr.heap[k]?
 bel : Below w.heap.size w W
 siz : wr.heap.size ≤ W.heap.size
 blk : ∃ cur, W.heap[g]? = some (.cells cur 111 (0, 0))
 out : ∀ o, o < i * 15 ∨ i * 15 + 15 ≤ o → W.cell? ⟨g, o, none⟩ = wr.cell? ⟨g, o, none⟩
 els : CellsV W g (i * 15) (.agg cs)
 low : w.heap.size ≤ g
section
variable {g : Nat} {w wr W W' : World} {i : Nat} {cs : Array Value}
theorem Mid.lt (h : Mid g w wr W i cs) : g < W.heap.size := by
 obtain ⟨cur, hb⟩ := h.blk
 exact (Array.getElem?_eq_some_iff.1 hb).1
theorem Mid.fro (h : Mid g w wr W i cs) : ∀ o, W.frozen? ⟨g, o, none⟩ = false := by
 obtain ⟨cur, hb⟩ := h.blk
 exact fun o => by simp [World.frozen?, hb]
theorem Mid.call (h : Mid g w wr W i cs) (hb : Below W.heap.size W W') : Mid g w wr W' i cs := by
 have hlt := h.lt
 refine ⟨fun k h1 h2 => (hb.block k (Nat.lt_of_lt_of_le h1 h.siz)).trans (h.hW k h1 h2), h.bel.trans (hb.mono h.bel.size), Nat.le_trans h.siz hb.size, ?_, fun o ho => (hb.cell (p := ⟨g, o, none⟩) hlt).trans (h.out o ho), h.els.kept (hb.block g hlt), h.low⟩
 obtain ⟨cur, hc⟩ := h.blk
 exact ⟨cur, (hb.block g hlt).trans hc⟩
theorem Mid.put (h : Mid g w wr W i cs) (m : Nat) (hm : m < 15) (hs : cs.size = 15) (u : Value) : Mid g w wr (W.setCell ⟨g, i * 15 + m, none⟩ u) i (cs.setIfInBounds m u) := by
 have hold := h.els.get m _ (Array.getElem?_eq_getElem (by omega))
 have hoth : ∀ o, o ≠ i * 15 + m → (W.setCell ⟨g, i * 15 + m, none⟩ u).cell? ⟨g, o, none⟩ = W.cell? ⟨g, o, none⟩ := fun o ho => World.cell?_setCell_other _ _ _ _ (by intro e; simp only [Addr.mk.injEq] at e; omega)
 refine ⟨fun k h1 h2 => (Below.heap_setCell W _ _ k h2).trans (h.hW k h1 h2), h.bel.setCell h.low _, by simpa using h.siz, ?_, fun o ho => (hoth o (by omega)).trans (h.out o ho), ⟨_, rfl, fun j v hj => ?_⟩, h.low⟩
 ·obtain ⟨cur, hc⟩ := h.blk
  exact ⟨cur.setIfInBounds (i * 15 + m) u, by simp [World.setCell, Array.getElem?_modify, hc]⟩
 ·by_cases hjm : j = m
  ·subst hjm
   rw [Array.getElem?_setIfInBounds_self_of_lt (by omega)] at hj
   injection hj with hj
   subst hj
   exact World.cell?_setCell_same _ _ _ hold
  ·rw [hoth _ (by omega)]
   refine h.els.get j v ?_
   rwa [Array.getElem?_setIfInBounds_ne (by omega)] at hj
end
theorem SlE_set {A g m : Nat} {w5 : World} {eal : List Tr} {q : Option Addr} (h : SlT (fun k => A ≤ k ∧ k < w5.heap.size) (RdE m (fun k => A ≤ k ∧ k < w5.heap.size) w5) w5 6 eal q) (hg : g < A) (o : Nat) (u : Value) :
  SlT (fun k => A ≤ k ∧ k < (w5.setCell ⟨g, o, none⟩ u).heap.size) (RdE m (fun k => A ≤ k ∧ k < (w5.setCell ⟨g, o, none⟩ u).heap.size) (w5.setCell ⟨g, o, none⟩ u)) (w5.setCell ⟨g, o, none⟩ u) 6 eal q := by
 have a : ∀ k, (A ≤ k ∧ k < w5.heap.size) → (w5.setCell ⟨g, o, none⟩ u).heap[k]? = w5.heap[k]? := fun k hk => Below.heap_setCell w5 _ _ k (by simp; omega)
 have b : ∀ k, (A ≤ k ∧ k < w5.heap.size) → (A ≤ k ∧ k < (w5.setCell ⟨g, o, none⟩ u).heap.size) := fun k hk => ⟨hk.1, by simpa using hk.2⟩
 exact SlT.kept h a b (RdE.kept m a b)
theorem cell_on' {w w' : World} (hb : Below w.heap.size w w') {a : Addr} {u : Value} (h : w.cell? a = some u) : w'.cell? a = some u := (hb.cell (World.block_lt_of_cell? w a h)).trans h
end Go.Proofs.YtdkpfnohdknldaaGreatDoor
namespace Go.Proofs.YtdkpfnohdknldaaGreatDoor
open Go.RowKit
attribute [local go_sem ↓] Go.wp_at_zero Go.wp_at_succ
section
variable {α : Type} {c : α → List Value} {st : Nat}
theorem flat_in (hc : ∀ a, (c a).length = st) {w : World} {g : Nat} : ∀ (l : List α) (o : Nat), (∀ (j : Nat) (t : α), l[j]? = some t → ∀ (i : Nat) (u : Value), (c t)[i]? = some u → w.cell? ⟨g, o + j * st + i, none⟩ = some u) → ∀ j u, (l.flatMap c)[j]? = some u → w.cell? ⟨g, o + j, none⟩ = some u := by
 intro l
 induction l with
 | nil => intro o _ j u hj; simp at hj
 | cons a l ih =>
  intro o h j u hj
  rw [List.flatMap_cons] at hj
  rcases Nat.lt_or_ge j st with h1 | h1
  ·rw [List.getElem?_append_left (by rw [hc]; exact h1)] at hj
   have := h 0 a rfl j u hj
   rwa [Nat.zero_mul, Nat.add_zero] at this
  ·rw [List.getElem?_append_right (by rw [hc]; exact h1), hc] at hj
   have := ih (o + st) (fun j t hj i u hi => by
    have := h (j + 1) t (by simpa using hj) i u hi
    rwa [show o + (j + 1) * st + i = o + st + j * st + i by rw [Nat.succ_mul]; omega] at this) _ u hj
   rwa [show o + st + (j - st) = o + j by omega] at this
theorem flat_len (hc : ∀ a, (c a).length = st) (l : List α) : (l.flatMap c).length = l.length * st := by
 induction l with
 | nil => simp
 | cons a l ih => rw [List.flatMap_cons, List.length_append, hc, ih, List.length_cons, Nat.succ_mul]; omega
theorem own_flat (hc : ∀ a, (c a).length = st) {w : World} {B g cap : Nat} {T : TypeId} {l : List α} (h : w.ownsRow B T st (.slice (some ⟨g, 0, none⟩) l.length cap) l.length (l.flatMap c)) (hl : l.length ≤ 1099511627776) : SlAt (fun k => B ≤ k ∧ k < w.heap.size) w st c l (some ⟨g, 0, none⟩) := by
 have hlt := h.lt g rfl
 have hcl := h.cells (g := g) rfl
 refine ⟨hl, fun _ => ⟨g, rfl, hlt, fun j t hj i u hi => ?_⟩⟩
 have hv : ∀ x ∈ l.map c, x.length = st := fun x hx => by obtain ⟨d, _, rfl⟩ := List.mem_map.1 hx; exact hc d
 have := flat_at hv j (c t) (by simp [hj]) i u hi
 have := hcl _ u (by rw [List.flatMap_def]; exact this)
 rwa [add0] at this
end
theorem cloneRf_sl (l : List Rf) (p : Option Addr) (cc : Nat) (w : World) (ok : Nat → Prop) (h : SlAt ok w 2 rfC l p) :
  Calls Tryz.prog 52 #[.slice p l.length cc] w fun e w' => ∃ q c', e = .returned (.slice q l.length c') ∧ SlAt (fun k => w.heap.size ≤ k ∧ k < w'.heap.size) w' 2 rfC l q ∧ Below w.heap.size w w' := by
 by_cases h0 : l.length = 0
 ·rw [h0]
  refine (cloneRf_none p cc w).mono ?_
  rintro e w' ⟨q, c', rfl, hb⟩
  exact ⟨q, c', rfl, ⟨by omega, fun h => absurd h (by omega)⟩, hb⟩
 ·obtain ⟨g, rfl, hg, hf⟩ := h.2 (by omega)
  have hin := flat_in (st := 2) (c := rfC) (fun _ => rfl) (w := w) (g := g) l 0 (fun j t hj i u hi => by have := hf j t hj i u hi; rwa [Nat.zero_add])
  refine (cloneRf_any g l.length cc (l.flatMap rfC) w (by omega) h.1 (flat_len (c := rfC) (st := 2) (fun _ => rfl) l) ?_ (fun j u hj => by have := hin j u hj; rwa [Nat.zero_add] at this)).mono ?_
  ·intro u hu
   obtain ⟨d, _, hd⟩ := List.mem_flatMap.1 hu
   simp [rfC] at hd
   rcases hd with rfl | rfl <;> rfl
  ·rintro e w' ⟨g', c', rfl, hown, hb⟩
   exact ⟨some ⟨g', 0, none⟩, c', rfl, own_flat (c := rfC) (st := 2) (fun _ => rfl) hown h.1, hb⟩
theorem cloneDg_sl (l : List Dg) (p : Option Addr) (cc : Nat) (w : World) (ok : Nat → Prop) (h : SlAt ok w 4 dgC l p) :
  Calls Tryz.prog 54 #[.slice p l.length cc] w fun e w' => ∃ q c', e = .returned (.slice q l.length c') ∧ SlAt (fun k => w.heap.size ≤ k ∧ k < w'.heap.size) w' 4 dgC l q ∧ Below w.heap.size w w' := by
 by_cases h0 : l.length = 0
 ·rw [h0]
  refine (cloneDg_none p cc w).mono ?_
  rintro e w' ⟨q, c', rfl, hb⟩
  exact ⟨q, c', rfl, ⟨by omega, fun h => absurd h (by omega)⟩, hb⟩
 ·obtain ⟨g, rfl, hg, hf⟩ := h.2 (by omega)
  have hin := flat_in (st := 4) (c := dgC) (fun _ => rfl) (w := w) (g := g) l 0 (fun j t hj i u hi => by have := hf j t hj i u hi; rwa [Nat.zero_add])
  refine (cloneDg_any g l.length cc (l.flatMap dgC) w (by omega) h.1 (flat_len (c := dgC) (st := 4) (fun _ => rfl) l) ?_ (fun j u hj => by have := hin j u hj; rwa [Nat.zero_add] at this)).mono ?_
  ·intro u hu
   obtain ⟨d, _, hd⟩ := List.mem_flatMap.1 hu
   simp [dgC] at hd
   rcases hd with rfl | rfl | rfl | rfl <;> rfl
  ·rintro e w' ⟨g', c', rfl, hown, hb⟩
   exact ⟨some ⟨g', 0, none⟩, c', rfl, own_flat (c := dgC) (st := 4) (fun _ => rfl) hown h.1, hb⟩
def Bx (w : World) (b : Nat) (cs : Array Value) : Prop := w.heap[b]? = some (.cells cs 36 (0, 0))
theorem Bx.lt {w : World} {b : Nat} {cs : Array Value} (h : Bx w b cs) : b < w.heap.size := (Array.getElem?_eq_some_iff.1 h).1
theorem Bx.call {w w' : World} {b : Nat} {cs : Array Value} (h : Bx w b cs) (hb : Below w.heap.size w w') : Bx w' b cs := (hb.block b h.lt).trans h
theorem Bx.put {w : World} {b : Nat} {cs : Array Value} (h : Bx w b cs) (o : Nat) (u : Value) : Bx (w.setCell ⟨b, o, none⟩ u) b (cs.setIfInBounds o u) := by
 unfold Bx at h ⊢
 simp [World.setCell, Array.getElem?_modify, h]
theorem Bx.far {w : World} {b b2 : Nat} {cs : Array Value} (h : Bx w b cs) (hne : b ≠ b2) (o : Nat) (u : Value) : Bx (w.setCell ⟨b2, o, none⟩ u) b cs := (Below.heap_setCell w _ _ b hne).trans h
theorem below_put {w w' : World} {B b : Nat} (h : Below B w w') (hb : B ≤ b) (o : Nat) (u : Value) : Below B w (w'.setCell ⟨b, o, none⟩ u) := h.setCell hb u
end Go.Proofs.YtdkpfnohdknldaaGreatDoor

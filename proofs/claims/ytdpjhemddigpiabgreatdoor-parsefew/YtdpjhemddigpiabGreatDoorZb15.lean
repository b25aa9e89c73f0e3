/- Texts of this seat, one behind the other: OwnClone, OwnList, OwnExpr, OwnStmt, OwnItem. -/
import Derived.Test.YtdpjhemddigpiabGreatDoorZb12
import Derived.Test.YtdpjhemddigpiabGreatDoorZb11
import Derived.Test.YtdpjhemddigpiabGreatDoorZb05
namespace Go.Proofs.YtdpjhemddigpiabGreatDoor
open Go.RowKit
attribute [local go_sem ↓] Go.wp_at_zero Go.wp_at_succ
theorem own_empty (w : World) (T : TypeId) (st : Nat) : (w.alloc (.cells #[] T)).ownsRow w.heap.size T st (.slice (some ⟨w.heap.size, 0, none⟩) 0 0) 0 [] :=
  ⟨by simp, .inr ⟨w.heap.size, 0, #[], rfl, Nat.le_refl _, heap_alloc_new w _, Nat.le_refl _, by unfold maxLen; omega, by simp, by simp⟩⟩
theorem add0 (g j : Nat) : (⟨g, 0, none⟩ : Addr).add j = ⟨g, j, none⟩ := by simp only [Addr.add, Nat.zero_add]; split <;> simp_all
theorem slnilPm (a : Addr) (n c : Nat) (w : World) : (binOp .eql 31 (.slice (some a) n c) (.slice none 0 0)).run Tryz.prog w = .ok (.bool false) w := by kernel_rfl
theorem slnonePm (n c : Nat) (w : World) : (binOp .eql 31 (.slice none n c) (.slice none 0 0)).run Tryz.prog w = .ok (.bool true) w := by kernel_rfl
set_option maxHeartbeats 1000000 in
set_option maxRecDepth 100000 in
theorem clonePm_any (g n c : Nat) (xs : List Value) (w : World) (hn : 0 < n) (hn2 : n ≤ 1099511627776) (hx : xs.length = n * 3) (hone : ∀ u ∈ xs, u.oneCell' = true) (hc : ∀ j u, xs[j]? = some u → w.cell? ⟨g, j, none⟩ = some u) :
    Calls Tryz.prog 39 #[.slice (some ⟨g, 0, none⟩) n c] w fun e w' => ∃ g' c', e = .returned (.slice (some ⟨g', 0, none⟩) n c') ∧ w'.ownsRow w.heap.size 76 3 (.slice (some ⟨g', 0, none⟩) n c') n xs ∧ Below w.heap.size w w' := by
  obtain ⟨i0, hi0, hz0, hz1, hz2⟩ := info_parts Tryz.infoPm
  have hnl := slnilPm ⟨g, 0, none⟩ n c
  have hmax : 0 + n ≤ maxLen := by unfold maxLen; omega
  have hby : (0 + n) * 32 ≤ 140737488355328 := by omega
  have hnews : ∀ j u, xs[j]? = some u → (w.alloc (.cells #[] 76)).cell? ((⟨g, 0, none⟩ : Addr).add j) = some u := fun j u h => by rw [add0]; exact cell_alloc (hc j u h) _
  clear hc
  go_enter Tryz.func39, Tryz.ntmps39
  go_wp2_with (first
    | (at_builtin; refine wpList_append_lies _ rfl (.tmp 5) (.tmp 6) 31 rfl w.heap.size 76 i0 _ 3 32 Tryz.underlying31 hi0 hz0 hz1 hz2 rfl (by decide) _ _ _ rfl (own_empty w 76 3) ⟨g, 0, none⟩ n c xs rfl hx hnews hone hn hmax hby (by simp) _ rfl ?_; intro g6 cap6 w6 hown6 hgrow6 hat6 hlt6))
  go_ret
  rw [Nat.zero_add] at hown6
  exact ⟨g6, cap6, rfl, hown6, ((Below.refl w.heap.size w).alloc (Nat.le_refl _) _).grown hgrow6 (by simp) (fun j hj => by cases hj; exact Nat.le_refl _)⟩
set_option maxHeartbeats 1000000 in
set_option maxRecDepth 100000 in
theorem clonePm_none (p : Option Addr) (c : Nat) (w : World) :
    Calls Tryz.prog 39 #[.slice p 0 c] w fun e w' => ∃ q c', e = .returned (.slice q 0 c') ∧ Below w.heap.size w w' := by
  cases p with
  | none =>
    have hnl := slnonePm 0 c
    go_enter Tryz.func39, Tryz.ntmps39
    go_wp2
    go_ret
    exact ⟨_, _, rfl, Below.refl _ _⟩
  | some a =>
    have hnl := slnilPm a 0 c
    go_enter Tryz.func39, Tryz.ntmps39
    go_wp2
    go_ret
    exact ⟨_, _, rfl, (Below.refl w.heap.size w).alloc (Nat.le_refl _) _⟩
theorem slnilRf (a : Addr) (n c : Nat) (w : World) : (binOp .eql 32 (.slice (some a) n c) (.slice none 0 0)).run Tryz.prog w = .ok (.bool false) w := by kernel_rfl
theorem slnoneRf (n c : Nat) (w : World) : (binOp .eql 32 (.slice none n c) (.slice none 0 0)).run Tryz.prog w = .ok (.bool true) w := by kernel_rfl
set_option maxHeartbeats 1000000 in
set_option maxRecDepth 100000 in
theorem cloneRf_any (g n c : Nat) (xs : List Value) (w : World) (hn : 0 < n) (hn2 : n ≤ 1099511627776) (hx : xs.length = n * 2) (hone : ∀ u ∈ xs, u.oneCell' = true) (hc : ∀ j u, xs[j]? = some u → w.cell? ⟨g, j, none⟩ = some u) :
    Calls Tryz.prog 40 #[.slice (some ⟨g, 0, none⟩) n c] w fun e w' => ∃ g' c', e = .returned (.slice (some ⟨g', 0, none⟩) n c') ∧ w'.ownsRow w.heap.size 78 2 (.slice (some ⟨g', 0, none⟩) n c') n xs ∧ Below w.heap.size w w' := by
  obtain ⟨i0, hi0, hz0, hz1, hz2⟩ := info_parts Tryz.infoRf
  have hnl := slnilRf ⟨g, 0, none⟩ n c
  have hmax : 0 + n ≤ maxLen := by unfold maxLen; omega
  have hby : (0 + n) * 24 ≤ 140737488355328 := by omega
  have hnews : ∀ j u, xs[j]? = some u → (w.alloc (.cells #[] 78)).cell? ((⟨g, 0, none⟩ : Addr).add j) = some u := fun j u h => by rw [add0]; exact cell_alloc (hc j u h) _
  clear hc
  go_enter Tryz.func40, Tryz.ntmps40
  go_wp2_with (first
    | (at_builtin; refine wpList_append_lies _ rfl (.tmp 5) (.tmp 6) 32 rfl w.heap.size 78 i0 _ 2 24 Tryz.underlying32 hi0 hz0 hz1 hz2 rfl (by decide) _ _ _ rfl (own_empty w 78 2) ⟨g, 0, none⟩ n c xs rfl hx hnews hone hn hmax hby (by simp) _ rfl ?_; intro g6 cap6 w6 hown6 hgrow6 hat6 hlt6))
  go_ret
  rw [Nat.zero_add] at hown6
  exact ⟨g6, cap6, rfl, hown6, ((Below.refl w.heap.size w).alloc (Nat.le_refl _) _).grown hgrow6 (by simp) (fun j hj => by cases hj; exact Nat.le_refl _)⟩
set_option maxHeartbeats 1000000 in
set_option maxRecDepth 100000 in
theorem cloneRf_none (p : Option Addr) (c : Nat) (w : World) :
    Calls Tryz.prog 40 #[.slice p 0 c] w fun e w' => ∃ q c', e = .returned (.slice q 0 c') ∧ Below w.heap.size w w' := by
  cases p with
  | none =>
    have hnl := slnoneRf 0 c
    go_enter Tryz.func40, Tryz.ntmps40
    go_wp2
    go_ret
    exact ⟨_, _, rfl, Below.refl _ _⟩
  | some a =>
    have hnl := slnilRf a 0 c
    go_enter Tryz.func40, Tryz.ntmps40
    go_wp2
    go_ret
    exact ⟨_, _, rfl, (Below.refl w.heap.size w).alloc (Nat.le_refl _) _⟩
theorem slnilDg (a : Addr) (n c : Nat) (w : World) : (binOp .eql 34 (.slice (some a) n c) (.slice none 0 0)).run Tryz.prog w = .ok (.bool false) w := by kernel_rfl
theorem slnoneDg (n c : Nat) (w : World) : (binOp .eql 34 (.slice none n c) (.slice none 0 0)).run Tryz.prog w = .ok (.bool true) w := by kernel_rfl
set_option maxHeartbeats 1000000 in
set_option maxRecDepth 100000 in
theorem cloneDg_any (g n c : Nat) (xs : List Value) (w : World) (hn : 0 < n) (hn2 : n ≤ 1099511627776) (hx : xs.length = n * 4) (hone : ∀ u ∈ xs, u.oneCell' = true) (hc : ∀ j u, xs[j]? = some u → w.cell? ⟨g, j, none⟩ = some u) :
    Calls Tryz.prog 42 #[.slice (some ⟨g, 0, none⟩) n c] w fun e w' => ∃ g' c', e = .returned (.slice (some ⟨g', 0, none⟩) n c') ∧ w'.ownsRow w.heap.size 48 4 (.slice (some ⟨g', 0, none⟩) n c') n xs ∧ Below w.heap.size w w' := by
  obtain ⟨i0, hi0, hz0, hz1, hz2⟩ := info_parts Tryz.infoDg
  have hnl := slnilDg ⟨g, 0, none⟩ n c
  have hmax : 0 + n ≤ maxLen := by unfold maxLen; omega
  have hby : (0 + n) * 40 ≤ 140737488355328 := by omega
  have hnews : ∀ j u, xs[j]? = some u → (w.alloc (.cells #[] 48)).cell? ((⟨g, 0, none⟩ : Addr).add j) = some u := fun j u h => by rw [add0]; exact cell_alloc (hc j u h) _
  clear hc
  go_enter Tryz.func42, Tryz.ntmps42
  go_wp2_with (first
    | (at_builtin; refine wpList_append_lies _ rfl (.tmp 5) (.tmp 6) 34 rfl w.heap.size 48 i0 _ 4 40 Tryz.underlying34 hi0 hz0 hz1 hz2 rfl (by decide) _ _ _ rfl (own_empty w 48 4) ⟨g, 0, none⟩ n c xs rfl hx hnews hone hn hmax hby (by simp) _ rfl ?_; intro g6 cap6 w6 hown6 hgrow6 hat6 hlt6))
  go_ret
  rw [Nat.zero_add] at hown6
  exact ⟨g6, cap6, rfl, hown6, ((Below.refl w.heap.size w).alloc (Nat.le_refl _) _).grown hgrow6 (by simp) (fun j hj => by cases hj; exact Nat.le_refl _)⟩
set_option maxHeartbeats 1000000 in
set_option maxRecDepth 100000 in
theorem cloneDg_none (p : Option Addr) (c : Nat) (w : World) :
    Calls Tryz.prog 42 #[.slice p 0 c] w fun e w' => ∃ q c', e = .returned (.slice q 0 c') ∧ Below w.heap.size w w' := by
  cases p with
  | none =>
    have hnl := slnoneDg 0 c
    go_enter Tryz.func42, Tryz.ntmps42
    go_wp2
    go_ret
    exact ⟨_, _, rfl, Below.refl _ _⟩
  | some a =>
    have hnl := slnilDg a 0 c
    go_enter Tryz.func42, Tryz.ntmps42
    go_wp2
    go_ret
    exact ⟨_, _, rfl, (Below.refl w.heap.size w).alloc (Nat.le_refl _) _⟩
theorem Tryz.infoStC : (Tryz.prog.info? 121).map (fun i => (i.zero, i.size, i.bytes)) = some (some (.agg #[.int .i64 0, .string ⟨#[]⟩, .int .i64 0, .int .i64 0, .bool false, .int .i64 0, .string ⟨#[]⟩, .int .i64 0, .slice none 0 0, .int .i64 0, .int .i64 0, .slice none 0 0, .slice none 0 0, .int .i64 0, .int .i64 0]), 15, 184) := by kernel_rfl
theorem slnilSt (a : Addr) (n c : Nat) (w : World) : (binOp .eql 33 (.slice (some a) n c) (.slice none 0 0)).run Tryz.prog w = .ok (.bool false) w := by kernel_rfl
theorem slnoneSt (n c : Nat) (w : World) : (binOp .eql 33 (.slice none n c) (.slice none 0 0)).run Tryz.prog w = .ok (.bool true) w := by kernel_rfl
set_option maxHeartbeats 1000000 in
set_option maxRecDepth 100000 in
theorem cloneSt_any (g n c : Nat) (xs : List Value) (w : World) (hn : 0 < n) (hn2 : n ≤ 549755813888) (hx : xs.length = n * 15) (hone : ∀ u ∈ xs, u.oneCell' = true) (hc : ∀ j u, xs[j]? = some u → w.cell? ⟨g, j, none⟩ = some u) :
    Calls Tryz.prog 71 #[.slice (some ⟨g, 0, none⟩) n c] w fun e w' => ∃ g' c', e = .returned (.slice (some ⟨g', 0, none⟩) n c') ∧ w'.ownsRow w.heap.size 121 15 (.slice (some ⟨g', 0, none⟩) n c') n xs ∧ Below w.heap.size w w' := by
  obtain ⟨i0, hi0, hz0, hz1, hz2⟩ := info_parts Tryz.infoStC
  have hnl := slnilSt ⟨g, 0, none⟩ n c
  have hmax : 0 + n ≤ maxLen := by unfold maxLen; omega
  have hby : (0 + n) * 184 ≤ 140737488355328 := by omega
  have hnews : ∀ j u, xs[j]? = some u → (w.alloc (.cells #[] 121)).cell? ((⟨g, 0, none⟩ : Addr).add j) = some u := fun j u h => by rw [add0]; exact cell_alloc (hc j u h) _
  clear hc
  go_enter Tryz.func71, Tryz.ntmps71
  go_wp2_with (first
    | (at_builtin; refine wpList_append_lies _ rfl (.tmp 5) (.tmp 6) 33 rfl w.heap.size 121 i0 _ 15 184 Tryz.underlying33 hi0 hz0 hz1 hz2 rfl (by decide) _ _ _ rfl (own_empty w 121 15) ⟨g, 0, none⟩ n c xs rfl hx hnews hone hn hmax hby (by simp) _ rfl ?_; intro g6 cap6 w6 hown6 hgrow6 hat6 hlt6))
  go_ret
  rw [Nat.zero_add] at hown6
  exact ⟨g6, cap6, rfl, hown6, ((Below.refl w.heap.size w).alloc (Nat.le_refl _) _).grown hgrow6 (by simp) (fun j hj => by cases hj; exact Nat.le_refl _)⟩
set_option maxHeartbeats 1000000 in
set_option maxRecDepth 100000 in
theorem cloneSt_none (p : Option Addr) (c : Nat) (w : World) :
    Calls Tryz.prog 71 #[.slice p 0 c] w fun e w' => ∃ q c', e = .returned (.slice q 0 c') ∧ Below w.heap.size w w' := by
  cases p with
  | none =>
    have hnl := slnoneSt 0 c
    go_enter Tryz.func71, Tryz.ntmps71
    go_wp2
    go_ret
    exact ⟨_, _, rfl, Below.refl _ _⟩
  | some a =>
    have hnl := slnilSt a 0 c
    go_enter Tryz.func71, Tryz.ntmps71
    go_wp2
    go_ret
    exact ⟨_, _, rfl, (Below.refl w.heap.size w).alloc (Nat.le_refl _) _⟩
theorem Tryz.infoExC : (Tryz.prog.info? 119).map (fun i => (i.zero, i.size, i.bytes)) = some (some (.agg #[.int .i64 0, .string ⟨#[]⟩, .int .i64 0, .slice none 0 0, .int .i64 0, .int .i64 0]), 6, 72) := by kernel_rfl
theorem slnilEx (a : Addr) (n c : Nat) (w : World) : (binOp .eql 117 (.slice (some a) n c) (.slice none 0 0)).run Tryz.prog w = .ok (.bool false) w := by kernel_rfl
theorem slnoneEx (n c : Nat) (w : World) : (binOp .eql 117 (.slice none n c) (.slice none 0 0)).run Tryz.prog w = .ok (.bool true) w := by kernel_rfl
set_option maxHeartbeats 1000000 in
set_option maxRecDepth 100000 in
theorem cloneEx_any (g n c : Nat) (xs : List Value) (w : World) (hn : 0 < n) (hn2 : n ≤ 1099511627776) (hx : xs.length = n * 6) (hone : ∀ u ∈ xs, u.oneCell' = true) (hc : ∀ j u, xs[j]? = some u → w.cell? ⟨g, j, none⟩ = some u) :
    Calls Tryz.prog 99 #[.slice (some ⟨g, 0, none⟩) n c] w fun e w' => ∃ g' c', e = .returned (.slice (some ⟨g', 0, none⟩) n c') ∧ w'.ownsRow w.heap.size 119 6 (.slice (some ⟨g', 0, none⟩) n c') n xs ∧ Below w.heap.size w w' := by
  obtain ⟨i0, hi0, hz0, hz1, hz2⟩ := info_parts Tryz.infoExC
  have hnl := slnilEx ⟨g, 0, none⟩ n c
  have hmax : 0 + n ≤ maxLen := by unfold maxLen; omega
  have hby : (0 + n) * 72 ≤ 140737488355328 := by omega
  have hnews : ∀ j u, xs[j]? = some u → (w.alloc (.cells #[] 119)).cell? ((⟨g, 0, none⟩ : Addr).add j) = some u := fun j u h => by rw [add0]; exact cell_alloc (hc j u h) _
  clear hc
  go_enter Tryz.func99, Tryz.ntmps99
  go_wp2_with (first
    | (at_builtin; refine wpList_append_lies _ rfl (.tmp 5) (.tmp 6) 117 rfl w.heap.size 119 i0 _ 6 72 Tryz.underlying117 hi0 hz0 hz1 hz2 rfl (by decide) _ _ _ rfl (own_empty w 119 6) ⟨g, 0, none⟩ n c xs rfl hx hnews hone hn hmax hby (by simp) _ rfl ?_; intro g6 cap6 w6 hown6 hgrow6 hat6 hlt6))
  go_ret
  rw [Nat.zero_add] at hown6
  exact ⟨g6, cap6, rfl, hown6, ((Below.refl w.heap.size w).alloc (Nat.le_refl _) _).grown hgrow6 (by simp) (fun j hj => by cases hj; exact Nat.le_refl _)⟩
set_option maxHeartbeats 1000000 in
set_option maxRecDepth 100000 in
theorem cloneEx_none (p : Option Addr) (c : Nat) (w : World) :
    Calls Tryz.prog 99 #[.slice p 0 c] w fun e w' => ∃ q c', e = .returned (.slice q 0 c') ∧ Below w.heap.size w w' := by
  cases p with
  | none =>
    have hnl := slnoneEx 0 c
    go_enter Tryz.func99, Tryz.ntmps99
    go_wp2
    go_ret
    exact ⟨_, _, rfl, Below.refl _ _⟩
  | some a =>
    have hnl := slnilEx a 0 c
    go_enter Tryz.func99, Tryz.ntmps99
    go_wp2
    go_ret
    exact ⟨_, _, rfl, (Below.refl w.heap.size w).alloc (Nat.le_refl _) _⟩
end Go.Proofs.YtdpjhemddigpiabGreatDoor
namespace Go.Proofs.YtdpjhemddigpiabGreatDoor
open Go.RowKit
/-- Blocks that are new, but for the list's own. -/
def okN (B g : Nat) (w : World) (k : Nat) : Prop := B ≤ k ∧ k < w.heap.size ∧ k ≠ g
/-- The first i parts are copied: their list in block g. -/
structure OwnR (rd : (Nat → Prop) → World → Tr → Value → Prop) (T : TypeId) (st : Nat) (ok : Nat → Prop) (g : Nat) (w wr : World) (l : List Tr) (i : Nat) : Prop where
  blk : ∃ cur, wr.heap[g]? = some (.cells cur T (0, 0))
  els : ∀ (j : Nat) (a : Tr), l[j]? = some a → ∃ v, CellsV wr g (j * st) v ∧ (j < i → rd (okN w.heap.size g wr) wr a v) ∧ (i ≤ j → rd ok wr a v)
  bel : Below w.heap.size w wr
  low : w.heap.size ≤ g
section
variable {rd : (Nat → Prop) → World → Tr → Value → Prop} {T : TypeId} {st : Nat} {ok : Nat → Prop} {g : Nat} {w wr W : World} {l : List Tr} {i : Nat}
theorem OwnR.lt (h : OwnR rd T st ok g w wr l i) : g < wr.heap.size := by
  obtain ⟨cur, hb⟩ := h.blk
  exact (Array.getElem?_eq_some_iff.1 hb).1
theorem OwnR.fro (h : OwnR rd T st ok g w wr l i) : ∀ o, wr.frozen? ⟨g, o, none⟩ = false := by
  obtain ⟨cur, hb⟩ := h.blk
  exact fun o => by simp [World.frozen?, hb]
theorem CellsV.off {w' : World} {o : Nat} {v : Value} (h : CellsV w g o v) (hc : ∀ m cs, v = .agg cs → m < cs.size → w'.cell? ⟨g, o + m, none⟩ = w.cell? ⟨g, o + m, none⟩) : CellsV w' g o v := by
  obtain ⟨cs, e, h⟩ := h
  exact ⟨cs, e, fun m u hm => (hc m cs e (Array.getElem?_eq_some_iff.1 hm).1).trans (h m u hm)⟩
/-- A part more. -/
theorem OwnR.next (hk : Kept rd) (hsz : ∀ ok w a cs, rd ok w a (.agg cs) → cs.size = st) (hok : ∀ k, ok k → k < w.heap.size) (h : OwnR rd T st ok g w wr l i) {a : Tr} {v : Value} (ha : l[i]? = some a) (hW : ∀ k, k < wr.heap.size → k ≠ g → W.heap[k]? = wr.heap[k]?) (hb : Below w.heap.size w W) (hs : wr.heap.size ≤ W.heap.size) (hg : ∃ cur, W.heap[g]? = some (.cells cur T (0, 0)))
    (hc : ∀ o, o < i * st ∨ i * st + st ≤ o → W.cell? ⟨g, o, none⟩ = wr.cell? ⟨g, o, none⟩) (hv : CellsV W g (i * st) v) (hr : rd (okN w.heap.size g W) W a v) : OwnR rd T st ok g w W l (i + 1) := by
  have hlt := h.lt
  have hwl := h.bel.size
  have hlow := h.low
  have o1 : ∀ k, ok k → W.heap[k]? = wr.heap[k]? := fun k hk => hW k (Nat.lt_of_lt_of_le (hok k hk) hwl) (by have := hok k hk; omega)
  have o2 : ∀ k, okN w.heap.size g wr k → W.heap[k]? = wr.heap[k]? := fun k hk => hW k hk.2.1 hk.2.2
  have o3 : ∀ k, okN w.heap.size g wr k → okN w.heap.size g W k := fun k hk => ⟨hk.1, Nat.lt_of_lt_of_le hk.2.1 hs, hk.2.2⟩
  refine ⟨hg, fun j b hj => ?_, hb, hlow⟩
  by_cases hji : j = i
  · subst hji
    rw [ha] at hj
    injection hj with hj
    subst hj
    exact ⟨v, hv, fun _ => hr, fun h => by omega⟩
  · obtain ⟨u, h1, h2, h3⟩ := h.els j b hj
    have hsize : ∀ cs, u = .agg cs → cs.size = st := fun cs e => by
      subst e
      by_cases hl : j < i
      · exact hsz _ _ _ _ (h2 hl)
      · exact hsz _ _ _ _ (h3 (by omega))
    refine ⟨u, h1.off (fun m cs e hm => hc _ ?_), fun hl => hk _ _ _ _ o2 o3 _ _ (h2 (by omega)), fun hl => hk _ _ _ _ o1 (fun _ h => h) _ _ (h3 (by omega))⟩
    have := hsize cs e
    rcases Nat.lt_or_gt_of_ne hji with hl | hl
    · left
      have : (j + 1) * st ≤ i * st := Nat.mul_le_mul_right _ hl
      rw [Nat.succ_mul] at this
      omega
    · right
      have : (i + 1) * st ≤ j * st := Nat.mul_le_mul_right _ hl
      rw [Nat.succ_mul] at this
      omega
/-- All parts are copied. -/
theorem OwnR.done (hk : Kept rd) (h : OwnR rd T st ok g w wr l l.length) (hl : l.length ≤ 1099511627776) : SlT (fun k => w.heap.size ≤ k ∧ k < wr.heap.size) (rd (fun k => w.heap.size ≤ k ∧ k < wr.heap.size) wr) wr st l (some ⟨g, 0, none⟩) := by
  refine ⟨hl, fun _ => ⟨g, rfl, ⟨h.low, h.lt⟩, fun j a hj => ?_⟩⟩
  obtain ⟨v, h1, h2, _⟩ := h.els j a hj
  exact ⟨v, h1, hk _ _ _ _ (fun _ _ => rfl) (fun k hk => ⟨hk.1, hk.2.1⟩) _ _ (h2 (List.getElem?_eq_some_iff.1 hj).1)⟩
/-- The cells of parts that lie one behind the other. -/
theorem flat_cells (hsz : ∀ ok w a cs, rd ok w a (.agg cs) → cs.size = st) (hag : ∀ ok w a v, rd ok w a v → ∃ cs, v = .agg cs) (h1c : ∀ ok w a cs, rd ok w a (.agg cs) → ∀ u ∈ cs.toList, u.oneCell' = true) : ∀ (l : List Tr) (o : Nat), (∀ (j : Nat) (a : Tr), l[j]? = some a → ∃ va, CellsV w g (o + j * st) va ∧ rd ok w a va) →
    ∃ xs : List Value, xs.length = l.length * st ∧ (∀ u ∈ xs, u.oneCell' = true) ∧ (∀ j u, xs[j]? = some u → w.cell? ⟨g, o + j, none⟩ = some u) ∧ ∀ (j : Nat) (a : Tr), l[j]? = some a → ∃ cs : List Value, cs.length = st ∧ rd ok w a (.agg cs.toArray) ∧ ∀ m u, cs[m]? = some u → xs[j * st + m]? = some u := by
  intro l
  induction l with
  | nil => intro o _; exact ⟨[], by simp, by simp, by simp, by simp⟩
  | cons a l ih =>
    intro o hl
    obtain ⟨xs, h1, h2, h3, h4⟩ := ih (o + st) (fun j b hj => by
      have := hl (j + 1) b (by simpa using hj)
      rw [show o + (j + 1) * st = o + st + j * st by rw [Nat.succ_mul]; omega] at this
      exact this)
    obtain ⟨va, hc, hr⟩ := hl 0 a rfl
    rw [Nat.zero_mul, Nat.add_zero] at hc
    obtain ⟨cs, rfl⟩ := hag _ _ _ _ hr
    have hn : cs.toList.length = st := by have := hsz _ _ _ _ hr; simpa using this
    refine ⟨cs.toList ++ xs, ?_, fun u hu => ?_, fun j u hj => ?_, fun j b hj => ?_⟩
    · rw [List.length_append, hn, h1, List.length_cons, Nat.succ_mul]; omega
    · rcases List.mem_append.1 hu with hu | hu
      · exact h1c _ _ _ _ hr u hu
      · exact h2 u hu
    · rcases Nat.lt_or_ge j st with hj2 | hj2
      · rw [List.getElem?_append_left (by omega)] at hj
        exact hc.get j u (by simpa using hj)
      · rw [List.getElem?_append_right (by omega), hn] at hj
        have := h3 _ u hj
        rwa [show o + st + (j - st) = o + j by omega] at this
    · cases j with
      | zero =>
        simp at hj
        subst hj
        refine ⟨cs.toList, hn, by simpa using hr, fun m u hm => ?_⟩
        rw [Nat.zero_mul, Nat.zero_add, List.getElem?_append_left (List.getElem?_eq_some_iff.1 hm).1]
        exact hm
      | succ j =>
        obtain ⟨ds, g1, g2, g3⟩ := h4 j b (by simpa using hj)
        refine ⟨ds, g1, g2, fun m u hm => ?_⟩
        rw [Nat.succ_mul, show j * st + st + m = st + (j * st + m) by omega, List.getElem?_append_right (by omega), hn, Nat.add_sub_cancel_left]
        exact g3 m u hm
/-- A list that was copied as it lies: where it begins. -/
theorem OwnR.start (hk : Kept rd) {w1 : World} {c : Nat} {xs : List Value} (hok : ∀ k, ok k → k < w.heap.size) (hown : w1.ownsRow w.heap.size T st (.slice (some ⟨g, 0, none⟩) l.length c) l.length xs) (hb : Below w.heap.size w w1)
    (hx : ∀ (j : Nat) (a : Tr), l[j]? = some a → ∃ cs : List Value, cs.length = st ∧ rd ok w a (.agg cs.toArray) ∧ ∀ m u, cs[m]? = some u → xs[j * st + m]? = some u) : OwnR rd T st ok g w w1 l 0 := by
  have hlt := hown.lt g rfl
  have hc := hown.cells (g := g) rfl
  obtain ⟨_, ⟨h1, _⟩ | ⟨g', cap', cur, h1, _, h2, _⟩⟩ := hown
  · cases h1
  · injection h1 with h1
    injection h1 with h1
    injection h1 with h1
    subst h1
    refine ⟨⟨cur, h2⟩, fun j a hj => ?_, hb, hlt.1⟩
    obtain ⟨cs, g1, g2, g3⟩ := hx j a hj
    refine ⟨.agg cs.toArray, ⟨_, rfl, fun m u hm => ?_⟩, fun h => by omega, fun _ => hk _ _ _ _ (fun k hk => hb.block k (hok k hk)) (fun _ h => h) _ _ g2⟩
    have := hc _ u (g3 m u (by simpa using hm))
    rwa [add0] at this
end
end Go.Proofs.YtdpjhemddigpiabGreatDoor
namespace Go.Proofs.YtdpjhemddigpiabGreatDoor
open Go.RowKit
attribute [local go_sem ↓] Go.wp_at_zero Go.wp_at_succ
theorem rdE_size (n : Nat) : ∀ (ok : Nat → Prop) (w : World) (a : Tr) (cs : Array Value), RdE n ok w a (.agg cs) → cs.size = 6 := by
  intro ok w a cs h
  obtain ⟨k, x, m, p, l, c, hv⟩ := h.shape
  injection hv with hv
  rw [hv]; rfl
theorem rdE_agg (n : Nat) : ∀ (ok : Nat → Prop) (w : World) (a : Tr) (v : Value), RdE n ok w a v → ∃ cs, v = .agg cs := by
  intro ok w a v h
  obtain ⟨k, x, m, p, l, c, hv⟩ := h.shape
  exact ⟨_, hv⟩
theorem rdE_one (n : Nat) : ∀ (ok : Nat → Prop) (w : World) (a : Tr) (cs : Array Value), RdE n ok w a (.agg cs) → ∀ u ∈ cs.toList, u.oneCell' = true := by
  intro ok w a cs h
  obtain ⟨k, x, m, p, l, c, hv⟩ := h.shape
  injection hv with hv
  subst hv
  intro u hu
  simp at hu
  rcases hu with rfl | rfl | rfl | rfl | rfl | rfl <;> rfl
/-- What ownExprs is to answer, of expressions no deeper than n. -/
def COE (n : Nat) : Prop := ∀ (al : List Tr) (p : Option Addr) (c : Nat) (w : World) (ok : Nat → Prop), (∀ k, ok k → k < w.heap.size) → SlT ok (RdE n ok w) w 6 al p →
  Calls Tryz.prog 72 #[.slice p al.length c] w fun e w' => ∃ q c', e = .returned (.slice q al.length c') ∧ SlT (fun k => w.heap.size ≤ k ∧ k < w'.heap.size) (RdE n (fun k => w.heap.size ≤ k ∧ k < w'.heap.size) w') w' 6 al q ∧ Below w.heap.size w w'
def RelOE (n : Nat) (ok : Nat → Prop) (g : Nat) (w : World) (l : List Tr) (i : Value) (wr : World) : Prop := ∃ k : Nat, k ≤ l.length ∧ i = .int .i64 (k : Int) ∧ OwnR (RdE n) 119 6 ok g w wr l k
theorem ownE_step {n : Nat} {ok : Nat → Prop} {g : Nat} {w wr w5 : World} {l : List Tr} {i : Nat} (hok : ∀ k, ok k → k < w.heap.size) (h : OwnR (RdE (n + 1)) 119 6 ok g w wr l i) {k m f t : Nat} {x : ByteArray} {al : List Tr} {p : Option Addr} {cap : Nat} (ha : l[i]? = some (exMk k x m al f t))
    (hcv : CellsV wr g (i * 6) (.agg #[.int .i64 (k : Int), .string x, .int .i64 (m : Int), .slice p al.length cap, .int .i64 (f : Int), .int .i64 (t : Int)])) (hb5 : Below wr.heap.size wr w5) {q : Option Addr} {c' : Nat} (hS : SlT (fun k => wr.heap.size ≤ k ∧ k < w5.heap.size) (RdE n (fun k => wr.heap.size ≤ k ∧ k < w5.heap.size) w5) w5 6 al q) :
    OwnR (RdE (n + 1)) 119 6 ok g w (w5.setCell ⟨g, i * 6 + 3, none⟩ (.slice q al.length c')) l (i + 1) := by
  have hlt := h.lt
  have hwl := h.bel.size
  have hlow := h.low
  have hkk : ∀ k, k ≠ g → (w5.setCell ⟨g, i * 6 + 3, none⟩ (.slice q al.length c')).heap[k]? = w5.heap[k]? := fun k hk => Below.heap_setCell w5 _ _ k hk
  have hsz : (w5.setCell ⟨g, i * 6 + 3, none⟩ (.slice q al.length c')).heap.size = w5.heap.size := by simp
  have h3 := hcv.get 3 _ rfl
  have h35 := (hb5.cell (p := ⟨g, i * 6 + 3, none⟩) hlt).trans h3
  have hcell : ∀ o, o ≠ i * 6 + 3 → (w5.setCell ⟨g, i * 6 + 3, none⟩ (.slice q al.length c')).cell? ⟨g, o, none⟩ = wr.cell? ⟨g, o, none⟩ := fun o ho => (World.cell?_setCell_other _ _ _ _ (by intro e; simp only [Addr.mk.injEq] at e; omega)).trans (hb5.cell (p := ⟨g, o, none⟩) hlt)
  have hnew : (w5.setCell ⟨g, i * 6 + 3, none⟩ (.slice q al.length c')).cell? ⟨g, i * 6 + 3, none⟩ = some (.slice q al.length c') := World.cell?_setCell_same _ _ _ h35
  refine h.next (kept_E (n + 1)) (rdE_size (n + 1)) hok (v := .agg #[.int .i64 (k : Int), .string x, .int .i64 (m : Int), .slice q al.length c', .int .i64 (f : Int), .int .i64 (t : Int)]) ha (fun b hb hne => (hkk b hne).trans (hb5.block b hb)) ((h.bel.trans (hb5.mono hwl)).setCell hlow _) (by rw [hsz]; exact hb5.size) ?_ (fun o ho => hcell o (by omega)) ?_ ?_
  · obtain ⟨cur, hcur⟩ := h.blk
    have := (hb5.block g hlt).trans hcur
    exact ⟨cur.setIfInBounds (i * 6 + 3) (.slice q al.length c'), by simp [World.setCell, Array.getElem?_modify, this]⟩
  · refine ⟨_, rfl, fun j u hj => ?_⟩
    by_cases h33 : j = 3
    · subst h33
      simp at hj
      subst hj
      exact hnew
    · rw [hcell _ (by omega)]
      refine hcv.get j u ?_
      match j, h33, hj with
      | 0, _, hj => exact hj
      | 1, _, hj => exact hj
      | 2, _, hj => exact hj
      | 4, _, hj => exact hj
      | 5, _, hj => exact hj
      | j + 6, _, hj => simp at hj
  · have o1 : ∀ k, (wr.heap.size ≤ k ∧ k < w5.heap.size) → (w5.setCell ⟨g, i * 6 + 3, none⟩ (.slice q al.length c')).heap[k]? = w5.heap[k]? := fun k hk => hkk k (by omega)
    have o2 : ∀ k, (wr.heap.size ≤ k ∧ k < w5.heap.size) → okN w.heap.size g (w5.setCell ⟨g, i * 6 + 3, none⟩ (.slice q al.length c')) k := fun k hk => ⟨by omega, by rw [hsz]; exact hk.2, by omega⟩
    exact ⟨k, x, m, al, f, t, q, c', rfl, rfl, SlT.kept hS o1 o2 (RdE.kept n o1 o2)⟩
set_option maxHeartbeats 2000000 in
set_option maxRecDepth 100000 in
theorem ownExprs_any (n : Nat) : COE n := by
  induction n with
  | zero =>
    intro al p c w ok hok h
    have h0 : al.length = 0 := by
      rcases Nat.eq_zero_or_pos al.length with h1 | h1
      · exact h1
      · obtain ⟨g, _, _, hl⟩ := h.2 h1
        obtain ⟨va, _, hr⟩ := hl 0 _ (List.getElem?_eq_getElem h1)
        exact hr.elim
    rw [h0]
    go_enter Tryz.func72, Tryz.ntmps72
    go_wp2_with (first
      | (go_at_call 99; refine (cloneEx_none p c _).mono ?_; rintro e w1 ⟨q, c1, rfl, hb1⟩))
    go_loopw [9] (fun i wr => i = .int .i64 0 ∧ wr = w1) (fun _ _ => 0)
    case atStart => exact ⟨rfl, rfl⟩
    case round =>
      obtain ⟨rfl, rfl⟩ := hrel
      go_wp2
      go_ret
      exact ⟨q, c1, rfl, ⟨by omega, fun h => absurd h (by omega)⟩, hb1⟩
  | succ n ih =>
    intro al p c w ok hok h
    by_cases h0 : al.length = 0
    · rw [h0]
      go_enter Tryz.func72, Tryz.ntmps72
      go_wp2_with (first
        | (go_at_call 99; refine (cloneEx_none p c _).mono ?_; rintro e w1 ⟨q, c1, rfl, hb1⟩))
      go_loopw [9] (fun i wr => i = .int .i64 0 ∧ wr = w1) (fun _ _ => 0)
      case atStart => exact ⟨rfl, rfl⟩
      case round =>
        obtain ⟨rfl, rfl⟩ := hrel
        go_wp2
        go_ret
        exact ⟨q, c1, rfl, ⟨by omega, fun h => absurd h (by omega)⟩, hb1⟩
    · obtain ⟨g, rfl, hg, hL⟩ := h.2 (by omega)
      have hlen := h.1
      obtain ⟨xs, x1, x2, x3, x4⟩ := flat_cells (rdE_size (n + 1)) (rdE_agg (n + 1)) (rdE_one (n + 1)) al 0 (fun j a hj => by rw [Nat.zero_add]; exact hL j a hj)
      have x3' : ∀ j u, xs[j]? = some u → w.cell? ⟨g, j, none⟩ = some u := fun j u hj => by have := x3 j u hj; rwa [Nat.zero_add] at this
      have hpos : 0 < al.length := by omega
      have HL : Hid (al.length ≤ 1099511627776) := hlen
      clear x3 hL h h0 hlen
      go_enter Tryz.func72, Tryz.ntmps72
      go_wp2_with (first
        | (go_at_call 99; refine (cloneEx_any g al.length c xs _ hpos HL.out x1 x2 x3').mono ?_; rintro e w1 ⟨g1, c1, rfl, hown, hb1⟩; have hst := OwnR.start (kept_E (n + 1)) hok hown hb1 x4; clear hown x4 x3' x2 x1))
      go_loopw [9] (fun i wr => RelOE (n + 1) ok g1 w al i wr) (fun i _ => upN al.length i)
      case atStart => exact ⟨0, Nat.zero_le _, rfl, hst⟩
      case round =>
        obtain ⟨k, hk, rfl, hR⟩ := hrel
        clear hst
        by_cases hlt : k < al.length
        · obtain ⟨a, ha⟩ : ∃ a, al[k]? = some a := ⟨_, List.getElem?_eq_getElem hlt⟩
          obtain ⟨v, hcv, _, hold⟩ := hR.els k a ha
          obtain ⟨ek, ex, em, eal, ef, et, ep, ecap, rfl, rfl, hS⟩ := hold (Nat.le_refl _)
          have d3 := hcv.get 3 _ rfl
          have hokr : ∀ k, ok k → k < wr.heap.size := fun k hk => Nat.lt_of_lt_of_le (hok k hk) hR.bel.size
          have gk : (0 : Int) ≤ (k : Int) := by omega
          have gk1 : (k : Int) < (al.length : Int) := by omega
          have HK : Hid (k < al.length) := hlt
          have HO : Hid (∀ k, ok k → k < wr.heap.size) := hokr
          have HS : Hid (SlT ok (RdE n ok wr) wr 6 eal ep) := hS
          have hgl := hR.lt
          have hk40 : k < 1099511627776 := by have := HL.out; omega
          clear hold hokr hS hlt hk
          go_wp2_with (first
            | (go_at_call 72; refine (ih eal ep ecap _ ok HO.out HS.out).mono ?_; rintro e w5 ⟨q5, c5, rfl, hS5, hb5⟩; have d5 := (hb5.cell (p := ⟨g1, k * 6 + 3, none⟩) hgl).trans d3; have f5 : ∀ o, w5.frozen? ⟨g1, o, none⟩ = false := (fun o => (World.frozen?_of_block (a := ⟨g1, o, none⟩) (hb5.block g1 hgl)).trans (hR.fro o))))
          go_roundw
          case rel => exact ⟨k + 1, by have := HK.out; omega, by go_num, ownE_step hok hR ha hcv hb5 hS5⟩
          case measure => have := HK.out; simp [upN, intOf]; omega
        · obtain rfl : k = al.length := by omega
          clear hlt hk
          go_wp2
          go_ret
          exact ⟨some ⟨g1, 0, none⟩, c1, rfl, hR.done (kept_E (n + 1)) HL.out, hR.bel⟩
end Go.Proofs.YtdpjhemddigpiabGreatDoor
namespace Go.Proofs.YtdpjhemddigpiabGreatDoor
open Go.RowKit
attribute [local go_sem ↓] Go.wp_at_zero Go.wp_at_succ
theorem rdS_size (n : Nat) : ∀ (ok : Nat → Prop) (w : World) (a : Tr) (cs : Array Value), RdS n ok w a (.agg cs) → cs.size = 15 := by
  intro ok w a cs h
  obtain ⟨k, x, a0, lb, op, ek, ex, en, ep, el, ec, ef, et, p1, l1, c1, p2, l2, c2, f, t, hv⟩ := h.shape
  injection hv with hv
  rw [hv]; rfl
theorem rdS_agg (n : Nat) : ∀ (ok : Nat → Prop) (w : World) (a : Tr) (v : Value), RdS n ok w a v → ∃ cs, v = .agg cs := by
  intro ok w a v h
  obtain ⟨k, x, a0, lb, op, ek, ex, en, ep, el, ec, ef, et, p1, l1, c1, p2, l2, c2, f, t, hv⟩ := h.shape
  exact ⟨_, hv⟩
theorem rdS_one (n : Nat) : ∀ (ok : Nat → Prop) (w : World) (a : Tr) (cs : Array Value), RdS n ok w a (.agg cs) → ∀ u ∈ cs.toList, u.oneCell' = true := by
  intro ok w a cs h
  obtain ⟨k, x, a0, lb, op, ek, ex, en, ep, el, ec, ef, et, p1, l1, c1, p2, l2, c2, f, t, hv⟩ := h.shape
  injection hv with hv
  subst hv
  intro u hu
  simp at hu
  rcases hu with rfl | rfl | rfl | rfl | rfl | rfl | rfl | rfl | rfl | rfl | rfl | rfl | rfl | rfl | rfl <;> rfl
/-- What ownStmts is to answer, of statements no deeper than n. -/
def COS (n : Nat) : Prop := ∀ (l : List Tr) (p : Option Addr) (c : Nat) (w : World) (ok : Nat → Prop), (∀ k, ok k → k < w.heap.size) → smL l → SlT ok (RdS n ok w) w 15 l p →
  Calls Tryz.prog 41 #[.slice p l.length c] w fun e w' => ∃ q c', e = .returned (.slice q l.length c') ∧ SlT (fun k => w.heap.size ≤ k ∧ k < w'.heap.size) (RdS n (fun k => w.heap.size ≤ k ∧ k < w'.heap.size) w') w' 15 l q ∧ Below w.heap.size w w'
def RelOS (n : Nat) (ok : Nat → Prop) (g : Nat) (w : World) (l : List Tr) (i : Value) (wr : World) : Prop := ∃ k : Nat, k ≤ l.length ∧ i = .int .i64 (k : Int) ∧ OwnR (RdS n) 121 15 ok g w wr l k
/-- A statement whose lists are being copied: where all else is as it was. -/
structure Mid (g : Nat) (w wr W : World) (i : Nat) (cs : Array Value) : Prop where
  hW : ∀ k, k < wr.heap.size → k ≠ g → W.heap[k]? = wr.heap[k]?
  bel : Below w.heap.size w W
  siz : wr.heap.size ≤ W.heap.size
  blk : ∃ cur, W.heap[g]? = some (.cells cur 121 (0, 0))
  out : ∀ o, o < i * 15 ∨ i * 15 + 15 ≤ o → W.cell? ⟨g, o, none⟩ = wr.cell? ⟨g, o, none⟩
  els : CellsV W g (i * 15) (.agg cs)
  low : w.heap.size ≤ g
section
variable {g : Nat} {w wr W W' : World} {i : Nat} {cs : Array Value}
theorem Mid.lt (h : Mid g w wr W i cs) : g < W.heap.size := by
  obtain ⟨cur, hb⟩ := h.blk
  exact (Array.getElem?_eq_some_iff.1 hb).1
theorem Mid.fro (h : Mid g w wr W i cs) : ∀ o, W.frozen? ⟨g, o, none⟩ = false := by
  obtain ⟨cur, hb⟩ := h.blk
  exact fun o => by simp [World.frozen?, hb]
theorem Mid.call (h : Mid g w wr W i cs) (hb : Below W.heap.size W W') : Mid g w wr W' i cs := by
  have hlt := h.lt
  refine ⟨fun k h1 h2 => (hb.block k (Nat.lt_of_lt_of_le h1 h.siz)).trans (h.hW k h1 h2), h.bel.trans (hb.mono h.bel.size), Nat.le_trans h.siz hb.size, ?_, fun o ho => (hb.cell (p := ⟨g, o, none⟩) hlt).trans (h.out o ho), h.els.kept (hb.block g hlt), h.low⟩
  obtain ⟨cur, hc⟩ := h.blk
  exact ⟨cur, (hb.block g hlt).trans hc⟩
theorem Mid.put (h : Mid g w wr W i cs) (m : Nat) (hm : m < 15) (hs : cs.size = 15) (u : Value) : Mid g w wr (W.setCell ⟨g, i * 15 + m, none⟩ u) i (cs.setIfInBounds m u) := by
  have hold := h.els.get m _ (Array.getElem?_eq_getElem (by omega))
  have hoth : ∀ o, o ≠ i * 15 + m → (W.setCell ⟨g, i * 15 + m, none⟩ u).cell? ⟨g, o, none⟩ = W.cell? ⟨g, o, none⟩ := fun o ho => World.cell?_setCell_other _ _ _ _ (by intro e; simp only [Addr.mk.injEq] at e; omega)
  refine ⟨fun k h1 h2 => (Below.heap_setCell W _ _ k h2).trans (h.hW k h1 h2), h.bel.setCell h.low _, by simpa using h.siz, ?_, fun o ho => (hoth o (by omega)).trans (h.out o ho), ⟨_, rfl, fun j v hj => ?_⟩, h.low⟩
  · obtain ⟨cur, hc⟩ := h.blk
    exact ⟨cur.setIfInBounds (i * 15 + m) u, by simp [World.setCell, Array.getElem?_modify, hc]⟩
  · by_cases hjm : j = m
    · subst hjm
      rw [Array.getElem?_setIfInBounds_self_of_lt (by omega)] at hj
      injection hj with hj
      subst hj
      exact World.cell?_setCell_same _ _ _ hold
    · rw [hoth _ (by omega)]
      refine h.els.get j v ?_
      rwa [Array.getElem?_setIfInBounds_ne (by omega)] at hj
end
section
variable {n : Nat} {ok : Nat → Prop} {g : Nat} {w wr w5 w6 w7 W5 W6 W7 : World} {l : List Tr} {i : Nat} {k0 a0 b0 ek em ef et f0 t0 : Nat} {x0 ex : ByteArray} {o0 : Bool} {eal th el : List Tr} {q5 q6 q7 : Option Addr} {c5 c6 c7 : Nat}
theorem ownS_step (hok : ∀ k, ok k → k < w.heap.size) (h : OwnR (RdS (n + 1)) 121 15 ok g w wr l i) (ha : l[i]? = some (stMk k0 x0 a0 b0 o0 (exMk ek ex em eal ef et) th el f0 t0))
    (hM : Mid g w wr W7 i #[.int .i64 (k0 : Int), .string x0, .int .i64 (a0 : Int), .int .i64 (b0 : Int), .bool o0, .int .i64 (ek : Int), .string ex, .int .i64 (em : Int), .slice q5 eal.length c5, .int .i64 (ef : Int), .int .i64 (et : Int), .slice q6 th.length c6, .slice q7 el.length c7, .int .i64 (f0 : Int), .int .i64 (t0 : Int)]) (s5 : wr.heap.size ≤ W5.heap.size) (s6 : W5.heap.size ≤ W6.heap.size) (s7 : W6.heap.size ≤ W7.heap.size)
    (e5 : ∀ k, g < k → k < W5.heap.size → W7.heap[k]? = W5.heap[k]?) (e6 : ∀ k, g < k → k < W6.heap.size → W7.heap[k]? = W6.heap[k]?)
    {m : Nat} (h5 : SlT (fun k => wr.heap.size ≤ k ∧ k < W5.heap.size) (RdE m (fun k => wr.heap.size ≤ k ∧ k < W5.heap.size) W5) W5 6 eal q5)
    (h6 : SlT (fun k => W5.heap.size ≤ k ∧ k < W6.heap.size) (RdS n (fun k => W5.heap.size ≤ k ∧ k < W6.heap.size) W6) W6 15 th q6)
    (h7 : SlT (fun k => W6.heap.size ≤ k ∧ k < W7.heap.size) (RdS n (fun k => W6.heap.size ≤ k ∧ k < W7.heap.size) W7) W7 15 el q7) : OwnR (RdS (n + 1)) 121 15 ok g w W7 l (i + 1) := by
  have hlt := h.lt
  have hlow := h.low
  refine h.next (kept_S (n + 1)) (rdS_size (n + 1)) hok ha hM.hW hM.bel hM.siz hM.blk hM.out hM.els ?_
  have a5 : ∀ k, (wr.heap.size ≤ k ∧ k < W5.heap.size) → W7.heap[k]? = W5.heap[k]? := fun k hk => e5 k (by omega) hk.2
  have b5 : ∀ k, (wr.heap.size ≤ k ∧ k < W5.heap.size) → okN w.heap.size g W7 k := fun k hk => ⟨by omega, by omega, by omega⟩
  have a6 : ∀ k, (W5.heap.size ≤ k ∧ k < W6.heap.size) → W7.heap[k]? = W6.heap[k]? := fun k hk => e6 k (by omega) hk.2
  have b6 : ∀ k, (W5.heap.size ≤ k ∧ k < W6.heap.size) → okN w.heap.size g W7 k := fun k hk => ⟨by omega, by omega, by omega⟩
  have b7 : ∀ k, (W6.heap.size ≤ k ∧ k < W7.heap.size) → okN w.heap.size g W7 k := fun k hk => ⟨by omega, by omega, by omega⟩
  exact ⟨k0, x0, a0, b0, o0, exMk ek ex em eal ef et, th, el, f0, t0, _, _, _, _, _, _, q6, c6, q7, c7, rfl, rfl, ⟨m + 1, ek, ex, em, eal, ef, et, q5, c5, rfl, rfl, SlT.kept h5 a5 b5 (RdE.kept m a5 b5)⟩, SlT.kept h6 a6 b6 (RdS.kept n a6 b6), SlT.kept h7 (fun _ _ => rfl) b7 (RdS.kept n (fun _ _ => rfl) b7)⟩
end
theorem SlE_set {A g m : Nat} {w5 : World} {eal : List Tr} {q : Option Addr} (h : SlT (fun k => A ≤ k ∧ k < w5.heap.size) (RdE m (fun k => A ≤ k ∧ k < w5.heap.size) w5) w5 6 eal q) (hg : g < A) (o : Nat) (u : Value) :
    SlT (fun k => A ≤ k ∧ k < (w5.setCell ⟨g, o, none⟩ u).heap.size) (RdE m (fun k => A ≤ k ∧ k < (w5.setCell ⟨g, o, none⟩ u).heap.size) (w5.setCell ⟨g, o, none⟩ u)) (w5.setCell ⟨g, o, none⟩ u) 6 eal q := by
  have a : ∀ k, (A ≤ k ∧ k < w5.heap.size) → (w5.setCell ⟨g, o, none⟩ u).heap[k]? = w5.heap[k]? := fun k hk => Below.heap_setCell w5 _ _ k (by simp; omega)
  have b : ∀ k, (A ≤ k ∧ k < w5.heap.size) → (A ≤ k ∧ k < (w5.setCell ⟨g, o, none⟩ u).heap.size) := fun k hk => ⟨hk.1, by simpa using hk.2⟩
  exact SlT.kept h a b (RdE.kept m a b)
theorem SlS_set {A g m : Nat} {w5 : World} {l : List Tr} {q : Option Addr} (h : SlT (fun k => A ≤ k ∧ k < w5.heap.size) (RdS m (fun k => A ≤ k ∧ k < w5.heap.size) w5) w5 15 l q) (hg : g < A) (o : Nat) (u : Value) :
    SlT (fun k => A ≤ k ∧ k < (w5.setCell ⟨g, o, none⟩ u).heap.size) (RdS m (fun k => A ≤ k ∧ k < (w5.setCell ⟨g, o, none⟩ u).heap.size) (w5.setCell ⟨g, o, none⟩ u)) (w5.setCell ⟨g, o, none⟩ u) 15 l q := by
  have a : ∀ k, (A ≤ k ∧ k < w5.heap.size) → (w5.setCell ⟨g, o, none⟩ u).heap[k]? = w5.heap[k]? := fun k hk => Below.heap_setCell w5 _ _ k (by simp; omega)
  have b : ∀ k, (A ≤ k ∧ k < w5.heap.size) → (A ≤ k ∧ k < (w5.setCell ⟨g, o, none⟩ u).heap.size) := fun k hk => ⟨hk.1, by simpa using hk.2⟩
  exact SlT.kept h a b (RdS.kept m a b)
theorem cell_on' {w w' : World} (hb : Below w.heap.size w w') {a : Addr} {u : Value} (h : w.cell? a = some u) : w'.cell? a = some u := (hb.cell (World.block_lt_of_cell? w a h)).trans h
set_option maxHeartbeats 2000000 in
set_option maxRecDepth 100000 in
theorem ownStmts_any (n : Nat) : COS n := by
  induction n with
  | zero =>
    intro al p c w ok hok _ h
    have h0 : al.length = 0 := by
      rcases Nat.eq_zero_or_pos al.length with h1 | h1
      · exact h1
      · obtain ⟨g, _, _, hl⟩ := h.2 h1
        obtain ⟨va, _, hr⟩ := hl 0 _ (List.getElem?_eq_getElem h1)
        exact hr.elim
    rw [h0]
    go_enter Tryz.func41, Tryz.ntmps41
    go_wp2_with (first
      | (go_at_call 71; refine (cloneSt_none p c _).mono ?_; rintro e w1 ⟨q, c1, rfl, hb1⟩))
    go_loopw [10] (fun i wr => i = .int .i64 0 ∧ wr = w1) (fun _ _ => 0)
    case atStart => exact ⟨rfl, rfl⟩
    case round =>
      obtain ⟨rfl, rfl⟩ := hrel
      go_wp2
      go_ret
      exact ⟨q, c1, rfl, ⟨by omega, fun h => absurd h (by omega)⟩, hb1⟩
  | succ n ih =>
    intro l p c w ok hok hsm h
    by_cases h0 : l.length = 0
    · rw [h0]
      go_enter Tryz.func41, Tryz.ntmps41
      go_wp2_with (first
        | (go_at_call 71; refine (cloneSt_none p c _).mono ?_; rintro e w1 ⟨q, c1, rfl, hb1⟩))
      go_loopw [10] (fun i wr => i = .int .i64 0 ∧ wr = w1) (fun _ _ => 0)
      case atStart => exact ⟨rfl, rfl⟩
      case round =>
        obtain ⟨rfl, rfl⟩ := hrel
        go_wp2
        go_ret
        exact ⟨q, c1, rfl, ⟨by omega, fun h => absurd h (by omega)⟩, hb1⟩
    · obtain ⟨g, rfl, hg, hL⟩ := h.2 (by omega)
      have hlen := hsm.1
      obtain ⟨xs, x1, x2, x3, x4⟩ := flat_cells (rdS_size (n + 1)) (rdS_agg (n + 1)) (rdS_one (n + 1)) l 0 (fun j a hj => by rw [Nat.zero_add]; exact hL j a hj)
      have x3' : ∀ j u, xs[j]? = some u → w.cell? ⟨g, j, none⟩ = some u := fun j u hj => by have := x3 j u hj; rwa [Nat.zero_add] at this
      have hpos : 0 < l.length := by omega
      have HL : Hid (l.length ≤ 40) := hlen
      have HSM : Hid (smL l) := hsm
      clear x3 hL h h0 hlen hsm
      go_enter Tryz.func41, Tryz.ntmps41
      go_wp2_with (first
        | (go_at_call 71; refine (cloneSt_any g l.length c xs _ hpos (by have := HL.out; omega) x1 x2 x3').mono ?_; rintro e w1 ⟨g1, c1, rfl, hown, hb1⟩; have hst := OwnR.start (kept_S (n + 1)) hok hown hb1 x4; clear hown x4 x3' x2 x1))
      go_loopw [10] (fun i wr => RelOS (n + 1) ok g1 w l i wr) (fun i _ => upN l.length i)
      case atStart => exact ⟨0, Nat.zero_le _, rfl, hst⟩
      case round =>
        obtain ⟨k, hk, rfl, hR⟩ := hrel
        clear hst
        by_cases hlt : k < l.length
        · obtain ⟨a, ha⟩ : ∃ a, l[k]? = some a := ⟨_, List.getElem?_eq_getElem hlt⟩
          obtain ⟨v, hcv, _, hold⟩ := hR.els k a ha
          obtain ⟨k0, x0, a0, b0, o0, e, th, el, f0, t0, d0, d1, d2, d3, d4, d5, p1, c1', p2, c2, rfl, rfl, ⟨me, hE⟩, hT, hU⟩ := hold (Nat.le_refl _)
          cases me with
          | zero => exact hE.elim
          | succ me =>
          obtain ⟨ek, ex, em, eal, ef, et, ep, ec, rfl, hv, hS⟩ := hE
          injection hv with hv
          simp only [Array.mk.injEq, List.cons.injEq, and_true] at hv
          obtain ⟨rfl, rfl, rfl, rfl, rfl, rfl⟩ := hv
          have hsmk := HSM.out.2 _ (List.mem_of_getElem? ha)
          have hsT : smL th := ⟨(hsmk 1 _ _ _ _ _ _ _ _ _ _ rfl).1, fun u hu m => (hsmk (m + 1) _ _ _ _ _ _ _ _ _ _ rfl).2.2.1 u hu⟩
          have hsU : smL el := ⟨(hsmk 1 _ _ _ _ _ _ _ _ _ _ rfl).2.1, fun u hu m => (hsmk (m + 1) _ _ _ _ _ _ _ _ _ _ rfl).2.2.2 u hu⟩
          have hM : Mid g1 w wr wr k _ := ⟨fun _ _ _ => rfl, hR.bel, Nat.le_refl _, hR.blk, fun _ _ => rfl, hcv, hR.low⟩
          have y8 := hcv.get 8 _ rfl
          have y11 := hcv.get 11 _ rfl
          have y12 := hcv.get 12 _ rfl
          have gk : (0 : Int) ≤ (k : Int) := by omega
          have gk1 : (k : Int) < (l.length : Int) := by omega
          have HK : Hid (k < l.length) := hlt
          have hk40 : k < 1099511627776 := by have := HL.out; omega
          have HOK : Hid (∀ W : World, w.heap.size ≤ W.heap.size → ∀ k, ok k → k < W.heap.size) := fun W hW k hk => Nat.lt_of_lt_of_le (hok k hk) hW
          have HS : Hid (SlT ok (RdE me ok wr) wr 6 eal ep) := hS
          have HT : Hid (SlT ok (RdS n ok wr) wr 15 th p1) := hT
          have HU : Hid (SlT ok (RdS n ok wr) wr 15 el p2) := hU
          have hgl := hR.lt
          have hwl := hR.bel.size
          have hglow := hR.low
          have HO1 : Hid (∀ W : World, (∀ j, j < wr.heap.size → j ≠ g1 → W.heap[j]? = wr.heap[j]?) → ∀ j, ok j → W.heap[j]? = wr.heap[j]?) := fun W h j hj => h j (by have := hok j hj; omega) (by have := hok j hj; omega)
          have F1 : Hid (1 = 1) := rfl
          have F2 : Hid (1 = 1) := rfl
          clear hold hS hT hU hlt hk hsmk
          go_wp2_with (first
            | (go_at_call 72; refine (ownExprs_any me eal ep ec _ ok (HOK.out _ hwl) HS.out).mono ?_; rintro e w5 ⟨q5, c5, rfl, hS5, hb5⟩; have z8 := cell_on' hb5 y8; have f5 := (hM.call hb5).fro; have hM5 := (hM.call hb5).put 8 (by omega) rfl (.slice q5 eal.length c5); have h5 := SlE_set hS5 hgl (k * 15 + 8) (.slice q5 eal.length c5); have v11 := hM5.els.get 11 _ rfl; clear y8 y11 hS5)
            | (go_at_call 41; have f := F1; clear f F1; refine (ih th p1 c1' _ ok (HOK.out _ hM5.bel.size) hsT (SlT.kept HT.out (HO1.out _ hM5.hW) (fun _ h => h) (RdS.kept n (HO1.out _ hM5.hW) (fun _ h => h)))).mono ?_; rintro e w6 ⟨q6, c6, rfl, hS6, hb6⟩; have z11 := cell_on' hb6 v11; have f6 := (hM5.call hb6).fro; have hM6 := (hM5.call hb6).put 11 (by omega) rfl (.slice q6 th.length c6); have h6 := SlS_set hS6 hM5.lt (k * 15 + 11) (.slice q6 th.length c6); have v12 := hM6.els.get 12 _ rfl; clear v11 y12 hS6)
            | (go_at_call 41; have f := F2; clear f F2; refine (ih el p2 c2 _ ok (HOK.out _ hM6.bel.size) hsU (SlT.kept HU.out (HO1.out _ hM6.hW) (fun _ h => h) (RdS.kept n (HO1.out _ hM6.hW) (fun _ h => h)))).mono ?_; rintro e w7 ⟨q7, c7, rfl, hS7, hb7⟩; have z12 := cell_on' hb7 v12; have f7 := (hM6.call hb7).fro; have hM7 := (hM6.call hb7).put 12 (by omega) rfl (.slice q7 el.length c7); have h7 := SlS_set hS7 hM6.lt (k * 15 + 12) (.slice q7 el.length c7); clear v12 hS7))
          go_roundw
          case rel =>
            refine ⟨k + 1, by have := HK.out; omega, by go_num, ownS_step hok hR ha hM7 (by have := hb5.size; simpa using this) (by have := hb6.size; simpa using this) (by have := hb7.size; simpa using this) (fun j h1 h2 => ?_) (fun j h1 h2 => ?_) h5 h6 h7⟩
            · exact (Below.heap_setCell _ _ _ j (by simp; omega)).trans ((hb7.block j (Nat.lt_of_lt_of_le h2 (by have := hb6.size; simpa using this))).trans ((Below.heap_setCell _ _ _ j (by simp; omega)).trans (hb6.block j h2)))
            · exact (Below.heap_setCell _ _ _ j (by simp; omega)).trans (hb7.block j h2)
          case measure => have := HK.out; simp [upN, intOf]; omega
        · obtain rfl : k = l.length := by omega
          clear hlt hk
          go_wp2
          go_ret
          exact ⟨some ⟨g1, 0, none⟩, c1, rfl, hR.done (kept_S (n + 1)) (by have := HL.out; omega), hR.bel⟩
end Go.Proofs.YtdpjhemddigpiabGreatDoor
namespace Go.Proofs.YtdpjhemddigpiabGreatDoor
open Go.RowKit
attribute [local go_sem ↓] Go.wp_at_zero Go.wp_at_succ
section
variable {α : Type} {c : α → List Value} {st : Nat}
theorem flat_in (hc : ∀ a, (c a).length = st) {w : World} {g : Nat} : ∀ (l : List α) (o : Nat), (∀ (j : Nat) (t : α), l[j]? = some t → ∀ (i : Nat) (u : Value), (c t)[i]? = some u → w.cell? ⟨g, o + j * st + i, none⟩ = some u) → ∀ j u, (l.flatMap c)[j]? = some u → w.cell? ⟨g, o + j, none⟩ = some u := by
  intro l
  induction l with
  | nil => intro o _ j u hj; simp at hj
  | cons a l ih =>
    intro o h j u hj
    rw [List.flatMap_cons] at hj
    rcases Nat.lt_or_ge j st with h1 | h1
    · rw [List.getElem?_append_left (by rw [hc]; exact h1)] at hj
      have := h 0 a rfl j u hj
      rwa [Nat.zero_mul, Nat.add_zero] at this
    · rw [List.getElem?_append_right (by rw [hc]; exact h1), hc] at hj
      have := ih (o + st) (fun j t hj i u hi => by
        have := h (j + 1) t (by simpa using hj) i u hi
        rwa [show o + (j + 1) * st + i = o + st + j * st + i by rw [Nat.succ_mul]; omega] at this) _ u hj
      rwa [show o + st + (j - st) = o + j by omega] at this
theorem flat_len (hc : ∀ a, (c a).length = st) (l : List α) : (l.flatMap c).length = l.length * st := by
  induction l with
  | nil => simp
  | cons a l ih => rw [List.flatMap_cons, List.length_append, hc, ih, List.length_cons, Nat.succ_mul]; omega
theorem own_flat (hc : ∀ a, (c a).length = st) {w : World} {B g cap : Nat} {T : TypeId} {l : List α} (h : w.ownsRow B T st (.slice (some ⟨g, 0, none⟩) l.length cap) l.length (l.flatMap c)) (hl : l.length ≤ 1099511627776) : SlAt (fun k => B ≤ k ∧ k < w.heap.size) w st c l (some ⟨g, 0, none⟩) := by
  have hlt := h.lt g rfl
  have hcl := h.cells (g := g) rfl
  refine ⟨hl, fun _ => ⟨g, rfl, hlt, fun j t hj i u hi => ?_⟩⟩
  have hv : ∀ x ∈ l.map c, x.length = st := fun x hx => by obtain ⟨d, _, rfl⟩ := List.mem_map.1 hx; exact hc d
  have := flat_at hv j (c t) (by simp [hj]) i u hi
  have := hcl _ u (by rw [List.flatMap_def]; exact this)
  rwa [add0] at this
end
theorem clonePm_sl (l : List Pm) (p : Option Addr) (cc : Nat) (w : World) (ok : Nat → Prop) (h : SlAt ok w 3 pmC l p) :
    Calls Tryz.prog 39 #[.slice p l.length cc] w fun e w' => ∃ q c', e = .returned (.slice q l.length c') ∧ SlAt (fun k => w.heap.size ≤ k ∧ k < w'.heap.size) w' 3 pmC l q ∧ Below w.heap.size w w' := by
  by_cases h0 : l.length = 0
  · rw [h0]
    refine (clonePm_none p cc w).mono ?_
    rintro e w' ⟨q, c', rfl, hb⟩
    exact ⟨q, c', rfl, ⟨by omega, fun h => absurd h (by omega)⟩, hb⟩
  · obtain ⟨g, rfl, hg, hf⟩ := h.2 (by omega)
    have hin := flat_in (st := 3) (c := pmC) (fun _ => rfl) (w := w) (g := g) l 0 (fun j t hj i u hi => by have := hf j t hj i u hi; rwa [Nat.zero_add])
    refine (clonePm_any g l.length cc (l.flatMap pmC) w (by omega) h.1 (flat_len (c := pmC) (st := 3) (fun _ => rfl) l) ?_ (fun j u hj => by have := hin j u hj; rwa [Nat.zero_add] at this)).mono ?_
    · intro u hu
      obtain ⟨d, _, hd⟩ := List.mem_flatMap.1 hu
      simp [pmC] at hd
      rcases hd with rfl | rfl | rfl <;> rfl
    · rintro e w' ⟨g', c', rfl, hown, hb⟩
      exact ⟨some ⟨g', 0, none⟩, c', rfl, own_flat (c := pmC) (st := 3) (fun _ => rfl) hown h.1, hb⟩
theorem cloneRf_sl (l : List Rf) (p : Option Addr) (cc : Nat) (w : World) (ok : Nat → Prop) (h : SlAt ok w 2 rfC l p) :
    Calls Tryz.prog 40 #[.slice p l.length cc] w fun e w' => ∃ q c', e = .returned (.slice q l.length c') ∧ SlAt (fun k => w.heap.size ≤ k ∧ k < w'.heap.size) w' 2 rfC l q ∧ Below w.heap.size w w' := by
  by_cases h0 : l.length = 0
  · rw [h0]
    refine (cloneRf_none p cc w).mono ?_
    rintro e w' ⟨q, c', rfl, hb⟩
    exact ⟨q, c', rfl, ⟨by omega, fun h => absurd h (by omega)⟩, hb⟩
  · obtain ⟨g, rfl, hg, hf⟩ := h.2 (by omega)
    have hin := flat_in (st := 2) (c := rfC) (fun _ => rfl) (w := w) (g := g) l 0 (fun j t hj i u hi => by have := hf j t hj i u hi; rwa [Nat.zero_add])
    refine (cloneRf_any g l.length cc (l.flatMap rfC) w (by omega) h.1 (flat_len (c := rfC) (st := 2) (fun _ => rfl) l) ?_ (fun j u hj => by have := hin j u hj; rwa [Nat.zero_add] at this)).mono ?_
    · intro u hu
      obtain ⟨d, _, hd⟩ := List.mem_flatMap.1 hu
      simp [rfC] at hd
      rcases hd with rfl | rfl <;> rfl
    · rintro e w' ⟨g', c', rfl, hown, hb⟩
      exact ⟨some ⟨g', 0, none⟩, c', rfl, own_flat (c := rfC) (st := 2) (fun _ => rfl) hown h.1, hb⟩
theorem cloneDg_sl (l : List Dg) (p : Option Addr) (cc : Nat) (w : World) (ok : Nat → Prop) (h : SlAt ok w 4 dgC l p) :
    Calls Tryz.prog 42 #[.slice p l.length cc] w fun e w' => ∃ q c', e = .returned (.slice q l.length c') ∧ SlAt (fun k => w.heap.size ≤ k ∧ k < w'.heap.size) w' 4 dgC l q ∧ Below w.heap.size w w' := by
  by_cases h0 : l.length = 0
  · rw [h0]
    refine (cloneDg_none p cc w).mono ?_
    rintro e w' ⟨q, c', rfl, hb⟩
    exact ⟨q, c', rfl, ⟨by omega, fun h => absurd h (by omega)⟩, hb⟩
  · obtain ⟨g, rfl, hg, hf⟩ := h.2 (by omega)
    have hin := flat_in (st := 4) (c := dgC) (fun _ => rfl) (w := w) (g := g) l 0 (fun j t hj i u hi => by have := hf j t hj i u hi; rwa [Nat.zero_add])
    refine (cloneDg_any g l.length cc (l.flatMap dgC) w (by omega) h.1 (flat_len (c := dgC) (st := 4) (fun _ => rfl) l) ?_ (fun j u hj => by have := hin j u hj; rwa [Nat.zero_add] at this)).mono ?_
    · intro u hu
      obtain ⟨d, _, hd⟩ := List.mem_flatMap.1 hu
      simp [dgC] at hd
      rcases hd with rfl | rfl | rfl | rfl <;> rfl
    · rintro e w' ⟨g', c', rfl, hown, hb⟩
      exact ⟨some ⟨g', 0, none⟩, c', rfl, own_flat (c := dgC) (st := 4) (fun _ => rfl) hown h.1, hb⟩
/-- A block of one's own. -/
def Bx (w : World) (b : Nat) (cs : Array Value) : Prop := w.heap[b]? = some (.cells cs 36 (0, 0))
theorem Bx.lt {w : World} {b : Nat} {cs : Array Value} (h : Bx w b cs) : b < w.heap.size := (Array.getElem?_eq_some_iff.1 h).1
theorem Bx.call {w w' : World} {b : Nat} {cs : Array Value} (h : Bx w b cs) (hb : Below w.heap.size w w') : Bx w' b cs := (hb.block b h.lt).trans h
theorem Bx.put {w : World} {b : Nat} {cs : Array Value} (h : Bx w b cs) (o : Nat) (u : Value) : Bx (w.setCell ⟨b, o, none⟩ u) b (cs.setIfInBounds o u) := by
  unfold Bx at h ⊢
  simp [World.setCell, Array.getElem?_modify, h]
theorem Bx.far {w : World} {b b2 : Nat} {cs : Array Value} (h : Bx w b cs) (hne : b ≠ b2) (o : Nat) (u : Value) : Bx (w.setCell ⟨b2, o, none⟩ u) b cs := (Below.heap_setCell w _ _ b hne).trans h
/-- What was read stays, where but one block of one's own is written. -/
theorem below_put {w w' : World} {B b : Nat} (h : Below B w w') (hb : B ≤ b) (o : Nat) (u : Value) : Below B w (w'.setCell ⟨b, o, none⟩ u) := h.setCell hb u
set_option maxHeartbeats 2000000 in
set_option maxRecDepth 100000 in
theorem Own_any (it : It) (at_ : Int) (v : Value) (w : World) (ok : Nat → Prop) (hok : ∀ k, ok k → k < w.heap.size) (hsm : smL it.bd) (hI : RdI ok w at_ it v) :
    Calls Tryz.prog 15 #[v] w fun e w' => ∃ v', e = .returned v' ∧ RdI (fun k => w.heap.size ≤ k ∧ k < w'.heap.size) w' at_ it v' ∧ Below w.heap.size w w' := by
  obtain ⟨p1, c1, p2, c2, p3, c3, p4, c4, rfl, hP, hS, ⟨n, hB⟩, hD⟩ := hI
  have hb0 := ((Below.refl w.heap.size w).alloc (Nat.le_refl _) (.cells #[.int .i64 (it.k : Int), .string it.x, .int .i64 (it.l : Int), .slice p1 it.ps.length c1, .slice p2 it.ss.length c2, .slice p3 it.bd.length c3, .int .i64 at_, .int .i64 (it.sz : Int), .int .i64 (it.mrk : Int), .slice p4 it.ds.length c4] 36)).alloc (by simp) (.cells #[.int .i64 0, .string ⟨#[]⟩, .int .i64 0, .slice none 0 0, .slice none 0 0, .slice none 0 0, .int .i64 0, .int .i64 0, .int .i64 0, .slice none 0 0] 36)
  have hx0 : Bx ((w.alloc (.cells #[.int .i64 (it.k : Int), .string it.x, .int .i64 (it.l : Int), .slice p1 it.ps.length c1, .slice p2 it.ss.length c2, .slice p3 it.bd.length c3, .int .i64 at_, .int .i64 (it.sz : Int), .int .i64 (it.mrk : Int), .slice p4 it.ds.length c4] 36)).alloc (.cells #[.int .i64 0, .string ⟨#[]⟩, .int .i64 0, .slice none 0 0, .slice none 0 0, .slice none 0 0, .int .i64 0, .int .i64 0, .int .i64 0, .slice none 0 0] 36)) w.heap.size #[.int .i64 (it.k : Int), .string it.x, .int .i64 (it.l : Int), .slice p1 it.ps.length c1, .slice p2 it.ss.length c2, .slice p3 it.bd.length c3, .int .i64 at_, .int .i64 (it.sz : Int), .int .i64 (it.mrk : Int), .slice p4 it.ds.length c4] := (Below.heap_alloc _ _ _ (by simp)).trans (heap_alloc_new w _)
  have hr0 : Bx ((w.alloc (.cells #[.int .i64 (it.k : Int), .string it.x, .int .i64 (it.l : Int), .slice p1 it.ps.length c1, .slice p2 it.ss.length c2, .slice p3 it.bd.length c3, .int .i64 at_, .int .i64 (it.sz : Int), .int .i64 (it.mrk : Int), .slice p4 it.ds.length c4] 36)).alloc (.cells #[.int .i64 0, .string ⟨#[]⟩, .int .i64 0, .slice none 0 0, .slice none 0 0, .slice none 0 0, .int .i64 0, .int .i64 0, .int .i64 0, .slice none 0 0] 36)) (w.heap.size + 1) #[.int .i64 0, .string ⟨#[]⟩, .int .i64 0, .slice none 0 0, .slice none 0 0, .slice none 0 0, .int .i64 0, .int .i64 0, .int .i64 0, .slice none 0 0] := by have h := heap_alloc_new (w.alloc (.cells #[.int .i64 (it.k : Int), .string it.x, .int .i64 (it.l : Int), .slice p1 it.ps.length c1, .slice p2 it.ss.length c2, .slice p3 it.bd.length c3, .int .i64 at_, .int .i64 (it.sz : Int), .int .i64 (it.mrk : Int), .slice p4 it.ds.length c4] 36)) (.cells #[.int .i64 0, .string ⟨#[]⟩, .int .i64 0, .slice none 0 0, .slice none 0 0, .slice none 0 0, .int .i64 0, .int .i64 0, .int .i64 0, .slice none 0 0] 36); rw [show (w.alloc (.cells #[.int .i64 (it.k : Int), .string it.x, .int .i64 (it.l : Int), .slice p1 it.ps.length c1, .slice p2 it.ss.length c2, .slice p3 it.bd.length c3, .int .i64 at_, .int .i64 (it.sz : Int), .int .i64 (it.mrk : Int), .slice p4 it.ds.length c4] 36)).heap.size = w.heap.size + 1 by simp] at h; exact h
  have hz0 : ((w.alloc (.cells #[.int .i64 (it.k : Int), .string it.x, .int .i64 (it.l : Int), .slice p1 it.ps.length c1, .slice p2 it.ss.length c2, .slice p3 it.bd.length c3, .int .i64 at_, .int .i64 (it.sz : Int), .int .i64 (it.mrk : Int), .slice p4 it.ds.length c4] 36)).alloc (.cells #[.int .i64 0, .string ⟨#[]⟩, .int .i64 0, .slice none 0 0, .slice none 0 0, .slice none 0 0, .int .i64 0, .int .i64 0, .int .i64 0, .slice none 0 0] 36)).heap.size = w.heap.size + 2 := by simp
  have HP := (hP.kept (w' := (w.alloc (.cells #[.int .i64 (it.k : Int), .string it.x, .int .i64 (it.l : Int), .slice p1 it.ps.length c1, .slice p2 it.ss.length c2, .slice p3 it.bd.length c3, .int .i64 at_, .int .i64 (it.sz : Int), .int .i64 (it.mrk : Int), .slice p4 it.ds.length c4] 36)).alloc (.cells #[.int .i64 0, .string ⟨#[]⟩, .int .i64 0, .slice none 0 0, .slice none 0 0, .slice none 0 0, .int .i64 0, .int .i64 0, .int .i64 0, .slice none 0 0] 36)) (fun k hk => hb0.block k (hok k hk)))
  have HOK : Hid (∀ W : World, w.heap.size ≤ W.heap.size → ∀ k, ok k → k < W.heap.size) := fun W hW k hk => Nat.lt_of_lt_of_le (hok k hk) hW
  have HSM : Hid (smL it.bd) := hsm
  have HS0 : Hid (∀ W, Below w.heap.size w W → SlAt ok W 2 rfC it.ss p2) := fun W hb => hS.kept (fun k hk => hb.block k (hok k hk))
  have HB0 : Hid (∀ W, Below w.heap.size w W → SlT ok (RdS n ok W) W 15 it.bd p3) := fun W hb => SlT.kept hB (fun k hk => hb.block k (hok k hk)) (fun _ h => h) (RdS.kept n (fun k hk => hb.block k (hok k hk)) (fun _ h => h))
  have HD0 : Hid (∀ W, Below w.heap.size w W → SlAt ok W 4 dgC it.ds p4) := fun W hb => hD.kept (fun k hk => hb.block k (hok k hk))
  have hne1 : w.heap.size + 1 ≠ w.heap.size := by omega
  have hn1 : ¬ w.heap.size = w.heap.size + 1 := by omega
  clear hP hS hB hD hsm
  go_enter Tryz.func15, Tryz.ntmps15
  go_wp2_with (first
    | (go_at_call 39; refine (clonePm_sl it.ps p1 c1 _ ok HP).mono ?_; rintro e w1 ⟨q1, e1, rfl, s1, hb1⟩; obtain ⟨a0, a1, a2, a3, a4, a5, a6, a7, a8, a9, af⟩ := ten_at (hx0.call hb1); have hx1 := (hx0.call hb1).put 3 (.slice q1 it.ps.length e1); have hr1 := (hr0.call hb1).far hne1 3 (.slice q1 it.ps.length e1); have hB1 := below_put (hb0.trans (hb1.mono hb0.size)) (Nat.le_refl _) 3 (.slice q1 it.ps.length e1))
    | (go_at_call 40; refine (cloneRf_sl it.ss p2 c2 _ ok (HS0.out _ hB1)).mono ?_; rintro e w2 ⟨q2, e2, rfl, s2, hb2⟩; clear a0 a1 a2 a3 a4 a5 a6 a7 a8 a9 af; obtain ⟨a0, a1, a2, a3, a4, a5, a6, a7, a8, a9, af⟩ := ten_at (hx1.call hb2); have hx2 := (hx1.call hb2).put 4 (.slice q2 it.ss.length e2); have hr2 := (hr1.call hb2).far hne1 4 (.slice q2 it.ss.length e2); have hB2 := below_put (hB1.trans (hb2.mono hB1.size)) (Nat.le_refl _) 4 (.slice q2 it.ss.length e2))
    | (go_at_call 41; refine (ownStmts_any n it.bd p3 c3 _ ok (HOK.out _ hB2.size) HSM.out (HB0.out _ hB2)).mono ?_; rintro e w3 ⟨q3, e3, rfl, s3, hb3⟩; clear a0 a1 a2 a3 a4 a5 a6 a7 a8 a9 af; obtain ⟨a0, a1, a2, a3, a4, a5, a6, a7, a8, a9, af⟩ := ten_at (hx2.call hb3); have hx3 := (hx2.call hb3).put 5 (.slice q3 it.bd.length e3); have hr3 := (hr2.call hb3).far hne1 5 (.slice q3 it.bd.length e3); have hB3 := below_put (hB2.trans (hb3.mono hB2.size)) (Nat.le_refl _) 5 (.slice q3 it.bd.length e3))
    | (go_at_call 42; refine (cloneDg_sl it.ds p4 c4 _ ok (HD0.out _ hB3)).mono ?_; rintro e w4 ⟨q4, e4, rfl, s4, hb4⟩; clear a0 a1 a2 a3 a4 a5 a6 a7 a8 a9 af; obtain ⟨a0, a1, a2, a3, a4, a5, a6, a7, a8, a9, af⟩ := ten_at (hx3.call hb4); have hx4 := (hx3.call hb4).put 9 (.slice q4 it.ds.length e4); have hr4 := (hr3.call hb4).far hne1 9 (.slice q4 it.ds.length e4); have hB4 := below_put (hB3.trans (hb4.mono hB3.size)) (Nat.le_refl _) 9 (.slice q4 it.ds.length e4); obtain ⟨r0, r1, r2, r3, r4, r5, r6, r7, r8, r9, rf⟩ := ten_at (hr3.call hb4)))
  have z1 : w.heap.size + 2 ≤ w1.heap.size := by have := hb1.size; rw [hz0] at this; exact this
  have z2 : w1.heap.size ≤ w2.heap.size := by have := hb2.size; simpa using this
  have z3 : w2.heap.size ≤ w3.heap.size := by have := hb3.size; simpa using this
  have z4 : w3.heap.size ≤ w4.heap.size := by have := hb4.size; simpa using this
  refine bodyPost_ret (v := .agg #[.int .i64 (it.k : Int), .string it.x, .int .i64 (it.l : Int), .slice q1 it.ps.length e1, .slice q2 it.ss.length e2, .slice q3 it.bd.length e3, .int .i64 at_, .int .i64 (it.sz : Int), .int .i64 (it.mrk : Int), .slice q4 it.ds.length e4]) (by simp [results, Tryz.results15, go_sem, r0, r1, r2, r3, r4, r5, r6, r7, r8, r9]) rfl ⟨_, rfl, ?_, ?_⟩
  · have f4 : ∀ k, w.heap.size + 2 ≤ k → k < w4.heap.size → (((((((((((w4.setCell ⟨w.heap.size, 9, none⟩ (.slice q4 it.ds.length e4)).setCell ⟨w.heap.size + 1, 0, none⟩ (.int .i64 (it.k : Int))).setCell ⟨w.heap.size + 1, 1, none⟩ (.string it.x)).setCell ⟨w.heap.size + 1, 2, none⟩ (.int .i64 (it.l : Int))).setCell ⟨w.heap.size + 1, 3, none⟩ (.slice q1 it.ps.length e1)).setCell ⟨w.heap.size + 1, 4, none⟩ (.slice q2 it.ss.length e2)).setCell ⟨w.heap.size + 1, 5, none⟩ (.slice q3 it.bd.length e3)).setCell ⟨w.heap.size + 1, 6, none⟩ (.int .i64 at_)).setCell ⟨w.heap.size + 1, 7, none⟩ (.int .i64 (it.sz : Int))).setCell ⟨w.heap.size + 1, 8, none⟩ (.int .i64 (it.mrk : Int))).setCell ⟨w.heap.size + 1, 9, none⟩ (.slice q4 it.ds.length e4)).heap[k]? = w4.heap[k]? := fun k h1 h2 => (ten_far (show k ≠ w.heap.size + 1 by omega) (.int .i64 (it.k : Int)) (.string it.x) (.int .i64 (it.l : Int)) (.slice q1 it.ps.length e1) (.slice q2 it.ss.length e2) (.slice q3 it.bd.length e3) (.int .i64 at_) (.int .i64 (it.sz : Int)) (.int .i64 (it.mrk : Int)) (.slice q4 it.ds.length e4)).trans (Below.heap_setCell _ _ _ k (show k ≠ w.heap.size by omega))
    have f3 : ∀ k, w.heap.size + 2 ≤ k → k < w3.heap.size → (((((((((((w4.setCell ⟨w.heap.size, 9, none⟩ (.slice q4 it.ds.length e4)).setCell ⟨w.heap.size + 1, 0, none⟩ (.int .i64 (it.k : Int))).setCell ⟨w.heap.size + 1, 1, none⟩ (.string it.x)).setCell ⟨w.heap.size + 1, 2, none⟩ (.int .i64 (it.l : Int))).setCell ⟨w.heap.size + 1, 3, none⟩ (.slice q1 it.ps.length e1)).setCell ⟨w.heap.size + 1, 4, none⟩ (.slice q2 it.ss.length e2)).setCell ⟨w.heap.size + 1, 5, none⟩ (.slice q3 it.bd.length e3)).setCell ⟨w.heap.size + 1, 6, none⟩ (.int .i64 at_)).setCell ⟨w.heap.size + 1, 7, none⟩ (.int .i64 (it.sz : Int))).setCell ⟨w.heap.size + 1, 8, none⟩ (.int .i64 (it.mrk : Int))).setCell ⟨w.heap.size + 1, 9, none⟩ (.slice q4 it.ds.length e4)).heap[k]? = w3.heap[k]? := fun k h1 h2 => (f4 k h1 (by omega)).trans ((hb4.block k (by simpa using h2)).trans (Below.heap_setCell _ _ _ k (show k ≠ w.heap.size by omega)))
    have f2 : ∀ k, w.heap.size + 2 ≤ k → k < w2.heap.size → (((((((((((w4.setCell ⟨w.heap.size, 9, none⟩ (.slice q4 it.ds.length e4)).setCell ⟨w.heap.size + 1, 0, none⟩ (.int .i64 (it.k : Int))).setCell ⟨w.heap.size + 1, 1, none⟩ (.string it.x)).setCell ⟨w.heap.size + 1, 2, none⟩ (.int .i64 (it.l : Int))).setCell ⟨w.heap.size + 1, 3, none⟩ (.slice q1 it.ps.length e1)).setCell ⟨w.heap.size + 1, 4, none⟩ (.slice q2 it.ss.length e2)).setCell ⟨w.heap.size + 1, 5, none⟩ (.slice q3 it.bd.length e3)).setCell ⟨w.heap.size + 1, 6, none⟩ (.int .i64 at_)).setCell ⟨w.heap.size + 1, 7, none⟩ (.int .i64 (it.sz : Int))).setCell ⟨w.heap.size + 1, 8, none⟩ (.int .i64 (it.mrk : Int))).setCell ⟨w.heap.size + 1, 9, none⟩ (.slice q4 it.ds.length e4)).heap[k]? = w2.heap[k]? := fun k h1 h2 => (f3 k h1 (by omega)).trans ((hb3.block k (by simpa using h2)).trans (Below.heap_setCell _ _ _ k (show k ≠ w.heap.size by omega)))
    have f1 : ∀ k, w.heap.size + 2 ≤ k → k < w1.heap.size → (((((((((((w4.setCell ⟨w.heap.size, 9, none⟩ (.slice q4 it.ds.length e4)).setCell ⟨w.heap.size + 1, 0, none⟩ (.int .i64 (it.k : Int))).setCell ⟨w.heap.size + 1, 1, none⟩ (.string it.x)).setCell ⟨w.heap.size + 1, 2, none⟩ (.int .i64 (it.l : Int))).setCell ⟨w.heap.size + 1, 3, none⟩ (.slice q1 it.ps.length e1)).setCell ⟨w.heap.size + 1, 4, none⟩ (.slice q2 it.ss.length e2)).setCell ⟨w.heap.size + 1, 5, none⟩ (.slice q3 it.bd.length e3)).setCell ⟨w.heap.size + 1, 6, none⟩ (.int .i64 at_)).setCell ⟨w.heap.size + 1, 7, none⟩ (.int .i64 (it.sz : Int))).setCell ⟨w.heap.size + 1, 8, none⟩ (.int .i64 (it.mrk : Int))).setCell ⟨w.heap.size + 1, 9, none⟩ (.slice q4 it.ds.length e4)).heap[k]? = w1.heap[k]? := fun k h1 h2 => (f2 k h1 (by omega)).trans ((hb2.block k (by simpa using h2)).trans (Below.heap_setCell _ _ _ k (show k ≠ w.heap.size by omega)))
    have hsz : (((((((((((w4.setCell ⟨w.heap.size, 9, none⟩ (.slice q4 it.ds.length e4)).setCell ⟨w.heap.size + 1, 0, none⟩ (.int .i64 (it.k : Int))).setCell ⟨w.heap.size + 1, 1, none⟩ (.string it.x)).setCell ⟨w.heap.size + 1, 2, none⟩ (.int .i64 (it.l : Int))).setCell ⟨w.heap.size + 1, 3, none⟩ (.slice q1 it.ps.length e1)).setCell ⟨w.heap.size + 1, 4, none⟩ (.slice q2 it.ss.length e2)).setCell ⟨w.heap.size + 1, 5, none⟩ (.slice q3 it.bd.length e3)).setCell ⟨w.heap.size + 1, 6, none⟩ (.int .i64 at_)).setCell ⟨w.heap.size + 1, 7, none⟩ (.int .i64 (it.sz : Int))).setCell ⟨w.heap.size + 1, 8, none⟩ (.int .i64 (it.mrk : Int))).setCell ⟨w.heap.size + 1, 9, none⟩ (.slice q4 it.ds.length e4)).heap.size = w4.heap.size := by simp
    generalize (((((((((((w4.setCell ⟨w.heap.size, 9, none⟩ (.slice q4 it.ds.length e4)).setCell ⟨w.heap.size + 1, 0, none⟩ (.int .i64 (it.k : Int))).setCell ⟨w.heap.size + 1, 1, none⟩ (.string it.x)).setCell ⟨w.heap.size + 1, 2, none⟩ (.int .i64 (it.l : Int))).setCell ⟨w.heap.size + 1, 3, none⟩ (.slice q1 it.ps.length e1)).setCell ⟨w.heap.size + 1, 4, none⟩ (.slice q2 it.ss.length e2)).setCell ⟨w.heap.size + 1, 5, none⟩ (.slice q3 it.bd.length e3)).setCell ⟨w.heap.size + 1, 6, none⟩ (.int .i64 at_)).setCell ⟨w.heap.size + 1, 7, none⟩ (.int .i64 (it.sz : Int))).setCell ⟨w.heap.size + 1, 8, none⟩ (.int .i64 (it.mrk : Int))).setCell ⟨w.heap.size + 1, 9, none⟩ (.slice q4 it.ds.length e4)) = W at *
    rw [hz0] at s1
    have t2 : (w1.setCell ⟨w.heap.size, 3, none⟩ (.slice q1 it.ps.length e1)).heap.size = w1.heap.size := by simp
    have t3 : (w2.setCell ⟨w.heap.size, 4, none⟩ (.slice q2 it.ss.length e2)).heap.size = w2.heap.size := by simp
    have t4 : (w3.setCell ⟨w.heap.size, 5, none⟩ (.slice q3 it.bd.length e3)).heap.size = w3.heap.size := by simp
    rw [t2] at s2
    rw [t3] at s3
    rw [t4] at s4
    have g3 : ∀ k, (w2.heap.size ≤ k ∧ k < w3.heap.size) → W.heap[k]? = w3.heap[k]? := fun k hk => f3 k (by omega) hk.2
    have o3 : ∀ k, (w2.heap.size ≤ k ∧ k < w3.heap.size) → (w.heap.size ≤ k ∧ k < W.heap.size) := fun k hk => ⟨by omega, by omega⟩
    exact ⟨q1, e1, q2, e2, q3, e3, q4, e4, rfl, (s1.kept (fun k hk => f1 k hk.1 hk.2)).wide (fun k hk => ⟨by omega, by omega⟩), (s2.kept (fun k hk => f2 k (by omega) hk.2)).wide (fun k hk => ⟨by omega, by omega⟩), ⟨n, SlT.kept s3 g3 o3 (RdS.kept n g3 o3)⟩, (s4.kept (fun k hk => f4 k (by omega) hk.2)).wide (fun k hk => ⟨by omega, by omega⟩)⟩
  · exact (below_put (below_put (below_put (below_put (below_put (below_put (below_put (below_put (below_put (below_put hB4 (by omega) 0 (.int .i64 (it.k : Int))) (by omega) 1 (.string it.x)) (by omega) 2 (.int .i64 (it.l : Int))) (by omega) 3 (.slice q1 it.ps.length e1)) (by omega) 4 (.slice q2 it.ss.length e2)) (by omega) 5 (.slice q3 it.bd.length e3)) (by omega) 6 (.int .i64 at_)) (by omega) 7 (.int .i64 (it.sz : Int))) (by omega) 8 (.int .i64 (it.mrk : Int))) (by omega) 9 (.slice q4 it.ds.length e4))
end Go.Proofs.YtdpjhemddigpiabGreatDoor

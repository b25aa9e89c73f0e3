/- Texts of this seat, one behind the other: RefBits, RefBoth, ParLab, FloRef. -/
import Derived.Test.YtdkpfnohdknldaaGreatDoorZb04
import Derived.Handy
import Derived.Test.YtdkpfnohdknldaaGreatDoorZf16
import Derived.Test.YtdkpfnohdknldaaGreatDoorZb01
import Derived.Test.YtdkpfnohdknldaaGreatDoorZf24
namespace Go.Proofs.YtdkpfnohdknldaaGreatDoor
open Go.RowKit
set_option linter.unusedVariables false
/-- Bit k of n. -/
def bt (n k : Nat) : Bool := n / 2 ^ k % 2 == 1
theorem bt_test (n k : Nat) : bt n k = n.testBit k := by
  unfold bt
  rw [Nat.testBit_eq_decide_div_mod_eq]
  rw [Bool.eq_iff_iff]; simp
theorem bit0 (n : Nat) : ((n : Int) % 2 == 1) = bt n 0 := by unfold bt; rw [Bool.eq_iff_iff]; simp; omega
theorem bit1 (n : Nat) : ((n : Int) / 2 % 2 == 1) = bt n 1 := by unfold bt; rw [Bool.eq_iff_iff]; simp; omega
theorem bit2 (n : Nat) : ((n : Int) / 2 / 2 % 2 == 1) = bt n 2 := by unfold bt; rw [Bool.eq_iff_iff]; simp; omega
theorem bit3 (n : Nat) : ((n : Int) / 2 / 2 / 2 % 2 == 1) = bt n 3 := by unfold bt; rw [Bool.eq_iff_iff]; simp; omega
theorem bit4 (n : Nat) : ((n : Int) / 2 / 2 / 2 / 2 % 2 == 1) = bt n 4 := by unfold bt; rw [Bool.eq_iff_iff]; simp; omega
theorem bit5 (n : Nat) : ((n : Int) / 2 / 2 / 2 / 2 / 2 % 2 == 1) = bt n 5 := by unfold bt; rw [Bool.eq_iff_iff]; simp; omega
theorem bit6 (n : Nat) : ((n : Int) / 2 / 2 / 2 / 2 / 2 / 2 % 2 == 1) = bt n 6 := by unfold bt; rw [Bool.eq_iff_iff]; simp; omega
theorem bit7 (n : Nat) : ((n : Int) / 2 / 2 / 2 / 2 / 2 / 2 / 2 % 2 == 1) = bt n 7 := by unfold bt; rw [Bool.eq_iff_iff]; simp; omega
set_option maxHeartbeats 1000000 in
theorem bits_any (n : Nat) (w : World) (hn : n < 256) :
    Calls Tryz.prog 76 #[.int .i64 (n : Int)] w fun e w' =>
      e = .returned (.agg #[.bool (bt n 0), .bool (bt n 1), .bool (bt n 2), .bool (bt n 3), .bool (bt n 4), .bool (bt n 5), .bool (bt n 6), .bool (bt n 7)]) ∧ Below w.heap.size w w' := by
  go_enter Tryz.func76, Tryz.ntmps76
  go_wp2
  go_rounds 9
  refine bodyPost_ret (v := .agg #[.bool (bt n 0), .bool (bt n 1), .bool (bt n 2), .bool (bt n 3), .bool (bt n 4), .bool (bt n 5), .bool (bt n 6), .bool (bt n 7)]) (by simp [results, Tryz.results76, go_sem, ← bit0, ← bit1, ← bit2, ← bit3, ← bit4, ← bit5, ← bit6, ← bit7]) rfl ⟨rfl, ?_⟩
  exact ((Below.refl _ _).alloc (Nat.le_refl _) _).alloc (by simp) _
theorem fl_bits (a b : Nat) (ha : a < 256) : fl a b = true ↔ ∀ j, j < 8 → bt a j = true → bt b j = true := by
  rw [fl_iff]
  constructor
  · intro h j _ x; rw [bt_test] at x ⊢; exact h j x
  · intro h j x
    by_cases hj : j < 8
    · have := h j hj; rw [bt_test, bt_test] at this; exact this x
    · have : a.testBit j = false := Nat.testBit_lt_two_pow (Nat.lt_of_lt_of_le ha (Nat.le_trans (by decide : 256 ≤ 2 ^ 8) (Nat.pow_le_pow_right (by omega) (by omega))))
      rw [this] at x; cases x
theorem below_step {a b c : World} (h : Below a.heap.size a b) (k : Below b.heap.size b c) : Below a.heap.size a c := h.trans (k.mono h.size)
theorem rel_next {P : Nat → Prop} {k : Nat} (H : ∀ j, j < k + 1 → P j) (h : k + 1 ≤ 8) : ∃ q : Nat, q ≤ 8 ∧ Value.int .i64 ((k + 1 : Nat) : Int) = .int .i64 (q : Int) ∧ ∀ j, j < q → P j :=
  ⟨k + 1, h, rfl, H⟩
theorem to_eight {k : Nat} (h : k < 8) : k = 0 ∨ k = 1 ∨ k = 2 ∨ k = 3 ∨ k = 4 ∨ k = 5 ∨ k = 6 ∨ k = 7 := by omega
theorem all_next {P : Nat → Prop} {k : Nat} (H : ∀ j, j < k → P j) (h : P k) : ∀ j, j < k + 1 → P j := by
  intro j hj
  by_cases e : j = k
  · subst e; exact h
  · exact H j (by omega)
set_option maxHeartbeats 4000000 in
theorem rflows_any (a b : Nat) (w : World) (ha : a < 256) (hb : b < 256) :
    Calls Tryz.prog 98 #[.int .i64 (a : Int), .int .i64 (b : Int)] w fun e w' => e = .returned (.bool (fl a b)) ∧ Below w.heap.size w w' := by
  go_enter Tryz.func98, Tryz.ntmps98
  go_wp2_with (go_at_call 76; refine (bits_any _ _ (by assumption)).mono ?_; rintro e w1 ⟨rfl, hb1⟩)
  have BEL := below_step (by assumption) hb1
  clear hb1
  go_loop [12] (fun i => ∃ k : Nat, k ≤ 8 ∧ i = .int .i64 k ∧ ∀ j, j < k → bt a j = true → bt b j = true) (fun i => 8 - (intOf i).toNat)
  case atStart => exact ⟨0, by omega, rfl, fun j h => by omega⟩
  case round =>
    obtain ⟨k, hk, rfl, hall⟩ := hrel
    by_cases hlt : k < 8
    · cases hx : bt a k
      · have HN : Hid (∀ j, j < k + 1 → bt a j = true → bt b j = true) := all_next hall (fun h => by rw [hx] at h; cases h)
        clear hall
        rcases to_eight hlt with rfl | rfl | rfl | rfl | rfl | rfl | rfl | rfl
        all_goals
          go_wp2
          go_round
          case rel => exact ⟨_, _, _, rel_next (P := fun j => bt a j = true → bt b j = true) HN.out (by decide), rfl, rfl, rfl⟩
          case measure => simp [intOf]
      · cases hy : bt b k
        · have HF : fl a b = false := by
            cases h : fl a b
            · rfl
            · have := (fl_bits a b ha).1 h k hlt hx; rw [hy] at this; cases this
          clear hall
          rcases to_eight hlt with rfl | rfl | rfl | rfl | rfl | rfl | rfl | rfl
          all_goals
            go_wp2
            go_ret
            exact ⟨rfl, (BEL.alloc (by have := BEL.size; omega) _).alloc (by have := BEL.size; simp; omega) _⟩
        · have HN : Hid (∀ j, j < k + 1 → bt a j = true → bt b j = true) := all_next hall (fun _ => hy)
          clear hall
          rcases to_eight hlt with rfl | rfl | rfl | rfl | rfl | rfl | rfl | rfl
          all_goals
            go_wp2
            go_round
            case rel => exact ⟨_, _, _, rel_next (P := fun j => bt a j = true → bt b j = true) HN.out (by decide), rfl, rfl, rfl⟩
            case measure => simp [intOf]
    · have h8 : k = 8 := by omega
      subst h8
      have HF : fl a b = true := (fl_bits a b ha).2 hall
      clear hall
      go_wp2
      go_ret
      exact ⟨rfl, (BEL.alloc (by have := BEL.size; omega) _).alloc (by have := BEL.size; simp; omega) _⟩
end Go.Proofs.YtdkpfnohdknldaaGreatDoor
namespace Go.Proofs.YtdkpfnohdknldaaGreatDoor
open Go.RowKit
set_option linter.unusedVariables false
theorem bt_or (a b j : Nat) : bt (a ||| b) j = (bt a j || bt b j) := by rw [bt_test, bt_test, bt_test, Nat.testBit_or]
theorem bt_and (a b j : Nat) : bt (a &&& b) j = (bt a j && bt b j) := by rw [bt_test, bt_test, bt_test, Nat.testBit_and]
theorem div_yes (m j v : Nat) (hv : m / 2 ^ (j + 1) = v) (h : bt m j = true) : m / 2 ^ j = 2 * v + 1 := by
  unfold bt at h
  rw [Nat.pow_succ, ← Nat.div_div_eq_div_mul] at hv
  have h' : m / 2 ^ j % 2 = 1 := by simpa using h
  omega
theorem div_no (m j v : Nat) (hv : m / 2 ^ (j + 1) = v) (h : bt m j = false) : m / 2 ^ j = 2 * v := by
  unfold bt at h
  rw [Nat.pow_succ, ← Nat.div_div_eq_div_mul] at hv
  have h' : ¬ m / 2 ^ j % 2 = 1 := by simpa using h
  omega
def RelBo (m : Nat) (n i : Value) : Prop := ∃ k : Nat, k ≤ 8 ∧ i = .int .i64 ((k : Int) - 1) ∧ n = .int .i64 ((m / 2 ^ k : Nat) : Int)
def downB (i : Value) : Nat := (intOf i + 1).toNat
theorem relBo_mk {m j q : Nat} {x y : Int} (h : m / 2 ^ j = q) (hx : x = (q : Int)) (hy : y = (j : Int) - 1) (hj : j ≤ 8) : RelBo m (.int .i64 x) (.int .i64 y) :=
  ⟨j, hj, by rw [hy], by rw [hx, h]⟩
set_option maxHeartbeats 8000000 in
theorem both_or (a b : Nat) (w : World) (ha : a < 256) (hb : b < 256) :
    Calls Tryz.prog 46 #[.int .i64 (a : Int), .int .i64 (b : Int), .bool false] w fun e w' => e = .returned (.int .i64 ((a ||| b : Nat) : Int)) ∧ Below w.heap.size w w' := by
  obtain ⟨m, hm⟩ : ∃ m, a ||| b = m := ⟨_, rfl⟩
  have hml : m < 256 := by rw [← hm]; exact or_lt a b ha hb
  have HB : Hid (∀ j, bt m j = (bt a j || bt b j)) := by intro j; rw [← hm]; exact bt_or a b j
  rw [hm]
  have HM : Hid (a ||| b = m) := hm
  clear hm
  go_enter Tryz.func46, Tryz.ntmps46
  go_wp2_with (go_at_call 76; refine (bits_any _ _ (by assumption)).mono ?_; rintro e w1 ⟨rfl, hb1⟩)
  have BEL := below_step (by assumption) hb1
  clear hb1
  go_loop [9, 10] (fun n i => RelBo m n i) (fun _ i => downB i)
  case atStart => exact ⟨8, by omega, rfl, by rw [Nat.div_eq_of_lt (by omega)]; rfl⟩
  case round =>
    obtain ⟨k, hk, rfl, rfl⟩ := hrel
    obtain ⟨v, hv⟩ : ∃ v, m / 2 ^ k = v := ⟨_, rfl⟩
    have hvl : v < 256 := by rw [← hv]; exact Nat.lt_of_le_of_lt (Nat.div_le_self _ _) hml
    rw [hv]
    cases k with
    | zero =>
      have hv0 : v = m := by simpa using hv.symm
      clear hv
      subst hv0
      go_wp2
      go_ret
      exact ⟨rfl, (BEL.alloc (by have := BEL.size; omega) _).alloc (by have := BEL.size; simp; omega) _⟩
    | succ j =>
      have hlt : j < 8 := by omega
      cases hx : bt a j
      · cases hy : bt b j
        · have HE : Hid (m / 2 ^ j = 2 * v) := div_no m j v hv (by rw [HB.out, hx, hy]; rfl)
          clear hv
          rcases to_eight hlt with rfl | rfl | rfl | rfl | rfl | rfl | rfl | rfl
          all_goals
            go_wp2
            exact ⟨relBo_mk HE.out (by omega) (by omega) (by decide), by simp [downB, intOf]⟩
        · have HE : Hid (m / 2 ^ j = 2 * v + 1) := div_yes m j v hv (by rw [HB.out, hx, hy]; rfl)
          clear hv
          rcases to_eight hlt with rfl | rfl | rfl | rfl | rfl | rfl | rfl | rfl
          all_goals
            go_wp2
            exact ⟨relBo_mk HE.out (by omega) (by omega) (by decide), by simp [downB, intOf]⟩
      · cases hy : bt b j
        · have HE : Hid (m / 2 ^ j = 2 * v + 1) := div_yes m j v hv (by rw [HB.out, hx, hy]; rfl)
          clear hv
          rcases to_eight hlt with rfl | rfl | rfl | rfl | rfl | rfl | rfl | rfl
          all_goals
            go_wp2
            exact ⟨relBo_mk HE.out (by omega) (by omega) (by decide), by simp [downB, intOf]⟩
        · have HE : Hid (m / 2 ^ j = 2 * v + 1) := div_yes m j v hv (by rw [HB.out, hx, hy]; rfl)
          clear hv
          rcases to_eight hlt with rfl | rfl | rfl | rfl | rfl | rfl | rfl | rfl
          all_goals
            go_wp2
            exact ⟨relBo_mk HE.out (by omega) (by omega) (by decide), by simp [downB, intOf]⟩
set_option maxHeartbeats 8000000 in
theorem both_and (a b : Nat) (w : World) (ha : a < 256) (hb : b < 256) :
    Calls Tryz.prog 46 #[.int .i64 (a : Int), .int .i64 (b : Int), .bool true] w fun e w' => e = .returned (.int .i64 ((a &&& b : Nat) : Int)) ∧ Below w.heap.size w w' := by
  obtain ⟨m, hm⟩ : ∃ m, a &&& b = m := ⟨_, rfl⟩
  have hml : m < 256 := by rw [← hm]; exact and_lt a b ha
  have HB : Hid (∀ j, bt m j = (bt a j && bt b j)) := by intro j; rw [← hm]; exact bt_and a b j
  rw [hm]
  have HM : Hid (a &&& b = m) := hm
  clear hm
  go_enter Tryz.func46, Tryz.ntmps46
  go_wp2_with (go_at_call 76; refine (bits_any _ _ (by assumption)).mono ?_; rintro e w1 ⟨rfl, hb1⟩)
  have BEL := below_step (by assumption) hb1
  clear hb1
  go_loop [9, 10] (fun n i => RelBo m n i) (fun _ i => downB i)
  case atStart => exact ⟨8, by omega, rfl, by rw [Nat.div_eq_of_lt (by omega)]; rfl⟩
  case round =>
    obtain ⟨k, hk, rfl, rfl⟩ := hrel
    obtain ⟨v, hv⟩ : ∃ v, m / 2 ^ k = v := ⟨_, rfl⟩
    have hvl : v < 256 := by rw [← hv]; exact Nat.lt_of_le_of_lt (Nat.div_le_self _ _) hml
    rw [hv]
    cases k with
    | zero =>
      have hv0 : v = m := by simpa using hv.symm
      clear hv
      subst hv0
      go_wp2
      go_ret
      exact ⟨rfl, (BEL.alloc (by have := BEL.size; omega) _).alloc (by have := BEL.size; simp; omega) _⟩
    | succ j =>
      have hlt : j < 8 := by omega
      cases hx : bt a j
      · cases hy : bt b j
        · have HE : Hid (m / 2 ^ j = 2 * v) := div_no m j v hv (by rw [HB.out, hx, hy]; rfl)
          clear hv
          rcases to_eight hlt with rfl | rfl | rfl | rfl | rfl | rfl | rfl | rfl
          all_goals
            go_wp2
            exact ⟨relBo_mk HE.out (by omega) (by omega) (by decide), by simp [downB, intOf]⟩
        · have HE : Hid (m / 2 ^ j = 2 * v) := div_no m j v hv (by rw [HB.out, hx, hy]; rfl)
          clear hv
          rcases to_eight hlt with rfl | rfl | rfl | rfl | rfl | rfl | rfl | rfl
          all_goals
            go_wp2
            exact ⟨relBo_mk HE.out (by omega) (by omega) (by decide), by simp [downB, intOf]⟩
      · cases hy : bt b j
        · have HE : Hid (m / 2 ^ j = 2 * v) := div_no m j v hv (by rw [HB.out, hx, hy]; rfl)
          clear hv
          rcases to_eight hlt with rfl | rfl | rfl | rfl | rfl | rfl | rfl | rfl
          all_goals
            go_wp2
            exact ⟨relBo_mk HE.out (by omega) (by omega) (by decide), by simp [downB, intOf]⟩
        · have HE : Hid (m / 2 ^ j = 2 * v + 1) := div_yes m j v hv (by rw [HB.out, hx, hy]; rfl)
          clear hv
          rcases to_eight hlt with rfl | rfl | rfl | rfl | rfl | rfl | rfl | rfl
          all_goals
            go_wp2
            exact ⟨relBo_mk HE.out (by omega) (by omega) (by decide), by simp [downB, intOf]⟩
end Go.Proofs.YtdkpfnohdknldaaGreatDoor
namespace Go.Proofs.YtdkpfnohdknldaaGreatDoor
set_option linter.unusedVariables false
theorem bit_lt {n e : Nat} (hn : n < 256) (he : e ≤ 7) (h : ¬ n / 2 ^ e % 2 = 1) : n + 2 ^ e < 256 := by
  rcases (by omega : e = 0 ∨ e = 1 ∨ e = 2 ∨ e = 3 ∨ e = 4 ∨ e = 5 ∨ e = 6 ∨ e = 7) with rfl | rfl | rfl | rfl | rfl | rfl | rfl | rfl <;> (simp only [Nat.reducePow] at h ⊢; omega)
section
variable {L : List Tok} {sz : Nat}
theorem labs_lt (f : Nat) : ∀ i n, n < 256 → (pLabs L sz f i n).v < 256 := by
  induction f with
  | zero => intro i n h; unfold pLabs; exact h
  | succ f ih =>
    intro i n h
    unfold pLabs
    split
    · exact h
    · split
      · next ht =>
        have hb : byt (tk L sz i).x 0 - 97 ≤ 7 := by
          unfold tagB at ht
          have ht := of_decide_eq_true ht
          omega
        have h2 : (if n / 2 ^ (byt (tk L sz i).x 0 - 97) % 2 = 1 then n else n + 2 ^ (byt (tk L sz i).x 0 - 97)) < 256 := by
          split
          · exact h
          · next hc => exact bit_lt h hb hc
        simp only
        split
        · exact ih _ _ h2
        · split
          · exact ih _ _ h2
          · exact h2
      · exact h
theorem lab_lt (i : Nat) : (pLab L sz i).v < 256 := by
  unfold pLab
  split
  · exact labs_lt _ _ _ (by decide)
  · show 0 < 256
    decide
theorem params_lt (f : Nat) : ∀ (i : Nat) (l : List Pm), (∀ p ∈ l, p.l < 256) → ∀ p ∈ (pParams L sz f i l).v, p.l < 256 := by
  induction f with
  | zero => intro i l h; unfold pParams; exact h
  | succ f ih =>
    intro i l h
    unfold pParams
    split
    · split
      · exact h
      · simp only
        split
        · have h2 : ∀ p ∈ l ++ [⟨(pNamed L sz i).v, (pLab L sz (pNeed L sz (pNamed L sz i).i (bs1 58)).i).v, (tk L sz i).a⟩], (p : Pm).l < 256 := by
            intro p hp
            rcases List.mem_append.1 hp with hp | hp
            · exact h p hp
            · rw [List.mem_singleton] at hp
              rw [hp]
              exact lab_lt _
          split
          · exact ih _ _ h2
          · exact h2
        · exact h
    · exact h
/-- A statement whose labels are below 256, no deeper than n. -/
def lbW : Nat → Tr → Prop
  | 0, _ => False
  | n + 1, s => ∃ (k : Nat) (x : ByteArray) (a lb : Nat) (o : Bool) (e : Tr) (th el : List Tr) (f t : Nat), s = stMk k x a lb o e th el f t ∧ lb < 256 ∧ (∀ b ∈ th, lbW n b) ∧ ∀ b ∈ el, lbW n b
theorem lbW_up (n : Nat) : ∀ (m : Nat) (s : Tr), n ≤ m → lbW n s → lbW m s := by
  induction n with
  | zero => intro m s _ h; exact h.elim
  | succ n ih =>
    intro m s hm h
    obtain ⟨m, rfl⟩ : ∃ q, m = q + 1 := ⟨m - 1, by omega⟩
    obtain ⟨k, x, a, lb, o, e, th, el, f, t, h1, h2, h3, h4⟩ := h
    exact ⟨k, x, a, lb, o, e, th, el, f, t, h1, h2, fun b hb => ih m b (by omega) (h3 b hb), fun b hb => ih m b (by omega) (h4 b hb)⟩
theorem lb_plain {k : Nat} {x : ByteArray} {a lb : Nat} {o : Bool} {e : Tr} {f t : Nat} (h : lb < 256) : ∃ n, lbW n (stMk k x a lb o e [] [] f t) :=
  ⟨1, k, x, a, lb, o, e, [], [], f, t, rfl, h, fun b hb => absurd hb (List.not_mem_nil), fun b hb => absurd hb (List.not_mem_nil)⟩
theorem lb_block {k : Nat} {x : ByteArray} {a lb : Nat} {o : Bool} {e : Tr} {th el : List Tr} {f t : Nat} (h : lb < 256) (h1 : ∃ n, ∀ b ∈ th, lbW n b) (h2 : ∃ n, ∀ b ∈ el, lbW n b) : ∃ n, lbW n (stMk k x a lb o e th el f t) := by
  obtain ⟨n1, h1⟩ := h1
  obtain ⟨n2, h2⟩ := h2
  exact ⟨max n1 n2 + 1, k, x, a, lb, o, e, th, el, f, t, rfl, h, fun b hb => lbW_up n1 _ b (Nat.le_max_left _ _) (h1 b hb), fun b hb => lbW_up n2 _ b (Nat.le_max_right _ _) (h2 b hb)⟩
theorem stmt_lb (f : Nat) :
    (∀ d i, ∃ n, ∀ b ∈ (pBlock L sz f d i).v, lbW n b) ∧
    (∀ d i l, (∃ n, ∀ b ∈ l, lbW n b) → ∃ n, ∀ b ∈ (pStmts L sz f d i l).v, lbW n b) ∧
    (∀ d i, ∃ n, lbW n (pStmt L sz f d i).v) := by
  induction f with
  | zero =>
    refine ⟨fun d i => ?_, fun d i l h => ?_, fun d i => ?_⟩
    · rw [pBlock_zero]; exact ⟨0, fun b hb => absurd hb (List.not_mem_nil)⟩
    · rw [pStmts_zero]; exact h
    · rw [pStmt_zero]; exact lb_plain (by decide)
  | succ f ih =>
    obtain ⟨hB, hS, hT⟩ := ih
    have hnil : ∃ n, ∀ b ∈ ([] : List Tr), lbW n b := ⟨0, fun b hb => absurd hb (List.not_mem_nil)⟩
    refine ⟨fun d i => ?_, fun d i l h => ?_, fun d i => ?_⟩
    · rw [pBlock_succ]
      split
      · split
        · exact hnil
        · exact hS _ _ _ hnil
      · exact hnil
    · rw [pStmts_succ]
      split
      · split
        · exact h
        · obtain ⟨n, hn⟩ := h
          obtain ⟨m, hm⟩ := hT d i
          refine hS _ _ _ ⟨max n m, fun b hb => ?_⟩
          rcases List.mem_append.1 hb with hb | hb
          · exact lbW_up n _ b (Nat.le_max_left _ _) (hn b hb)
          · rw [List.mem_singleton] at hb
            rw [hb]
            exact lbW_up m _ _ (Nat.le_max_right _ _) hm
      · exact h
    · rw [pStmt_succ]
      try simp only
      split
      · refine lb_plain ?_
        split
        · show 0 < 256
          decide
        · exact lab_lt _
      · split
        · split
          · exact lb_block (by decide) (hB _ _) (hB _ _)
          · exact lb_block (by decide) (hB _ _) hnil
        · split
          · exact lb_block (by decide) (hB _ _) hnil
          · split
            · exact lb_plain (by decide)
            · split
              · exact lb_plain (by decide)
              · split
                · split
                  · exact lb_plain (by decide)
                  · exact lb_plain (by decide)
                · exact lb_plain (by decide)
/-- An item whose labels are below 256. -/
theorem it_lb : (pIt L sz).l < 256 ∧ (∀ p ∈ (pIt L sz).ps, p.l < 256) ∧ ∃ n, ∀ b ∈ (pIt L sz).bd, lbW n b := by
  unfold pIt
  split
  · exact ⟨lab_lt _, params_lt _ _ _ (fun p hp => absurd hp (List.not_mem_nil)), (stmt_lb _).1 _ _⟩
  · split
    · exact ⟨lab_lt _, fun p hp => absurd hp (List.not_mem_nil), 0, fun b hb => absurd hb (List.not_mem_nil)⟩
    · exact ⟨show 0 < 256 by decide, fun p hp => absurd hp (List.not_mem_nil), 0, fun b hb => absurd hb (List.not_mem_nil)⟩
end
end Go.Proofs.YtdkpfnohdknldaaGreatDoor
namespace Go.Proofs.YtdkpfnohdknldaaGreatDoor
open Go.RowKit
set_option linter.unusedVariables false
theorem jnL_bit (a b i : Nat) : (jnL a b).testBit i = ((tg a).testBit i || (tg b).testBit i) := by unfold jnL; rw [Nat.testBit_or]
theorem tg_jnL (a b : Nat) : tg (jnL a b) = jnL a b := tg_of (jnL_lt a b)
theorem jnL_zero {u : Nat} (h : u < 256) : jnL u 0 = u := by
  have e : tg 0 = 0 := rfl
  unfold jnL
  rw [e, tg_of h, Nat.or_zero]
section
variable (l : List (Int × It))
def rlO (env : Env) : Nat → Tr → Nat
  | 0, _ => 0
  | n + 1, e => if exK e = 2 then envN env (exX e) else if exK e = 3 then (match exA e with | [a, b] => jnL (rlO env n a) (rlO env n b) | _ => 0) else if exK e = 4 then fnL l (exX e) else 0
theorem rlO_fuel (env : Env) (n : Nat) : ∀ (m : Nat) (e : Tr), szT e ≤ n → szT e ≤ m → rlO l env n e = rlO l env m e := by
  induction n with
  | zero => intro m e h; have := szT_pos e; omega
  | succ n ih =>
    intro m e h1 h2
    cases m with
    | zero => have := szT_pos e; omega
    | succ m =>
      have hh : ∀ a ∈ exA e, rlO l env n a = rlO l env m a := fun a ha => ih m a (by have := exA_less e a ha; omega) (by have := exA_less e a ha; omega)
      unfold rlO
      cases hA : exA e with
      | nil => rfl
      | cons a r =>
        cases r with
        | nil => rfl
        | cons b r =>
          cases r with
          | nil =>
            rw [hA] at hh
            simp only
            rw [hh a (by simp), hh b (by simp)]
          | cons c r => rfl
/-- An expression's label. -/
def rlX (env : Env) (e : Tr) : Nat := rlO l env (szT e) e
theorem rlX_eq (env : Env) (e : Tr) : rlX l env e = if exK e = 2 then envN env (exX e) else if exK e = 3 then (match exA e with | [a, b] => jnL (rlX l env a) (rlX l env b) | _ => 0) else if exK e = 4 then fnL l (exX e) else 0 := by
  have h1 : rlX l env e = rlO l env (szT e + 1) e := rlO_fuel l env _ _ e (Nat.le_refl _) (by omega)
  have hh : ∀ a ∈ exA e, rlO l env (szT e) a = rlX l env a := fun a ha => rlO_fuel l env _ _ a (by have := exA_less e a ha; omega) (Nat.le_refl _)
  rw [h1]
  conv => lhs; unfold rlO
  cases hA : exA e with
  | nil => rfl
  | cons a r =>
    cases r with
    | nil => rfl
    | cons b r =>
      cases r with
      | nil =>
        rw [hA] at hh
        simp only
        rw [hh a (by simp), hh b (by simp)]
      | cons c r => rfl
theorem rlX_mk (env : Env) (k : Nat) (x : ByteArray) (n : Nat) (al : List Tr) (f t : Nat) : rlX l env (exMk k x n al f t) = if k = 2 then envN env x else if k = 3 then (match al with | [a, b] => jnL (rlX l env a) (rlX l env b) | _ => 0) else if k = 4 then fnL l x else 0 := by
  rw [rlX_eq, exK_mk, exX_mk, exA_mk]
end
theorem join_three (u a b : Nat) : jnL (jnL u (jnL u a)) (jnL u b) = jnL u (jnL a b) := by
  apply Nat.eq_of_testBit_eq
  intro i
  simp only [jnL_bit, tg_jnL]
  cases (tg u).testBit i <;> cases (tg a).testBit i <;> cases (tg b).testBit i <;> rfl
/-- What is to be kept secret: its label, and what it is under. -/
theorem lb_rl {L : List Tok} (l : List (Int × It)) (env : Env) {u : Nat} (hu : u < 256) (n : Nat) : ∀ (c : Nat) (e : Tr), wfE L n c e → lbX l env u e = jnL u (rlX l env e) := by
  induction n with
  | zero => intro c e h; exact h.elim
  | succ n ih =>
    intro c e h
    obtain ⟨k, x, m, al, f, t, rfl, h⟩ := h
    rw [lbX_mk, rlX_mk]
    rcases h with ⟨h1, h2, h3, h4⟩ | ⟨h1, h2, h3, h4⟩ | ⟨h1, h2, h3⟩ | ⟨h1, h2, c', h3, h4⟩
    · rw [if_neg h1, if_neg h2, if_neg h3, if_neg h1, if_neg h2, if_neg h3, jnL_zero hu]
    · rw [if_pos h1, if_pos h1]
    · rw [if_neg (by omega), if_pos h1, if_neg (by omega), if_pos h1]
      obtain ⟨a, b, rfl⟩ : ∃ a b, al = [a, b] := by
        cases al with
        | nil => cases h2
        | cons a r =>
          cases r with
          | nil => cases h2
          | cons b r =>
            cases r with
            | nil => exact ⟨a, b, rfl⟩
            | cons d r => simp at h2
      obtain ⟨c1, c2, _, ha, c3, c4, _, hb, _⟩ := h3
      simp only [List.foldl_cons, List.foldl_nil]
      rw [ih c1 a ha, ih c3 b hb, join_three]
    · rw [if_neg (by omega), if_neg (by omega), if_pos h1, if_neg (by omega), if_neg (by omega), if_pos h1]
end Go.Proofs.YtdkpfnohdknldaaGreatDoor

/- Print: the text of a label. -/
import Derived.Test.YtgfmoefbofenhaaSmall
namespace Go.Proofs.Ytgfmoefbofenhaa
open Go.RowKit
/-- The bytes that are laid when the first k tags have been looked at. -/
def prL (n : Nat) : Nat → List Nat
  | 0 => [123]
  | k + 1 => if n / 2 ^ k % 2 = 0 then prL n k else (if 1 < (prL n k).length then prL n k ++ [44] else prL n k) ++ [97 + k]
theorem prL_len (n k : Nat) : 1 ≤ (prL n k).length ∧ (prL n k).length ≤ 2 * k + 1 := by
  induction k with
  | zero => simp [prL]
  | succ k ih =>
    unfold prL
    split
    · omega
    · split <;> simp <;> omega
theorem prL_lt (n k : Nat) (hk : k ≤ 8) : ∀ c ∈ prL n k, c < 256 := by
  induction k with
  | zero => simp [prL]
  | succ k ih =>
    have ih := ih (by omega)
    unfold prL
    split
    · exact ih
    · split
      · intro c hc
        simp at hc
        rcases hc with h | h | h
        · exact ih c h
        · omega
        · omega
      · intro c hc
        simp at hc
        rcases hc with h | h
        · exact ih c h
        · omega
theorem prL_no (n k : Nat) (h : n / 2 ^ k % 2 = 0) : prL n (k + 1) = prL n k := by
  conv => lhs; unfold prL
  rw [if_pos h]
theorem prL_two (n k : Nat) (h : ¬ n / 2 ^ k % 2 = 0) (h1 : 1 < (prL n k).length) : prL n (k + 1) = prL n k ++ [44] ++ [97 + k] := by
  conv => lhs; unfold prL
  rw [if_neg h, if_pos h1]
theorem prL_one (n k : Nat) (h : ¬ n / 2 ^ k % 2 = 0) (h1 : ¬ 1 < (prL n k).length) : prL n (k + 1) = prL n k ++ [97 + k] := by
  conv => lhs; unfold prL
  rw [if_neg h, if_neg h1]
theorem bit_form (n k : Nat) (hn : n < 256) : (bits BinOp.and IntKind.i64 ((n : Int) / 2 ^ k) 1 == 0) = decide (n / 2 ^ k % 2 = 0) := by
  have e : ((n : Int) / 2 ^ k) = ((n / 2 ^ k : Nat) : Int) := by
    rw [Int.natCast_ediv]; simp
  have hl : n / 2 ^ k < 256 := Nat.lt_of_le_of_lt (Nat.div_le_self _ _) hn
  have := i64_and (n / 2 ^ k) 1 (by omega) (by omega)
  rw [e]
  rw [show (1 : Int) = ((1 : Nat) : Int) from rfl, this, nat_mask1, Bool.eq_iff_iff]
  simp
  omega
theorem own_shape {w : World} {base size n : Nat} {e : TypeId} {v : Value} {xs : List Value} (h : w.ownsRow base e size v n xs) (hn : 0 < n) :
    ∃ g cap, v = .slice (some ⟨g, 0, none⟩) n cap ∧ base ≤ g := by
  obtain ⟨_, h | ⟨g, cap, _, rfl, hb, _⟩⟩ := h
  · omega
  · exact ⟨g, cap, rfl, hb⟩
theorem own_ge {w : World} {base size n : Nat} {e : TypeId} {v : Value} {xs : List Value} (h : w.ownsRow base e size v n xs) : ∀ k, v.ownBlock = some k → base ≤ k :=
  fun k hk => (h.lt k hk).1
/-- The list's numbers as bytes. -/
def bytesOf (l : List Nat) : ByteArray := ⟨(l.map UInt8.ofNat).toArray⟩
def cellsOf (l : List Nat) : List Value := l.map fun (c : Nat) => Value.int .u8 (c : Int)
theorem add_zero (g j : Nat) : (⟨g, 0, none⟩ : Addr).add j = ⟨g, j, none⟩ := by
  simp only [Addr.add, Nat.zero_add]
  split
  · simp_all
  · rfl
theorem conv_own {w : World} {base g cap : Nat} {l : List Nat} (h : w.ownsRow base 5 1 (.slice (some ⟨g, 0, none⟩) l.length cap) l.length (cellsOf l)) (hl : ∀ c ∈ l, c < 256) :
    (convert 40 9 (.slice (some ⟨g, 0, none⟩) l.length cap)).run Try.prog w = .ok (.string (bytesOf l)) w := by
  have := run_convert_bytes_back (P := Try.prog) w 40 9 5 ⟨g, 0, none⟩ cap (l.map UInt8.ofNat) Try.underlying40 Try.underlying5 Try.underlying9 (by
    intro j hj
    have hj' : j < l.length := by simpa using hj
    have := h.cellAt j (by omega)
    rw [add_zero, this]
    have hlt := hl _ (List.getElem_mem hj')
    simp [cellsOf, List.getElem?_eq_getElem hj', UInt8.toNat_ofNat', Nat.mod_eq_of_lt hlt])
  simpa [bytesOf] using this
theorem Try.info5 : (Try.prog.info? 5).map (fun i => (i.zero, i.size, i.bytes)) = some (some (.int .u8 0), 1, 1) := by kernel_rfl
/-- The text of a label. -/
def prS (n : Nat) : ByteArray := bytesOf (prL n 8 ++ [125])
theorem prS_lt (n : Nat) : ∀ c ∈ prL n 8 ++ [125], c < 256 := by
  intro c hc
  rw [List.mem_append] at hc
  rcases hc with h | h
  · exact prL_lt n 8 (Nat.le_refl _) c h
  · simp at h; omega
theorem conv_end {w : World} {base g cap n : Nat} (h : w.ownsRow base 5 1 (.slice (some ⟨g, 0, none⟩) ((prL n 8).length + 1) cap) ((prL n 8).length + 1) (cellsOf (prL n 8) ++ [.int .u8 125])) :
    (convert 40 9 (.slice (some ⟨g, 0, none⟩) ((prL n 8).length + 1) cap)).run Try.prog w = .ok (.string (prS n)) w := by
  have := conv_own (w := w) (base := base) (g := g) (cap := cap) (l := prL n 8 ++ [125]) (by simpa [cellsOf] using h) (prS_lt n)
  simpa [prS] using this
set_option maxHeartbeats 1000000 in
theorem print_any (n : Nat) (w : World) (hn : n < 256) :
    Calls Try.prog 16 #[.int .i64 (n : Int)] w fun e w' => e = .returned (.string (prS n)) ∧ Below w.heap.size w w' := by
  obtain ⟨i0, hi, hz0, hz1, hz2⟩ := info_parts Try.info5
  go_enter Try.func16, Try.ntmps16
  go_wp2
  go_loopw [3, 6] (fun v i wr => ∃ k : Nat, k ≤ 8 ∧ i = .int .i64 k ∧ wr.ownsRow w.heap.size 5 1 v (prL n k).length (cellsOf (prL n k)) ∧ Below w.heap.size w wr) (fun _ i _ => 8 - (intOf i).toNat)
  case atStart => exact ⟨0, by omega, rfl, World.ownsRow_lit (base := w.heap.size) (e := 5) (size := 1) w #[.int .u8 123] 1 (Nat.le_refl _) (by decide) rfl, (Below.refl _ _).alloc (Nat.le_refl _) _⟩
  case round =>
    obtain ⟨k, hk, rfl, hown, hbel⟩ := hrel
    have hlen := prL_len n k
    obtain ⟨g, cap, rfl, hg⟩ := own_shape hown (by omega)
    have hsz := hbel.size
    have HL : Hid (1 ≤ (prL n k).length ∧ (prL n k).length ≤ 2 * k + 1) := hlen
    by_cases hlt : k < 8
    · by_cases hbit : n / 2 ^ k % 2 = 0
      · have hb : (bits BinOp.and IntKind.i64 ((n : Int) / 2 ^ k) 1 == 0) = true := by rw [bit_form n k hn]; simpa using hbit
        have E := prL_no n k hbit
        have HE : Hid (prL n (k + 1) = prL n k) := E
        clear E hbit hlen
        go_wp2
        go_roundw
        case rel => exact ⟨k + 1, by omega, by go_num, by rw [HE.out]; exact hown, hbel⟩
        case measure => simp [intOf]; omega
      · have hb : (bits BinOp.and IntKind.i64 ((n : Int) / 2 ^ k) 1 == 0) = false := by rw [bit_form n k hn]; simpa using hbit
        by_cases h1 : 1 < (prL n k).length
        · have HE : Hid (prL n (k + 1) = prL n k ++ [44] ++ [97 + k]) := prL_two n k hbit h1
          clear hbit
          go_wp2_with (first | (at_builtin; refine wpList_append_own _ rfl (.tmp 17) (.tmp 18) 40 rfl w.heap.size 5 i0 (.int .u8 0) 1 1 Try.underlying40 hi hz0 hz1 hz2 rfl (by decide) _ _ _ rfl (hown.alloc _) ⟨wr.heap.size, 0, none⟩ 1 1 [.int .u8 44] rfl rfl (cell_one_new _ _ _) (by intro u hu; simp at hu; subst hu; rfl) (by unfold maxLen; omega) (by omega) (by simp; omega) ?_; intro v1 w1 hown1 hgrow1 _; have hsz1 := hgrow1.size; simp at hsz1) | (at_builtin; refine wpList_append_own _ rfl (.tmp 20) (.tmp 24) 40 rfl w.heap.size 5 i0 (.int .u8 0) 1 1 Try.underlying40 hi hz0 hz1 hz2 rfl (by decide) _ _ _ rfl (hown1.alloc _) ⟨w1.heap.size, 0, none⟩ 1 1 [.int .u8 (97 + (k : Int))] rfl rfl (cell_one_new _ _ _) (by intro u hu; simp at hu; subst hu; rfl) (by unfold maxLen; omega) (by omega) (by simp; omega) ?_; intro v2 w2 hown2 hgrow2 _))
          go_roundw
          case rel =>
            refine ⟨k + 1, by omega, by go_num, ?_, ?_⟩
            · rw [HE.out]; simpa [cellsOf] using hown2
            · exact ((hbel.alloc (by omega) _).grown hgrow1 (by simp; omega) (own_ge hown)).alloc (by omega) _ |>.grown hgrow2 (by simp; omega) (own_ge hown1)
          case measure => simp [intOf]; omega
        · have HE : Hid (prL n (k + 1) = prL n k ++ [97 + k]) := prL_one n k hbit h1
          clear hbit
          go_wp2_with (first | (at_builtin; refine wpList_append_own _ rfl (.tmp 20) (.tmp 24) 40 rfl w.heap.size 5 i0 (.int .u8 0) 1 1 Try.underlying40 hi hz0 hz1 hz2 rfl (by decide) _ _ _ rfl (hown.alloc _) ⟨wr.heap.size, 0, none⟩ 1 1 [.int .u8 (97 + (k : Int))] rfl rfl (cell_one_new _ _ _) (by intro u hu; simp at hu; subst hu; rfl) (by unfold maxLen; omega) (by omega) (by simp; omega) ?_; intro v2 w2 hown2 hgrow2 _))
          go_roundw
          case rel =>
            refine ⟨k + 1, by omega, by go_num, ?_, ?_⟩
            · rw [HE.out]; simpa [cellsOf] using hown2
            · exact (hbel.alloc (by omega) _).grown hgrow2 (by simp; omega) (own_ge hown)
          case measure => simp [intOf]; omega
    · have h8 : k = 8 := by omega
      subst h8
      go_wp2_with (first | (at_builtin; refine wpList_append_own _ rfl (.tmp 27) (.tmp 28) 40 rfl w.heap.size 5 i0 (.int .u8 0) 1 1 Try.underlying40 hi hz0 hz1 hz2 rfl (by decide) _ _ _ rfl (hown.alloc _) ⟨wr.heap.size, 0, none⟩ 1 1 [.int .u8 125] rfl rfl (cell_one_new _ _ _) (by intro u hu; simp at hu; subst hu; rfl) (by unfold maxLen; omega) (by omega) (by simp; omega) ?_; intro v2 w2 hown2 hgrow2 _; obtain ⟨g2, cap2, rfl, hg2⟩ := own_shape hown2 (by omega); have hconv := conv_end hown2))
      go_ret
      exact ⟨rfl, (hbel.alloc (by omega) _).grown hgrow2 (by simp; omega) (own_ge hown)⟩
end Go.Proofs.Ytgfmoefbofenhaa

/- Cuts: where items begin. -/
import Derived.Test.YtgfccgcccmicbaaLexWords
namespace Go.Proofs.Ytgfccgcccmicbaa
open Go.RowKit
/-- Tokens in memory, as a slice's cells from a place on. -/
def TokAt (w : World) (g o : Nat) (l : List Tok) : Prop := ∀ j t, l[j]? = some t → w.cell? ⟨g, o + j * 3, none⟩ = some (.int .i64 (t.k : Int)) ∧ w.cell? ⟨g, o + j * 3 + 1, none⟩ = some (.string t.x) ∧ w.cell? ⟨g, o + j * 3 + 2, none⟩ = some (.int .i64 (t.a : Int))
theorem own_toks {w : World} {base : Nat} {v : Value} {l : List Tok} (h : w.ownsRow base 47 3 v l.length (tsC l)) (hl : 0 < l.length) :
    ∃ g cap, v = .slice (some ⟨g, 0, none⟩) l.length cap ∧ base ≤ g ∧ g < w.heap.size ∧ l.length ≤ cap ∧ TokAt w g 0 l := by
  have hc : ∀ g, v.ownBlock = some g → ∀ j u, (tsC l)[j]? = some u → w.cell? ((⟨g, 0, none⟩ : Addr).add j) = some u := fun g hg => h.cells hg
  obtain ⟨_, ⟨_, h0⟩ | ⟨g, cap, cur, rfl, hb, hg, hcap, _⟩⟩ := h
  · omega
  · refine ⟨g, cap, rfl, hb, (Array.getElem?_eq_some_iff.1 hg).1, hcap, fun j t ht => ?_⟩
    have h3 := tsC_at l j t ht
    have hc := hc g rfl
    have e : ∀ i, (⟨g, 0, none⟩ : Addr).add i = ⟨g, i, none⟩ := by intro i; simp only [Addr.add, Nat.zero_add]; split <;> simp_all
    have c0 := hc _ _ h3.1
    have c1 := hc _ _ h3.2.1
    have c2 := hc _ _ h3.2.2
    rw [e] at c0 c1 c2
    rw [Nat.zero_add]
    exact ⟨c0, c1, c2⟩
theorem TokAt.below {w w1 : World} {g o : Nat} {l : List Tok} (h : TokAt w g o l) {B : Nat} (hb : Below B w w1) (hg : g < B) : TokAt w1 g o l := by
  intro j t ht
  have := h j t ht
  rw [hb.cell (p := ⟨g, o + j * 3, none⟩) hg, hb.cell (p := ⟨g, o + j * 3 + 1, none⟩) hg, hb.cell (p := ⟨g, o + j * 3 + 2, none⟩) hg]
  exact this
/-- Is token k the first, or one that opens an item right behind a line feed? -/
def opn (x : ByteArray) : Bool := decide (x = ⟨#[102, 110]⟩ ∨ x = ⟨#[99, 104, 97, 110]⟩)
def cutB (s : ByteArray) (k : Nat) (t : Tok) : Bool := k == 0 || (opn t.x && byt s (t.a - 1) == 10)
/-- The cuts among the first k tokens. -/
def cutK (s : ByteArray) (l : List Tok) : Nat → List Nat
  | 0 => []
  | k + 1 => cutK s l k ++ (match l[k]? with | some t => if cutB s k t then [t.a] else [] | none => [])
def cts (s : ByteArray) : List Nat := cutK s (tks s) (tks s).length
theorem cutK_len (s : ByteArray) (l : List Tok) (k : Nat) : (cutK s l k).length ≤ k := by
  induction k with
  | zero => exact Nat.le_refl _
  | succ k ih =>
    unfold cutK
    rw [List.length_append]
    have : (match l[k]? with | some t => if cutB s k t then [t.a] else [] | none => []).length ≤ 1 := by
      split
      · split <;> simp
      · simp
    omega
theorem cutK_yes (s : ByteArray) (l : List Tok) (k : Nat) (t : Tok) (h : l[k]? = some t) (hc : cutB s k t = true) : cutK s l (k + 1) = cutK s l k ++ [t.a] := by
  conv => lhs; unfold cutK
  rw [h]; simp [hc]
theorem cutK_no (s : ByteArray) (l : List Tok) (k : Nat) (t : Tok) (h : l[k]? = some t) (hc : cutB s k t = false) : cutK s l (k + 1) = cutK s l k := by
  conv => lhs; unfold cutK
  rw [h]; simp [hc]
def intC (l : List Nat) : List Value := l.map fun (c : Nat) => Value.int .i64 (c : Int)
theorem bne_of (x y : ByteArray) (h : x ≠ y) : (x.toList == y.data.toList) = false := by
  have := (Lib.bytes_beq_false_iff x y).2 h
  rw [Lib.toList_data y] at this
  exact this
set_option maxHeartbeats 1000000 in
theorem opens_any (x : ByteArray) (w : World) :
    Calls Try.prog 43 #[.string x] w fun e w' => e = .returned (.bool (opn x)) ∧ w' = w := by
  go_enter Try.func43, Try.ntmps43
  by_cases h1 : x = ⟨#[102, 110]⟩
  · subst h1
    go_wp2
    go_ret
    exact ⟨rfl, rfl⟩
  · have b1 : (x.toList == [102, 110]) = false := bne_of x ⟨#[102, 110]⟩ h1
    by_cases h2 : x = ⟨#[99, 104, 97, 110]⟩
    · subst h2
      go_wp2
      go_ret
      exact ⟨rfl, rfl⟩
    · have b2 : (x.toList == [99, 104, 97, 110]) = false := bne_of x ⟨#[99, 104, 97, 110]⟩ h2
      have e1 : ¬ x.toList = [102, 110] := fun h => by rw [h] at b1; simp at b1
      go_wp2
      go_ret
      exact ⟨ret_bool (by unfold opn; simp [h1, h2]), rfl⟩
theorem news2 (w : World) (o : Obj) (cs : Array Value) (t : TypeId) : ∀ j u, cs.toList[j]? = some u → ((w.alloc o).alloc (.cells cs t)).cell? ((⟨w.heap.size + 1, 0, none⟩ : Addr).add j) = some u := by
  have := World.news_of_block (heap_alloc_new (w.alloc o) (.cells cs t))
  simpa using this
theorem own_base {w : World} {base base' size n : Nat} {e : TypeId} {v : Value} {xs : List Value} (h : w.ownsRow base e size v n xs) (hb : base' ≤ base) : w.ownsRow base' e size v n xs := by
  refine ⟨h.1, ?_⟩
  rcases h.2 with h | ⟨g, cap, cur, rfl, h1, h2⟩
  · exact .inl h
  · exact .inr ⟨g, cap, cur, rfl, Nat.le_trans hb h1, h2⟩
theorem own_len {w : World} {base size n : Nat} {e : TypeId} {v : Value} {xs : List Value} (h : w.ownsRow base e size v n xs) : ∃ p cap, v = .slice p n cap := by
  rcases h.2 with ⟨rfl, rfl⟩ | ⟨g, cap, cur, rfl, _⟩
  · exact ⟨_, _, rfl⟩
  · exact ⟨_, _, rfl⟩
theorem Try.infoInt : (Try.prog.info? 3).map (fun i => (i.zero, i.size, i.bytes)) = some (some (.int .i64 0), 1, 8) := by kernel_rfl
def RelC (s : ByteArray) (wt : World) (v i : Value) (wr : World) : Prop :=
  ∃ k : Nat, k ≤ (tks s).length ∧ i = .int .i64 (k : Int) ∧ wr.ownsRow wt.heap.size 3 1 v (cutK s (tks s) k).length (intC (cutK s (tks s) k)) ∧ Below wt.heap.size wt wr
set_option maxHeartbeats 1000000 in
theorem cuts_any (s : ByteArray) (w : World) (hs : s.size ≤ 1099511627776) :
    Calls Try.prog 22 #[.string s] w fun e w' => ∃ v, e = .returned v ∧ w'.ownsRow w.heap.size 3 1 v (cts s).length (intC (cts s)) ∧ Below w.heap.size w w' := by
  obtain ⟨i0, hi, hz0, hz1, hz2⟩ := info_parts Try.infoInt
  have hs0 : s.size ≤ maxLen := by unfold maxLen; omega
  go_enter Try.func22, Try.ntmps22
  by_cases hn : (tks s).length = 0
  · have he : tks s = [] := List.length_eq_zero_iff.1 hn
    have HC : Hid (cts s = []) := by show cts s = []; unfold cts; rw [he]; rfl
    clear he
    go_wp2_with (go_at_call 25; refine (tokens_any s _ hs).mono ?_; rintro e wt ⟨v, rfl, hown, hbt⟩; obtain ⟨p, cap, rfl⟩ := own_len hown)
    go_loopw [3, 9] (fun v i wr => v = .slice none 0 0 ∧ i = .int .i64 0 ∧ wr = wt) (fun _ i _ => 0)
    case atStart => exact ⟨rfl, rfl, rfl⟩
    case round =>
      obtain ⟨rfl, rfl, rfl⟩ := hrel
      go_wp2
      go_ret
      exact ⟨_, rfl, by rw [HC.out]; exact World.ownsRow_nil _ _ _ _, hbt⟩
  · have hn' : 0 < (tks s).length := by omega
    go_wp2_with (go_at_call 25; refine (tokens_any s _ hs).mono ?_; rintro e wt ⟨v, rfl, hown, hbt⟩; obtain ⟨g, cap, rfl, hg1, hg2, hcap, htok⟩ := own_toks hown hn')
    go_loopw [3, 9] (fun v i wr => RelC s wt v i wr) (fun _ i _ => upN (tks s).length i)
    case atStart => exact ⟨0, Nat.zero_le _, rfl, World.ownsRow_nil _ _ _ _, Below.refl _ _⟩
    case round =>
      obtain ⟨k, hk, rfl, hown1, hbel⟩ := hrel
      have hsz := hbel.size
      by_cases hlt : k < (tks s).length
      · obtain ⟨t, ht⟩ : ∃ t, (tks s)[k]? = some t := ⟨_, List.getElem?_eq_getElem hlt⟩
        have ⟨c0, c1, c2⟩ := htok.below hbel hg2 k t ht
        rw [Nat.zero_add] at c0 c1 c2
        obtain ⟨tk, tx, ta⟩ := t
        have hta : skE s false 0 + k ≤ ta ∧ ta < s.size := by have := tok_at s (skE s false 0) k _ ht; exact ⟨this.1, this.2.1⟩
        have hcl := cutK_len s (tks s) k
        have hll := tks_len s
        have HT : Hid ((tks s)[k]? = some ⟨tk, tx, ta⟩) := ht
        have HC : Hid ((cutK s (tks s) k).length ≤ k ∧ (tks s).length ≤ s.size) := ⟨hcl, hll⟩
        clear ht hcl hll
        simp only at c0 c1 c2
        have hlen : (cutK s (tks s) k).length ≤ 1099511627776 := by have := HC.out; omega
        by_cases hk0 : k = 0
        · have HE : Hid (cutK s (tks s) (k + 1) = cutK s (tks s) k ++ [ta]) := cutK_yes s _ k _ HT.out (by simp [cutB, hk0])
          have hb0 : ((k : Int) == 0) = true := by simp [hk0]
          have HK : Hid (k = 0) := hk0
          clear hk0
          go_wp2_with (first
            | (at_builtin; refine wpList_append_own _ rfl (.tmp 29) (.tmp 32) 37 rfl wt.heap.size 3 i0 _ 1 8 Try.underlying37 hi hz0 hz1 hz2 rfl (by decide) _ _ _ rfl ((hown1.alloc _).alloc _) ⟨wr.heap.size + 1, 0, none⟩ 1 1 [.int .i64 ((ta : Int))] rfl rfl (news2 _ _ _ _) (by intro u hu; simp at hu; subst hu; rfl) (by unfold maxLen; omega) (by omega) (by simp; omega) ?_; intro v2 w2 hown2 hgrow2 _))
          go_roundw
          case rel => exact ⟨k + 1, by omega, by go_num, by rw [HE.out]; simpa [intC] using hown2, ((hbel.alloc (by omega) _).alloc (by simp; omega) _).grown hgrow2 (by simp; omega) (own_ge hown1)⟩
          case measure => simp [upN, intOf]; omega
        · obtain ⟨b, rfl⟩ : ∃ b, ta = b + 1 := ⟨ta - 1, by omega⟩
          have hb : b < s.size := by omega
          have HG : Hid (byt s b = (s[b]'hb).toNat) := byt_get s b hb
          by_cases ho : opn tx = true
          · by_cases h10 : (s[b]'hb).toNat = 10
            · have HE : Hid (cutK s (tks s) (k + 1) = cutK s (tks s) k ++ [b + 1]) := cutK_yes s _ k _ HT.out (by simp [cutB, ho, HG.out, h10])
              go_wp2_with (first
                | (go_at_call 43; refine (opens_any _ _).mono ?_; rintro e w' ⟨rfl, hw'⟩; subst w')
                | (at_builtin; refine wpList_append_own _ rfl (.tmp 29) (.tmp 32) 37 rfl wt.heap.size 3 i0 _ 1 8 Try.underlying37 hi hz0 hz1 hz2 rfl (by decide) _ _ _ rfl ((hown1.alloc _).alloc _) ⟨wr.heap.size + 1, 0, none⟩ 1 1 [.int .i64 (((b : Int) + 1))] rfl rfl (news2 _ _ _ _) (by intro u hu; simp at hu; subst hu; rfl) (by unfold maxLen; omega) (by omega) (by simp; omega) ?_; intro v2 w2 hown2 hgrow2 _))
              go_roundw
              case rel => exact ⟨k + 1, by omega, by go_num, by rw [HE.out]; simpa [intC] using hown2, ((hbel.alloc (by omega) _).alloc (by simp; omega) _).grown hgrow2 (by simp; omega) (own_ge hown1)⟩
              case measure => simp [upN, intOf]; omega
            · have HE : Hid (cutK s (tks s) (k + 1) = cutK s (tks s) k) := cutK_no s _ k _ HT.out (by simp [cutB, ho, HG.out, h10, hk0])
              have hb10 : (((s[b]'hb).toNat : Int) == 10) = false := by simp; omega
              have HN : Hid (¬ (s[b]'hb).toNat = 10) := h10
              clear h10
              go_wp2_with (first
                | (go_at_call 43; refine (opens_any _ _).mono ?_; rintro e w' ⟨rfl, hw'⟩; subst w'))
              go_roundw
              case rel => exact ⟨k + 1, by omega, by go_num, by rw [HE.out]; exact hown1.alloc _, hbel.alloc (by omega) _⟩
              case measure => simp [upN, intOf]; omega
          · have ho' : opn tx = false := by simpa using ho
            have HE : Hid (cutK s (tks s) (k + 1) = cutK s (tks s) k) := cutK_no s _ k _ HT.out (by simp [cutB, ho', hk0])
            clear ho
            go_wp2_with (first
              | (go_at_call 43; refine (opens_any _ _).mono ?_; rintro e w' ⟨rfl, hw'⟩; subst w'))
            go_roundw
            case rel => exact ⟨k + 1, by omega, by go_num, by rw [HE.out]; exact hown1.alloc _, hbel.alloc (by omega) _⟩
            case measure => simp [upN, intOf]; omega
      · have hkn : k = (tks s).length := by omega
        subst hkn
        go_wp2
        go_ret
        exact ⟨_, rfl, own_base hown1 hbt.size, hbt.trans (hbel.mono hbt.size)⟩
end Go.Proofs.Ytgfccgcccmicbaa

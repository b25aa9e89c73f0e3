/- Texts of this seat, one behind the other: EtState, EtIn, EtGa. -/
import Derived.Test.YtjpmnholpeidmaaZb41
import Derived.Test.YtjpmnholpeidmaaZb38
import Derived.Test.YtjpmnholpeidmaaZb44
import Derived.Test.YtjpmnholpeidmaaZb39
import Derived.Test.YtjpmnholpeidmaaZb46
namespace Go.Proofs.Ytjpmnholpeidmaa
open Go.RowKit Go.Sort Go.WideMaps Go.Maps
set_option linter.unusedVariables false
/-- Nothing but two blocks is another one. -/
structure G2 (bs bc : Nat) (w w' : World) : Prop where
  os : w'.os = w.os
  tape : w'.tape = w.tape
  output : w'.output = w.output
  size : w.heap.size ≤ w'.heap.size
  block : ∀ k, k < w.heap.size → k ≠ bs → k ≠ bc → w'.heap[k]? = w.heap[k]?
section
variable {bs bc b : Nat} {w w1 w' : World}
theorem G2.refl (bs bc : Nat) (w : World) : G2 bs bc w w := ⟨rfl, rfl, rfl, Nat.le_refl _, fun _ _ _ _ => rfl⟩
theorem G2.trans (h : G2 bs bc w w1) (h2 : G2 bs bc w1 w') : G2 bs bc w w' :=
  ⟨h2.os.trans h.os, h2.tape.trans h.tape, h2.output.trans h.output, Nat.le_trans h.size h2.size, fun k hk h3 h4 => (h2.block k (Nat.lt_of_lt_of_le hk h.size) h3 h4).trans (h.block k hk h3 h4)⟩
theorem G2.below (h : Below w.heap.size w w') : G2 bs bc w w' := ⟨h.os, h.tape, h.output, h.size, fun k hk _ _ => h.block k hk⟩
theorem G2.one (h : G2 b b w w') (hb : b = bs ∨ b = bc) : G2 bs bc w w' := ⟨h.os, h.tape, h.output, h.size, fun k hk h1 h2 => h.block k hk (by omega) (by omega)⟩
theorem G2.put (h : w.grownBy w' (some b)) : G2 b b w w' := ⟨h.os, h.tape, h.output, h.size, fun k hk h1 _ => h.block k hk (fun e => by injection e with e; exact h1 e)⟩
/-- Blocks that are neither. -/
def okM (bs bc : Nat) (w : World) (k : Nat) : Prop := k < w.heap.size ∧ k ≠ bs ∧ k ≠ bc
theorem okM.step (h : G2 bs bc w w') : (∀ k, okM bs bc w k → w'.heap[k]? = w.heap[k]?) ∧ ∀ k, okM bs bc w k → okM bs bc w' k :=
  ⟨fun k hk => h.block k hk.1 hk.2.1 hk.2.2, fun k hk => ⟨Nat.lt_of_lt_of_le hk.1 h.size, hk.2⟩⟩
theorem RdE.g2 {n : Nat} {e : Tr} {v : Value} (h : RdE n (okM bs bc w) w e v) (hs : G2 bs bc w w') : RdE n (okM bs bc w') w' e v := RdE.kept n (okM.step hs).1 (okM.step hs).2 e v h
theorem SlE.g2 {n : Nat} {al : List Tr} {q : Option Addr} (h : SlT (okM bs bc w) (RdE n (okM bs bc w) w) w 6 al q) (hs : G2 bs bc w w') : SlT (okM bs bc w') (RdE n (okM bs bc w') w') w' 6 al q := SlT.kept h (okM.step hs).1 (okM.step hs).2 (fun a v ha => RdE.g2 ha hs)
theorem RdS.g2 {n : Nat} {e : Tr} {v : Value} (h : RdS n (okM bs bc w) w e v) (hs : G2 bs bc w w') : RdS n (okM bs bc w') w' e v := RdS.kept n (okM.step hs).1 (okM.step hs).2 e v h
theorem SlS.g2 {n : Nat} {al : List Tr} {q : Option Addr} (h : SlT (okM bs bc w) (RdS n (okM bs bc w) w) w 15 al q) (hs : G2 bs bc w w') : SlT (okM bs bc w') (RdS n (okM bs bc w') w') w' 15 al q := SlT.kept h (okM.step hs).1 (okM.step hs).2 (fun a v ha => RdS.g2 ha hs)
theorem RdE.ok2 {n : Nat} {e : Tr} {v : Value} {ok : Nat → Prop} (h : RdE n ok w e v) (ho : ∀ k, ok k → okM bs bc w k) : RdE n (okM bs bc w) w e v := RdE.kept n (fun _ _ => rfl) ho e v h
theorem WnAt.lt {ns : List BL} (h : WnAt w b ns) : b < w.heap.size := by
  obtain ⟨n, _, hown⟩ := h
  exact hown.lt
theorem WnAt.g2 {ns : List BL} (h : WnAt w b ns) (hs : G2 bs bc w w') (h1 : b ≠ bs) (h2 : b ≠ bc) : WnAt w' b ns := h.kept (hs.block b h.lt h1 h2)
theorem WnAt.belowQ {ns : List BL} (h : WnAt w b ns) (hb : Below w.heap.size w w') : WnAt w' b ns := h.kept (hb.block b h.lt)
theorem wn_put {ns : List BL} (h : WnAt w b ns) (hn : ns.length < 1099511627776) (x : ByteArray) (hx : x.size ≤ maxLen) : ∃ w', (Instr.mapUpdate 54 (.map (some b)) (.string x) (.bool true)).run Try.prog w = .ok () w' ∧ WnAt w' b (x.data.toList :: ns) ∧ w.grownBy w' (some b) := by
  obtain ⟨n, hnn, hown⟩ := h
  obtain ⟨w', h1, h2, h3⟩ := World.ownsMap.update hown kStr Try.underlying54 (by unfold maxLen; omega) (keyS x hx) (plainElem_bool Try.underlying4 true)
  refine ⟨w', h1, ⟨n + 1, by simp; omega, ?_⟩, h3⟩
  have e : wnD (x.data.toList :: ns) = (wnD ns).put (kyB x) (.lit (.bool true)) := by
    show (wnD ns).put (kyB (bA x.data.toList)) _ = _
    rw [bA_of]
  rw [e]
  exact h2
end
/-- A name as bytes. -/
def nvB (e : Nv) : BL := e.x.data.toList
/-- How many bytes a name has at the most. -/
theorem zE_wf (L : List Tok) (n : Nat) : ∀ (c : Nat) (e : Tr), zE L n c e → wfE L n c e := by
  induction n with
  | zero => intro c e h; exact h.elim
  | succ n ih =>
    intro c e h
    obtain ⟨k, x, m, al, f, t, rfl, _, _, h⟩ := h
    refine ⟨k, x, m, al, f, t, rfl, ?_⟩
    rcases h with ⟨h1, _, h2⟩ | h | ⟨h1, _, h2, h3⟩ | ⟨h1, h2, c', h3, h4⟩
    · exact .inl ⟨by omega, by omega, by omega, h2⟩
    · exact .inr (.inl h)
    · exact .inr (.inr (.inl ⟨h1, h2, wfL_up (fun c c' a hc hz => wfE_up L n n c c' a (Nat.le_refl _) hc (ih c a hz)) al c c (Nat.le_refl _) h3⟩))
    · exact .inr (.inr (.inr ⟨h1, h2, c', h3, wfL_up (fun c c' a hc hz => wfE_up L n n c c' a (Nat.le_refl _) hc (ih c a hz)) al c' c' (Nat.le_refl _) h4⟩))
theorem zE_len (L : List Tok) (n c : Nat) (e : Tr) (h : zE L n c e) : (esX e).length ≤ c := esX_cnt L n c e (zE_wf L n c e h)
theorem zEs_len {L : List Tok} {n c : Nat} {al : List Tr} (h : wfL (zE L n) c al) : (al.flatMap esX).length ≤ c := cnt_es (fun c a h => zE_len L n c a h) al c h
theorem wfL_nth {P : Nat → Tr → Prop} : ∀ (l : List Tr) (c j : Nat) (a : Tr), wfL P c l → l[j]? = some a → ∃ c', c' ≤ c ∧ P c' a
  | [], _, _, _, _, h => by simp at h
  | b :: r, c, j, a, hw, h => by
    obtain ⟨c1, c2, h1, h2, h3⟩ := hw
    cases j with
    | zero =>
      have e : b = a := by simpa using h
      subst e
      exact ⟨c1, by omega, h2⟩
    | succ j =>
      obtain ⟨c', h4, h5⟩ := wfL_nth r c2 j a h3 (by simpa using h)
      exact ⟨c', by omega, h5⟩
/-- A token's text is as short as the text. -/
theorem tkn_sizeQ {L : List Tok} {sz : Nat} (h : ∀ t ∈ L, t.a + t.x.size ≤ sz) {x : ByteArray} {a : Nat} (ht : tkn L x a) : x.size ≤ sz := by
  obtain ⟨_, t, h1, h2, _⟩ := ht
  have := h t h1
  rw [h2] at this
  omega
theorem tkn_ne {L : List Tok} {x : ByteArray} {a : Nat} (ht : tkn L x a) : x ≠ noB := by
  intro e
  have h := ht.1
  rw [e] at h
  exact absurd h (by decide)
end Go.Proofs.Ytjpmnholpeidmaa

namespace Go.Proofs.Ytjpmnholpeidmaa
open Go.RowKit Go.Sort Go.WideMaps Go.Maps
set_option linter.unusedVariables false
attribute [local go_sem ↓] Go.wp_at_zero Go.wp_at_succ
def CIn (L : List Tok) (sz b n : Nat) : Prop := ∀ (m c : Nat) (e : Tr) (v : Value) (ns : List BL) (w : World), zE L m c e → (∀ t ∈ L, t.a + t.x.size ≤ sz) → RdE n (okM b b w) w e v → WnAt w b ns → ns.length + (esX e).length < 1099511627776 →
  Calls Try.prog 48 #[v, .map (some b)] w fun ex w' => ex = .returned (.tuple #[]) ∧ WnAt w' b (((esX e).map nvB).reverse ++ ns) ∧ G2 b b w w'
def RelIn (b : Nat) (w : World) (al : List Tr) (n0 : List BL) (j : Value) (wr : World) : Prop := ∃ k : Nat, k ≤ al.length ∧ j = .int .i64 (k : Int) ∧ WnAt wr b ((((al.take k).flatMap esX).map nvB).reverse ++ n0) ∧ G2 b b w wr
section
variable {L : List Tok} {sz b : Nat}
set_option maxHeartbeats 2000000 in
set_option maxRecDepth 100000 in
theorem inside_ref (hs40 : sz ≤ 1099511627776) (n : Nat) : CIn L sz b n := by
  induction n with
  | zero => intro m c e v ns w _ _ hR; exact hR.elim
  | succ n ih =>
  intro m c e v ns w hz hsz hR hm hn
  obtain ⟨k, x, mN, al, f, t, q, cq, rfl, rfl, hA⟩ := hR
  have hb1 := (Below.refl w.heap.size w).alloc (Nat.le_refl _) (.cells #[.int .i64 (k : Int), .string x, .int .i64 (mN : Int), .slice q al.length cq, .int .i64 (f : Int), .int .i64 (t : Int)] 102)
  have hmm := hm.belowQ hb1
  have hA0 := hA
  have hne := heap_alloc_new w (.cells #[.int .i64 (k : Int), .string x, .int .i64 (mN : Int), .slice q al.length cq, .int .i64 (f : Int), .int .i64 (t : Int)] 102)
  obtain ⟨x0, x1, x2, x3, x4, x5⟩ := sixF_at hne
  cases m with
  | zero => exact hz.elim
  | succ mZ =>
  obtain ⟨k', x', mN', al', f', t', he, _, _, hz⟩ := hz
  obtain ⟨rfl, rfl, rfl, rfl, rfl, rfl⟩ := exMk_inj he
  have hk : ∃ cA, wfL (zE L mZ) cA al := by
    rcases hz with ⟨_, _, h3⟩ | ⟨_, _, h3, _⟩ | ⟨_, _, _, h3⟩ | ⟨_, _, c', _, h3⟩
    · exact ⟨0, by rw [h3]; trivial⟩
    · exact ⟨0, by rw [h3]; trivial⟩
    · exact ⟨_, h3⟩
    · exact ⟨_, h3⟩
  obtain ⟨cA, hzA⟩ := hk
  have hA1 := SlE.g2 hA (G2.below (bs := b) (bc := b) hb1)
  go_enter Try.func48, Try.ntmps48
  by_cases h4 : k = 4
  · have htk : tkn L x f := by
      rcases hz with ⟨h1, _⟩ | ⟨h1, _⟩ | ⟨h1, _⟩ | ⟨_, h1, _⟩
      · omega
      · omega
      · omega
      · exact h1
    have hxn := tkn_ne htk
    have hx0 : (x.toList == ([] : List UInt8)) = false := bne_of x noB hxn
    have hxs := tkn_sizeQ hsz htk
    have g4 : ((k : Int) == 4) = true := by rw [h4]; rfl
    have hEs : esX (exMk k x mN al f t) = ⟨false, x⟩ :: al.flatMap esX := by rw [esX_mk, if_neg (by omega), if_pos h4]
    rw [hEs] at hn ⊢
    have hnn : (x.data.toList :: ns).length + (al.flatMap esX).length < 1099511627776 := by simp only [List.length_cons] at hn ⊢; omega
    obtain ⟨w2, hrun, hm0, hg2⟩ := wn_put hmm (by omega) x (by unfold maxLen; omega)
    have hg0 : G2 b b w w2 := (G2.below hb1).trans (G2.put hg2)
    have hA2 := SlE.g2 hA1 (G2.put hg2)
    have hbl := hm.lt
    have hne2 := (hg2.block w.heap.size (by simp) (by intro e; injection e with e; omega)).trans hne
    obtain ⟨y0, y1, y2, y3, y4, y5⟩ := sixF_at hne2
    have HZ := hid hz
    have HN := hid hnn
    have HM := hid (And.intro hm0 hg0)
    have HNE := hid hxn
    clear hz hn hnn hg2 hm0 hg0 hxn hA hA0 hmm hne hne2 hb1 htk hEs hA1 h4
    go_wp2
    have hA := hA2
    obtain ⟨hm0, hg0⟩ := HM.out
    generalize hn0 : x.data.toList :: ns = n0 at *
    have hlen0 := HN.out
    generalize w2 = W at *
    have HSt := hid (show WnAt W b ((((al.take 0).flatMap esX).map nvB).reverse ++ n0) ∧ G2 b b W W from ⟨by simpa using hm0, G2.refl _ _ _⟩)
    have HG0 := hid hg0
    clear hm0 hg0
    go_loopw [20] (fun j wr => RelIn b W al n0 j wr) (fun j _ => upN al.length j)
    case atStart => exact ⟨0, Nat.zero_le _, rfl, HSt.out⟩
    case round =>
      obtain ⟨j, hjl, rfl, hm, hg⟩ := hrel
      clear HSt
      by_cases hlt : j < al.length
      · have hA9 := SlE.g2 hA hg
        obtain ⟨g, rfl, hgo, hLA⟩ := hA9.2 (by omega)
        obtain ⟨a, ha⟩ : ∃ a, al[j]? = some a := ⟨_, List.getElem?_eq_getElem hlt⟩
        obtain ⟨v1, hcv, hR1⟩ := hLA j a ha
        obtain ⟨ca, hca, hza⟩ := wfL_nth al cA j a hzA ha
        obtain ⟨k1, x1, m1, al1, f1, t1, q1, c1, e1, rfl⟩ := RdE.form hR1
        have d0 := hcv.get 0 _ rfl
        have d1 := hcv.get 1 _ rfl
        have d2 := hcv.get 2 _ rfl
        have d3 := hcv.get 3 _ rfl
        have d4 := hcv.get 4 _ rfl
        have d5 := hcv.get 5 _ rfl
        rw [Nat.add_zero] at d0
        have gj : (0 : Int) ≤ (j : Int) := by omega
        have gj1 : (j : Int) < (al.length : Int) := by omega
        have hjb : j < 1099511627776 := by have := hA.1; omega
        have hba := (Below.refl wr.heap.size wr).alloc (Nat.le_refl _) (.cells #[.int .i64 (k1 : Int), .string x1, .int .i64 (m1 : Int), .slice q1 al1.length c1, .int .i64 (f1 : Int), .int .i64 (t1 : Int)] 102)
        have hnx := flat_take esX ha
        have hl1 : (((((al.take j).flatMap esX).map nvB).reverse ++ n0)).length + (esX a).length < 1099511627776 := by
          have h1 := flat_less esX al (j + 1)
          rw [hnx] at h1
          simp only [List.length_append, List.length_reverse, List.length_map] at h1 ⊢
          omega
        have HC := hid (ih mZ ca a _ _ _ hza hsz (RdE.g2 hR1 (G2.below (bs := b) (bc := b) hba)) (hm.belowQ hba) hl1)
        have HN := hid hnx
        have HG := hid (hg.trans (G2.below hba))
        have HL := hid hlt
        clear hLA hcv hR1 ha hlt hjl hba hnx hg hm e1 hl1 hA9
        go_wp2_with (first
          | (go_at_call 48; refine Calls.mono HC.out ?_; rintro e w5 ⟨rfl, hm5, hg5⟩))
        go_roundw
        case rel => exact ⟨j + 1, HL.out, by go_num, by rw [HN.out]; simpa using hm5, HG.out.trans hg5⟩
        case measure => have := HL.out; simp [upN, RowKit.intOf]; omega
      · obtain rfl : j = al.length := by omega
        clear hlt hjl
        rw [List.take_length] at hm
        go_wp2
        go_end0
        exact ⟨rfl, by rw [List.map_cons, List.reverse_cons, List.append_assoc]; rw [← hn0] at hm; exact hm, HG0.out.trans hg⟩
  · have hEs : esX (exMk k x mN al f t) = al.flatMap esX := by
      rw [esX_mk]
      rcases hz with ⟨h1, _, h3⟩ | ⟨h1, _, h3, _⟩ | ⟨h1, _, h2, h3⟩ | ⟨h1, _⟩
      · rw [if_neg (by omega), if_neg h4, h3]; rfl
      · rw [if_neg (by omega), if_neg h4, h3]; rfl
      · rw [if_pos h1]
      · exact absurd h1 h4
    have gk4 : ((k : Int) == 4) = false := by simp; omega
    rw [hEs] at hn ⊢
    have HZ := hid hz
    have HN := hid hn
    have hm0 := hmm
    have hg0 : G2 b b w (w.alloc (.cells #[.int .i64 (k : Int), .string x, .int .i64 (mN : Int), .slice q al.length cq, .int .i64 (f : Int), .int .i64 (t : Int)] 102)) := G2.below hb1
    have HM := hid (And.intro hm0 hg0)
    clear hz hn hm0 hg0 hA hA0 hmm hne hb1 hEs h4 hm
    go_wp2
    have hA := hA1
    obtain ⟨hm0, hg0⟩ := HM.out
    generalize hn0 : ns = n0 at *
    have hlen0 := HN.out
    generalize (w.alloc (.cells #[.int .i64 (k : Int), .string x, .int .i64 (mN : Int), .slice q al.length cq, .int .i64 (f : Int), .int .i64 (t : Int)] 102)) = W at *
    have HSt := hid (show WnAt W b ((((al.take 0).flatMap esX).map nvB).reverse ++ n0) ∧ G2 b b W W from ⟨by simpa using hm0, G2.refl _ _ _⟩)
    have HG0 := hid hg0
    clear hm0 hg0
    go_loopw [20] (fun j wr => RelIn b W al n0 j wr) (fun j _ => upN al.length j)
    case atStart => exact ⟨0, Nat.zero_le _, rfl, HSt.out⟩
    case round =>
      obtain ⟨j, hjl, rfl, hm, hg⟩ := hrel
      clear HSt
      by_cases hlt : j < al.length
      · have hA9 := SlE.g2 hA hg
        obtain ⟨g, rfl, hgo, hLA⟩ := hA9.2 (by omega)
        obtain ⟨a, ha⟩ : ∃ a, al[j]? = some a := ⟨_, List.getElem?_eq_getElem hlt⟩
        obtain ⟨v1, hcv, hR1⟩ := hLA j a ha
        obtain ⟨ca, hca, hza⟩ := wfL_nth al cA j a hzA ha
        obtain ⟨k1, x1, m1, al1, f1, t1, q1, c1, e1, rfl⟩ := RdE.form hR1
        have d0 := hcv.get 0 _ rfl
        have d1 := hcv.get 1 _ rfl
        have d2 := hcv.get 2 _ rfl
        have d3 := hcv.get 3 _ rfl
        have d4 := hcv.get 4 _ rfl
        have d5 := hcv.get 5 _ rfl
        rw [Nat.add_zero] at d0
        have gj : (0 : Int) ≤ (j : Int) := by omega
        have gj1 : (j : Int) < (al.length : Int) := by omega
        have hjb : j < 1099511627776 := by have := hA.1; omega
        have hba := (Below.refl wr.heap.size wr).alloc (Nat.le_refl _) (.cells #[.int .i64 (k1 : Int), .string x1, .int .i64 (m1 : Int), .slice q1 al1.length c1, .int .i64 (f1 : Int), .int .i64 (t1 : Int)] 102)
        have hnx := flat_take esX ha
        have hl1 : (((((al.take j).flatMap esX).map nvB).reverse ++ n0)).length + (esX a).length < 1099511627776 := by
          have h1 := flat_less esX al (j + 1)
          rw [hnx] at h1
          simp only [List.length_append, List.length_reverse, List.length_map] at h1 ⊢
          omega
        have HC := hid (ih mZ ca a _ _ _ hza hsz (RdE.g2 hR1 (G2.below (bs := b) (bc := b) hba)) (hm.belowQ hba) hl1)
        have HN := hid hnx
        have HG := hid (hg.trans (G2.below hba))
        have HL := hid hlt
        clear hLA hcv hR1 ha hlt hjl hba hnx hg hm e1 hl1 hA9
        go_wp2_with (first
          | (go_at_call 48; refine Calls.mono HC.out ?_; rintro e w5 ⟨rfl, hm5, hg5⟩))
        go_roundw
        case rel => exact ⟨j + 1, HL.out, by go_num, by rw [HN.out]; simpa using hm5, HG.out.trans hg5⟩
        case measure => have := HL.out; simp [upN, RowKit.intOf]; omega
      · obtain rfl : j = al.length := by omega
        clear hlt hjl
        rw [List.take_length] at hm
        go_wp2
        go_end0
        exact ⟨rfl, by simpa [← hn0] using hm, HG0.out.trans hg⟩
end
end Go.Proofs.Ytjpmnholpeidmaa

namespace Go.Proofs.Ytjpmnholpeidmaa
open Go.RowKit Go.Sort Go.WideMaps Go.Maps
set_option linter.unusedVariables false
attribute [local go_sem ↓] Go.wp_at_zero Go.wp_at_succ
/-- Names that are sent to, but none without a sign. -/
def snG (L : List Nv) : List BL := (bsL (sdN L)).filter (fun s => !s.isEmpty)
def clG (L : List Nv) : List BL := bsL (clN L)
theorem snG_app (a b : List Nv) : snG (a ++ b) = snG a ++ snG b := by unfold snG bsL; rw [sdN_app, List.map_append, List.filter_append]
theorem clG_app (a b : List Nv) : clG (a ++ b) = clG a ++ clG b := by unfold clG bsL; rw [clN_app, List.map_append]
theorem snG_len (L : List Nv) : (snG L).length ≤ L.length := by
  unfold snG bsL
  refine Nat.le_trans (List.length_filter_le _ _) ?_
  rw [List.length_map]
  exact sdN_len L
theorem clG_len (L : List Nv) : (clG L).length ≤ L.length := by
  unfold clG bsL
  rw [List.length_map]
  exact clN_len L
/-- Expressions call, and send to nothing. -/
theorem esX_calls (L : List Tok) (n : Nat) : ∀ (c : Nat) (e : Tr), zE L n c e → ∀ v ∈ esX e, v.s = false := by
  induction n with
  | zero => intro c e h; exact h.elim
  | succ n ih =>
    intro c e h v hv
    obtain ⟨k, x, m, al, f, t, rfl, _, _, h⟩ := h
    have hall : ∀ c', wfL (zE L n) c' al → ∀ v ∈ al.flatMap esX, v.s = false := fun c' hw v hv => by
      obtain ⟨a, ha, hv⟩ := List.mem_flatMap.1 hv
      obtain ⟨j, hj⟩ := List.getElem?_of_mem ha
      obtain ⟨c2, _, hz⟩ := wfL_nth al c' j a hw hj
      exact ih c2 a hz v hv
    rw [esX_mk] at hv
    rcases h with ⟨h1, _, h2⟩ | ⟨h1, _, h2, _⟩ | ⟨h1, _, _, h3⟩ | ⟨h1, _, c', _, h4⟩
    · rw [if_neg (by omega), if_neg (by omega)] at hv; cases hv
    · rw [if_neg (by omega), if_neg (by omega)] at hv; cases hv
    · rw [if_pos h1] at hv; exact hall _ h3 v hv
    · rw [if_neg (by omega), if_pos h1] at hv
      rcases List.mem_cons.1 hv with h5 | h5
      · rw [h5]
      · exact hall _ h4 v h5
theorem calls_sn {l : List Nv} (h : ∀ v ∈ l, v.s = false) : snG l = [] ∧ clG l = l.map nvB := by
  induction l with
  | nil => exact ⟨rfl, rfl⟩
  | cons a r ih =>
    obtain ⟨h1, h2⟩ := ih (fun v hv => h v (List.mem_cons_of_mem _ hv))
    have ha := h a List.mem_cons_self
    have e : a :: r = [a] ++ r := rfl
    rw [e, snG_app, clG_app, h1, h2]
    obtain ⟨s, x⟩ := a
    cases ha
    exact ⟨rfl, rfl⟩
theorem esX_exZ : esX exZ = [] := by
  show esX (exMk 0 noB 0 [] 0 0) = []
  rw [esX_mk]
  rfl
/-- What a statement comes to, part by part. -/
theorem ga_split {L : List Tok} {m k a lb ce f t : Nat} {x : ByteArray} {o : Bool} {e : Tr} {th el : List Tr} (hz : zE L m ce e) (h5 : k = 3 ∨ k = 4 ∨ th = []) (h6 : k = 3 ∨ el = []) (h7 : 1 ≤ k) (h8 : k ≤ 8) (h9 : k = 8 → e = exZ) :
    snG (esY (stMk k x a lb o e th el f t)) = (if k = 5 ∧ x ≠ noB then [x.data.toList] else []) ++ (snG (esB th) ++ snG (esB el)) ∧
    clG (esY (stMk k x a lb o e th el f t)) = (esX e).map nvB ++ (clG (esB th) ++ clG (esB el)) := by
  have hc := calls_sn (esX_calls L m ce e hz)
  have n1 : snG (esB []) = [] := rfl
  have n2 : clG (esB []) = [] := rfl
  rw [esY_mk]
  by_cases k1 : k = 1 ∨ k = 2 ∨ k = 6 ∨ k = 7
  · have e1 : th = [] := by rcases h5 with h | h | h <;> first | exact h | omega
    have e2 : el = [] := by rcases h6 with h | h <;> first | exact h | omega
    subst e1 e2
    rw [if_pos k1, if_neg (by omega), hc.1, hc.2, n1, n2]
    exact ⟨rfl, by simp⟩
  · rw [if_neg k1]
    by_cases k5 : k = 5
    · have e1 : th = [] := by rcases h5 with h | h | h <;> first | exact h | omega
      have e2 : el = [] := by rcases h6 with h | h <;> first | exact h | omega
      subst e1 e2
      rw [if_pos k5, snG_app, clG_app, hc.1, hc.2, n1, n2]
      refine ⟨?_, by show _ ++ [] = _; simp⟩
      by_cases hx : x = noB
      · rw [if_neg (by simp [hx])]
        subst hx
        rfl
      · rw [if_pos ⟨k5, hx⟩]
        have hne : x.data.toList ≠ [] := fun h => hx (by rw [← bA_of x, h]; rfl)
        show (([x.data.toList] : List BL).filter (fun s => !s.isEmpty)) = _
        rw [List.filter_cons, if_pos (by cases hq : x.data.toList with | nil => exact absurd hq hne | cons a r => rfl)]
        rfl
    · have hR : (if k = 5 ∧ x ≠ noB then [x.data.toList] else ([] : List BL)) = [] := if_neg (fun h => k5 h.1)
      rw [if_neg k5, hR]
      by_cases k3 : k = 3
      · rw [if_pos k3, snG_app, snG_app, clG_app, clG_app, hc.1, hc.2]
        exact ⟨rfl, by rw [List.append_assoc]⟩
      · have e2 : el = [] := by rcases h6 with h | h <;> first | exact h | omega
        subst e2
        rw [if_neg k3]
        by_cases k4 : k = 4
        · rw [if_pos k4, snG_app, clG_app, hc.1, hc.2, n1, n2]
          exact ⟨by simp, by simp⟩
        · have e1 : th = [] := by rcases h5 with h | h | h <;> first | exact h | omega
          subst e1
          have e3 : e = exZ := h9 (by omega)
          rw [if_neg k4, n1, n2, e3, esX_exZ]
          exact ⟨rfl, rfl⟩
/-- How many names a statement's parts have. -/
theorem ga_parts {L : List Tok} {m k a lb ce f t : Nat} {x : ByteArray} {o : Bool} {e : Tr} {th el : List Tr} (hz : zE L m ce e) (h5 : k = 3 ∨ k = 4 ∨ th = []) (h6 : k = 3 ∨ el = []) (h7 : 1 ≤ k) (h8 : k ≤ 8) (h9 : k = 8 → e = exZ) :
    (esX e).length + (esB th).length + (esB el).length ≤ (esY (stMk k x a lb o e th el f t)).length ∧ (k = 5 → 1 + (esB th).length + (esB el).length ≤ (esY (stMk k x a lb o e th el f t)).length) := by
  have n1 : (esB []).length = 0 := rfl
  rw [esY_mk]
  by_cases k1 : k = 1 ∨ k = 2 ∨ k = 6 ∨ k = 7
  · have e1 : th = [] := by rcases h5 with h | h | h <;> first | exact h | omega
    have e2 : el = [] := by rcases h6 with h | h <;> first | exact h | omega
    subst e1 e2
    rw [if_pos k1]
    omega
  · rw [if_neg k1]
    by_cases k5 : k = 5
    · have e1 : th = [] := by rcases h5 with h | h | h <;> first | exact h | omega
      have e2 : el = [] := by rcases h6 with h | h <;> first | exact h | omega
      subst e1 e2
      rw [if_pos k5, List.length_append, List.length_singleton]
      omega
    · rw [if_neg k5]
      by_cases k3 : k = 3
      · rw [if_pos k3, List.length_append, List.length_append]
        omega
      · have e2 : el = [] := by rcases h6 with h | h <;> first | exact h | omega
        subst e2
        rw [if_neg k3]
        by_cases k4 : k = 4
        · rw [if_pos k4, List.length_append]
          omega
        · have e1 : th = [] := by rcases h5 with h | h | h <;> first | exact h | omega
          subst e1
          have e3 : e = exZ := h9 (by omega)
          rw [if_neg k4, e3, esX_exZ]
          exact ⟨Nat.le_refl _, fun h => absurd h k5⟩
theorem Hid.sizeQ {bs bc : Nat} {w w' : World} (h : Hid (G2 bs bc w w')) : w.heap.size ≤ w'.heap.size := h.out.size
def CGa (L : List Tok) (sz bs bc n : Nat) : Prop := ∀ (m c : Nat) (al : List Tr) (q : Option Addr) (cq : Nat) (ss cs : List BL) (w : World), wfL (zS L m) c al → (∀ t ∈ L, t.a + t.x.size ≤ sz) → SlT (okM bs bc w) (RdS n (okM bs bc w) w) w 15 al q → WnAt w bs ss → WnAt w bc cs → bs ≠ bc → ss.length + (esB al).length < 1099511627776 → cs.length + (esB al).length < 1099511627776 →
  Calls Try.prog 24 #[.slice q al.length cq, .map (some bs), .map (some bc)] w fun ex w' => ex = .returned (.tuple #[]) ∧ WnAt w' bs ((snG (esB al)).reverse ++ ss) ∧ WnAt w' bc ((clG (esB al)).reverse ++ cs) ∧ G2 bs bc w w'
def RelGa (bs bc : Nat) (w : World) (al : List Tr) (ss cs : List BL) (j : Value) (wr : World) : Prop := ∃ k : Nat, k ≤ al.length ∧ j = .int .i64 (k : Int) ∧ WnAt wr bs ((snG (esB (al.take k))).reverse ++ ss) ∧ WnAt wr bc ((clG (esB (al.take k))).reverse ++ cs) ∧ G2 bs bc w wr
section
variable {L : List Tok} {sz bs bc : Nat}
set_option maxHeartbeats 4000000 in
set_option maxRecDepth 100000 in
theorem gather_step (hs40 : sz ≤ 1099511627776) (n : Nat) (ih : ∀ n', n' < n → CGa L sz bs bc n') : CGa L sz bs bc n := by
  intro m c al q cq ss cs w hz hsz hA hms hmc hbsc hn1 hn2
  have hlen := hA.1
  have HSt := hid (show WnAt w bs ((snG (esB (al.take 0))).reverse ++ ss) ∧ WnAt w bc ((clG (esB (al.take 0))).reverse ++ cs) ∧ G2 bs bc w w from ⟨hms, hmc, G2.refl _ _ _⟩)
  have HNn := hid (And.intro hn1 hn2)
  clear hn1 hn2 hms hmc
  go_enter Try.func24, Try.ntmps24
  go_wp2
  go_loopw [10] (fun j wr => RelGa bs bc w al ss cs j wr) (fun j _ => upN al.length j)
  case atStart => exact ⟨0, Nat.zero_le _, rfl, HSt.out⟩
  case round =>
    obtain ⟨j, hjl, rfl, hms, hmc, hg⟩ := hrel
    clear HSt
    by_cases hlt : j < al.length
    · have hA9 := SlS.g2 hA hg
      obtain ⟨g, rfl, hgo, hLA⟩ := hA9.2 (by omega)
      obtain ⟨s, ha⟩ : ∃ s, al[j]? = some s := ⟨_, List.getElem?_eq_getElem hlt⟩
      obtain ⟨v1, hcv, hR1⟩ := hLA j s ha
      obtain ⟨ca, hca, hza⟩ := wfL_nth al c j s hz ha
      cases n with
      | zero => exact hR1.elim
      | succ nS =>
      obtain ⟨k, x, a, lb, o, e, th, el, f, t, d0, d1, d2, d3, d4, d5, p1, c1, p2, c2, hs, hv, ⟨mE, hE⟩, hTh, hEl⟩ := hR1
      subst hs hv
      obtain ⟨k4, x4, m4, p4, l4, c4, hv⟩ := hE.shape
      simp only [Value.agg.injEq, Array.mk.injEq, List.cons.injEq, and_true] at hv
      obtain ⟨rfl, rfl, rfl, rfl, rfl, rfl⟩ := hv
      cases m with
      | zero => exact hza.elim
      | succ mZ =>
      obtain ⟨k', x', a', lb', o', e', th', el', f', t', ce, ct, cl, he, hlb, _, _, ⟨mZE, hzE⟩, hzth, hzel, hnm, hg2, hg3, hg4, hg5, hg6, hg7, hg8⟩ := hza
      obtain ⟨rfl, rfl, rfl, rfl, rfl, rfl, rfl, rfl, rfl, rfl⟩ := stMk_inj he
      have HSp := hid (ga_split (a := a) (lb := lb) (f := f) (t := t) (x := x) (o := o) hzE hg4 hg5 hg6 hg7 hg8)
      have hlE := zE_len L mZE ce e hzE
      have hx : x ≠ noB → x.size ≤ maxLen := fun hx => by
        rcases hnm with h | h
        · exact absurd h.1 hx
        · have := tkn_sizeQ hsz h.1; unfold maxLen; omega
      have hnx : esB (al.take (j + 1)) = esB (al.take j) ++ esY (stMk k x a lb o e th el f t) := flat_take esY ha
      have hfl : (esB (al.take (j + 1))).length ≤ (esB al).length := flat_less esY al (j + 1)
      have hnS : snG (esB (al.take (j + 1))) = snG (esB (al.take j)) ++ snG (esY (stMk k x a lb o e th el f t)) := by rw [hnx, snG_app]
      have hnC : clG (esB (al.take (j + 1))) = clG (esB (al.take j)) ++ clG (esY (stMk k x a lb o e th el f t)) := by rw [hnx, clG_app]
      have hpl := ga_parts hzE hg4 hg5 hg6 hg7 hg8 (a := a) (lb := lb) (f := f) (t := t) (x := x) (o := o)
      rw [hnx, List.length_append] at hfl
      have hq1 := snG_len (esB (al.take j))
      have hq2 := clG_len (esB (al.take j))
      obtain ⟨hNn1, hNn2⟩ := HNn.out
      -- how many there are at the most
      have HLn : Hid (((clG (esB (al.take j))).reverse ++ cs).length + (esX e).length + (esB th).length + (esB el).length < 1099511627776) := by
        show _ < _
        simp only [List.length_append, List.length_reverse]
        omega
      have HL0 : Hid (((snG (esB (al.take j))).reverse ++ ss).length + 0 + (esB th).length + (esB el).length < 1099511627776) := by
        show _ < _
        simp only [List.length_append, List.length_reverse]
        omega
      have HL1 : Hid (k = 5 → ((snG (esB (al.take j))).reverse ++ ss).length + 1 + (esB th).length + (esB el).length < 1099511627776) := by
        show _ → _
        intro h5
        have := hpl.2 h5
        simp only [List.length_append, List.length_reverse]
        omega
      have HN := hid (And.intro hnS hnC)
      have HL := hid hlt
      have HG := hid hg
      have gj : (0 : Int) ≤ (j : Int) := by omega
      have gj1 : (j : Int) < (al.length : Int) := by omega
      have hjb : j < 1099511627776 := by omega
      have v0 := hcv.get 0 _ rfl
      rw [Nat.add_zero] at v0
      have v1 := hcv.get 1 _ rfl
      have v2 := hcv.get 2 _ rfl
      have v3 := hcv.get 3 _ rfl
      have v4 := hcv.get 4 _ rfl
      have v5 := hcv.get 5 _ rfl
      have v6 := hcv.get 6 _ rfl
      have v7 := hcv.get 7 _ rfl
      have v8 := hcv.get 8 _ rfl
      have v9 := hcv.get 9 _ rfl
      have v10 := hcv.get 10 _ rfl
      have v11 := hcv.get 11 _ rfl
      have v12 := hcv.get 12 _ rfl
      have v13 := hcv.get 13 _ rfl
      have v14 := hcv.get 14 _ rfl
      have hba := (Below.refl wr.heap.size wr).alloc (Nat.le_refl _) (.cells #[.int .i64 (k : Int), .string x, .int .i64 (a : Int), .int .i64 (lb : Int), .bool o, .int .i64 (k4 : Int), .string x4, .int .i64 (m4 : Int), .slice p4 l4 c4, .int .i64 (exF e : Int), .int .i64 (exT e : Int), .slice p1 th.length c1, .slice p2 el.length c2, .int .i64 (f : Int), .int .i64 (t : Int)] 104)
      have hbk := heap_alloc_new wr (.cells #[.int .i64 (k : Int), .string x, .int .i64 (a : Int), .int .i64 (lb : Int), .bool o, .int .i64 (k4 : Int), .string x4, .int .i64 (m4 : Int), .slice p4 l4 c4, .int .i64 (exF e : Int), .int .i64 (exT e : Int), .slice p1 th.length c1, .slice p2 el.length c2, .int .i64 (f : Int), .int .i64 (t : Int)] 104)
      have hg1 : G2 bs bc wr (wr.alloc (.cells #[.int .i64 (k : Int), .string x, .int .i64 (a : Int), .int .i64 (lb : Int), .bool o, .int .i64 (k4 : Int), .string x4, .int .i64 (m4 : Int), .slice p4 l4 c4, .int .i64 (exF e : Int), .int .i64 (exT e : Int), .slice p1 th.length c1, .slice p2 el.length c2, .int .i64 (f : Int), .int .i64 (t : Int)] 104)) := G2.below hba
      have hms1 := hms.belowQ hba
      have hmc1 := hmc.belowQ hba
      have HFr := hid (show wr.heap.size < (wr.alloc (.cells #[.int .i64 (k : Int), .string x, .int .i64 (a : Int), .int .i64 (lb : Int), .bool o, .int .i64 (k4 : Int), .string x4, .int .i64 (m4 : Int), .slice p4 l4 c4, .int .i64 (exF e : Int), .int .i64 (exT e : Int), .slice p1 th.length c1, .slice p2 el.length c2, .int .i64 (f : Int), .int .i64 (t : Int)] 104)).heap.size ∧ wr.heap.size ≠ bs ∧ wr.heap.size ≠ bc from ⟨by simp, by have := hms.lt; omega, by have := hmc.lt; omega⟩)
      have HE := hid hE
      have HT := hid (And.intro hTh hEl)
      obtain ⟨x0, x1, x2, x3, x4', x5, x6, x7, x8, x9, x10, x11, x12, x13, x14, x15⟩ := fif_at hbk
      clear hLA hcv ha hlt hjl hba hnx hg hms hmc hE hTh hEl hA9 hfl hq1 hq2 hNn1 hNn2 hnS hnC hpl hg2 hg3 hg4 hg5 hg6 hg7 hg8 hlb hlE
      by_cases h5 : k = 5 ∧ x ≠ noB
      · have g5 : ((k : Int) == 5) = true := by rw [h5.1]; rfl
        have hx0 : (x.toList == ([] : List UInt8)) = false := bne_of x noB h5.2
        obtain ⟨w2, hrun, hmsP, hgP⟩ := wn_put hms1 (by have := HL1.out h5.1; omega) x (hx h5.2)
        have hgQ := G2.put hgP
        have hmcP := hmc1.g2 hgQ (Ne.symm hbsc) (Ne.symm hbsc)
        have hbP := (hgQ.block wr.heap.size HFr.out.1 HFr.out.2.1 HFr.out.2.1).trans hbk
        have hg2 := hg1.trans (hgQ.one (bs := bs) (bc := bc) (.inl rfl))
        replace HFr := hid (show wr.heap.size < w2.heap.size ∧ wr.heap.size ≠ bs ∧ wr.heap.size ≠ bc from ⟨Nat.lt_of_lt_of_le HFr.out.1 hgQ.size, HFr.out.2⟩)
        have hbk2 := hbP
        obtain ⟨q0, q1, q2, q3, q4, q5, q6, q7, q8, q9, q10, q11, q12, q13, q14, q15⟩ := fif_at hbP
        clear hms1 hmc1 hg1 hbk hgP hgQ hbP
        have hms1 := hmsP
        have hmc1 := hmcP
        have hg1 := hg2
        have hbk := hbk2
        clear hmsP hmcP hg2 hbk2
        have HL5 := hid (HL1.out h5.1)
        have HC := hid h5
        clear h5
        have HMx := hid (And.intro hms1 hmc1)
        have HG1 := hid hg1
        have HBk := hid hbk
        clear hms1 hmc1 hg1 hbk
        have F1 : Hid (1 = 1) := rfl
        have F2 : Hid (2 = 2) := rfl
        go_wp2_with (first
          | (go_at_call 48; refine (inside_ref (L := L) (sz := sz) hs40 mE mZE ce e _ _ _ hzE hsz (RdE.ok2 (RdE.g2 HE.out HG1.out) (fun k hk => ⟨hk.1, hk.2.2, hk.2.2⟩)) HMx.out.2 (by have := HLn.out; omega)).mono ?_; rintro e5 w5 ⟨rfl, hm5, hg5⟩; have hms5 := HMx.out.1.g2 hg5 hbsc hbsc; have hgg5 := hg5.one (bs := bs) (bc := bc) (.inr rfl); have hG5 := HG1.out.trans hgg5; have hb5 := (hgg5.block _ (HFr.out.1) HFr.out.2.1 HFr.out.2.2).trans HBk.out; obtain ⟨y0, y1, y2, y3, y4, y5, y6, y7, y8, y9, y10, y11, y12, y13, y14, y15⟩ := fif_at hb5; have hTh5 := SlS.g2 HT.out.1 hG5; have hM5 := hid (And.intro hms5 hm5); have hGG5 := hid hG5; have hB5 := hid (And.intro hb5 (Nat.lt_of_lt_of_le HFr.out.1 hgg5.size)); clear hm5 hg5 hms5 hgg5 hb5)
          | (go_at_call 24; have f_ := F1; clear f_ F1; refine (ih nS (Nat.lt_succ_self _) mZ ct th _ _ _ _ _ hzth hsz hTh5 hM5.out.1 hM5.out.2 hbsc (by have := HLn.out; have t2 := HL5.out; have t3 := snG_len (esB th); have t4 := clG_len (esB th); simp only [List.length_append, List.length_reverse, List.length_cons] at this t2 ⊢; omega) (by have := HLn.out; have t2 := HL5.out; have t3 := snG_len (esB th); have t4 := clG_len (esB th); simp only [List.length_append, List.length_reverse, List.length_map] at this t2 ⊢; omega)).mono ?_; rintro e6 w6 ⟨rfl, hms6, hmc6, hg6⟩; have hG6 := hGG5.out.trans hg6; have hb6 := (hg6.block _ hB5.out.2 HFr.out.2.1 HFr.out.2.2).trans hB5.out.1; obtain ⟨z0, z1, z2, z3, z4, z5, z6, z7, z8, z9, z10, z11, z12, z13, z14, z15⟩ := fif_at hb6; have hEl6 := SlS.g2 HT.out.2 hG6; have hM6 := hid (And.intro hms6 hmc6); have hGG6 := hid hG6; clear hms6 hmc6 hg6 hG6 hb6)
          | (go_at_call 24; refine (ih nS (Nat.lt_succ_self _) mZ cl el _ _ _ _ _ hzel hsz hEl6 hM6.out.1 hM6.out.2 hbsc (by have := HLn.out; have t2 := HL5.out; have t3 := snG_len (esB th); have t4 := clG_len (esB th); simp only [List.length_append, List.length_reverse, List.length_cons] at this t2 ⊢; omega) (by have := HLn.out; have t2 := HL5.out; have t3 := snG_len (esB th); have t4 := clG_len (esB th); simp only [List.length_append, List.length_reverse, List.length_map] at this t2 ⊢; omega)).mono ?_; rintro e7 w7 ⟨rfl, hms7, hmc7, hg7⟩))
        go_roundw
        case rel =>
          refine ⟨j + 1, HL.out, by go_num, ?_, ?_, HG.out.trans (hGG6.out.trans hg7)⟩
          · rw [HN.out.1, HSp.out.1]
            rw [if_pos HC.out]
            simpa using hms7
          · rw [HN.out.2, HSp.out.2]
            simpa using hmc7
        case measure => have := HL.out; simp [upN, RowKit.intOf]; omega
      · by_cases k5 : k = 5
        · have g5 : ((k : Int) == 5) = true := by rw [k5]; rfl
          have hxe : x = noB := Classical.byContradiction fun hx => h5 ⟨k5, hx⟩
          have hx0 : (x.toList == ([] : List UInt8)) = true := by rw [hxe, Lib.toList_data]; rfl
          have HL5 := HL0
          have HC := hid h5
          clear h5 k5 hxe
          have HMx := hid (And.intro hms1 hmc1)
          have HG1 := hid hg1
          have HBk := hid hbk
          clear hms1 hmc1 hg1 hbk
          have F1 : Hid (1 = 1) := rfl
          have F2 : Hid (2 = 2) := rfl
          go_wp2_with (first
            | (go_at_call 48; refine (inside_ref (L := L) (sz := sz) hs40 mE mZE ce e _ _ _ hzE hsz (RdE.ok2 (RdE.g2 HE.out HG1.out) (fun k hk => ⟨hk.1, hk.2.2, hk.2.2⟩)) HMx.out.2 (by have := HLn.out; omega)).mono ?_; rintro e5 w5 ⟨rfl, hm5, hg5⟩; have hms5 := HMx.out.1.g2 hg5 hbsc hbsc; have hgg5 := hg5.one (bs := bs) (bc := bc) (.inr rfl); have hG5 := HG1.out.trans hgg5; have hb5 := (hgg5.block _ (HFr.out.1) HFr.out.2.1 HFr.out.2.2).trans HBk.out; obtain ⟨y0, y1, y2, y3, y4, y5, y6, y7, y8, y9, y10, y11, y12, y13, y14, y15⟩ := fif_at hb5; have hTh5 := SlS.g2 HT.out.1 hG5; have hM5 := hid (And.intro hms5 hm5); have hGG5 := hid hG5; have hB5 := hid (And.intro hb5 (Nat.lt_of_lt_of_le HFr.out.1 hgg5.size)); clear hm5 hg5 hms5 hgg5 hb5)
            | (go_at_call 24; have f_ := F1; clear f_ F1; refine (ih nS (Nat.lt_succ_self _) mZ ct th _ _ _ _ _ hzth hsz hTh5 hM5.out.1 hM5.out.2 hbsc (by have := HLn.out; have t2 := HL5.out; have t3 := snG_len (esB th); have t4 := clG_len (esB th); simp only [List.length_append, List.length_reverse] at this t2 ⊢; omega) (by have := HLn.out; have t2 := HL5.out; have t3 := snG_len (esB th); have t4 := clG_len (esB th); simp only [List.length_append, List.length_reverse, List.length_map] at this t2 ⊢; omega)).mono ?_; rintro e6 w6 ⟨rfl, hms6, hmc6, hg6⟩; have hG6 := hGG5.out.trans hg6; have hb6 := (hg6.block _ hB5.out.2 HFr.out.2.1 HFr.out.2.2).trans hB5.out.1; obtain ⟨z0, z1, z2, z3, z4, z5, z6, z7, z8, z9, z10, z11, z12, z13, z14, z15⟩ := fif_at hb6; have hEl6 := SlS.g2 HT.out.2 hG6; have hM6 := hid (And.intro hms6 hmc6); have hGG6 := hid hG6; clear hms6 hmc6 hg6 hG6 hb6)
            | (go_at_call 24; refine (ih nS (Nat.lt_succ_self _) mZ cl el _ _ _ _ _ hzel hsz hEl6 hM6.out.1 hM6.out.2 hbsc (by have := HLn.out; have t2 := HL5.out; have t3 := snG_len (esB th); have t4 := clG_len (esB th); simp only [List.length_append, List.length_reverse] at this t2 ⊢; omega) (by have := HLn.out; have t2 := HL5.out; have t3 := snG_len (esB th); have t4 := clG_len (esB th); simp only [List.length_append, List.length_reverse, List.length_map] at this t2 ⊢; omega)).mono ?_; rintro e7 w7 ⟨rfl, hms7, hmc7, hg7⟩))
          go_roundw
          case rel =>
            refine ⟨j + 1, HL.out, by go_num, ?_, ?_, HG.out.trans (hGG6.out.trans hg7)⟩
            · rw [HN.out.1, HSp.out.1]
              rw [if_neg HC.out]
              simpa using hms7
            · rw [HN.out.2, HSp.out.2]
              simpa using hmc7
          case measure => have := HL.out; simp [upN, RowKit.intOf]; omega
        · have g5 : ((k : Int) == 5) = false := by simp; omega
          have HL5 := HL0
          have HC := hid h5
          clear h5 k5
          have HMx := hid (And.intro hms1 hmc1)
          have HG1 := hid hg1
          have HBk := hid hbk
          clear hms1 hmc1 hg1 hbk
          have F1 : Hid (1 = 1) := rfl
          have F2 : Hid (2 = 2) := rfl
          go_wp2_with (first
            | (go_at_call 48; refine (inside_ref (L := L) (sz := sz) hs40 mE mZE ce e _ _ _ hzE hsz (RdE.ok2 (RdE.g2 HE.out HG1.out) (fun k hk => ⟨hk.1, hk.2.2, hk.2.2⟩)) HMx.out.2 (by have := HLn.out; omega)).mono ?_; rintro e5 w5 ⟨rfl, hm5, hg5⟩; have hms5 := HMx.out.1.g2 hg5 hbsc hbsc; have hgg5 := hg5.one (bs := bs) (bc := bc) (.inr rfl); have hG5 := HG1.out.trans hgg5; have hb5 := (hgg5.block _ (HFr.out.1) HFr.out.2.1 HFr.out.2.2).trans HBk.out; obtain ⟨y0, y1, y2, y3, y4, y5, y6, y7, y8, y9, y10, y11, y12, y13, y14, y15⟩ := fif_at hb5; have hTh5 := SlS.g2 HT.out.1 hG5; have hM5 := hid (And.intro hms5 hm5); have hGG5 := hid hG5; have hB5 := hid (And.intro hb5 (Nat.lt_of_lt_of_le HFr.out.1 hgg5.size)); clear hm5 hg5 hms5 hgg5 hb5)
            | (go_at_call 24; have f_ := F1; clear f_ F1; refine (ih nS (Nat.lt_succ_self _) mZ ct th _ _ _ _ _ hzth hsz hTh5 hM5.out.1 hM5.out.2 hbsc (by have := HLn.out; have t2 := HL5.out; have t3 := snG_len (esB th); have t4 := clG_len (esB th); simp only [List.length_append, List.length_reverse] at this t2 ⊢; omega) (by have := HLn.out; have t2 := HL5.out; have t3 := snG_len (esB th); have t4 := clG_len (esB th); simp only [List.length_append, List.length_reverse, List.length_map] at this t2 ⊢; omega)).mono ?_; rintro e6 w6 ⟨rfl, hms6, hmc6, hg6⟩; have hG6 := hGG5.out.trans hg6; have hb6 := (hg6.block _ hB5.out.2 HFr.out.2.1 HFr.out.2.2).trans hB5.out.1; obtain ⟨z0, z1, z2, z3, z4, z5, z6, z7, z8, z9, z10, z11, z12, z13, z14, z15⟩ := fif_at hb6; have hEl6 := SlS.g2 HT.out.2 hG6; have hM6 := hid (And.intro hms6 hmc6); have hGG6 := hid hG6; clear hms6 hmc6 hg6 hG6 hb6)
            | (go_at_call 24; refine (ih nS (Nat.lt_succ_self _) mZ cl el _ _ _ _ _ hzel hsz hEl6 hM6.out.1 hM6.out.2 hbsc (by have := HLn.out; have t2 := HL5.out; have t3 := snG_len (esB th); have t4 := clG_len (esB th); simp only [List.length_append, List.length_reverse] at this t2 ⊢; omega) (by have := HLn.out; have t2 := HL5.out; have t3 := snG_len (esB th); have t4 := clG_len (esB th); simp only [List.length_append, List.length_reverse, List.length_map] at this t2 ⊢; omega)).mono ?_; rintro e7 w7 ⟨rfl, hms7, hmc7, hg7⟩))
          go_roundw
          case rel =>
            refine ⟨j + 1, HL.out, by go_num, ?_, ?_, HG.out.trans (hGG6.out.trans hg7)⟩
            · rw [HN.out.1, HSp.out.1]
              rw [if_neg HC.out]
              simpa using hms7
            · rw [HN.out.2, HSp.out.2]
              simpa using hmc7
          case measure => have := HL.out; simp [upN, RowKit.intOf]; omega
    · obtain rfl : j = al.length := by omega
      clear hlt hjl
      rw [List.take_length] at hms hmc
      go_wp2
      go_end0
      exact ⟨rfl, hms, hmc, hg⟩
theorem gather_ref (hs40 : sz ≤ 1099511627776) (n : Nat) : CGa L sz bs bc n := by
  induction n using Nat.strongRecOn with
  | ind n ih => exact gather_step hs40 n ih
end
end Go.Proofs.Ytjpmnholpeidmaa


/- Texts of this seat, one behind the other: FloMath, FloCnt. -/
import Derived.Test.YtfioihehhlpgcaaGreatDoorZf16
import Derived.Laws.BitsAllLaws
namespace Go.Proofs.YtfioihehhlpgcaaGreatDoor
open Go.RowKit
set_option linter.unusedVariables false
end Go.Proofs.YtfioihehhlpgcaaGreatDoor
namespace Go.Proofs.YtfioihehhlpgcaaGreatDoor
set_option linter.unusedVariables false
section
variable (L : List Tok)
def cwS : Nat → Nat → Tr → Prop
  | 0, _, _ => False
  | n + 1, c, s => ∃ (k : Nat) (x : ByteArray) (a lb : Nat) (o : Bool) (e : Tr) (th el : List Tr) (f t ce ct cl : Nat), s = stMk k x a lb o e th el f t ∧ (∃ m, wfE L m ce e) ∧ wfL (cwS n) ct th ∧ wfL (cwS n) cl el ∧ ce + ct + cl ≤ c ∧ (k = 1 ∨ k = 2 ∨ k = 5 ∨ k = 6 → ce + ct + cl + 1 ≤ c)
theorem cwS_up (n : Nat) : ∀ (m c c' : Nat) (e : Tr), n ≤ m → c ≤ c' → cwS L n c e → cwS L m c' e := by
  induction n with
  | zero => intro m c c' e _ _ h; exact h.elim
  | succ n ih =>
    intro m c c' e hm hc h
    obtain ⟨m, rfl⟩ : ∃ q, m = q + 1 := ⟨m - 1, by omega⟩
    obtain ⟨k, x, a, lb, o, e, th, el, f, t, ce, ct, cl, he, h1, h2, h3, h4, h5⟩ := h
    exact ⟨k, x, a, lb, o, e, th, el, f, t, ce, ct, cl, he, h1, wfL_up (fun c c' a => ih m c c' a (by omega)) th ct ct (Nat.le_refl _) h2, wfL_up (fun c c' a => ih m c c' a (by omega)) el cl cl (Nat.le_refl _) h3, by omega, fun hk => by have := h5 hk; omega⟩
end
section
variable {L : List Tok} {sz : Nat}
theorem ct_plain {k : Nat} {x : ByteArray} {a lb : Nat} {o : Bool} {e : Tr} {f t c ce : Nat} (he : ∃ n, wfE L n ce e) (h1 : ce + 1 ≤ c) : ∃ n, cwS L n c (stMk k x a lb o e [] [] f t) :=
  ⟨1, k, x, a, lb, o, e, [], [], f, t, ce, 0, 0, rfl, he, trivial, trivial, by omega, fun _ => by omega⟩
theorem ct_do {k : Nat} {x : ByteArray} {a lb : Nat} {o : Bool} {e : Tr} {f t c ce : Nat} (hk : k = 7 ∨ k = 0 ∨ k = 8) (he : ∃ n, wfE L n ce e) (h1 : ce ≤ c) : ∃ n, cwS L n c (stMk k x a lb o e [] [] f t) :=
  ⟨1, k, x, a, lb, o, e, [], [], f, t, ce, 0, 0, rfl, he, trivial, trivial, by omega, fun _ => by omega⟩
theorem ct_block {k : Nat} {a lb : Nat} {o : Bool} {e : Tr} {th el : List Tr} {f t c ce ct cl : Nat} (he : ∃ n, wfE L n ce e) (ht : ∃ n, wfL (cwS L n) ct th) (hl : ∃ n, wfL (cwS L n) cl el) (h1 : ce + ct + cl ≤ c) (hk : k = 3 ∨ (k = 4 ∧ el = [])) : ∃ n, cwS L n c (stMk k noB a lb o e th el f t) := by
  obtain ⟨n1, h2⟩ := ht
  obtain ⟨n2, h3⟩ := hl
  have u1 := wfL_up (fun c c' a hc => cwS_up L n1 (max n1 n2) c c' a (Nat.le_max_left _ _) hc) th ct ct (Nat.le_refl _) h2
  have u2 := wfL_up (fun c c' a hc => cwS_up L n2 (max n1 n2) c c' a (Nat.le_max_right _ _) hc) el cl cl (Nat.le_refl _) h3
  exact ⟨max n1 n2 + 1, k, noB, a, lb, o, e, th, el, f, t, ce, ct, cl, rfl, he, u1, u2, h1, fun h => by omega⟩
theorem stmt_cw (hL : ∀ t ∈ L, okT t) (f : Nat) :
    (∀ d i, i ≤ L.length → ∃ n, wfL (cwS L n) ((pBlock L sz f d i).i - i) (pBlock L sz f d i).v) ∧
    (∀ d i l c, i ≤ L.length → (∃ n, wfL (cwS L n) c l) → ∃ n, wfL (cwS L n) (c + ((pStmts L sz f d i l).i - i)) (pStmts L sz f d i l).v) ∧
    (∀ d i, i < L.length → ∃ n, cwS L n ((pStmt L sz f d i).i - i) (pStmt L sz f d i).v) := by
  induction f with
  | zero =>
    refine ⟨fun d i hi => ?_, fun d i l c hi h => ?_, fun d i hi => ?_⟩
    · rw [pBlock_zero]; exact ⟨0, trivial⟩
    · rw [pStmts_zero]; simpa using h
    · rw [pStmt_zero]; exact ct_do (by omega) ⟨1, exZ_wf 0⟩ (by omega)
  | succ f ih =>
    obtain ⟨hB, hS, hT⟩ := ih
    obtain ⟨oB, oS, oT⟩ := stmt_ok (sz := sz) hL f
    refine ⟨fun d i hi => ?_, fun d i l c hi h => ?_, fun d i hlt => ?_⟩
    · rw [pBlock_succ]
      split
      · rename_i h
        have hl := (isT_lt h).1
        split
        · exact ⟨0, trivial⟩
        · obtain ⟨n, h1⟩ := hS (d + 1) (i + 1) [] 0 hl ⟨0, trivial⟩
          have o1 := oS (d + 1) (i + 1) [] hl
          have o2 := need_ok (sz := sz) hL o1.le (s := bs1 125) (by decide)
          exact ⟨n, wfL_up (fun c c' a hc => cwS_up L n n c c' a (Nat.le_refl _) hc) _ _ _ (by have := o1.ge; have := o2.ge; simp only; omega) h1⟩
      · exact ⟨0, trivial⟩
    · rw [pStmts_succ]
      split
      · rename_i hlt
        split
        · simpa using h
        · obtain ⟨n, hn⟩ := h
          obtain ⟨n1, h1⟩ := hT d i hlt.1
          have o1 := (oT d i hlt.1).1
          have hs : wfL (cwS L (max n n1)) (c + ((pStmt L sz f d i).i - i)) (l ++ [(pStmt L sz f d i).v]) := wfL_snoc _ _ _ _ (wfL_up (fun c c' a hc => cwS_up L n _ c c' a (Nat.le_max_left _ _) hc) l c c (Nat.le_refl _) hn) (cwS_up L n1 _ _ _ _ (Nat.le_max_right _ _) (Nat.le_refl _) h1)
          try simp only
          obtain ⟨n2, h2⟩ := hS d _ _ _ o1.le ⟨_, hs⟩
          have o2 := oS d (pStmt L sz f d i).i (l ++ [(pStmt L sz f d i).v]) o1.le
          exact ⟨n2, wfL_up (fun c c' a hc => cwS_up L n2 _ c c' a (Nat.le_refl _) hc) _ _ _ (by have := o1.ge; have := o2.ge; omega) h2⟩
      · simpa using h
    · rw [pStmt_succ]
      try simp only
      split
      · have o1 := named_ok (sz := sz) hL (i := i + 1) hlt
        have o2 : ∃ ds, Ok L sz (pNamed L sz (i + 1)).i (if (!isT L (pNamed L sz (i + 1)).i (bs1 58)) = true then (⟨0, (pNamed L sz (i + 1)).i, []⟩ : R Nat) else pLab L sz ((pNamed L sz (i + 1)).i + 1)).i ds := by
          split
          · exact ⟨_, Ok.stay o1.le⟩
          · rename_i hc
            have hc : isT L (pNamed L sz (i + 1)).i (bs1 58) = true := by simpa using hc
            have g1 := Ok.is (sz := sz) hL hc (by decide)
            exact ⟨_, g1.and (lab_ok hL g1.le)⟩
        obtain ⟨ds, o2⟩ := o2
        have o3 := need_ok (sz := sz) (s := bs1 61) hL o2.le (by decide)
        have o4 := (pE_ok (sz := sz) hL d o3.le).1
        have o5 := need_ok (sz := sz) (s := bs1 59) hL o4.le (by decide)
        refine ct_plain (pE_wf hL d o3.le) ?_
        have g1 := o1.ge
        have g2 := o2.ge
        have g3 := o3.ge
        have g4 := o4.ge
        have g5 := o5.ge
        simp only
        omega
      · split
        · have o1 := (pE_ok (sz := sz) hL d (i := i + 1) hlt).1
          have o2 := oB d _ o1.le
          have g1 := o1.ge
          have g2 := o2.ge
          split
          · rename_i hc
            have hl := (isT_lt hc).1
            have o3 := oB d ((pBlock L sz f d (pE L sz d (i + 1)).i).i + 1) hl
            have g3 := o3.ge
            exact ct_block (pE_wf hL d hlt) (hB d _ o1.le) (hB d ((pBlock L sz f d (pE L sz d (i + 1)).i).i + 1) hl) (by simp only; omega) (.inl rfl)
          · exact ct_block (pE_wf hL d hlt) (hB d _ o1.le) (cl := 0) ⟨0, trivial⟩ (by simp only; omega) (.inl rfl)
        · split
          · have o1 := (pE_ok (sz := sz) hL d (i := i + 1) hlt).1
            have o2 := oB d _ o1.le
            have g1 := o1.ge
            have g2 := o2.ge
            exact ct_block (pE_wf hL d hlt) (hB d _ o1.le) (cl := 0) ⟨0, trivial⟩ (by simp only; omega) (.inr ⟨rfl, rfl⟩)
          · split
            · have o1 := named_ok (sz := sz) hL (i := i + 1) hlt
              have o4 := (pE_ok (sz := sz) hL d o1.le).1
              have o5 := need_ok (sz := sz) (s := bs1 59) hL o4.le (by decide)
              have g1 := o1.ge
              have g4 := o4.ge
              have g5 := o5.ge
              refine ct_plain (pE_wf hL d o1.le) ?_
              simp only
              omega
            · split
              · have o4 := (pE_ok (sz := sz) hL d (i := i + 1) hlt).1
                have o5 := need_ok (sz := sz) (s := bs1 59) hL o4.le (by decide)
                have g4 := o4.ge
                have g5 := o5.ge
                exact ct_plain (pE_wf hL d hlt) (by simp only; omega)
              · split
                · rename_i hn
                  split
                  · rename_i hc
                    have hl := (isT_lt hc).1
                    have o4 := (pE_ok (sz := sz) hL d (i := i + 2) hl).1
                    have o5 := need_ok (sz := sz) (s := bs1 59) hL o4.le (by decide)
                    have g4 := o4.ge
                    have g5 := o5.ge
                    exact ct_plain (pE_wf hL d (i := i + 2) hl) (by simp only; omega)
                  · have o4 := (pE_ok (sz := sz) hL d (i := i) (Nat.le_of_lt hlt)).1
                    have o5 := need_ok (sz := sz) (s := bs1 59) hL o4.le (by decide)
                    have g4 := o4.ge
                    have g5 := o5.ge
                    exact ct_do (.inl rfl) (pE_wf hL d (Nat.le_of_lt hlt)) (by simp only; omega)
                · exact ct_do (by omega) ⟨1, exZ_wf 0⟩ (by omega)
theorem it_cw (hL : ∀ t ∈ L, okT t) : ∃ n, wfL (cwS L n) L.length (pIt L sz).bd := by
  unfold pIt
  split
  · rename_i hk
    have hl := (isT_lt hk).1
    try simp only
    have o1 := named_ok (sz := sz) hL (i := 1) hl
    have o2 := need_ok (sz := sz) (s := bs1 40) hL o1.le (by decide)
    have o3 := params_ok (sz := sz) hL 6 _ [] o2.le
    have o4 := need_ok (sz := sz) (s := bs1 41) hL o3.le (by decide)
    have o5 := need_ok (sz := sz) (s := bs1 58) hL o4.le (by decide)
    have o6 := lab_ok (sz := sz) hL o5.le
    have hsd : (if isT L (pLab L sz (pNeed L sz (pNeed L sz (pParams L sz 6 (pNeed L sz (pNamed L sz 1).i (bs1 40)).i []).i (bs1 41)).i (bs1 58)).i).i kSends = true then pSends L sz 8 ((pLab L sz (pNeed L sz (pNeed L sz (pParams L sz 6 (pNeed L sz (pNamed L sz 1).i (bs1 40)).i []).i (bs1 41)).i (bs1 58)).i).i + 1) [] else ⟨[], (pLab L sz (pNeed L sz (pNeed L sz (pParams L sz 6 (pNeed L sz (pNamed L sz 1).i (bs1 40)).i []).i (bs1 41)).i (bs1 58)).i).i, []⟩).i ≤ L.length := by
      split
      · rename_i hc
        exact (sends_ok (sz := sz) hL 8 _ [] (isT_lt hc).1).le
      · exact o6.le
    have o8 := pB_ok (sz := sz) hL hsd
    obtain ⟨n, hn⟩ := (stmt_cw (sz := sz) hL (50 * L.length + 100)).1 0 _ hsd
    refine ⟨n, wfL_up (fun c c' a hc => cwS_up L n n c c' a (Nat.le_refl _) hc) _ _ _ ?_ hn⟩
    have := o8.le
    unfold pB at this
    omega
  · split
    · exact ⟨0, trivial⟩
    · exact ⟨0, trivial⟩
theorem itm_cw (s : ByteArray) : ∃ n, wfL (cwS (tks s) n) (tks s).length (itm s).bd := it_cw (fun t ht => (tks_facts s t ht).2.1)
end
end Go.Proofs.YtfioihehhlpgcaaGreatDoor

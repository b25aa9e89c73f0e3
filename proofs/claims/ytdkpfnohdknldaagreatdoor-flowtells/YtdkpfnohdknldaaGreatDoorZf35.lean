/- Texts of this seat, one behind the other: RfBlock. -/
import Derived.Test.YtdkpfnohdknldaaGreatDoorZf34
import Derived.Test.YtdkpfnohdknldaaGreatDoorZf22
namespace Go.Proofs.YtdkpfnohdknldaaGreatDoor
open Go.RowKit Go.WideMaps Go.Maps
set_option linter.unusedVariables false
attribute [local go_sem ↓] Go.wp_at_zero Go.wp_at_succ

theorem fvB_split (l : List (Int × It)) (fs : List Nat) (bk u : Nat) (A B : List Tr) : ∀ env, fvB l fs bk u env (A ++ B) = fvB l fs bk u env A ++ fvB l fs bk u (scG l u env A) B := by
  induction A with
  | nil => intro env; rfl
  | cons a r ih => intro env; rw [List.cons_append, fvB_cons, fvB_cons, ih, List.append_assoc]; rfl
theorem fvB_less (l : List (Int × It)) (fs : List Nat) (bk u : Nat) (env : Env) (al : List Tr) (k : Nat) (L : List Fv) : (noF (L ++ fvB l fs bk u env (al.take k))).length ≤ (noF (L ++ fvB l fs bk u env al)).length := by
  have h := fvB_split l fs bk u (al.take k) (al.drop k) env
  rw [List.take_append_drop] at h
  rw [h, ← List.append_assoc]
  exact noF_le_app _ _
theorem scF_len {T : List Tok} {n c : Nat} {s : Tr} (h : wfS T n c s) (l : List (Int × It)) (u : Nat) (env : Env) : (scF l env u s).length ≤ env.length + c := by
  cases n with
  | zero => exact h.elim
  | succ n =>
    obtain ⟨k, x, a, lb, o, e, th, el, f, t, ce, ct, cl, rfl, _, _, _, hnm, _⟩ := h
    rw [scF_mk]
    split
    · unfold scMk
      split
      · omega
      · rename_i hx
        rcases hnm with h | h
        · exact absurd h.1 hx
        · rw [List.length_cons]; omega
    · omega
theorem wfL_atG {T : List Tok} {n : Nat} (l : List (Int × It)) (u : Nat) : ∀ (al : List Tr) (c k : Nat) (a : Tr) (env : Env), wfL (wfS T n) c al → al[k]? = some a → ∃ c', wfS T n c' a ∧ (scG l u env (al.take k)).length + c' ≤ env.length + c ∧ c' ≤ c := by
  intro al
  induction al with
  | nil => intro c k a env _ h; simp at h
  | cons b r ih =>
    rintro c k a env ⟨c1, c2, h1, h2, h3⟩ h
    cases k with
    | zero => simp at h; subst h; exact ⟨c1, h2, by rw [List.take_zero]; show env.length + c1 ≤ _; omega, by omega⟩
    | succ k =>
      simp at h
      obtain ⟨c', g1, g2, g3⟩ := ih c2 k a (scF l env u b) h3 h
      refine ⟨c', g1, ?_, by omega⟩
      have := scF_len h2 l u env
      rw [List.take_succ_cons]
      show (scG l u (scF l env u b) (r.take k)).length + c' ≤ _
      omega
theorem jnL_twice {a : Nat} (u : Nat) (h : a < 256) : jnL a (jnL a u) = jnL a u := by
  apply Nat.eq_of_testBit_eq
  intro i
  simp only [jnL_bit, tg_jnL]
  cases (tg a).testBit i <;> simp
theorem opF_same (a f t : Nat) (x : ByteArray) : opF a a f t x = [] := by
  unfold opF
  rw [if_pos]
  unfold flw
  rw [Nat.and_self]
  exact beq_self_eq_true _
theorem RF.grown {bn : Nat} {l : List (Int × It)} {i : Nat} {at_ : Int} {fq : Option Addr} {fc : Nat} {L : List Fv} {D : Option Nat} {w w' : World} {b : Nat} (h : RF bn l i at_ fq fc w L D) (hg : w.grownBy w' (some b)) (hb : bn < b) (hD : some b ≠ D) : RF bn l i at_ fq fc w' L D :=
  h.kept (fun k hk => hg.block k (Nat.lt_of_le_of_lt hk h.lt.1) (fun e => by injection e with e; omega)) (fun k e => hg.block k (h.lt.2 k e).2 (fun e2 => by injection e2 with e2; rw [e2] at e; exact hD e))
theorem RF.unsay {bn : Nat} {l : List (Int × It)} {i : Nat} {at_ : Int} {fq : Option Addr} {fc : Nat} {L : List Fv} {D : Option Nat} {w : World} {n : Nat} (h : RF bn l i at_ fq fc w (L ++ [fvSay 0 0 n]) D) : RF bn l i at_ fq fc w L D := by
  obtain ⟨vd, h1, h2, h3, h6⟩ := h.blk
  have e : labR (L ++ [fvSay 0 0 n]) at_ = labR L at_ := say_same (.inr (fun h => by omega))
  refine ⟨⟨vd, ?_, ?_, h3, h6⟩⟩
  · rw [e] at h1; exact h1
  · rw [noF_sayA] at h2; exact h2
/-- What block is to answer. -/
def CRh (bn : Nat) (l : List (Int × It)) (i : Nat) (at_ : Int) (fq : Option Addr) (fc : Nat) (T : List Tok) (bk : Nat) (n : Nat) : Prop := ∀ (D : Option Nat) (w : World) (L : List Fv) (env : Env) (b : Nat) (al : List Tr) (q : Option Addr) (cq mm c u nl : Nat), RF bn l i at_ fq fc w L D → MpL w b env env.length → okS 0 bn D w b → SlT (fun k => k < bn) (RdS mm (fun k => k < bn) w) w 15 al q → wfL (wfS T n) c al → (∀ s ∈ al, lbW nl s) → env.length + 7 * c < 1099511627775 → u < 256 → (noF (L ++ fvB l (flA l) bk u env al)).length < 1099511627776 →
  Calls Tryz.prog 45 #[.pointer (some ⟨bn, 0, none⟩), .map (some b), .slice q al.length cq, .int .i64 (u : Int)] w fun ex w' => ex = .returned (.tuple #[]) ∧ TlF bn (RF bn l i at_ fq fc) D (L ++ fvB l (flA l) bk u env al) w w'
/-- What is so at each statement: bm is the map of the block. -/
structure RelRh (bn : Nat) (l : List (Int × It)) (i : Nat) (at_ : Int) (fq : Option Addr) (fc : Nat) (bm : Nat) (D : Option Nat) (w : World) (M : Nat → List Fv) (E : Nat → Env) (n : Nat) (j : Value) (wr : World) : Prop where
  at_ : ∃ (k : Nat) (D1 : Option Nat), k ≤ n ∧ j = .int .i64 (k : Int) ∧ RF bn l i at_ fq fc wr (M k) D1 ∧ Stp bn D D1 w wr ∧ MpL wr bm (E k) (E k).length ∧ okS 0 bn D1 wr bm
section
variable {bn : Nat} {l : List (Int × It)} {i : Nat} {at_ : Int} {fq : Option Addr} {fc : Nat} {T : List Tok} {bk : Nat}
set_option maxHeartbeats 1500000 in
set_option maxRecDepth 100000 in
theorem rf_block_of (hlb : ∀ e ∈ l, e.2.l < 256 ∧ ∀ p ∈ e.2.ps, p.l < 256) (hP : ∀ e ∈ l, e.2.ps.length ≤ 5) (hbk : ∃ e, l[i]? = some e ∧ e.2.l = bk) {n : Nat} (ih : ∀ n', n = n' + 1 → CRh bn l i at_ fq fc T bk n') : CRh bn l i at_ fq fc T bk n := by
  intro D w L env b al q cq mm cc u nl hs hm hb hR hw hl he hu hn
  obtain ⟨hlen, hits⟩ := hR
  obtain ⟨e0, he0, hbe⟩ := hbk
  have hbkl : bk < 256 := by rw [← hbe]; exact (hlb e0 (List.mem_of_getElem? he0)).1
  obtain ⟨g0, vI, hq0, hgo0, hcv0, hI0⟩ := RdF.itemF hs.cells.2.2.2.2.2.2.1 he0
  obtain ⟨_, _, _, _, _, _, _, _, rfl, _⟩ := hI0
  have hi2 := hcv0.get 2 _ rfl
  rw [hbe] at hi2
  subst hq0
  have hil := (List.getElem?_eq_some_iff.1 he0).1
  have hll := hs.cells.2.2.2.2.2.2.2
  have HIt := hid (fun D2 w2 (h : Stp bn D D2 w w2) => (World.cell?_of_block (a := ⟨g0, i * 10 + 2, none⟩) (Stp.lowF h hs g0 hgo0)).trans hi2)
  have HGO := hid hgo0
  clear hcv0 hi2 hgo0 he0 hbe
  have hbn := hs.lt.1
  have HB := hid (fun k => Nat.lt_of_le_of_lt (fvB_less l (flA l) bk u env al k L) hn)
  have HM := hid (fun k a (h : al[k]? = some a) => fl_blk_take l (flA l) bk u env L h)
  have HW := hid (fun k a (h : al[k]? = some a) => wfL_atG l u al cc k a env hw h)
  have HLb := hid (fun k a (h : al[k]? = some a) => hl a (List.mem_of_getElem? h))
  have HZ : Hid (L ++ fvB l (flA l) bk u env (al.take al.length) = L ++ fvB l (flA l) bk u env al) := by show _ = _; rw [List.take_length]
  have H0 : Hid (L ++ fvB l (flA l) bk u env (al.take 0) = L ∧ scG l u env (al.take 0) = env) := by show _ ∧ _; rw [List.take_zero, fvB_nil, List.append_nil]; exact ⟨rfl, rfl⟩
  generalize hM : (fun k => L ++ fvB l (flA l) bk u env (al.take k)) = M
  generalize hE1 : (fun k => scG l u env (al.take k)) = E
  have hMk : ∀ k, L ++ fvB l (flA l) bk u env (al.take k) = M k := fun k => by rw [← hM]
  have hEk : ∀ k, scG l u env (al.take k) = E k := fun k => by rw [← hE1]
  simp only [hMk] at HB
  simp only [hMk, hEk] at HM
  simp only [hMk] at HZ
  simp only [hMk, hEk] at H0
  simp only [hEk] at HW
  rw [← HZ.out]
  clear hM hMk HZ hE1 hEk hn hw hl
  have hmm := @run_makeMap Tryz.prog
  obtain ⟨env', hown, hsiz, hag, hlt256⟩ := id hm
  have hbl := hown.lt
  have hcanon := hid (hown.canon kStr)
  have e1 : (w.alloc (.map #[] 0)).heap.size = w.heap.size + 1 := by simp
  have hbne : b ≠ w.heap.size := by omega
  have HAG := hid (And.intro hsiz (And.intro hag hlt256))
  have hszb : size (mpD 0 env') < 1099511627777 := by split at hsiz <;> omega
  clear hsiz hag hlt256 hm
  generalize hD0 : mpD 0 env' = D0 at *
  have HD0 := hid hD0
  clear hD0
  go_enter Tryz.func45, Tryz.ntmps45
  go_wp2_with (first
    | (at_range; refine wpList_range_own _ rfl _ 94 rfl 9 3 kStr Tryz.underlying94 _ b (size D0) _ rfl (hown.alloc _) ?_; intro w0 hrg0 hg0 hs0)
    | go_in)
  try go_frame
  rw [e1] at hrg0 hs0
  try rw [e1]
  go_loopw [20] (fun _ wr => RelW b (size D0) D0 w wr) (fun _ wr => wr.rangeLeft b (w.heap.size + 1))
  case atStart =>
    exact ⟨_, _, .map [], hrg0, Nat.le_refl _, ((World.ownsMap_made _ _ _ _).kept hg0 (by simp)).mono (Nat.zero_le _), agree_start D0, ((Below.refl _ _).alloc (Nat.le_refl _) _).grown hg0 (by simp) (fun j hj => by cases hj)⟩
  case round =>
    obtain ⟨left, cnt, Dout, hrg, hcs, hout, hA, hnx⟩ := hrel
    clear hrg0 hg0 hs0
    go_wp2_with (first
      | (at_next; refine wpList_next_ranges _ rfl _ rfl 9 kStr (plainElem (H := Unit) Tryz.prog 3) Value.string (Value.int .i64) (fun key kl h => (let ⟨x, h1, _⟩ := keyStr_inv h; ⟨x, h1⟩)) (fun v y h => (let ⟨c, h1, _⟩ := plainElem_int_inv Tryz.underlying3 h; ⟨c, h1⟩)) b (w.heap.size + 1) (size D0) _ _ _ rfl hrg ?_ ?_)
      | go_in)
    · intro hc0 hl0
      subst hc0
      have e := agree_end hA hl0 (hout.canon kStr) hcanon.out
      subst e
      clear hA hl0 hrg
      have hsW := hs.below hnx
      have hstW : Stp bn D D w wr := Stp.below hnx
      have hmO : MpL wr w.heap.size env env.length := ⟨env', by rw [HD0.out]; exact own_tight hout, by rw [HD0.out]; exact HAG.out.1, HAG.out.2.1, HAG.out.2.2⟩
      have hokO : okS 0 bn D wr w.heap.size := hs.fresh (Nat.le_refl _) hout.lt
      have HS0 := hid (show RelRh bn l i at_ (some ⟨g0, 0, none⟩) fc w.heap.size D w M E al.length (.int .i64 (0 : Nat)) wr from ⟨0, D, Nat.zero_le _, rfl, by rw [H0.out.1]; exact hsW, hstW, by rw [H0.out.2]; exact hmO, hokO⟩)
      clear hsW hstW hmO hokO hout hnx HD0 HAG hown hcs H0 hszb hcanon hmm
      generalize wr = wA at *
      go_wp2
      go_loopw [30] (fun j wr => RelRh bn l i at_ (some ⟨g0, 0, none⟩) fc w.heap.size D w M E al.length j wr) (fun j _ => upN al.length j)
      case atStart => exact HS0.out
      case round =>
        obtain ⟨j, D1, hjl, rfl, hsr, hstr, hmr, hokr⟩ := hrel.at_
        clear HS0 hrel
        by_cases hlt : j < al.length
        · obtain ⟨g, rfl, hgo, hLA⟩ := hits (by omega)
          obtain ⟨s1, hs1⟩ : ∃ s1, al[j]? = some s1 := ⟨_, List.getElem?_eq_getElem hlt⟩
          have hlow := Stp.lowF hstr hs
          obtain ⟨v1, hcv, hR1⟩ := hLA j s1 hs1
          have hcv := hcv.kept (hlow g hgo)
          have hR1 := RdS.kept mm hlow (fun _ h => h) _ _ hR1
          obtain ⟨c0, hwf, hcl, hc7⟩ := HW.out j s1 hs1
          have hnx := (HM.out j _ hs1).1
          have hne := (HM.out j _ hs1).2
          have hBj := HB.out (j + 1)
          have hlbs := HLb.out j s1 hs1
          obtain ⟨mm', rfl⟩ : ∃ q, mm = q + 1 := by
            cases mm with
            | zero => exact hR1.elim
            | succ q => exact ⟨q, rfl⟩
          obtain ⟨n', rfl⟩ : ∃ q, n = q + 1 := by
            cases n with
            | zero => exact hwf.elim
            | succ q => exact ⟨q, rfl⟩
          obtain ⟨nl', rfl⟩ : ∃ q, nl = q + 1 := by
            cases nl with
            | zero => exact hlbs.elim
            | succ q => exact ⟨q, rfl⟩
          obtain ⟨k, x, a, lb, op, e, th, el, f, t, d0, d1, d2, d3, d4, d5, p1, c1, p2, c2, rfl, rfl, ⟨me, hE⟩, hT, hX⟩ := hR1
          obtain ⟨ek, ex, en, eal, ef, et, ep, ec, rfl, hv⟩ := RdE.form hE
          injection hv with hv
          have hv : [d0, d1, d2, d3, d4, d5] = [.int .i64 (ek : Int), .string ex, .int .i64 (en : Int), .slice ep eal.length ec, .int .i64 (ef : Int), .int .i64 (et : Int)] := by simpa using congrArg Array.toList hv
          simp only [List.cons.injEq, and_true] at hv
          obtain ⟨rfl, rfl, rfl, rfl, rfl, rfl⟩ := hv
          obtain ⟨k', x', a', lb', o', e', th', el', f', t', ce, ct, cl, he', ⟨ne, hwe⟩, hwt, hwl, hnm, hk2, hkx, hkt, hkl, hk8, hkz⟩ := hwf
          obtain ⟨rfl, rfl, rfl, rfl, rfl, rfl, rfl, rfl, rfl, rfl⟩ := stMk_inj he'
          clear he'
          obtain ⟨k', x', a', lb', o', e', th', el', f', t', he', hlb0, hlth, hlel⟩ := hlbs
          obtain ⟨rfl, rfl, rfl, rfl, rfl, rfl, rfl, rfl, rfl, rfl⟩ := stMk_inj he'
          clear he'
          rw [fvY_mk] at hnx
          rw [scF_mk] at hne
          have hxs : x.size ≤ maxLen := by
            rcases hnm with h | h
            · rw [h.1]; decide
            · have := tkn_size h.1; unfold maxLen; omega
          have hib := ih n' rfl
          have e0 := hcv.get 0 _ rfl
          have e1 := hcv.get 1 _ rfl
          have e2 := hcv.get 2 _ rfl
          have e3 := hcv.get 3 _ rfl
          have e4 := hcv.get 4 _ rfl
          have e5 := hcv.get 5 _ rfl
          have e6 := hcv.get 6 _ rfl
          have e7 := hcv.get 7 _ rfl
          have e8 := hcv.get 8 _ rfl
          have e9 := hcv.get 9 _ rfl
          have e10 := hcv.get 10 _ rfl
          have e11 := hcv.get 11 _ rfl
          have e12 := hcv.get 12 _ rfl
          have e13 := hcv.get 13 _ rfl
          have e14 := hcv.get 14 _ rfl
          rw [Nat.add_zero] at e0
          have gj : (0 : Int) ≤ (j : Int) := by omega
          have gj1 : (j : Int) < (al.length : Int) := by omega
          have hjb : j < 1099511627776 := by omega
          have hba := (Below.refl wr.heap.size wr).alloc (Nat.le_refl _) (.cells #[.int .i64 (k : Int), .string x, .int .i64 (a : Int), .int .i64 (lb : Int), .bool op, .int .i64 (ek : Int), .string ex, .int .i64 (en : Int), .slice ep eal.length ec, .int .i64 (ef : Int), .int .i64 (et : Int), .slice p1 th.length c1, .slice p2 el.length c2, .int .i64 (f : Int), .int .i64 (t : Int)] 111)
          obtain ⟨q0, q1, q2, q3, q4, q5, q6, q7, q8, q9, q10, q11, q12, q13, q14, _⟩ := fif_at (heap_alloc_new wr (.cells #[.int .i64 (k : Int), .string x, .int .i64 (a : Int), .int .i64 (lb : Int), .bool op, .int .i64 (ek : Int), .string ex, .int .i64 (en : Int), .slice ep eal.length ec, .int .i64 (ef : Int), .int .i64 (et : Int), .slice p1 th.length c1, .slice p2 el.length c2, .int .i64 (f : Int), .int .i64 (t : Int)] 111))
          have hsa : Stp bn D1 D1 wr (wr.alloc (.cells #[.int .i64 (k : Int), .string x, .int .i64 (a : Int), .int .i64 (lb : Int), .bool op, .int .i64 (ek : Int), .string ex, .int .i64 (en : Int), .slice ep eal.length ec, .int .i64 (ef : Int), .int .i64 (et : Int), .slice p1 th.length c1, .slice p2 el.length c2, .int .i64 (f : Int), .int .i64 (t : Int)] 111)) := Stp.below hba
          have HFR := hid (hsr.fresh (w' := (wr.alloc (.cells #[.int .i64 (k : Int), .string x, .int .i64 (a : Int), .int .i64 (lb : Int), .bool op, .int .i64 (ek : Int), .string ex, .int .i64 (en : Int), .slice ep eal.length ec, .int .i64 (ef : Int), .int .i64 (et : Int), .slice p1 th.length c1, .slice p2 el.length c2, .int .i64 (f : Int), .int .i64 (t : Int)] 111))) (Nat.le_refl _) (by simp))
          have hok1 := okS.step hsa (B := 0)
          have hlo1 : ∀ z, z < bn → (wr.alloc (.cells #[.int .i64 (k : Int), .string x, .int .i64 (a : Int), .int .i64 (lb : Int), .bool op, .int .i64 (ek : Int), .string ex, .int .i64 (en : Int), .slice ep eal.length ec, .int .i64 (ef : Int), .int .i64 (et : Int), .slice p1 th.length c1, .slice p2 el.length c2, .int .i64 (f : Int), .int .i64 (t : Int)] 111)).heap[z]? = wr.heap[z]? := fun z hk => hba.block z (Nat.lt_trans hk hsr.lt.1)
          have hs1' := hsr.below hba
          have hm1 := hmr.kept (hok1.1 _ hokr)
          have hE1 := RdE.kept me hlo1 (fun _ h => h) _ _ hE
          have hlabf : ∀ v, v < 256 → lbX l (E j) v (exMk ek ex en eal ef et) = jnL (rlX l (E j) (exMk ek ex en eal ef et)) v := fun v hv => by rw [lb_rl l (E j) hv _ _ _ hwe, jnL_comm]
          have hrl := rlX_lt (fun e he => (hlb e he).1) hmr.lt hwe
          have HEf := hid (fun (v : Nat) (hv : v < 256) (W : World) (h1 : RF bn l i at_ (some ⟨g0, 0, none⟩) fc W (M j) D1) (h2 : Below (wr.alloc (.cells #[.int .i64 (k : Int), .string x, .int .i64 (a : Int), .int .i64 (lb : Int), .bool op, .int .i64 (ek : Int), .string ex, .int .i64 (en : Int), .slice ep eal.length ec, .int .i64 (ef : Int), .int .i64 (et : Int), .slice p1 th.length c1, .slice p2 el.length c2, .int .i64 (f : Int), .int .i64 (t : Int)] 111)).heap.size (wr.alloc (.cells #[.int .i64 (k : Int), .string x, .int .i64 (a : Int), .int .i64 (lb : Int), .bool op, .int .i64 (ek : Int), .string ex, .int .i64 (en : Int), .slice ep eal.length ec, .int .i64 (ef : Int), .int .i64 (et : Int), .slice p1 th.length c1, .slice p2 el.length c2, .int .i64 (f : Int), .int .i64 (t : Int)] 111)) W) (h3 : (noF (M j ++ fvX l (flA l) (E j) v (exMk ek ex en eal ef et))).length < 1099511627776) => rf_expr hlb ne D1 W (M j) (E j) w.heap.size _ (exMk ek ex en eal ef et) _ me ce v h1 (hm1.kept (h2.block _ (hok1.2 _ hokr).2.1)) ((okS.step (Stp.below h2)).2 _ (hok1.2 _ hokr)) (RdE.kept me (fun z hz => h2.block z (Nat.lt_trans hz hs1'.lt.1)) (fun _ h => h) _ _ hE1) hwe hv h3)
          have HMe := hid (fun (h : 6 * ce < 1099511627776) => rf_mere hlb hP hs1' hm1 (hok1.2 _ hokr) hE1 hwe h)
          have HT1 := hid (And.intro (hT.kept hlo1 (fun _ h => h) (RdS.kept mm' hlo1 (fun _ h => h))) (hX.kept hlo1 (fun _ h => h) (RdS.kept mm' hlo1 (fun _ h => h))))
          have HMP := hid (And.intro hm1 (hok1.2 _ hokr))
          have HST := hid (hstr.trans hsa)
          have HL := hid hlt
          have HS1 := hid hs1'
          have hce : ce + ct + cl ≤ c0 := by rcases hnm with h | h <;> omega
          have hcc : (E j).length + 7 * ct < 1099511627775 ∧ (E j).length + 7 * cl < 1099511627775 ∧ (E j).length + 1 < maxLen ∧ 6 * ce < 1099511627776 := by
            unfold maxLen
            omega
          have HSB := hid (fun (D2 : Option Nat) (w2 : World) (L2 : List Fv) (v : Nat) (hv : v < 256) (h1 : RF bn l i at_ (some ⟨g0, 0, none⟩) fc w2 L2 D2) (h2 : Stp bn D1 D2 (wr.alloc (.cells #[.int .i64 (k : Int), .string x, .int .i64 (a : Int), .int .i64 (lb : Int), .bool op, .int .i64 (ek : Int), .string ex, .int .i64 (en : Int), .slice ep eal.length ec, .int .i64 (ef : Int), .int .i64 (et : Int), .slice p1 th.length c1, .slice p2 el.length c2, .int .i64 (f : Int), .int .i64 (t : Int)] 111)) w2) (h3 : (noF (L2 ++ fvB l (flA l) bk v (E j) th)).length < 1099511627776) => hib D2 w2 L2 (E j) w.heap.size th p1 c1 mm' ct v nl' h1 (hm1.kept ((okS.step h2).1 _ (hok1.2 _ hokr))) ((okS.step h2).2 _ (hok1.2 _ hokr)) (HT1.out.1.kept (Stp.lowF h2 hs1') (fun _ h => h) (RdS.kept mm' (Stp.lowF h2 hs1') (fun _ h => h))) hwt hlth hcc.1 hv h3)
          have HSB2 := hid (fun (D2 : Option Nat) (w2 : World) (L2 : List Fv) (v : Nat) (hv : v < 256) (h1 : RF bn l i at_ (some ⟨g0, 0, none⟩) fc w2 L2 D2) (h2 : Stp bn D1 D2 (wr.alloc (.cells #[.int .i64 (k : Int), .string x, .int .i64 (a : Int), .int .i64 (lb : Int), .bool op, .int .i64 (ek : Int), .string ex, .int .i64 (en : Int), .slice ep eal.length ec, .int .i64 (ef : Int), .int .i64 (et : Int), .slice p1 th.length c1, .slice p2 el.length c2, .int .i64 (f : Int), .int .i64 (t : Int)] 111)) w2) (h3 : (noF (L2 ++ fvB l (flA l) bk v (E j) el)).length < 1099511627776) => hib D2 w2 L2 (E j) w.heap.size el p2 c2 mm' cl v nl' h1 (hm1.kept ((okS.step h2).1 _ (hok1.2 _ hokr))) ((okS.step h2).2 _ (hok1.2 _ hokr)) (HT1.out.2.kept (Stp.lowF h2 hs1') (fun _ h => h) (RdS.kept mm' (Stp.lowF h2 hs1') (fun _ h => h))) hwl hlel hcc.2.1 hv h3)
          have HAk := hid (fun (a b : Nat) (ha : a < 256) (hb : b < 256) (D2 : Option Nat) (w2 : World) (L2 : List Fv) (h : RF bn l i at_ (some ⟨g0, 0, none⟩) fc w2 L2 D2) (h2 : (noF L2).length < 1099511627776) (f t : Nat) (x : ByteArray) => rf_ask h h2 a b f t ha hb x)
          have HBo := hid (fun (a b : Nat) (W : World) (ha : a < 256) (hb : b < 256) => bothJ a b W ha hb)
          have HLab := hid hlabf
          have hbw : bn < w.heap.size := hbn
          clear hits hLA hcv hs1 hlt hjl hba hsa hok1 hlo1 hE hT hX hs1' hstr hsr hmr hokr hlow hcl hE1 hm1 hlabf HW HM HB HLb hwt hwl
          by_cases h1 : k = 1
          · rw [if_pos h1] at hnx hne
            have g1 : ((k : Int) == 1) = true := by rw [h1]; rfl
            have hnj := jnL_lt (rlX l (E j) (exMk ek ex en eal ef et)) u
            have HLb1 := hid (HLab.out u hu)
            rw [HLb1.out] at hnx hne
            have hBX : (noF (M j ++ fvX l (flA l) (E j) u (exMk ek ex en eal ef et))).length < 1099511627776 := by rw [hnx] at hBj; (try simp only [List.append_assoc] at hBj); rw [← List.append_assoc] at hBj; exact Nat.lt_of_le_of_lt (noF_le_app _ _) hBj
            have HE := hid (HEf.out u hu (wr.alloc (.cells #[.int .i64 (k : Int), .string x, .int .i64 (a : Int), .int .i64 (lb : Int), .bool op, .int .i64 (ek : Int), .string ex, .int .i64 (en : Int), .slice ep eal.length ec, .int .i64 (ef : Int), .int .i64 (et : Int), .slice p1 th.length c1, .slice p2 el.length c2, .int .i64 (f : Int), .int .i64 (t : Int)] 111)) HS1.out (Below.refl _ _) hBX)
            have HJ := hid (fun W => HBo.out (rlX l (E j) (exMk ek ex en eal ef et)) u W hrl hu)
            have HNX := hid hnx
            have HNE := hid hne
            have HBX := hid hBX
            have g4 : ((k : Int) == 4) = false := by simp; omega

            clear h1 hnx hne hBj
            generalize rlX l (E j) (exMk ek ex en eal ef et) = rl at *
            generalize fvX l (flA l) (E j) u (exMk ek ex en eal ef et) = X at *
            generalize jnL rl u = aa at *

            cases op with
            | true =>
              have hop : opF aa aa f t x = [] := opF_same aa f t x
              rw [if_pos rfl] at HNX HNE
              go_wp2_with (first
                | (go_at_call 74; refine Calls.mono HE.out ?_; rintro e w2 ⟨rfl, D2, hs2, hst2q⟩)
                | (go_at_call 46; refine Calls.mono (HJ.out _) ?_; rintro e w3 ⟨rfl, hb3⟩; have hst3q := hst2q.trans (Stp.below (gp := bn) (D := D2) hb3); have hs3 := hs2.below hb3; have z0 := (okS_cell hst3q HFR.out 0).trans q0; have z1 := (okS_cell hst3q HFR.out 1).trans q1; have z3 := (okS_cell hst3q HFR.out 3).trans q3; have z4 := (okS_cell hst3q HFR.out 4).trans q4; have z5 := (okS_cell hst3q HFR.out 5).trans q5; have z6 := (okS_cell hst3q HFR.out 6).trans q6; have z7 := (okS_cell hst3q HFR.out 7).trans q7; have z8 := (okS_cell hst3q HFR.out 8).trans q8; have z9 := (okS_cell hst3q HFR.out 9).trans q9; have z10 := (okS_cell hst3q HFR.out 10).trans q10; have z11 := (okS_cell hst3q HFR.out 11).trans q11; have z12 := (okS_cell hst3q HFR.out 12).trans q12; have z13 := (okS_cell hst3q HFR.out 13).trans q13; have z14 := (okS_cell hst3q HFR.out 14).trans q14; have hm3 := HMP.out.1.kept ((okS.step hst3q).1 _ HMP.out.2); have hok3 := (okS.step hst3q (B := 0)).2 _ HMP.out.2; have hst3 := HST.out.trans hst3q; have HC := hid (HAk.out aa aa hnj hnj D2 w3 _ hs3 HBX.out f t x))

                | (go_at_call 75; refine Calls.mono HC.out ?_; rintro e w4 ⟨rfl, D4, hs4, hst4⟩; have okk := okS.step hst4 (B := 0); have ok4 := okk.2 _ hok3; have hm4 := hm3.kept (okk.1 _ hok3); have y1 := (okS_cell hst4 ((okS.step hst3q (B := 0)).2 _ HFR.out) 1).trans z1; obtain ⟨w5, hrun, hm5, hg5⟩ := mp_put hm4 x aa hnj hxs hcc.2.2.1; have HG := hid (And.intro hm5 hg5); clear hm5 hg5))
              go_roundw
              case rel => exact ⟨j + 1, D4, HL.out, by go_num, by rw [HNX.out]; have h := hs4.grown HG.out.2 hbw ok4.2.2.2; rw [hop, List.append_nil] at h; rw [List.append_nil]; exact h, (hst3.trans hst4).grown HG.out.2 (fun k e => by injection e with e; omega), by rw [HNE.out]; exact HG.out.1, ⟨Nat.zero_le _, Nat.lt_of_lt_of_le ok4.2.1 HG.out.2.size, ok4.2.2⟩⟩
              case measure => have := HL.out; simp [upN, intOf]; omega
            | false =>
              rw [if_neg (by simp)] at HNX HNE
              go_wp2_with (first
                | (go_at_call 74; refine Calls.mono HE.out ?_; rintro e w2 ⟨rfl, D2, hs2, hst2q⟩)
                | (go_at_call 46; refine Calls.mono (HJ.out _) ?_; rintro e w3 ⟨rfl, hb3⟩; have hst3q := hst2q.trans (Stp.below (gp := bn) (D := D2) hb3); have hs3 := hs2.below hb3; have z0 := (okS_cell hst3q HFR.out 0).trans q0; have z1 := (okS_cell hst3q HFR.out 1).trans q1; have z3 := (okS_cell hst3q HFR.out 3).trans q3; have z4 := (okS_cell hst3q HFR.out 4).trans q4; have z5 := (okS_cell hst3q HFR.out 5).trans q5; have z6 := (okS_cell hst3q HFR.out 6).trans q6; have z7 := (okS_cell hst3q HFR.out 7).trans q7; have z8 := (okS_cell hst3q HFR.out 8).trans q8; have z9 := (okS_cell hst3q HFR.out 9).trans q9; have z10 := (okS_cell hst3q HFR.out 10).trans q10; have z11 := (okS_cell hst3q HFR.out 11).trans q11; have z12 := (okS_cell hst3q HFR.out 12).trans q12; have z13 := (okS_cell hst3q HFR.out 13).trans q13; have z14 := (okS_cell hst3q HFR.out 14).trans q14; have hm3 := HMP.out.1.kept ((okS.step hst3q).1 _ HMP.out.2); have hok3 := (okS.step hst3q (B := 0)).2 _ HMP.out.2; have hst3 := HST.out.trans hst3q; have HC := hid (HAk.out aa lb hnj hlb0 D2 w3 _ hs3 HBX.out f t x))

                | (go_at_call 75; refine Calls.mono HC.out ?_; rintro e w4 ⟨rfl, D4, hs4, hst4⟩; have okk := okS.step hst4 (B := 0); have ok4 := okk.2 _ hok3; have hm4 := hm3.kept (okk.1 _ hok3); have y1 := (okS_cell hst4 ((okS.step hst3q (B := 0)).2 _ HFR.out) 1).trans z1; obtain ⟨w5, hrun, hm5, hg5⟩ := mp_put hm4 x lb hlb0 hxs hcc.2.2.1; have HG := hid (And.intro hm5 hg5); clear hm5 hg5))
              go_roundw
              case rel => exact ⟨j + 1, D4, HL.out, by go_num, by rw [HNX.out]; rw [← List.append_assoc]; exact hs4.grown HG.out.2 hbw ok4.2.2.2, (hst3.trans hst4).grown HG.out.2 (fun k e => by injection e with e; omega), by rw [HNE.out]; exact HG.out.1, ⟨Nat.zero_le _, Nat.lt_of_lt_of_le ok4.2.1 HG.out.2.size, ok4.2.2⟩⟩
              case measure => have := HL.out; simp [upN, intOf]; omega
          · rw [if_neg h1] at hnx hne
            have g1 : ((k : Int) == 1) = false := by simp; omega
            by_cases h2 : k = 2
            · rw [if_pos h2] at hnx
              have g2 : ((k : Int) == 2) = true := by rw [h2]; rfl
              have hxn := hk2 h2
              have hnj := jnL_lt (rlX l (E j) (exMk ek ex en eal ef et)) u
              have HLb1 := hid (HLab.out u hu)
              rw [HLb1.out] at hnx
              have hBX : (noF (M j ++ fvX l (flA l) (E j) u (exMk ek ex en eal ef et))).length < 1099511627776 := by rw [hnx] at hBj; (try simp only [List.append_assoc] at hBj); rw [← List.append_assoc] at hBj; exact Nat.lt_of_le_of_lt (noF_le_app _ _) hBj
              have HE := hid (HEf.out u hu (wr.alloc (.cells #[.int .i64 (k : Int), .string x, .int .i64 (a : Int), .int .i64 (lb : Int), .bool op, .int .i64 (ek : Int), .string ex, .int .i64 (en : Int), .slice ep eal.length ec, .int .i64 (ef : Int), .int .i64 (et : Int), .slice p1 th.length c1, .slice p2 el.length c2, .int .i64 (f : Int), .int .i64 (t : Int)] 111)) HS1.out (Below.refl _ _) hBX)
              have HJ := hid (fun W => HBo.out (rlX l (E j) (exMk ek ex en eal ef et)) u W hrl hu)
              have HNX := hid hnx
              have HNE := hid hne
              have HBX := hid hBX
              have g4 : ((k : Int) == 4) = false := by simp; omega

              have hen : envN (E j) x < 256 := HMP.out.1.lt x hxn
              clear h1 h2 hnx hne hBj
              generalize rlX l (E j) (exMk ek ex en eal ef et) = rl at *
              generalize fvX l (flA l) (E j) u (exMk ek ex en eal ef et) = X at *
              generalize jnL rl u = aa at *

              have HEN := hid (fun (W : World) (h : MpL W w.heap.size (E j) (E j).length) => mp_look h x hxs hxn)
              generalize envN (E j) x = vx at *
              go_wp2_with (first
                | (go_at_call 74; refine Calls.mono HE.out ?_; rintro e w2 ⟨rfl, D2, hs2, hst2q⟩)
                | (go_at_call 46; refine Calls.mono (HJ.out _) ?_; rintro e w3 ⟨rfl, hb3⟩; have hst3q := hst2q.trans (Stp.below (gp := bn) (D := D2) hb3); have hs3 := hs2.below hb3; have z0 := (okS_cell hst3q HFR.out 0).trans q0; have z1 := (okS_cell hst3q HFR.out 1).trans q1; have z3 := (okS_cell hst3q HFR.out 3).trans q3; have z4 := (okS_cell hst3q HFR.out 4).trans q4; have z5 := (okS_cell hst3q HFR.out 5).trans q5; have z6 := (okS_cell hst3q HFR.out 6).trans q6; have z7 := (okS_cell hst3q HFR.out 7).trans q7; have z8 := (okS_cell hst3q HFR.out 8).trans q8; have z9 := (okS_cell hst3q HFR.out 9).trans q9; have z10 := (okS_cell hst3q HFR.out 10).trans q10; have z11 := (okS_cell hst3q HFR.out 11).trans q11; have z12 := (okS_cell hst3q HFR.out 12).trans q12; have z13 := (okS_cell hst3q HFR.out 13).trans q13; have z14 := (okS_cell hst3q HFR.out 14).trans q14; have hm3 := HMP.out.1.kept ((okS.step hst3q).1 _ HMP.out.2); have hok3 := (okS.step hst3q (B := 0)).2 _ HMP.out.2; have hst3 := HST.out.trans hst3q; have hlk := HEN.out w3 hm3; have HC := hid (HAk.out aa vx hnj hen D2 w3 _ hs3 HBX.out f t x))

                | (go_at_call 75; refine Calls.mono HC.out ?_; rintro e w4 ⟨rfl, D4, hs4, hst4⟩; have okk := okS.step hst4 (B := 0); have ok4 := okk.2 _ hok3; have hm4 := hm3.kept (okk.1 _ hok3)))
              go_roundw
              case rel => exact ⟨j + 1, D4, HL.out, by go_num, by rw [HNX.out]; rw [← List.append_assoc]; exact hs4, hst3.trans hst4, by rw [HNE.out]; exact hm4, ok4⟩
              case measure => have := HL.out; simp [upN, intOf]; omega
            · rw [if_neg h2] at hnx
              have g2 : ((k : Int) == 2) = false := by simp; omega
              by_cases h5 : k = 5
              · rw [if_pos h5] at hnx
                have g5 : ((k : Int) == 5) = true := by rw [h5]; rfl
                have hnj := jnL_lt (rlX l (E j) (exMk ek ex en eal ef et)) u
                have HLb1 := hid (HLab.out u hu)
                rw [HLb1.out] at hnx
                have hBX : (noF (M j ++ fvX l (flA l) (E j) u (exMk ek ex en eal ef et))).length < 1099511627776 := by rw [hnx] at hBj; (try simp only [List.append_assoc] at hBj); rw [← List.append_assoc] at hBj; exact Nat.lt_of_le_of_lt (noF_le_app _ _) hBj
                have HE := hid (HEf.out u hu (wr.alloc (.cells #[.int .i64 (k : Int), .string x, .int .i64 (a : Int), .int .i64 (lb : Int), .bool op, .int .i64 (ek : Int), .string ex, .int .i64 (en : Int), .slice ep eal.length ec, .int .i64 (ef : Int), .int .i64 (et : Int), .slice p1 th.length c1, .slice p2 el.length c2, .int .i64 (f : Int), .int .i64 (t : Int)] 111)) HS1.out (Below.refl _ _) hBX)
                have HJ := hid (fun W => HBo.out (rlX l (E j) (exMk ek ex en eal ef et)) u W hrl hu)
                have HNX := hid hnx
                have HNE := hid hne
                have HBX := hid hBX
                have g4 : ((k : Int) == 4) = false := by simp; omega

                clear h1 h2 h5 hnx hne hBj
                generalize rlX l (E j) (exMk ek ex en eal ef et) = rl at *
                generalize fvX l (flA l) (E j) u (exMk ek ex en eal ef et) = X at *
                generalize jnL rl u = aa at *

                have HFi := hid (fun (W : World) (L2 : List Fv) (D3 : Option Nat) (h : RF bn l i at_ (some ⟨g0, 0, none⟩) fc W L2 D3) => rn_find l _ 1 x W (fun k => k < bn) (fun k hk => Nat.lt_trans hk h.lt.1) h.cells.2.2.2.2.2.2.1)
                rcases fnd_casesF l 1 x with hFd | ⟨kf, hFd, hkf⟩
                · rw [hFd] at HFi
                  have HNX2 : Hid (M (j + 1) = M j ++ X) := by have h := HNX.out; rw [ch_none hFd, List.append_nil] at h; exact h
                  clear HNX hFd
                  have HNX := HNX2
                  go_wp2_with (first
                    | (go_at_call 74; refine Calls.mono HE.out ?_; rintro e w2 ⟨rfl, D2, hs2, hst2q⟩)
                    | (go_at_call 46; refine Calls.mono (HJ.out _) ?_; rintro e w3 ⟨rfl, hb3⟩; have hst3q := hst2q.trans (Stp.below (gp := bn) (D := D2) hb3); have hs3 := hs2.below hb3; have z0 := (okS_cell hst3q HFR.out 0).trans q0; have z1 := (okS_cell hst3q HFR.out 1).trans q1; have z3 := (okS_cell hst3q HFR.out 3).trans q3; have z4 := (okS_cell hst3q HFR.out 4).trans q4; have z5 := (okS_cell hst3q HFR.out 5).trans q5; have z6 := (okS_cell hst3q HFR.out 6).trans q6; have z7 := (okS_cell hst3q HFR.out 7).trans q7; have z8 := (okS_cell hst3q HFR.out 8).trans q8; have z9 := (okS_cell hst3q HFR.out 9).trans q9; have z10 := (okS_cell hst3q HFR.out 10).trans q10; have z11 := (okS_cell hst3q HFR.out 11).trans q11; have z12 := (okS_cell hst3q HFR.out 12).trans q12; have z13 := (okS_cell hst3q HFR.out 13).trans q13; have z14 := (okS_cell hst3q HFR.out 14).trans q14; have hm3 := HMP.out.1.kept ((okS.step hst3q).1 _ HMP.out.2); have hok3 := (okS.step hst3q (B := 0)).2 _ HMP.out.2; have hst3 := HST.out.trans hst3q; have w0c := hs3.cells.1; have hdr := Below.drew (Below.refl w3.heap.size w3); have hs3d := hs3.below hdr; have hst3d := hst3q.trans (Stp.below (gp := bn) (D := D2) hdr); have HF := hid (HFi.out _ _ _ hs3d))
          )
                  go_region_held3 (fun w' => w'.cell? ⟨bn, 0, none⟩ = some (.slice (some ⟨g0, 0, none⟩) l.length fc) ∧ w'.cell? ⟨wr.heap.size, 1, none⟩ = some (.string x)) (first | go_keep | (with_reducible exact ⟨r0, r1⟩))
                    (first
                      | (go_at_call 13; refine Calls.mono HF.out ?_; rintro e w5 ⟨rfl, hb5⟩; have hs5 := hs3d.below hb5; have hst5q := hst3d.trans (Stp.below (gp := bn) (D := D2) hb5); have r0 := hs5.cells.1; have r1 := (okS_cell hst5q HFR.out 1).trans q1))
                  clear r0 r1
                  go_wp2
                  go_roundw
                  case rel => exact ⟨j + 1, D2, HL.out, by go_num, by rw [HNX.out]; exact hs5, HST.out.trans hst5q, by rw [HNE.out]; exact HMP.out.1.kept ((okS.step hst5q).1 _ HMP.out.2), (okS.step hst5q (B := 0)).2 _ HMP.out.2⟩
                  case measure => have := HL.out; simp [upN, intOf]; omega
                · obtain ⟨ec1, hec⟩ : ∃ e, l[kf]? = some e := ⟨_, List.getElem?_eq_getElem hkf⟩
                  rw [hFd] at HFi
                  have HNX2 : Hid (M (j + 1) = M j ++ (X ++ opF aa ec1.2.l f t x)) := by have h := HNX.out; rw [ch_some hFd hec] at h; exact h
                  have hcl := (hlb ec1 (List.mem_of_getElem? hec)).1
                  have HCe := hid (fun (W : World) (L2 : List Fv) (D3 : Option Nat) (h : RF bn l i at_ (some ⟨g0, 0, none⟩) fc W L2 D3) => show W.cell? ⟨g0, kf * 10 + 2, none⟩ = some (.int .i64 (ec1.2.l : Int)) by
                    obtain ⟨g', vI', hq', _, hcv', hI'⟩ := RdF.itemF h.cells.2.2.2.2.2.2.1 hec
                    obtain ⟨_, _, _, _, _, _, _, _, rfl, _⟩ := hI'
                    injection hq' with hq'
                    injection hq' with hq'
                    subst hq'
                    exact hcv'.get 2 _ rfl)
                  have gk : (0 : Int) ≤ (kf : Int) := by omega
                  have gk1 : (kf : Int) < (l.length : Int) := by omega
                  have hkb : kf < 1099511627776 := by omega
                  have gge : ((kf : Int) ≥ 0) := by omega
                  generalize ec1.2.l = lc at *
                  clear HNX hFd hec hkf
                  have HNX := HNX2
                  go_wp2_with (first
                    | (go_at_call 74; refine Calls.mono HE.out ?_; rintro e w2 ⟨rfl, D2, hs2, hst2q⟩)
                    | (go_at_call 46; refine Calls.mono (HJ.out _) ?_; rintro e w3 ⟨rfl, hb3⟩; have hst3q := hst2q.trans (Stp.below (gp := bn) (D := D2) hb3); have hs3 := hs2.below hb3; have z0 := (okS_cell hst3q HFR.out 0).trans q0; have z1 := (okS_cell hst3q HFR.out 1).trans q1; have z3 := (okS_cell hst3q HFR.out 3).trans q3; have z4 := (okS_cell hst3q HFR.out 4).trans q4; have z5 := (okS_cell hst3q HFR.out 5).trans q5; have z6 := (okS_cell hst3q HFR.out 6).trans q6; have z7 := (okS_cell hst3q HFR.out 7).trans q7; have z8 := (okS_cell hst3q HFR.out 8).trans q8; have z9 := (okS_cell hst3q HFR.out 9).trans q9; have z10 := (okS_cell hst3q HFR.out 10).trans q10; have z11 := (okS_cell hst3q HFR.out 11).trans q11; have z12 := (okS_cell hst3q HFR.out 12).trans q12; have z13 := (okS_cell hst3q HFR.out 13).trans q13; have z14 := (okS_cell hst3q HFR.out 14).trans q14; have hm3 := HMP.out.1.kept ((okS.step hst3q).1 _ HMP.out.2); have hok3 := (okS.step hst3q (B := 0)).2 _ HMP.out.2; have hst3 := HST.out.trans hst3q; have w0c := hs3.cells.1; have hdr := Below.drew (Below.refl w3.heap.size w3); have hs3d := hs3.below hdr; have hst3d := hst3q.trans (Stp.below (gp := bn) (D := D2) hdr); have HF := hid (HFi.out _ _ _ hs3d))
          )
                  go_region_held3 (fun w' => w'.cell? ⟨bn, 0, none⟩ = some (.slice (some ⟨g0, 0, none⟩) l.length fc) ∧ w'.cell? ⟨wr.heap.size, 1, none⟩ = some (.string x)) (first | go_keep | (with_reducible exact ⟨r0, r1⟩))
                    (first
                      | (go_at_call 13; refine Calls.mono HF.out ?_; rintro e w5 ⟨rfl, hb5⟩; have hs5 := hs3d.below hb5; have hst5q := hst3d.trans (Stp.below (gp := bn) (D := D2) hb5); have r0 := hs5.cells.1; have r1 := (okS_cell hst5q HFR.out 1).trans q1))
                  have r13 := (okS_cell hst5q HFR.out 13).trans q13
                  have r14 := (okS_cell hst5q HFR.out 14).trans q14
                  have rc := HCe.out _ _ _ hs5
                  have hdr5 := Below.drew (Below.refl w5.heap.size w5)
                  have hs5d := hs5.below hdr5
                  have hst5d := hst5q.trans (Stp.below (gp := bn) (D := D2) hdr5)
                  have HC := hid (HAk.out aa lc hnj hcl D2 w5.drew _ hs5d HBX.out f t x)
                  clear w0c z0 z1 z3 z4 z5 z6 z7 z8 z9 z10 z11 z12 z13 z14
                  go_wp2
                  go_region_held3 (fun w' => w'.cell? ⟨bn, 0, none⟩ = some (.slice (some ⟨g0, 0, none⟩) l.length fc) ∧ w'.cell? ⟨g0, kf * 10 + 2, none⟩ = some (.int .i64 (lc : Int)) ∧ w'.cell? ⟨wr.heap.size, 1, none⟩ = some (.string x) ∧ w'.cell? ⟨wr.heap.size, 13, none⟩ = some (.int .i64 (f : Int)) ∧ w'.cell? ⟨wr.heap.size, 14, none⟩ = some (.int .i64 (t : Int))) (first | go_keep | (with_reducible exact ⟨t0, tc, t1, t13, t14⟩))
                    (first
                      | (go_at_call 75; refine Calls.mono HC.out ?_; rintro e w6 ⟨rfl, D6, hs6, hst6⟩; have hst6q := hst5d.trans hst6; have t0 := hs6.cells.1; have tc := HCe.out _ _ _ hs6; have t1 := (okS_cell hst6q HFR.out 1).trans q1; have t13 := (okS_cell hst6q HFR.out 13).trans q13; have t14 := (okS_cell hst6q HFR.out 14).trans q14))
                  clear r0 r1 r13 r14 rc t0 tc t1 t13 t14
                  go_wp2
                  go_roundw
                  case rel => exact ⟨j + 1, D6, HL.out, by go_num, by rw [HNX.out]; rw [← List.append_assoc]; exact hs6, HST.out.trans hst6q, by rw [HNE.out]; exact HMP.out.1.kept ((okS.step hst6q).1 _ HMP.out.2), (okS.step hst6q (B := 0)).2 _ HMP.out.2⟩
                  case measure => have := HL.out; simp [upN, intOf]; omega
              · rw [if_neg h5] at hnx
                have g5 : ((k : Int) == 5) = false := by simp; omega
                by_cases h6 : k = 6
                · rw [if_pos h6] at hnx
                  have g6 : ((k : Int) == 6) = true := by rw [h6]; rfl
                  have hnj := jnL_lt (rlX l (E j) (exMk ek ex en eal ef et)) u
                  have HLb1 := hid (HLab.out u hu)
                  rw [HLb1.out] at hnx
                  have hBX : (noF (M j ++ fvX l (flA l) (E j) u (exMk ek ex en eal ef et))).length < 1099511627776 := by rw [hnx] at hBj; (try simp only [List.append_assoc] at hBj); rw [← List.append_assoc] at hBj; exact Nat.lt_of_le_of_lt (noF_le_app _ _) hBj
                  have HE := hid (HEf.out u hu (wr.alloc (.cells #[.int .i64 (k : Int), .string x, .int .i64 (a : Int), .int .i64 (lb : Int), .bool op, .int .i64 (ek : Int), .string ex, .int .i64 (en : Int), .slice ep eal.length ec, .int .i64 (ef : Int), .int .i64 (et : Int), .slice p1 th.length c1, .slice p2 el.length c2, .int .i64 (f : Int), .int .i64 (t : Int)] 111)) HS1.out (Below.refl _ _) hBX)
                  have HJ := hid (fun W => HBo.out (rlX l (E j) (exMk ek ex en eal ef et)) u W hrl hu)
                  have HNX := hid hnx
                  have HNE := hid hne
                  have HBX := hid hBX
                  have g4 : ((k : Int) == 4) = false := by simp; omega

                  clear h1 h2 h5 h6 hnx hne hBj
                  generalize rlX l (E j) (exMk ek ex en eal ef et) = rl at *
                  generalize fvX l (flA l) (E j) u (exMk ek ex en eal ef et) = X at *
                  generalize jnL rl u = aa at *

                  have gi : (0 : Int) ≤ (i : Int) := by omega
                  have gi1 : (i : Int) < (l.length : Int) := by omega
                  have hib2 : i < 1099511627776 := by omega
                  go_wp2_with (first
                    | (go_at_call 74; refine Calls.mono HE.out ?_; rintro e w2 ⟨rfl, D2, hs2, hst2q⟩)
                    | (go_at_call 46; refine Calls.mono (HJ.out _) ?_; rintro e w3 ⟨rfl, hb3⟩; have hst3q := hst2q.trans (Stp.below (gp := bn) (D := D2) hb3); have hs3 := hs2.below hb3; have z0 := (okS_cell hst3q HFR.out 0).trans q0; have z1 := (okS_cell hst3q HFR.out 1).trans q1; have z3 := (okS_cell hst3q HFR.out 3).trans q3; have z4 := (okS_cell hst3q HFR.out 4).trans q4; have z5 := (okS_cell hst3q HFR.out 5).trans q5; have z6 := (okS_cell hst3q HFR.out 6).trans q6; have z7 := (okS_cell hst3q HFR.out 7).trans q7; have z8 := (okS_cell hst3q HFR.out 8).trans q8; have z9 := (okS_cell hst3q HFR.out 9).trans q9; have z10 := (okS_cell hst3q HFR.out 10).trans q10; have z11 := (okS_cell hst3q HFR.out 11).trans q11; have z12 := (okS_cell hst3q HFR.out 12).trans q12; have z13 := (okS_cell hst3q HFR.out 13).trans q13; have z14 := (okS_cell hst3q HFR.out 14).trans q14; have hm3 := HMP.out.1.kept ((okS.step hst3q).1 _ HMP.out.2); have hok3 := (okS.step hst3q (B := 0)).2 _ HMP.out.2; have hst3 := HST.out.trans hst3q; have w0c := hs3.cells.1; have w1c := hs3.cells.2.1; have wic := HIt.out D2 w3 hst3; have hdr := Below.drew (Below.refl w3.heap.size w3); have hs3d := hs3.below hdr; have hst3d := hst3q.trans (Stp.below (gp := bn) (D := D2) hdr); have HC := hid (HAk.out aa bk hnj hbkl D2 w3.drew _ hs3d HBX.out f t x))
          )
                  go_region_held3 (fun w' => w'.cell? ⟨bn, 0, none⟩ = some (.slice (some ⟨g0, 0, none⟩) l.length fc) ∧ w'.cell? ⟨bn, 1, none⟩ = some (.int .i64 (i : Int)) ∧ w'.cell? ⟨g0, i * 10 + 2, none⟩ = some (.int .i64 (bk : Int)) ∧ w'.cell? ⟨wr.heap.size, 1, none⟩ = some (.string x) ∧ w'.cell? ⟨wr.heap.size, 13, none⟩ = some (.int .i64 (f : Int)) ∧ w'.cell? ⟨wr.heap.size, 14, none⟩ = some (.int .i64 (t : Int))) (first | go_keep | (with_reducible exact ⟨t0, tb, tc, t1, t13, t14⟩))
                    (first
                      | (go_at_call 75; refine Calls.mono HC.out ?_; rintro e w6 ⟨rfl, D6, hs6, hst6⟩; have hst6q := hst3d.trans hst6; have t0 := hs6.cells.1; have tb := hs6.cells.2.1; have tc := HIt.out D6 w6 (HST.out.trans hst6q); have t1 := (okS_cell hst6q HFR.out 1).trans q1; have t13 := (okS_cell hst6q HFR.out 13).trans q13; have t14 := (okS_cell hst6q HFR.out 14).trans q14))
                  clear t0 tb tc t1 t13 t14
                  go_wp2
                  go_roundw
                  case rel => exact ⟨j + 1, D6, HL.out, by go_num, by rw [HNX.out]; rw [← List.append_assoc]; exact hs6, HST.out.trans hst6q, by rw [HNE.out]; exact HMP.out.1.kept ((okS.step hst6q).1 _ HMP.out.2), (okS.step hst6q (B := 0)).2 _ HMP.out.2⟩
                  case measure => have := HL.out; simp [upN, intOf]; omega
                · rw [if_neg h6] at hnx
                  have g6 : ((k : Int) == 6) = false := by simp; omega
                  by_cases h3 : k = 3
                  · rw [if_neg (by omega), if_pos h3] at hnx
                    have g3 : ((k : Int) == 3) = true := by rw [h3]; rfl
                    have hnj := jnL_lt (rlX l (E j) (exMk ek ex en eal ef et)) u
                    have HLb1 := hid (HLab.out u hu)
                    rw [HLb1.out] at hnx
                    have hBX : (noF (M j ++ fvX l (flA l) (E j) u (exMk ek ex en eal ef et))).length < 1099511627776 := by rw [hnx] at hBj; (try simp only [List.append_assoc] at hBj); rw [← List.append_assoc] at hBj; exact Nat.lt_of_le_of_lt (noF_le_app _ _) hBj
                    have HE := hid (HEf.out u hu (wr.alloc (.cells #[.int .i64 (k : Int), .string x, .int .i64 (a : Int), .int .i64 (lb : Int), .bool op, .int .i64 (ek : Int), .string ex, .int .i64 (en : Int), .slice ep eal.length ec, .int .i64 (ef : Int), .int .i64 (et : Int), .slice p1 th.length c1, .slice p2 el.length c2, .int .i64 (f : Int), .int .i64 (t : Int)] 111)) HS1.out (Below.refl _ _) hBX)
                    have HJ := hid (fun W => HBo.out (rlX l (E j) (exMk ek ex en eal ef et)) u W hrl hu)
                    have HNX := hid hnx
                    have HNE := hid hne
                    have HBX := hid hBX
                    have g4 : ((k : Int) == 4) = false := by simp; omega

                    have hB2 : (noF (M j ++ fvX l (flA l) (E j) u (exMk ek ex en eal ef et) ++ fvB l (flA l) bk (jnL (rlX l (E j) (exMk ek ex en eal ef et)) u) (E j) th)).length < 1099511627776 := by rw [hnx] at hBj; rw [← List.append_assoc, ← List.append_assoc] at hBj; exact Nat.lt_of_le_of_lt (noF_le_app _ _) hBj
                    have hB3 : (noF (M j ++ fvX l (flA l) (E j) u (exMk ek ex en eal ef et) ++ fvB l (flA l) bk (jnL (rlX l (E j) (exMk ek ex en eal ef et)) u) (E j) th ++ fvB l (flA l) bk (jnL (rlX l (E j) (exMk ek ex en eal ef et)) u) (E j) el)).length < 1099511627776 := by rw [hnx] at hBj; rw [← List.append_assoc, ← List.append_assoc] at hBj; exact hBj
                    clear h1 h2 h5 h6 h3 hnx hne hBj
                    generalize rlX l (E j) (exMk ek ex en eal ef et) = rl at *
                    generalize fvX l (flA l) (E j) u (exMk ek ex en eal ef et) = X at *
                    generalize jnL rl u = aa at *

                    have F1 : Hid (1 = 1) := rfl
                    go_wp2_with (first
                      | (go_at_call 74; refine Calls.mono HE.out ?_; rintro e w2 ⟨rfl, D2, hs2, hst2q⟩)
                      | (go_at_call 46; refine Calls.mono (HJ.out _) ?_; rintro e w3 ⟨rfl, hb3⟩; have hst3q := hst2q.trans (Stp.below (gp := bn) (D := D2) hb3); have hs3 := hs2.below hb3; have z0 := (okS_cell hst3q HFR.out 0).trans q0; have z1 := (okS_cell hst3q HFR.out 1).trans q1; have z3 := (okS_cell hst3q HFR.out 3).trans q3; have z4 := (okS_cell hst3q HFR.out 4).trans q4; have z5 := (okS_cell hst3q HFR.out 5).trans q5; have z6 := (okS_cell hst3q HFR.out 6).trans q6; have z7 := (okS_cell hst3q HFR.out 7).trans q7; have z8 := (okS_cell hst3q HFR.out 8).trans q8; have z9 := (okS_cell hst3q HFR.out 9).trans q9; have z10 := (okS_cell hst3q HFR.out 10).trans q10; have z11 := (okS_cell hst3q HFR.out 11).trans q11; have z12 := (okS_cell hst3q HFR.out 12).trans q12; have z13 := (okS_cell hst3q HFR.out 13).trans q13; have z14 := (okS_cell hst3q HFR.out 14).trans q14; have hm3 := HMP.out.1.kept ((okS.step hst3q).1 _ HMP.out.2); have hok3 := (okS.step hst3q (B := 0)).2 _ HMP.out.2; have hst3 := HST.out.trans hst3q; have HC := hid (HSB.out D2 w3 _ aa hnj hs3 hst3q hB2))

                      | (go_at_call 45; have ff := F1; clear ff F1; refine Calls.mono HC.out ?_; rintro e w4 ⟨rfl, D4, hs4, hst4⟩; have hst4q := hst3q.trans hst4; have y12 := (okS_cell hst4q HFR.out 12).trans q12; have HD := hid (HSB2.out D4 w4 _ aa hnj hs4 hst4q hB3))
                      | (go_at_call 45; refine Calls.mono HD.out ?_; rintro e w5 ⟨rfl, D5, hs5, hst5⟩; have hst5q := hst4q.trans hst5))
                    go_roundw
                    case rel => exact ⟨j + 1, D5, HL.out, by go_num, by rw [HNX.out]; rw [← List.append_assoc, ← List.append_assoc]; exact hs5, HST.out.trans hst5q, by rw [HNE.out]; exact HMP.out.1.kept ((okS.step hst5q).1 _ HMP.out.2), (okS.step hst5q (B := 0)).2 _ HMP.out.2⟩
                    case measure => have := HL.out; simp [upN, intOf]; omega
                  · have g3 : ((k : Int) == 3) = false := by simp; omega
                    by_cases h4 : k = 4
                    · rw [if_neg (by omega), if_neg h3, if_pos h4] at hnx
                      have g4 : ((k : Int) == 4) = true := by rw [h4]; rfl
                      have hel := hkl.resolve_left h3
                      have hnj := jnL_lt (rlX l (E j) (exMk ek ex en eal ef et)) u
                      have HLb1 := hid (HLab.out u hu)
                      rw [HLb1.out] at hnx
                      have hBX : (noF (M j ++ fvX l (flA l) (E j) (jnL (rlX l (E j) (exMk ek ex en eal ef et)) u) (exMk ek ex en eal ef et))).length < 1099511627776 := by rw [hnx, ← List.append_assoc] at hBj; exact Nat.lt_of_le_of_lt (noF_le_app _ _) hBj
                      have HM0 := hid (HMe.out hcc.2.2.2)
                      have HJ := hid (fun W => HBo.out (rlX l (E j) (exMk ek ex en eal ef et)) u W hrl hu)
                      have HJ2 := hid (fun W => HBo.out (rlX l (E j) (exMk ek ex en eal ef et)) (jnL (rlX l (E j) (exMk ek ex en eal ef et)) u) W hrl hnj)
                      rw [jnL_twice u hrl] at HJ2
                      have HE := hid (fun W h1 h2 => HEf.out (jnL (rlX l (E j) (exMk ek ex en eal ef et)) u) hnj W h1 h2 hBX)
                      have hB2 : (noF (M j ++ fvX l (flA l) (E j) (jnL (rlX l (E j) (exMk ek ex en eal ef et)) u) (exMk ek ex en eal ef et) ++ fvB l (flA l) bk (jnL (rlX l (E j) (exMk ek ex en eal ef et)) u) (E j) th)).length < 1099511627776 := by rw [hnx, ← List.append_assoc] at hBj; exact hBj
                      have HNX := hid hnx
                      have HNE := hid hne
                      have HEL : Hid (∀ v L2, L2 ++ fvB l (flA l) bk v (E j) el = L2) := fun v L2 => by rw [hel, fvB_nil, List.append_nil]
                      clear h1 h2 h5 h6 h3 h4 hnx hne hBj hel hkl
                      generalize rlX l (E j) (exMk ek ex en eal ef et) = rl at *
                      generalize jnL rl u = aa at *
                      generalize fvX l (flA l) (E j) aa (exMk ek ex en eal ef et) = X at *
                      have F1 : Hid (1 = 1) := rfl
                      have F2 : Hid (2 = 2) := rfl
                      go_wp2_with (first
                        | (go_at_call 73; refine Calls.mono HM0.out ?_; rintro e w1 ⟨rfl, hb1⟩)
                        | (go_at_call 46; have ff := F2; clear ff F2; refine Calls.mono (HJ.out _) ?_; rintro e w1b ⟨rfl, hb1b⟩; have hbS := hb1.trans (hb1b.mono hb1.size); have hsS := HS1.out.below hbS; have hstS : Stp bn D1 D1 (wr.alloc (.cells #[.int .i64 (k : Int), .string x, .int .i64 (a : Int), .int .i64 (lb : Int), .bool op, .int .i64 (ek : Int), .string ex, .int .i64 (en : Int), .slice ep eal.length ec, .int .i64 (ef : Int), .int .i64 (et : Int), .slice p1 th.length c1, .slice p2 el.length c2, .int .i64 (f : Int), .int .i64 (t : Int)] 111)) w1b := Stp.below hbS; have y0 := (okS_cell hstS HFR.out 0).trans q0; have y1 := (okS_cell hstS HFR.out 1).trans q1; have y3 := (okS_cell hstS HFR.out 3).trans q3; have y4 := (okS_cell hstS HFR.out 4).trans q4; have y5 := (okS_cell hstS HFR.out 5).trans q5; have y6 := (okS_cell hstS HFR.out 6).trans q6; have y7 := (okS_cell hstS HFR.out 7).trans q7; have y8 := (okS_cell hstS HFR.out 8).trans q8; have y9 := (okS_cell hstS HFR.out 9).trans q9; have y10 := (okS_cell hstS HFR.out 10).trans q10; have y11 := (okS_cell hstS HFR.out 11).trans q11; have y12 := (okS_cell hstS HFR.out 12).trans q12; have y13 := (okS_cell hstS HFR.out 13).trans q13; have y14 := (okS_cell hstS HFR.out 14).trans q14; have HEx := hid (HE.out w1b hsS hbS))
                        | (go_at_call 74; refine Calls.mono HEx.out ?_; rintro e w2 ⟨rfl, D2, hs2, hst2q⟩)
                        | (go_at_call 46; refine Calls.mono (HJ2.out _) ?_; rintro e w3 ⟨rfl, hb3⟩; have hst3q := (hstS.trans hst2q).trans (Stp.below (gp := bn) (D := D2) hb3); have hs3 := hs2.below hb3; have z0 := (okS_cell hst3q HFR.out 0).trans q0; have z1 := (okS_cell hst3q HFR.out 1).trans q1; have z3 := (okS_cell hst3q HFR.out 3).trans q3; have z4 := (okS_cell hst3q HFR.out 4).trans q4; have z5 := (okS_cell hst3q HFR.out 5).trans q5; have z6 := (okS_cell hst3q HFR.out 6).trans q6; have z7 := (okS_cell hst3q HFR.out 7).trans q7; have z8 := (okS_cell hst3q HFR.out 8).trans q8; have z9 := (okS_cell hst3q HFR.out 9).trans q9; have z10 := (okS_cell hst3q HFR.out 10).trans q10; have z11 := (okS_cell hst3q HFR.out 11).trans q11; have z12 := (okS_cell hst3q HFR.out 12).trans q12; have z13 := (okS_cell hst3q HFR.out 13).trans q13; have z14 := (okS_cell hst3q HFR.out 14).trans q14; have HC := hid (HSB.out D2 w3 _ aa hnj hs3 hst3q hB2))
                        | (go_at_call 45; have ff := F1; clear ff F1; refine Calls.mono HC.out ?_; rintro e w4 ⟨rfl, D4, hs4, hst4⟩; have hst4q := hst3q.trans hst4; have u12 := (okS_cell hst4q HFR.out 12).trans q12; have HD := hid (HSB2.out D4 w4 _ aa hnj hs4 hst4q (by rw [HEL.out]; exact hB2)))
                        | (go_at_call 45; refine Calls.mono HD.out ?_; rintro e w5 ⟨rfl, D5, hs5, hst5⟩; have hst5q := hst4q.trans hst5))
                      go_roundw
                      case rel => exact ⟨j + 1, D5, HL.out, by go_num, by rw [HNX.out]; rw [← List.append_assoc]; have h := hs5; rw [HEL.out] at h; exact h, HST.out.trans hst5q, by rw [HNE.out]; exact HMP.out.1.kept ((okS.step hst5q).1 _ HMP.out.2), (okS.step hst5q (B := 0)).2 _ HMP.out.2⟩
                      case measure => have := HL.out; simp [upN, intOf]; omega
                    · have hrest : k = 7 ∨ (k = 0 ∨ k = 8) := by omega
                      have hnx2 : (∀ W D2, RF bn l i at_ (some ⟨g0, 0, none⟩) fc W (M j ++ fvX l (flA l) (E j) u (exMk ek ex en eal ef et)) D2 → RF bn l i at_ (some ⟨g0, 0, none⟩) fc W (M (j + 1)) D2) ∧ (noF (M j ++ fvX l (flA l) (E j) u (exMk ek ex en eal ef et))).length < 1099511627776 := by
                        rcases hrest with h7 | h08
                        · rw [if_pos h7] at hnx
                          rw [← hnx]
                          exact ⟨fun _ _ h => h, hBj⟩
                        · rw [if_neg (by omega), if_neg h3, if_neg h4, List.append_nil] at hnx
                          have hz := hkz h08
                          have hzz : fvX l (flA l) (E j) u (exMk ek ex en eal ef et) = [fvSay 0 0 (lbX l (E j) u exZ)] := by rw [hz]; exact fvX_eq l (flA l) (E j) u exZ
                          rw [hzz, hnx]
                          refine ⟨fun _ _ h => h.unsay, ?_⟩
                          rw [noF_sayA, ← hnx]
                          exact hBj
                      have HRF := hid hnx2.1
                      have HE := hid (HEf.out u hu (wr.alloc (.cells #[.int .i64 (k : Int), .string x, .int .i64 (a : Int), .int .i64 (lb : Int), .bool op, .int .i64 (ek : Int), .string ex, .int .i64 (en : Int), .slice ep eal.length ec, .int .i64 (ef : Int), .int .i64 (et : Int), .slice p1 th.length c1, .slice p2 el.length c2, .int .i64 (f : Int), .int .i64 (t : Int)] 111)) HS1.out (Below.refl _ _) hnx2.2)
                      have HJ := hid (fun W => HBo.out (rlX l (E j) (exMk ek ex en eal ef et)) u W hrl hu)
                      have HNE := hid hne
                      have g4 : ((k : Int) == 4) = false := by simp; omega
                      clear h1 h2 h5 h6 h3 h4 hnx hne hBj hnx2 hkz hrest
                      generalize rlX l (E j) (exMk ek ex en eal ef et) = rl at *
                      generalize fvX l (flA l) (E j) u (exMk ek ex en eal ef et) = X at *
                      generalize jnL rl u = aa at *
                      go_wp2_with (first
                        | (go_at_call 74; refine Calls.mono HE.out ?_; rintro e w2 ⟨rfl, D2, hs2, hst2q⟩)
                        | (go_at_call 46; refine Calls.mono (HJ.out _) ?_; rintro e w3 ⟨rfl, hb3⟩; have hst3q := hst2q.trans (Stp.below (gp := bn) (D := D2) hb3); have hs3 := hs2.below hb3; have z0 := (okS_cell hst3q HFR.out 0).trans q0; have z1 := (okS_cell hst3q HFR.out 1).trans q1; have z3 := (okS_cell hst3q HFR.out 3).trans q3; have z4 := (okS_cell hst3q HFR.out 4).trans q4; have z5 := (okS_cell hst3q HFR.out 5).trans q5; have z6 := (okS_cell hst3q HFR.out 6).trans q6; have z7 := (okS_cell hst3q HFR.out 7).trans q7; have z8 := (okS_cell hst3q HFR.out 8).trans q8; have z9 := (okS_cell hst3q HFR.out 9).trans q9; have z10 := (okS_cell hst3q HFR.out 10).trans q10; have z11 := (okS_cell hst3q HFR.out 11).trans q11; have z12 := (okS_cell hst3q HFR.out 12).trans q12; have z13 := (okS_cell hst3q HFR.out 13).trans q13; have z14 := (okS_cell hst3q HFR.out 14).trans q14; have hm3 := HMP.out.1.kept ((okS.step hst3q).1 _ HMP.out.2); have hok3 := (okS.step hst3q (B := 0)).2 _ HMP.out.2; have hst3 := HST.out.trans hst3q; skip)
          )
                      go_roundw
                      case rel => exact ⟨j + 1, D2, HL.out, by go_num, HRF.out _ _ hs3, hst3, by rw [HNE.out]; exact hm3, hok3⟩
                      case measure => have := HL.out; simp [upN, intOf]; omega
        · obtain rfl : j = al.length := by omega
          clear hlt hjl
          go_wp2
          go_end0
          exact ⟨rfl, D1, hsr, hstr⟩
    · intro y c kl z zs w1 cnt1 hkx hlx hvc hat hrg1 hlt hg1 hs1 hen
      obtain ⟨y', hy1, hy2, hy3⟩ := keyStr_inv hkx
      injection hy1 with hy1
      subst hy1 hy2
      obtain ⟨c', hc1, hc2, hc3⟩ := plainElem_int_inv Tryz.underlying3 hvc
      injection hc1 with _ hc1
      injection hc2 with hc2 _
      subst hc1 hc2
      have hout1 := hout.kept hg1 (by simp)
      have hlt0 : size D0 - cnt < maxLen := by unfold maxLen; omega
      go_wp2_with (first
        | (at_mapUpdate; refine wpList_mapUpdate_own _ rfl _ _ _ 94 rfl 9 3 kStr Tryz.underlying94 _ w.heap.size _ _ rfl hout1 hlt0 _ _ _ rfl rfl hkx _ [] (plainElem_int Tryz.underlying3 hc3) ?_; intro w2 hout2 hg2; go_frame)
        | go_in)
      have hrg2 := hrg1.kept hg2 (fun e => by have := Option.some.inj e; omega) (fun e => by have := Option.some.inj e; omega)
      go_roundw
      case rel =>
        exact ⟨_, cnt1, _, hrg2, by omega, hout2.mono (by omega), agree_step hA hout.isMap (kyB_lit _) hat,
          (hnx.grown hg1 hnx.size (fun j hj => by cases hj; exact Nat.le_succ _)).grown hg2 (by have := hnx.size; omega) (fun j hj => by cases hj; exact Nat.le_refl _)⟩
      case measure => rw [hrg2.left_eq, hrg.left_eq]; exact hlt
theorem rf_block (hlb : ∀ e ∈ l, e.2.l < 256 ∧ ∀ p ∈ e.2.ps, p.l < 256) (hP : ∀ e ∈ l, e.2.ps.length ≤ 5) (hbk : ∃ e, l[i]? = some e ∧ e.2.l = bk) (n : Nat) : CRh bn l i at_ fq fc T bk n := by
  induction n with
  | zero => exact rf_block_of hlb hP hbk (fun n' h => by cases h)
  | succ n ih => exact rf_block_of hlb hP hbk (fun n' h => by injection h with h; rw [← h]; exact ih)
end
end Go.Proofs.YtdkpfnohdknldaaGreatDoor

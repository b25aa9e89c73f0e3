/- Texts of this seat, one behind the other: NamSends, NamSend2, NamWalk, NamWalk2. -/
import Derived.Test.YtgifjkljpbbegaaGreatDoorZb17
import Derived.Test.YtgifjkljpbbegaaGreatDoorZb12
namespace Go.Proofs.YtgifjkljpbbegaaGreatDoor
open Go.RowKit Go.WideMaps Go.Maps
attribute [local go_sem ↓] Go.wp_at_zero Go.wp_at_succ
/-- How often a name stood among the first k. -/
def sdC (ss : List Rf) (x : ByteArray) : Nat → Nat
  | 0 => 0
  | k + 1 => sdC ss x k + (match ss[k]? with | some r => if r.x = x then 1 else 0 | none => 0)
def sdD (ss : List Rf) : Nat → DataW Unit
  | 0 => .map []
  | k + 1 => match ss[k]? with | some r => (sdD ss k).put (kyB r.x) (.lit (.int .i64 ((sdC ss r.x k + 1 : Nat) : Int))) | none => sdD ss k
theorem sdC_succ (ss : List Rf) (x : ByteArray) (k : Nat) : sdC ss x (k + 1) = sdC ss x k + (match ss[k]? with | some r => if r.x = x then 1 else 0 | none => 0) := rfl
theorem sdC_le (ss : List Rf) (x : ByteArray) (k : Nat) : sdC ss x k ≤ k := by
  induction k with
  | zero => exact Nat.le_refl _
  | succ k ih =>
    rw [sdC_succ]
    split
    · split <;> omega
    · omega
theorem sdC_any (ss : List Rf) (x : ByteArray) (k : Nat) : (ss.take k).any (fun q => decide (q.x = x)) = decide (0 < sdC ss x k) := by
  induction k with
  | zero => rfl
  | succ k ih =>
    rw [List.take_add_one, List.any_append, ih, sdC_succ]
    cases h : ss[k]? with
    | none => simp
    | some r =>
      by_cases hr : r.x = x
      · simp [hr]
      · simp [hr]
theorem sdD_map (ss : List Rf) (k : Nat) : Maps.IsMap (sdD ss k) := by
  induction k with
  | zero => exact Maps.isMap_empty
  | succ k ih =>
    unfold sdD
    split
    · exact ih.put _ _
    · exact ih
theorem sdD_at (ss : List Rf) (x : ByteArray) (k : Nat) : (sdD ss k).atKey (kyB x) (.lit (.int .i64 0)) = .lit (.int .i64 (sdC ss x k : Int)) := by
  induction k with
  | zero => rfl
  | succ k ih =>
    rw [sdC_succ]
    conv => lhs; unfold sdD
    cases h : ss[k]? with
    | none => simp only [Nat.add_zero]; exact ih
    | some r =>
      by_cases hr : r.x = x
      · subst hr
        simp only [if_true]
        exact Maps.atKey_put_same (sdD_map ss k) (kyB_lit _) _ _
      · simp only [if_neg hr, Nat.add_zero]
        rw [Maps.atKey_put_other (fun e => hr (kyB_inj e).symm)]
        exact ih
theorem sdD_succ (ss : List Rf) {k : Nat} {r : Rf} (h : ss[k]? = some r) : sdD ss (k + 1) = (sdD ss k).put (kyB r.x) (.lit (.int .i64 ((sdC ss r.x k : Int) + 1))) := by
  conv => lhs; unfold sdD
  rw [h]
  simp only [Int.natCast_add, Int.cast_ofNat_Int]
/-- The map of names in memory. -/
def SdAt (w : World) (b : Nat) (ss : List Rf) (k : Nat) : Prop := w.ownsMap Tryz.prog 9 (plainElem (H := Unit) Tryz.prog 3) b k (sdD ss k)
theorem SdAt.kept {w w' : World} {b : Nat} {ss : List Rf} {k : Nat} (h : SdAt w b ss k) (hg : w'.heap[b]? = w.heap[b]?) : SdAt w' b ss k := by
  obtain ⟨es, clock, h1, h2⟩ := h
  exact ⟨es, clock, hg.trans h1, h2⟩
def RelNs (bo : Nat) (G : World → List Ev → Option Nat → Prop) (D : Option Nat) (w : World) (M : Nat → List Ev) (ss : List Rf) (i : Value) (wr : World) : Prop := ∃ k : Nat, k ≤ ss.length ∧ i = .int .i64 (k : Int) ∧ ∃ D', G wr (M k) D' ∧ Stp bo D D' w wr ∧ SdAt wr w.heap.size ss k ∧ okS 0 bo D' wr w.heap.size
theorem nm_sk_less (l : List (Int × It)) (ss : List Rf) (L : List Ev) (k m : Nat) (h : k ≤ m) : (L ++ evSk l ss k).length ≤ (L ++ evSk l ss m).length := by
  induction m with
  | zero => obtain rfl : k = 0 := by omega
            exact Nat.le_refl _
  | succ m ih =>
    rcases Nat.lt_or_ge m k with h1 | h1
    · obtain rfl : k = m + 1 := by omega
      exact Nat.le_refl _
    · have := ih h1
      have e : evSk l ss (m + 1) = evSk l ss m ++ evSd l ss m := rfl
      rw [e]
      simp only [List.length_append] at this ⊢
      omega
end Go.Proofs.YtgifjkljpbbegaaGreatDoor
namespace Go.Proofs.YtgifjkljpbbegaaGreatDoor
open Go.RowKit Go.WideMaps Go.Maps
attribute [local go_sem ↓] Go.wp_at_zero Go.wp_at_succ
section
variable {bo b0 pw pu : Nat} {cw cu : Array Value} {G : World → List Ev → Option Nat → Prop} {bw : Nat} {l : List (Int × It)} {p : Int} {D : Option Nat} {w : World} {L : List Ev}
theorem Lsn.grown {w2 w4 : World} {D2 : Option Nat} {b : Nat} (hL : Lsn bo b0 pw pu cw cu G) (hg : G w2 L D2) (h : w2.grownBy w4 (some b)) (h1 : b0 ≤ b) (h2 : some b ≠ D2) : G w4 L D2 :=
  hL.kept _ _ _ _ hg h.size (fun k hk => h.block k (by rcases hk with hk | hk; exact Nat.lt_of_lt_of_le hk (hL.lt _ _ _ hg).1; exact (hL.lt _ _ _ hg).2 k hk) (fun e => by rcases hk with hk | hk; injection e with e; omega; exact h2 (e ▸ hk)))
set_option maxHeartbeats 4000000 in
set_option maxRecDepth 100000 in
theorem nm_sends_any (hL : Lsn bo b0 pw pu cw cu G) (hk : Wk bo pw pu cw cu bw l p D w) (hg : G w L D) (ss : List Rf) (q : Option Addr) (cp : Nat) (hR : SlAt (okS 0 bo D w) w 2 rfC ss q) (hx : ∀ r ∈ ss, r.x.size ≤ 1000000) (hn : (L ++ evSk l ss ss.length).length < 1099511627776) :
    Calls Tryz.prog 96 #[.pointer (some ⟨bw, 0, none⟩), .slice q ss.length cp] w fun e w' => e = .returned (.tuple #[]) ∧ Tl bo G D (L ++ evSk l ss ss.length) w w' := by
  have hmm := @run_makeMap Tryz.prog
  have ew := hL.ew
  obtain ⟨hlen, hits⟩ := hR
  have HB := hid (fun k (h : k ≤ ss.length) => Nat.lt_of_le_of_lt (nm_sk_less l ss L k _ h) hn)
  have HMs : Hid (∀ k, L ++ evSk l ss (k + 1) = (L ++ evSk l ss k) ++ evSd l ss k) := fun k => by rw [List.append_assoc]; rfl
  have H0 : Hid (L ++ evSk l ss 0 = L) := List.append_nil L
  clear hn
  generalize hM : (fun k => L ++ evSk l ss k) = M
  have hMk : ∀ k, L ++ evSk l ss k = M k := fun k => by rw [← hM]
  simp only [hMk] at HB HMs H0 ⊢
  have h00 := H0.out
  rw [← h00] at hg
  clear hM hMk H0 h00
  have hba := (Below.refl w.heap.size w).alloc (Nat.le_refl _) (.map #[] 0)
  have HST := hid (show RelNs bo G D w M ss (.int .i64 0) (w.alloc (.map #[] 0)) from ⟨0, Nat.zero_le _, rfl, D, hL.below hg hba, Stp.below hba, World.ownsMap_made _ _ _ _, hL.fresh hg (Nat.le_refl _) (by simp)⟩)
  have hb0 := (hL.lt w (M 0) D hg).1
  clear hba
  go_enter Tryz.func96, Tryz.ntmps96
  go_wp2
  go_loopw [10] (fun i wr => RelNs bo G D w M ss i wr) (fun i _ => upN ss.length i)
  case atStart => exact HST.out
  case round =>
    obtain ⟨k, hkl, rfl, D1, hG1, hS1, hm1, hok1⟩ := hrel
    clear HST
    by_cases hlt : k < ss.length
    · obtain ⟨g, rfl, hgo, hF⟩ := hits (by omega)
      obtain ⟨r, hr⟩ : ∃ r, ss[k]? = some r := ⟨_, List.getElem?_eq_getElem hlt⟩
      have hcg := fun o => okS_cell hS1 hgo o
      have d0 := (hcg (k * 2 + 0)).trans (hF k r hr 0 _ rfl)
      have d1 := (hcg (k * 2 + 1)).trans (hF k r hr 1 _ rfl)
      rw [Nat.add_zero] at d0
      have gk : (0 : Int) ≤ (k : Int) := by omega
      have gk1 : (k : Int) < (ss.length : Int) := by omega
      have hkb : k < 1099511627776 := by omega
      have hba := (Below.refl wr.heap.size wr).alloc (Nat.le_refl _) (.cells #[.string r.x, .int .i64 (r.a : Int)] 58)
      obtain ⟨y0, y1⟩ := two_new wr r.x r.a
      have hsa : Stp bo D1 D1 wr (wr.alloc (.cells #[.string r.x, .int .i64 (r.a : Int)] 58)) := Stp.below hba
      have hfr := hid (hL.fresh (w' := wr.alloc (.cells #[.string r.x, .int .i64 (r.a : Int)] 58)) hG1 (Nat.le_refl _) (by simp))
      have hK1 := (hk.step hS1).step hsa
      have HM1 : Hid (SdAt (wr.alloc (.cells #[.string r.x, .int .i64 (r.a : Int)] 58)) w.heap.size ss k ∧ okS 0 bo D1 (wr.alloc (.cells #[.string r.x, .int .i64 (r.a : Int)] 58)) w.heap.size) := ⟨SdAt.kept hm1 ((okS.step hsa).1 _ hok1), (okS.step hsa).2 _ hok1⟩
      have HS1 := hid (hS1.trans hsa)
      have hkey := keyS r.x (by have := hx r (List.mem_of_getElem? hr); unfold maxLen; omega)
      have hMn := HMs.out k
      have hev : evSd l ss k = evChan l r.x r.a ++ (if r.x ≠ noB ∧ (ss.take k).any (fun q => decide (q.x = r.x)) = true then [evNo 7 r.x r.a] else []) := by unfold evSd; rw [hr]
      rw [hev, sdC_any, ← List.append_assoc] at hMn
      have HAT := hid (sdD_at ss r.x k)
      have HDS := hid (sdD_succ ss hr)
      have hmk := sdC_le ss r.x k
      have HBk := hid (HB.out (k + 1) hlt)
      have HBc := hid (show (M k ++ evChan l r.x r.a).length < 1099511627776 by have h := HB.out (k + 1) hlt; rw [hMn] at h; simp only [List.length_append] at h ⊢; omega)
      have HCh := hid (nm_channel_any hL hK1 (hL.below hG1 hba) r.x r.a (HB.out k (by omega)))
      have HL := hid hlt
      generalize sdC ss r.x k = m at *
      have HMN := hid hMn
      have gw : IntKind.i64.wrap ((m : Int) + 1) = (m : Int) + 1 := wrap_id _ (by omega) (by omega)
      clear hits hF hr hcg hlt hkl hba hm1 hok1 hev hMn hsa
      by_cases hm0 : 0 < m
      · by_cases hxn : r.x = noB
        · have gm : (m : Int) > 0 := by omega
          have gx : r.x.toList.isEmpty = true := by rw [hxn, noB_list]; rfl
          have HE := hid (HMN.out.trans (by rw [if_neg (by simp [hxn]), List.append_nil]))
          clear hm0 hxn
          go_wp2_with (first
            | (go_at_call 115; refine Calls.mono HCh.out ?_; rintro e w2 ⟨rfl, D2, hG2, hS2⟩; have z0 := (okS_cell hS2 hfr.out 0).trans y0; have z1 := (okS_cell hS2 hfr.out 1).trans y1; have hm2 := SdAt.kept HM1.out.1 ((okS.step hS2).1 _ HM1.out.2); have hok2 := hid ((okS.step hS2).2 _ HM1.out.2); have HS2 := hid (HS1.out.trans hS2))
            | (at_lookup; refine wpList_lookup_own_int _ rfl _ _ 89 rfl 9 3 .i64 kStr Tryz.underlying89 Tryz.underlying3 (zeroI _) w.heap.size k _ rfl hm2 _ _ rfl hkey ?_; intro c hat hwc; rw [HAT.out] at hat; injection hat with hat; injection hat with _ hat; subst hat; clear hwc)
            | (at_mapUpdate; refine wpList_mapUpdate_own _ rfl _ _ _ 89 rfl 9 3 kStr Tryz.underlying89 _ w.heap.size k _ rfl hm2 (by unfold maxLen; omega) _ _ _ rfl rfl hkey _ [] (plainElem_int Tryz.underlying3 (WalkArith.wf_i64 (by omega))) ?_; intro w4 hown4 hgrow4))
          go_roundw
          case rel => exact ⟨k + 1, HL.out, by go_num, D2, by rw [HE.out]; exact Lsn.grown hL hG2 hgrow4 hb0 hok2.out.2.2.2, HS2.out.grown hgrow4 (fun j hj => by cases hj; exact Nat.le_refl _), by show World.ownsMap _ _ _ _ _ _ _; rw [HDS.out]; exact hown4, ⟨Nat.zero_le _, Nat.lt_of_lt_of_le hok2.out.2.1 hgrow4.size, hok2.out.2.2⟩⟩
          case measure => have := HL.out; simp [upN, intOf]; omega
        · have gm : (m : Int) > 0 := by omega
          have gx : r.x.toList.isEmpty = false := by
            have h := (Lib.bytes_beq_false_iff r.x noB).2 hxn
            rw [noB_list] at h
            cases hl : r.x.toList with
            | nil => rw [hl] at h; cases h
            | cons a r => rfl
          have HE := hid (HMN.out.trans (by rw [if_pos (by simp [hxn, hm0])]))
          clear hm0 hxn
          go_wp2_with (first
            | (go_at_call 115; refine Calls.mono HCh.out ?_; rintro e w2 ⟨rfl, D2, hG2, hS2⟩; have z0 := (okS_cell hS2 hfr.out 0).trans y0; have z1 := (okS_cell hS2 hfr.out 1).trans y1; have hm2 := SdAt.kept HM1.out.1 ((okS.step hS2).1 _ HM1.out.2); have hok2 := hid ((okS.step hS2).2 _ HM1.out.2); have HS2 := hid (HS1.out.trans hS2))
            | (at_lookup; refine wpList_lookup_own_int _ rfl _ _ 89 rfl 9 3 .i64 kStr Tryz.underlying89 Tryz.underlying3 (zeroI _) w.heap.size k _ rfl hm2 _ _ rfl hkey ?_; intro c hat hwc; rw [HAT.out] at hat; injection hat with hat; injection hat with _ hat; subst hat; clear hwc))
          have z2 := ((hK1.step hS2).wrong)
          have hko := hid ((hK1.step hS2).ok)
          have hfr2 := hid ((okS.step hS2).2 _ hfr.out)
          have HW := hid (hL.wrong7 (hL.below hG2 (Below.drew (Below.refl w2.heap.size w2))) HBc.out r.x r.a)
          go_region_held3 (fun w' => w'.cell? ⟨bw, 2, none⟩ = some (.func (.func pw) #[] cw) ∧ w'.cell? ⟨wr.heap.size, 0, none⟩ = some (.string r.x) ∧ w'.cell? ⟨wr.heap.size, 1, none⟩ = some (.int .i64 (r.a : Int))) (first | go_keep | (with_reducible exact ⟨v2, v0, v1⟩))
            (first
              | ((with_reducible refine Calls.mono HW.out ?_); rintro e w3 ⟨rfl, D3, hG3, hS3q⟩; have hS3 : Stp bo D2 D3 w2 w3 := (Stp.below (Below.drew (Below.refl w2.heap.size w2))).trans hS3q; have v2 := (okS_cell hS3 hko.out 2).trans z2; have v0 := (okS_cell hS3 hfr2.out 0).trans z0; have v1 := (okS_cell hS3 hfr2.out 1).trans z1))
          have hm3 := SdAt.kept hm2 ((okS.step hS3).1 _ hok2.out)
          have hok3 := hid ((okS.step hS3).2 _ hok2.out)
          have HS3 := hid (HS2.out.trans hS3)
          clear z0 z1 z2 v1 v2
          go_wp2_with (first
            | (at_lookup; refine wpList_lookup_own_int _ rfl _ _ 89 rfl 9 3 .i64 kStr Tryz.underlying89 Tryz.underlying3 (zeroI _) w.heap.size k _ rfl hm3 _ _ rfl hkey ?_; intro c hat hwc; rw [HAT.out] at hat; injection hat with hat; injection hat with _ hat; subst hat; clear hwc)
            | (at_mapUpdate; refine wpList_mapUpdate_own _ rfl _ _ _ 89 rfl 9 3 kStr Tryz.underlying89 _ w.heap.size k _ rfl hm3 (by unfold maxLen; omega) _ _ _ rfl rfl hkey _ [] (plainElem_int Tryz.underlying3 (WalkArith.wf_i64 (by omega))) ?_; intro w4 hown4 hgrow4))
          go_roundw
          case rel => exact ⟨k + 1, HL.out, by go_num, D3, by rw [HE.out]; exact Lsn.grown hL hG3 hgrow4 hb0 hok3.out.2.2.2, HS3.out.grown hgrow4 (fun j hj => by cases hj; exact Nat.le_refl _), by show World.ownsMap _ _ _ _ _ _ _; rw [HDS.out]; exact hown4, ⟨Nat.zero_le _, Nat.lt_of_lt_of_le hok3.out.2.1 hgrow4.size, hok3.out.2.2⟩⟩
          case measure => have := HL.out; simp [upN, intOf]; omega
      · have gm : ¬ (m : Int) > 0 := by omega
        have HE := hid (HMN.out.trans (by rw [if_neg (by simp [hm0]), List.append_nil]))
        clear hm0
        go_wp2_with (first
          | (go_at_call 115; refine Calls.mono HCh.out ?_; rintro e w2 ⟨rfl, D2, hG2, hS2⟩; have z0 := (okS_cell hS2 hfr.out 0).trans y0; have z1 := (okS_cell hS2 hfr.out 1).trans y1; have hm2 := SdAt.kept HM1.out.1 ((okS.step hS2).1 _ HM1.out.2); have hok2 := hid ((okS.step hS2).2 _ HM1.out.2); have HS2 := hid (HS1.out.trans hS2))
          | (at_lookup; refine wpList_lookup_own_int _ rfl _ _ 89 rfl 9 3 .i64 kStr Tryz.underlying89 Tryz.underlying3 (zeroI _) w.heap.size k _ rfl hm2 _ _ rfl hkey ?_; intro c hat hwc; rw [HAT.out] at hat; injection hat with hat; injection hat with _ hat; subst hat; clear hwc)
          | (at_mapUpdate; refine wpList_mapUpdate_own _ rfl _ _ _ 89 rfl 9 3 kStr Tryz.underlying89 _ w.heap.size k _ rfl hm2 (by unfold maxLen; omega) _ _ _ rfl rfl hkey _ [] (plainElem_int Tryz.underlying3 (WalkArith.wf_i64 (by omega))) ?_; intro w4 hown4 hgrow4))
        go_roundw
        case rel => exact ⟨k + 1, HL.out, by go_num, D2, by rw [HE.out]; exact Lsn.grown hL hG2 hgrow4 hb0 hok2.out.2.2.2, HS2.out.grown hgrow4 (fun j hj => by cases hj; exact Nat.le_refl _), by show World.ownsMap _ _ _ _ _ _ _; rw [HDS.out]; exact hown4, ⟨Nat.zero_le _, Nat.lt_of_lt_of_le hok2.out.2.1 hgrow4.size, hok2.out.2.2⟩⟩
        case measure => have := HL.out; simp [upN, intOf]; omega
    · obtain rfl : k = ss.length := by omega
      clear hlt hkl
      go_wp2
      go_end0
      exact ⟨rfl, D1, hG1, hS1⟩
end
end Go.Proofs.YtgifjkljpbbegaaGreatDoor
namespace Go.Proofs.YtgifjkljpbbegaaGreatDoor
open Go.RowKit
attribute [local go_sem ↓] Go.wp_at_zero Go.wp_at_succ
theorem nm_par_take (env : Env) {al : List Pm} {k : Nat} {a : Pm} (L : List Ev) (h : al[k]? = some a) : L ++ evP env (al.take (k + 1)) = L ++ evP env (al.take k) ++ evMk (scP env (al.take k)) a.x a.a ∧ scP env (al.take (k + 1)) = scMk (scP env (al.take k)) a.x a.a := by
  rw [List.take_add_one, h]
  simp only [Option.toList_some]
  rw [evP_app, scP_app, List.append_assoc]
  exact ⟨rfl, rfl⟩
theorem evP_append (A B : List Pm) : ∀ env, evP env (A ++ B) = evP env A ++ evP (scP env A) B := by
  induction A with
  | nil => intro env; simp [evP, scP]
  | cons a r ih => intro env; simp only [List.cons_append, evP, ih, List.append_assoc]; rfl
theorem nm_par_less (env : Env) (al : List Pm) (k : Nat) (L : List Ev) : (L ++ evP env (al.take k)).length ≤ (L ++ evP env al).length := by
  have h : evP env al = evP env (al.take k) ++ evP (scP env (al.take k)) (al.drop k) := by rw [← evP_append, List.take_append_drop]
  rw [h]
  simp only [List.length_append]
  omega
section
variable {bo b0 pw pu : Nat} {cw cu : Array Value} {G : World → List Ev → Option Nat → Prop} {bw : Nat} {l : List (Int × It)} {p : Int} {D : Option Nat} {w : World} {L : List Ev}
set_option maxHeartbeats 4000000 in
set_option maxRecDepth 100000 in
theorem nm_function_any (hL : Lsn bo b0 pw pu cw cu G) (hk : Wk bo pw pu cw cu bw l p D w) (hg : G w L D) (it : It) (at_ : Int) (v : Value) (hI : RdI (okS 0 bo D w) w at_ it v) (hx : ∀ r ∈ it.ss, r.x.size ≤ 1000000) (hn : (L ++ evF l p it).length < 1099511627776) :
    Calls Tryz.prog 70 #[.pointer (some ⟨bw, 0, none⟩), v] w fun e w' => e = .returned (.tuple #[]) ∧ Tl bo G D (L ++ evF l p it) w w' := by
  obtain ⟨p1, c1, p2, c2, p3, c3, p4, c4, rfl, hP, hS, ⟨n, hB⟩, _⟩ := hI
  unfold evF at hn ⊢
  rw [← List.append_assoc, ← List.append_assoc] at hn ⊢
  have hb0 := (Below.refl w.heap.size w).alloc (Nat.le_refl _) (.cells #[.int .i64 (it.k : Int), .string it.x, .int .i64 (it.l : Int), .slice p1 it.ps.length c1, .slice p2 it.ss.length c2, .slice p3 it.bd.length c3, .int .i64 at_, .int .i64 (it.sz : Int), .int .i64 (it.mrk : Int), .slice p4 it.ds.length c4] 50)
  obtain ⟨_, _, _, x3, x4, x5, _, _, _, _, _⟩ := ten_at (heap_alloc_new w (.cells #[.int .i64 (it.k : Int), .string it.x, .int .i64 (it.l : Int), .slice p1 it.ps.length c1, .slice p2 it.ss.length c2, .slice p3 it.bd.length c3, .int .i64 at_, .int .i64 (it.sz : Int), .int .i64 (it.mrk : Int), .slice p4 it.ds.length c4] 50))
  have hst : Stp bo D D w (w.alloc (.cells #[.int .i64 (it.k : Int), .string it.x, .int .i64 (it.l : Int), .slice p1 it.ps.length c1, .slice p2 it.ss.length c2, .slice p3 it.bd.length c3, .int .i64 at_, .int .i64 (it.sz : Int), .int .i64 (it.mrk : Int), .slice p4 it.ds.length c4] 50)) := Stp.below hb0
  have hfr := hid (hL.fresh (w' := w.alloc (.cells #[.int .i64 (it.k : Int), .string it.x, .int .i64 (it.l : Int), .slice p1 it.ps.length c1, .slice p2 it.ss.length c2, .slice p3 it.bd.length c3, .int .i64 at_, .int .i64 (it.sz : Int), .int .i64 (it.mrk : Int), .slice p4 it.ds.length c4] 50)) hg (Nat.le_refl _) (by simp))
  have hg1 := hL.below hg hb0
  have hP1 : SlAt (okS 0 bo D _) _ 3 pmC it.ps p1 := (hP.kept (okS.step hst).1).wide (okS.step hst).2
  have hS1 : SlAt (okS 0 bo D _) _ 2 rfC it.ss p2 := (hS.kept (okS.step hst).1).wide (okS.step hst).2
  have hB1 := hB.kept (okS.step hst).1 (okS.step hst).2 (RdS.kept n (okS.step hst).1 (okS.step hst).2)
  have hk1 := hk.step hst
  have HB := hid (fun k => Nat.lt_of_le_of_lt (nm_par_less [] it.ps k L) (show (L ++ evP [] it.ps).length < 1099511627776 by simp only [List.length_append] at hn ⊢; omega))
  have HM := hid (fun k a (h : it.ps[k]? = some a) => nm_par_take [] L h)
  have HZ : Hid (L ++ evP [] (it.ps.take it.ps.length) = L ++ evP [] it.ps ∧ scP [] (it.ps.take it.ps.length) = scP [] it.ps) := by show _ ∧ _; rw [List.take_length]; exact ⟨rfl, rfl⟩
  have H0 : Hid (L ++ evP [] (it.ps.take 0) = L ∧ scP [] (it.ps.take 0) = []) := by show _ ∧ _; rw [List.take_zero]; exact ⟨List.append_nil L, rfl⟩
  have HN := hid hn
  clear hn hb0 hP hS hB hk hg
  generalize hM : (fun k => L ++ evP [] (it.ps.take k)) = M
  generalize hE1 : (fun k => scP [] (it.ps.take k)) = E
  have hMk : ∀ k, L ++ evP [] (it.ps.take k) = M k := fun k => by rw [← hM]
  have hEk : ∀ k, scP [] (it.ps.take k) = E k := fun k => by rw [← hE1]
  simp only [hMk, hEk] at HB HM HZ H0
  have h00 := H0.out.1
  have h01 := H0.out.2
  rw [← HZ.out.1, ← HZ.out.2] at HN ⊢
  have hs0 : ScAt (okS 0 bo D (w.alloc (.cells #[.int .i64 (it.k : Int), .string it.x, .int .i64 (it.l : Int), .slice p1 it.ps.length c1, .slice p2 it.ss.length c2, .slice p3 it.bd.length c3, .int .i64 at_, .int .i64 (it.sz : Int), .int .i64 (it.mrk : Int), .slice p4 it.ds.length c4] 50))) (w.alloc (.cells #[.int .i64 (it.k : Int), .string it.x, .int .i64 (it.l : Int), .slice p1 it.ps.length c1, .slice p2 it.ss.length c2, .slice p3 it.bd.length c3, .int .i64 at_, .int .i64 (it.sz : Int), .int .i64 (it.mrk : Int), .slice p4 it.ds.length c4] 50)) (E 0) (.func (.func 94) #[] #[]) := by rw [h01]; rfl
  rw [← h00] at hg1
  clear hM hMk HZ H0 h00 h01 hE1 hEk
  obtain ⟨hlen, hits⟩ := hP1
  have HST := hid hst
  generalize hW : w.alloc (.cells #[.int .i64 (it.k : Int), .string it.x, .int .i64 (it.l : Int), .slice p1 it.ps.length c1, .slice p2 it.ss.length c2, .slice p3 it.bd.length c3, .int .i64 at_, .int .i64 (it.sz : Int), .int .i64 (it.mrk : Int), .slice p4 it.ds.length c4] 50) = W at hst hfr hS1 hB1 hk1 hs0 hg1 hits HST x3 x4 x5
  have HW := hid hW
  clear hW
  go_enter Tryz.func70, Tryz.ntmps70
  go_wp2
  rw [HW.out]
  go_loopw [4, 10] (fun sv i wr => RelNb bo G D W M E it.ps.length sv i wr) (fun _ i _ => upN it.ps.length i)
  case atStart => exact ⟨0, Nat.zero_le _, rfl, D, hg1, Stp.refl _ _ _, hs0⟩
  case round =>
    obtain ⟨k, hkl, rfl, D1, hG1, hS1q, hs1⟩ := hrel
    by_cases hlt : k < it.ps.length
    · obtain ⟨g, rfl, hgo, hF⟩ := hits (by omega)
      obtain ⟨r, hr⟩ : ∃ r, it.ps[k]? = some r := ⟨_, List.getElem?_eq_getElem hlt⟩
      have hcg := fun o => okS_cell hS1q hgo o
      have d0 := (hcg (k * 3 + 0)).trans (hF k r hr 0 _ rfl)
      have d1 := (hcg (k * 3 + 1)).trans (hF k r hr 1 _ rfl)
      have d2 := (hcg (k * 3 + 2)).trans (hF k r hr 2 _ rfl)
      rw [Nat.add_zero] at d0
      have gk : (0 : Int) ≤ (k : Int) := by omega
      have gk1 : (k : Int) < (it.ps.length : Int) := by omega
      have hkb : k < 1099511627776 := by omega
      have hba := (Below.refl wr.heap.size wr).alloc (Nat.le_refl _) (.cells #[.string r.x, .int .i64 (r.l : Int), .int .i64 (r.a : Int)] 76)
      have hsa : Stp bo D1 D1 wr _ := Stp.below hba
      have hnx := (HM.out k _ hr).1
      have hne := (HM.out k _ hr).2
      have HC := hid (nm_makes_any hL ((hk1.step hS1q).step hsa) (hL.below hG1 hba) (hs1.step hsa) (HB.out k) r.x r.a)
      rw [← hnx, ← hne] at HC
      have HL := hid hlt
      have HS := hid (hS1q.trans hsa)
      clear hits hF hr hcg hnx hne hlt hkl hba hsa hs1
      go_wp2_with (first
        | (go_at_call 95; refine Calls.mono HC.out ?_; rintro e w2 ⟨v2, rfl, D2, hG2, hS2, hs2⟩))
      go_roundw
      case rel => exact ⟨k + 1, by have := HL.out; omega, by go_num, D2, hG2, HS.out.trans hS2, hs2⟩
      case measure => have := HL.out; simp [upN, intOf]; omega
    · obtain rfl : k = it.ps.length := by omega
      have HC := hid (nm_sends_any hL (hk1.step hS1q) hG1 it.ss p2 c2 ((hS1.kept (okS.step hS1q).1).wide (okS.step hS1q).2) hx (by have := HN.out; simp only [List.length_append] at this ⊢; omega))
      have z4 := (okS_cell hS1q hfr.out 4).trans x4
      have z5 := (okS_cell hS1q hfr.out 5).trans x5
      have hfr2 := hid ((okS.step hS1q).2 _ hfr.out)
      have hk2 := hk1.step hS1q
      have hB2 := hB1.kept (okS.step hS1q).1 (okS.step hS1q).2 (RdS.kept n (okS.step hS1q).1 (okS.step hS1q).2)
      clear hlt hkl
      go_wp2_with (first
        | (go_at_call 96; refine Calls.mono HC.out ?_; rintro e w2 ⟨rfl, D2, hG2, hS2⟩; have y5 := (okS_cell hS2 hfr2.out 5).trans z5; have HD := hid (nm_block_any hL (nm_stmt_any hL n) D2 _ _ (E it.ps.length) _ it.bd p3 c3 (hk2.step hS2) hG2 (hs1.step hS2) (hB2.kept (okS.step hS2).1 (okS.step hS2).2 (RdS.kept n (okS.step hS2).1 (okS.step hS2).2)) HN.out))
        | (go_at_call 97; refine Calls.mono HD.out ?_; rintro e w3 ⟨rfl, D3, hG3, hS3⟩))
      go_end0
      exact ⟨rfl, D3, hG3, ((HST.out.trans hS1q).trans hS2).trans hS3⟩
end
end Go.Proofs.YtgifjkljpbbegaaGreatDoor
namespace Go.Proofs.YtgifjkljpbbegaaGreatDoor
open Go.RowKit
attribute [local go_sem ↓] Go.wp_at_zero Go.wp_at_succ
theorem four_at {w1 : World} {b : Nat} {u0 u1 u2 u3 : Value} {t : TypeId} (h : w1.heap[b]? = some (.cells #[u0, u1, u2, u3] t (0, 0))) : w1.cell? ⟨b, 0, none⟩ = some u0 ∧ w1.cell? ⟨b, 1, none⟩ = some u1 ∧ w1.cell? ⟨b, 2, none⟩ = some u2 ∧ w1.cell? ⟨b, 3, none⟩ = some u3 :=
  ⟨cell_of_row _ _ _ _ _ _ h, cell_of_row _ _ _ _ _ _ h, cell_of_row _ _ _ _ _ _ h, cell_of_row _ _ _ _ _ _ h⟩
section
variable {bo b0 pw pu : Nat} {cw cu : Array Value} {G : World → List Ev → Option Nat → Prop} {l : List (Int × It)} {D : Option Nat} {w : World} {L : List Ev}
set_option maxHeartbeats 4000000 in
set_option maxRecDepth 100000 in
theorem nm_walk_any (hL : Lsn bo b0 pw pu cw cu G) (hg : G w L D) (fv : Value) (hR : RdF (okS 0 bo D w) w l fv) (i : Nat) (hi : i < l.length) (hx : ∀ e ∈ l, ∀ r ∈ e.2.ss, r.x.size ≤ 1000000) (hn : (L ++ evI l i).length < 1099511627776) :
    Calls Tryz.prog 40 #[fv, .int .i64 (i : Int), .func (.func pw) #[] cw, .func (.func pu) #[] cu] w fun e w' => e = .returned (.tuple #[]) ∧ Tl bo G D (L ++ evI l i) w w' := by
  have ew := hL.ew
  have hR0 := hR
  obtain ⟨q, c, rfl, hlen, hits⟩ := hR
  obtain ⟨g, rfl, hgo, hIs⟩ := hits (by omega)
  obtain ⟨e0, he0⟩ : ∃ e, l[i]? = some e := ⟨_, List.getElem?_eq_getElem hi⟩
  obtain ⟨at_, it⟩ := e0
  obtain ⟨v, hcv, hI⟩ := hIs i _ he0
  have hI0 := hI
  obtain ⟨p1, c1, p2, c2, p3, c3, p4, c4, rfl, _⟩ := hI
  have hev : evI l i = (if it.k ≠ 3 ∧ 0 ≤ fnd l it.k it.x ∧ fnd l it.k it.x < (i : Int) then [evNo 7 it.x it.mrk] else []) ++ (if it.k = 2 then evF l at_ it else []) := by unfold evI; rw [he0]
  rw [hev, ← List.append_assoc] at hn ⊢
  have hxi := hid (hx _ (List.mem_of_getElem? he0))
  have i0 := hcv.get 0 _ rfl
  have i1 := hcv.get 1 _ rfl
  have i2 := hcv.get 2 _ rfl
  have i3 := hcv.get 3 _ rfl
  have i4 := hcv.get 4 _ rfl
  have i5 := hcv.get 5 _ rfl
  have i6 := hcv.get 6 _ rfl
  have i7 := hcv.get 7 _ rfl
  have i8 := hcv.get 8 _ rfl
  have i9 := hcv.get 9 _ rfl
  rw [Nat.add_zero] at i0
  have j0 := cell_alloc i0 (.cells #[.slice (some ⟨g, 0, none⟩) l.length c] 24)
  have j1 := cell_alloc i1 (.cells #[.slice (some ⟨g, 0, none⟩) l.length c] 24)
  have j2 := cell_alloc i2 (.cells #[.slice (some ⟨g, 0, none⟩) l.length c] 24)
  have j3 := cell_alloc i3 (.cells #[.slice (some ⟨g, 0, none⟩) l.length c] 24)
  have j4 := cell_alloc i4 (.cells #[.slice (some ⟨g, 0, none⟩) l.length c] 24)
  have j5 := cell_alloc i5 (.cells #[.slice (some ⟨g, 0, none⟩) l.length c] 24)
  have j6 := cell_alloc i6 (.cells #[.slice (some ⟨g, 0, none⟩) l.length c] 24)
  have j7 := cell_alloc i7 (.cells #[.slice (some ⟨g, 0, none⟩) l.length c] 24)
  have j8 := cell_alloc i8 (.cells #[.slice (some ⟨g, 0, none⟩) l.length c] 24)
  have j9 := cell_alloc i9 (.cells #[.slice (some ⟨g, 0, none⟩) l.length c] 24)
  have gk : (0 : Int) ≤ (i : Int) := by omega
  have gk1 : (i : Int) < (l.length : Int) := by omega
  have hib : i < 1099511627776 := by omega
  have hb1 := (Below.refl w.heap.size w).alloc (Nat.le_refl _) (.cells #[.slice (some ⟨g, 0, none⟩) l.length c] 24)
  have hb2 := hb1.alloc (by simp) (.cells #[.int .i64 (it.k : Int), .string it.x, .int .i64 (it.l : Int), .slice p1 it.ps.length c1, .slice p2 it.ss.length c2, .slice p3 it.bd.length c3, .int .i64 at_, .int .i64 (it.sz : Int), .int .i64 (it.mrk : Int), .slice p4 it.ds.length c4] 50)
  have hb3 := hb2.alloc (by simp; omega) (.cells #[.slice (some ⟨g, 0, none⟩) l.length c, .int .i64 at_, .func (.func pw) #[] cw, .func (.func pu) #[] cu] 125)
  have e1 : (w.alloc (.cells #[.slice (some ⟨g, 0, none⟩) l.length c] 24)).heap.size = w.heap.size + 1 := by simp
  have e2 : ((w.alloc (.cells #[.slice (some ⟨g, 0, none⟩) l.length c] 24)).alloc (.cells #[.int .i64 (it.k : Int), .string it.x, .int .i64 (it.l : Int), .slice p1 it.ps.length c1, .slice p2 it.ss.length c2, .slice p3 it.bd.length c3, .int .i64 at_, .int .i64 (it.sz : Int), .int .i64 (it.mrk : Int), .slice p4 it.ds.length c4] 50)).heap.size = w.heap.size + 2 := by simp
  have e3 : (((w.alloc (.cells #[.slice (some ⟨g, 0, none⟩) l.length c] 24)).alloc (.cells #[.int .i64 (it.k : Int), .string it.x, .int .i64 (it.l : Int), .slice p1 it.ps.length c1, .slice p2 it.ss.length c2, .slice p3 it.bd.length c3, .int .i64 at_, .int .i64 (it.sz : Int), .int .i64 (it.mrk : Int), .slice p4 it.ds.length c4] 50)).alloc (.cells #[.slice (some ⟨g, 0, none⟩) l.length c, .int .i64 at_, .func (.func pw) #[] cw, .func (.func pu) #[] cu] 125)).heap.size = w.heap.size + 3 := by simp
  have hitm := heap_alloc_new (w.alloc (.cells #[.slice (some ⟨g, 0, none⟩) l.length c] 24)) (.cells #[.int .i64 (it.k : Int), .string it.x, .int .i64 (it.l : Int), .slice p1 it.ps.length c1, .slice p2 it.ss.length c2, .slice p3 it.bd.length c3, .int .i64 at_, .int .i64 (it.sz : Int), .int .i64 (it.mrk : Int), .slice p4 it.ds.length c4] 50)
  rw [e1] at hitm
  have hitm := (Below.heap_alloc ((w.alloc (.cells #[.slice (some ⟨g, 0, none⟩) l.length c] 24)).alloc (.cells #[.int .i64 (it.k : Int), .string it.x, .int .i64 (it.l : Int), .slice p1 it.ps.length c1, .slice p2 it.ss.length c2, .slice p3 it.bd.length c3, .int .i64 at_, .int .i64 (it.sz : Int), .int .i64 (it.mrk : Int), .slice p4 it.ds.length c4] 50)) (.cells #[.slice (some ⟨g, 0, none⟩) l.length c, .int .i64 at_, .func (.func pw) #[] cw, .func (.func pu) #[] cu] 125) (w.heap.size + 1) (by omega)).trans hitm
  have hwk := heap_alloc_new ((w.alloc (.cells #[.slice (some ⟨g, 0, none⟩) l.length c] 24)).alloc (.cells #[.int .i64 (it.k : Int), .string it.x, .int .i64 (it.l : Int), .slice p1 it.ps.length c1, .slice p2 it.ss.length c2, .slice p3 it.bd.length c3, .int .i64 at_, .int .i64 (it.sz : Int), .int .i64 (it.mrk : Int), .slice p4 it.ds.length c4] 50)) (.cells #[.slice (some ⟨g, 0, none⟩) l.length c, .int .i64 at_, .func (.func pw) #[] cw, .func (.func pu) #[] cu] 125)
  rw [e2] at hwk
  have hst : Stp bo D D w (((w.alloc (.cells #[.slice (some ⟨g, 0, none⟩) l.length c] 24)).alloc (.cells #[.int .i64 (it.k : Int), .string it.x, .int .i64 (it.l : Int), .slice p1 it.ps.length c1, .slice p2 it.ss.length c2, .slice p3 it.bd.length c3, .int .i64 at_, .int .i64 (it.sz : Int), .int .i64 (it.mrk : Int), .slice p4 it.ds.length c4] 50)).alloc (.cells #[.slice (some ⟨g, 0, none⟩) l.length c, .int .i64 at_, .func (.func pw) #[] cw, .func (.func pu) #[] cu] 125)) := Stp.below hb3
  have hgW := hL.below hg hb3
  have hR1 : RdF (okS 0 bo D (((w.alloc (.cells #[.slice (some ⟨g, 0, none⟩) l.length c] 24)).alloc (.cells #[.int .i64 (it.k : Int), .string it.x, .int .i64 (it.l : Int), .slice p1 it.ps.length c1, .slice p2 it.ss.length c2, .slice p3 it.bd.length c3, .int .i64 at_, .int .i64 (it.sz : Int), .int .i64 (it.mrk : Int), .slice p4 it.ds.length c4] 50)).alloc (.cells #[.slice (some ⟨g, 0, none⟩) l.length c, .int .i64 at_, .func (.func pw) #[] cw, .func (.func pu) #[] cu] 125))) (((w.alloc (.cells #[.slice (some ⟨g, 0, none⟩) l.length c] 24)).alloc (.cells #[.int .i64 (it.k : Int), .string it.x, .int .i64 (it.l : Int), .slice p1 it.ps.length c1, .slice p2 it.ss.length c2, .slice p3 it.bd.length c3, .int .i64 at_, .int .i64 (it.sz : Int), .int .i64 (it.mrk : Int), .slice p4 it.ds.length c4] 50)).alloc (.cells #[.slice (some ⟨g, 0, none⟩) l.length c, .int .i64 at_, .func (.func pw) #[] cw, .func (.func pu) #[] cu] 125)) l (.agg #[.slice (some ⟨g, 0, none⟩) l.length c]) := RdF.kept hR0 (okS.step hst).1 (okS.step hst).2
  have hI1 : RdI (okS 0 bo D (((w.alloc (.cells #[.slice (some ⟨g, 0, none⟩) l.length c] 24)).alloc (.cells #[.int .i64 (it.k : Int), .string it.x, .int .i64 (it.l : Int), .slice p1 it.ps.length c1, .slice p2 it.ss.length c2, .slice p3 it.bd.length c3, .int .i64 at_, .int .i64 (it.sz : Int), .int .i64 (it.mrk : Int), .slice p4 it.ds.length c4] 50)).alloc (.cells #[.slice (some ⟨g, 0, none⟩) l.length c, .int .i64 at_, .func (.func pw) #[] cw, .func (.func pu) #[] cu] 125))) (((w.alloc (.cells #[.slice (some ⟨g, 0, none⟩) l.length c] 24)).alloc (.cells #[.int .i64 (it.k : Int), .string it.x, .int .i64 (it.l : Int), .slice p1 it.ps.length c1, .slice p2 it.ss.length c2, .slice p3 it.bd.length c3, .int .i64 at_, .int .i64 (it.sz : Int), .int .i64 (it.mrk : Int), .slice p4 it.ds.length c4] 50)).alloc (.cells #[.slice (some ⟨g, 0, none⟩) l.length c, .int .i64 at_, .func (.func pw) #[] cw, .func (.func pu) #[] cu] 125)) at_ it _ := RdI.kept hI0 (okS.step hst).1 (okS.step hst).2
  have hfI := hL.fresh (w' := (((w.alloc (.cells #[.slice (some ⟨g, 0, none⟩) l.length c] 24)).alloc (.cells #[.int .i64 (it.k : Int), .string it.x, .int .i64 (it.l : Int), .slice p1 it.ps.length c1, .slice p2 it.ss.length c2, .slice p3 it.bd.length c3, .int .i64 at_, .int .i64 (it.sz : Int), .int .i64 (it.mrk : Int), .slice p4 it.ds.length c4] 50)).alloc (.cells #[.slice (some ⟨g, 0, none⟩) l.length c, .int .i64 at_, .func (.func pw) #[] cw, .func (.func pu) #[] cu] 125))) hg (Nat.le_succ w.heap.size) (by rw [e3]; omega)
  have hfK := hL.fresh (w' := (((w.alloc (.cells #[.slice (some ⟨g, 0, none⟩) l.length c] 24)).alloc (.cells #[.int .i64 (it.k : Int), .string it.x, .int .i64 (it.l : Int), .slice p1 it.ps.length c1, .slice p2 it.ss.length c2, .slice p3 it.bd.length c3, .int .i64 at_, .int .i64 (it.sz : Int), .int .i64 (it.mrk : Int), .slice p4 it.ds.length c4] 50)).alloc (.cells #[.slice (some ⟨g, 0, none⟩) l.length c, .int .i64 at_, .func (.func pw) #[] cw, .func (.func pu) #[] cu] 125))) hg (show w.heap.size ≤ w.heap.size + 2 by omega) (by rw [e3]; omega)
  obtain ⟨k0, k1, k2, k3⟩ := four_at hwk
  have hK : Wk bo pw pu cw cu (w.heap.size + 2) l at_ D (((w.alloc (.cells #[.slice (some ⟨g, 0, none⟩) l.length c] 24)).alloc (.cells #[.int .i64 (it.k : Int), .string it.x, .int .i64 (it.l : Int), .slice p1 it.ps.length c1, .slice p2 it.ss.length c2, .slice p3 it.bd.length c3, .int .i64 at_, .int .i64 (it.sz : Int), .int .i64 (it.mrk : Int), .slice p4 it.ds.length c4] 50)).alloc (.cells #[.slice (some ⟨g, 0, none⟩) l.length c, .int .i64 at_, .func (.func pw) #[] cw, .func (.func pu) #[] cu] 125)) := ⟨⟨_, c, k0, hR1⟩, k1, k2, k3, hfK⟩
  obtain ⟨t0, t1, t2, t3, t4, t5, t6, t7, t8, t9, _⟩ := ten_at hitm
  have HFi := hid (Find_any l _ (it.k : Int) it.x (((w.alloc (.cells #[.slice (some ⟨g, 0, none⟩) l.length c] 24)).alloc (.cells #[.int .i64 (it.k : Int), .string it.x, .int .i64 (it.l : Int), .slice p1 it.ps.length c1, .slice p2 it.ss.length c2, .slice p3 it.bd.length c3, .int .i64 at_, .int .i64 (it.sz : Int), .int .i64 (it.mrk : Int), .slice p4 it.ds.length c4] 50)).alloc (.cells #[.slice (some ⟨g, 0, none⟩) l.length c, .int .i64 at_, .func (.func pw) #[] cw, .func (.func pu) #[] cu] 125)) (okS 0 bo D (((w.alloc (.cells #[.slice (some ⟨g, 0, none⟩) l.length c] 24)).alloc (.cells #[.int .i64 (it.k : Int), .string it.x, .int .i64 (it.l : Int), .slice p1 it.ps.length c1, .slice p2 it.ss.length c2, .slice p3 it.bd.length c3, .int .i64 at_, .int .i64 (it.sz : Int), .int .i64 (it.mrk : Int), .slice p4 it.ds.length c4] 50)).alloc (.cells #[.slice (some ⟨g, 0, none⟩) l.length c, .int .i64 at_, .func (.func pw) #[] cw, .func (.func pu) #[] cu] 125))) (fun k hk => hk.2.1) hR1)
  have HZ := hid (And.intro hgW (And.intro hK (And.intro hI1 hfI)))
  have HS := hid hst
  clear hits hIs hcv hI0 hR0 hb1 hb2 hb3 e1 e2 e3 hitm hwk hst hgW hR1 hI1 hfI hfK k0 k1 k2 k3 hK he0 hi hev i0 i1 i2 i3 i4 i5 i6 i7 i8 i9 hx
  by_cases h3 : it.k = 3
  · rw [if_neg (fun h => h.1 h3), if_neg (by omega), List.append_nil, List.append_nil] at hn ⊢
    have g3 : ((it.k : Int) != 3) = false := by rw [h3]; rfl
    have g2 : ((it.k : Int) == 2) = false := by simp; omega
    clear h3
    go_enter Tryz.func40, Tryz.ntmps40
    go_wp2_with (first
      | (go_at_call 10; refine Calls.mono HFi.out ?_; rintro e w2 ⟨rfl, hb2⟩; have hs2 : Stp bo D D _ w2 := Stp.below hb2; have hG2 := hL.below HZ.out.1 hb2; have hK2 := HZ.out.2.1.step hs2; have hI2 := RdI.kept HZ.out.2.2.1 (okS.step hs2).1 (okS.step hs2).2; have hf2 := hid ((okS.step hs2).2 _ HZ.out.2.2.2); have HS2 := hid (HS.out.trans hs2); have z0 := (okS_cell hs2 HZ.out.2.2.2 0).trans t0; have z1 := (okS_cell hs2 HZ.out.2.2.2 1).trans t1; have z2 := (okS_cell hs2 HZ.out.2.2.2 2).trans t2; have z3 := (okS_cell hs2 HZ.out.2.2.2 3).trans t3; have z4 := (okS_cell hs2 HZ.out.2.2.2 4).trans t4; have z5 := (okS_cell hs2 HZ.out.2.2.2 5).trans t5; have z6 := (okS_cell hs2 HZ.out.2.2.2 6).trans t6; have z7 := (okS_cell hs2 HZ.out.2.2.2 7).trans t7; have z8 := (okS_cell hs2 HZ.out.2.2.2 8).trans t8; have z9 := (okS_cell hs2 HZ.out.2.2.2 9).trans t9; clear t0 t1 t2 t3 t4 t5 t6 t7 t8 t9))
    go_end0
    exact ⟨rfl, D, hG2, HS2.out⟩
  · have g3 : ((it.k : Int) != 3) = true := by simp; omega
    rcases fnd_cases l it.k it.x with hf | ⟨k, hf, hkl⟩
    · rw [hf] at HFi hn ⊢
      clear hf
      by_cases h2 : it.k = 2
      · rw [if_neg (fun h => absurd h.2.1 (by decide)), if_pos h2, List.append_nil] at hn ⊢
        have g2 : ((it.k : Int) == 2) = true := by rw [h2]; rfl
        clear h2 h3
        go_enter Tryz.func40, Tryz.ntmps40
        go_wp2_with (first
          | (go_at_call 10; refine Calls.mono HFi.out ?_; rintro e w2 ⟨rfl, hb2⟩; have hs2 : Stp bo D D _ w2 := Stp.below hb2; have hG2 := hL.below HZ.out.1 hb2; have hK2 := HZ.out.2.1.step hs2; have hI2 := RdI.kept HZ.out.2.2.1 (okS.step hs2).1 (okS.step hs2).2; have hf2 := hid ((okS.step hs2).2 _ HZ.out.2.2.2); have HS2 := hid (HS.out.trans hs2); have z0 := (okS_cell hs2 HZ.out.2.2.2 0).trans t0; have z1 := (okS_cell hs2 HZ.out.2.2.2 1).trans t1; have z2 := (okS_cell hs2 HZ.out.2.2.2 2).trans t2; have z3 := (okS_cell hs2 HZ.out.2.2.2 3).trans t3; have z4 := (okS_cell hs2 HZ.out.2.2.2 4).trans t4; have z5 := (okS_cell hs2 HZ.out.2.2.2 5).trans t5; have z6 := (okS_cell hs2 HZ.out.2.2.2 6).trans t6; have z7 := (okS_cell hs2 HZ.out.2.2.2 7).trans t7; have z8 := (okS_cell hs2 HZ.out.2.2.2 8).trans t8; have z9 := (okS_cell hs2 HZ.out.2.2.2 9).trans t9; clear t0 t1 t2 t3 t4 t5 t6 t7 t8 t9; have HC := hid (nm_function_any hL hK2 hG2 it at_ _ hI2 hxi.out hn))
          | (go_at_call 70; refine Calls.mono HC.out ?_; rintro e w3 ⟨rfl, D3, hG3, hS3⟩))
        go_end0
        exact ⟨rfl, D3, hG3, HS2.out.trans hS3⟩
      · rw [if_neg (fun h => absurd h.2.1 (by decide)), if_neg h2, List.append_nil, List.append_nil] at hn ⊢
        have g2 : ((it.k : Int) == 2) = false := by simp; omega
        clear h2 h3
        go_enter Tryz.func40, Tryz.ntmps40
        go_wp2_with (first
          | (go_at_call 10; refine Calls.mono HFi.out ?_; rintro e w2 ⟨rfl, hb2⟩; have hs2 : Stp bo D D _ w2 := Stp.below hb2; have hG2 := hL.below HZ.out.1 hb2; have hK2 := HZ.out.2.1.step hs2; have hI2 := RdI.kept HZ.out.2.2.1 (okS.step hs2).1 (okS.step hs2).2; have hf2 := hid ((okS.step hs2).2 _ HZ.out.2.2.2); have HS2 := hid (HS.out.trans hs2); have z0 := (okS_cell hs2 HZ.out.2.2.2 0).trans t0; have z1 := (okS_cell hs2 HZ.out.2.2.2 1).trans t1; have z2 := (okS_cell hs2 HZ.out.2.2.2 2).trans t2; have z3 := (okS_cell hs2 HZ.out.2.2.2 3).trans t3; have z4 := (okS_cell hs2 HZ.out.2.2.2 4).trans t4; have z5 := (okS_cell hs2 HZ.out.2.2.2 5).trans t5; have z6 := (okS_cell hs2 HZ.out.2.2.2 6).trans t6; have z7 := (okS_cell hs2 HZ.out.2.2.2 7).trans t7; have z8 := (okS_cell hs2 HZ.out.2.2.2 8).trans t8; have z9 := (okS_cell hs2 HZ.out.2.2.2 9).trans t9; clear t0 t1 t2 t3 t4 t5 t6 t7 t8 t9))
        go_end0
        exact ⟨rfl, D, hG2, HS2.out⟩
    · rw [hf] at HFi hn ⊢
      have gf : (k : Int) ≥ 0 := by omega
      clear hf
      by_cases hki : (k : Int) < (i : Int)
      ·
        by_cases h2 : it.k = 2
        · rw [if_pos ⟨h3, gf, hki⟩, if_pos h2] at hn ⊢
          have g2 : ((it.k : Int) == 2) = true := by rw [h2]; rfl
          clear h2 h3
          go_enter Tryz.func40, Tryz.ntmps40
          go_wp2_with (first
            | (go_at_call 10; refine Calls.mono HFi.out ?_; rintro e w2 ⟨rfl, hb2⟩; have hs2 : Stp bo D D _ w2 := Stp.below hb2; have hG2 := hL.below HZ.out.1 hb2; have hK2 := HZ.out.2.1.step hs2; have hI2 := RdI.kept HZ.out.2.2.1 (okS.step hs2).1 (okS.step hs2).2; have hf2 := hid ((okS.step hs2).2 _ HZ.out.2.2.2); have HS2 := hid (HS.out.trans hs2); have z0 := (okS_cell hs2 HZ.out.2.2.2 0).trans t0; have z1 := (okS_cell hs2 HZ.out.2.2.2 1).trans t1; have z2 := (okS_cell hs2 HZ.out.2.2.2 2).trans t2; have z3 := (okS_cell hs2 HZ.out.2.2.2 3).trans t3; have z4 := (okS_cell hs2 HZ.out.2.2.2 4).trans t4; have z5 := (okS_cell hs2 HZ.out.2.2.2 5).trans t5; have z6 := (okS_cell hs2 HZ.out.2.2.2 6).trans t6; have z7 := (okS_cell hs2 HZ.out.2.2.2 7).trans t7; have z8 := (okS_cell hs2 HZ.out.2.2.2 8).trans t8; have z9 := (okS_cell hs2 HZ.out.2.2.2 9).trans t9; clear t0 t1 t2 t3 t4 t5 t6 t7 t8 t9; have HW := hid (hL.wrong7 hG2 (by simp only [List.length_append] at hn; omega) it.x it.mrk))
            | ((with_reducible refine Calls.mono HW.out ?_); rintro e w3 ⟨rfl, D3, hG3, hS3⟩; have hS4 := HS2.out.trans hS3; have y0 := (okS_cell hS3 hf2.out 0).trans z0; have y1 := (okS_cell hS3 hf2.out 1).trans z1; have y2 := (okS_cell hS3 hf2.out 2).trans z2; have y3 := (okS_cell hS3 hf2.out 3).trans z3; have y4 := (okS_cell hS3 hf2.out 4).trans z4; have y5 := (okS_cell hS3 hf2.out 5).trans z5; have y6 := (okS_cell hS3 hf2.out 6).trans z6; have y7 := (okS_cell hS3 hf2.out 7).trans z7; have y8 := (okS_cell hS3 hf2.out 8).trans z8; have y9 := (okS_cell hS3 hf2.out 9).trans z9; have HC := hid (nm_function_any hL (hK2.step hS3) hG3 it at_ _ (RdI.kept hI2 (okS.step hS3).1 (okS.step hS3).2) hxi.out hn))
            | (go_at_call 70; refine Calls.mono HC.out ?_; rintro e w4 ⟨rfl, D4, hG4, hS5⟩))
          go_end0
          exact ⟨rfl, D4, hG4, hS4.trans hS5⟩
        · rw [if_pos ⟨h3, gf, hki⟩, if_neg h2, List.append_nil] at hn ⊢
          have g2 : ((it.k : Int) == 2) = false := by simp; omega
          clear h2 h3
          go_enter Tryz.func40, Tryz.ntmps40
          go_wp2_with (first
            | (go_at_call 10; refine Calls.mono HFi.out ?_; rintro e w2 ⟨rfl, hb2⟩; have hs2 : Stp bo D D _ w2 := Stp.below hb2; have hG2 := hL.below HZ.out.1 hb2; have hK2 := HZ.out.2.1.step hs2; have hI2 := RdI.kept HZ.out.2.2.1 (okS.step hs2).1 (okS.step hs2).2; have hf2 := hid ((okS.step hs2).2 _ HZ.out.2.2.2); have HS2 := hid (HS.out.trans hs2); have z0 := (okS_cell hs2 HZ.out.2.2.2 0).trans t0; have z1 := (okS_cell hs2 HZ.out.2.2.2 1).trans t1; have z2 := (okS_cell hs2 HZ.out.2.2.2 2).trans t2; have z3 := (okS_cell hs2 HZ.out.2.2.2 3).trans t3; have z4 := (okS_cell hs2 HZ.out.2.2.2 4).trans t4; have z5 := (okS_cell hs2 HZ.out.2.2.2 5).trans t5; have z6 := (okS_cell hs2 HZ.out.2.2.2 6).trans t6; have z7 := (okS_cell hs2 HZ.out.2.2.2 7).trans t7; have z8 := (okS_cell hs2 HZ.out.2.2.2 8).trans t8; have z9 := (okS_cell hs2 HZ.out.2.2.2 9).trans t9; clear t0 t1 t2 t3 t4 t5 t6 t7 t8 t9; have HW := hid (hL.wrong7 hG2 (by simp only [List.length_append] at hn; omega) it.x it.mrk))
            | ((with_reducible refine Calls.mono HW.out ?_); rintro e w3 ⟨rfl, D3, hG3, hS3⟩; have hS4 := HS2.out.trans hS3; have y0 := (okS_cell hS3 hf2.out 0).trans z0; have y1 := (okS_cell hS3 hf2.out 1).trans z1; have y2 := (okS_cell hS3 hf2.out 2).trans z2; have y3 := (okS_cell hS3 hf2.out 3).trans z3; have y4 := (okS_cell hS3 hf2.out 4).trans z4; have y5 := (okS_cell hS3 hf2.out 5).trans z5; have y6 := (okS_cell hS3 hf2.out 6).trans z6; have y7 := (okS_cell hS3 hf2.out 7).trans z7; have y8 := (okS_cell hS3 hf2.out 8).trans z8; have y9 := (okS_cell hS3 hf2.out 9).trans z9))
          go_end0
          exact ⟨rfl, D3, hG3, hS4⟩
      ·
        by_cases h2 : it.k = 2
        · rw [if_neg (fun h => hki h.2.2), if_pos h2, List.append_nil] at hn ⊢
          have g2 : ((it.k : Int) == 2) = true := by rw [h2]; rfl
          clear h2 h3
          go_enter Tryz.func40, Tryz.ntmps40
          go_wp2_with (first
            | (go_at_call 10; refine Calls.mono HFi.out ?_; rintro e w2 ⟨rfl, hb2⟩; have hs2 : Stp bo D D _ w2 := Stp.below hb2; have hG2 := hL.below HZ.out.1 hb2; have hK2 := HZ.out.2.1.step hs2; have hI2 := RdI.kept HZ.out.2.2.1 (okS.step hs2).1 (okS.step hs2).2; have hf2 := hid ((okS.step hs2).2 _ HZ.out.2.2.2); have HS2 := hid (HS.out.trans hs2); have z0 := (okS_cell hs2 HZ.out.2.2.2 0).trans t0; have z1 := (okS_cell hs2 HZ.out.2.2.2 1).trans t1; have z2 := (okS_cell hs2 HZ.out.2.2.2 2).trans t2; have z3 := (okS_cell hs2 HZ.out.2.2.2 3).trans t3; have z4 := (okS_cell hs2 HZ.out.2.2.2 4).trans t4; have z5 := (okS_cell hs2 HZ.out.2.2.2 5).trans t5; have z6 := (okS_cell hs2 HZ.out.2.2.2 6).trans t6; have z7 := (okS_cell hs2 HZ.out.2.2.2 7).trans t7; have z8 := (okS_cell hs2 HZ.out.2.2.2 8).trans t8; have z9 := (okS_cell hs2 HZ.out.2.2.2 9).trans t9; clear t0 t1 t2 t3 t4 t5 t6 t7 t8 t9; have HC := hid (nm_function_any hL hK2 hG2 it at_ _ hI2 hxi.out hn))
            | (go_at_call 70; refine Calls.mono HC.out ?_; rintro e w3 ⟨rfl, D3, hG3, hS3⟩))
          go_end0
          exact ⟨rfl, D3, hG3, HS2.out.trans hS3⟩
        · rw [if_neg (fun h => hki h.2.2), if_neg h2, List.append_nil, List.append_nil] at hn ⊢
          have g2 : ((it.k : Int) == 2) = false := by simp; omega
          clear h2 h3
          go_enter Tryz.func40, Tryz.ntmps40
          go_wp2_with (first
            | (go_at_call 10; refine Calls.mono HFi.out ?_; rintro e w2 ⟨rfl, hb2⟩; have hs2 : Stp bo D D _ w2 := Stp.below hb2; have hG2 := hL.below HZ.out.1 hb2; have hK2 := HZ.out.2.1.step hs2; have hI2 := RdI.kept HZ.out.2.2.1 (okS.step hs2).1 (okS.step hs2).2; have hf2 := hid ((okS.step hs2).2 _ HZ.out.2.2.2); have HS2 := hid (HS.out.trans hs2); have z0 := (okS_cell hs2 HZ.out.2.2.2 0).trans t0; have z1 := (okS_cell hs2 HZ.out.2.2.2 1).trans t1; have z2 := (okS_cell hs2 HZ.out.2.2.2 2).trans t2; have z3 := (okS_cell hs2 HZ.out.2.2.2 3).trans t3; have z4 := (okS_cell hs2 HZ.out.2.2.2 4).trans t4; have z5 := (okS_cell hs2 HZ.out.2.2.2 5).trans t5; have z6 := (okS_cell hs2 HZ.out.2.2.2 6).trans t6; have z7 := (okS_cell hs2 HZ.out.2.2.2 7).trans t7; have z8 := (okS_cell hs2 HZ.out.2.2.2 8).trans t8; have z9 := (okS_cell hs2 HZ.out.2.2.2 9).trans t9; clear t0 t1 t2 t3 t4 t5 t6 t7 t8 t9))
          go_end0
          exact ⟨rfl, D, hG2, HS2.out⟩
end
end Go.Proofs.YtgifjkljpbbegaaGreatDoor

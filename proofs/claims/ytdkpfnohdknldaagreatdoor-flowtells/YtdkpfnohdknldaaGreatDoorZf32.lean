/- Texts of this seat, one behind the other: RfState, RfFloor, RfMap, RfSay. -/
import Derived.Test.YtdkpfnohdknldaaGreatDoorZf31
import Derived.Test.YtdkpfnohdknldaaGreatDoorZf30
import Derived.Test.YtdkpfnohdknldaaGreatDoorZf21
import Derived.Test.YtdkpfnohdknldaaGreatDoorZb12
namespace Go.Proofs.YtdkpfnohdknldaaGreatDoor
open Go.RowKit
set_option linter.unusedVariables false
attribute [local go_sem ↓] Go.wp_at_zero Go.wp_at_succ
/-- The walker at block bn: it was told L. -/
structure RF (bn : Nat) (l : List (Int × It)) (i : Nat) (at_ : Int) (fq : Option Addr) (fc : Nat) (w : World) (L : List Fv) (D : Option Nat) : Prop where
  blk : ∃ vd, w.heap[bn]? = some (.cells #[.slice fq l.length fc, .int .i64 (i : Int), vd, .int .i64 at_, .bool (labR L at_).2, .int .i64 ((labR L at_).1 : Int)] 53 (0, 0)) ∧ w.ownsRow (bn + 1) 65 4 vd (noF L).length ((noF L).flatMap fdC) ∧ vd.ownBlock = D ∧ RdF (fun k => k < bn) w l (.agg #[.slice fq l.length fc])
section
variable {bn : Nat} {l : List (Int × It)} {i : Nat} {at_ : Int} {fq : Option Addr} {fc : Nat} {L : List Fv} {D : Option Nat} {w w' : World}
theorem RF.lt (h : RF bn l i at_ fq fc w L D) : bn < w.heap.size ∧ ∀ k, some k = D → bn < k ∧ k < w.heap.size := by
  obtain ⟨vd, h1, h2, h3, _⟩ := h.blk
  exact ⟨(Array.getElem?_eq_some_iff.1 h1).1, fun k e => by have := h2.lt k (h3.trans e.symm); exact ⟨this.1, this.2⟩⟩
theorem RF.kept (h : RF bn l i at_ fq fc w L D) (h0 : ∀ k, k ≤ bn → w'.heap[k]? = w.heap[k]?) (hd : ∀ k, some k = D → w'.heap[k]? = w.heap[k]?) : RF bn l i at_ fq fc w' L D := by
  obtain ⟨vd, h1, h2, h3, h6⟩ := h.blk
  exact ⟨⟨vd, (h0 bn (Nat.le_refl _)).trans h1, own_kept h2 (fun g e => hd g (e.symm.trans h3)), h3, RdF.kept h6 (fun k hk => h0 k (Nat.le_of_lt hk)) (fun _ h => h)⟩⟩
theorem RF.below (h : RF bn l i at_ fq fc w L D) (hb : Below w.heap.size w w') : RF bn l i at_ fq fc w' L D :=
  h.kept (fun k hk => hb.block k (Nat.lt_of_le_of_lt hk h.lt.1)) (fun k e => hb.block k (h.lt.2 k e).2)
theorem rf_end (hs : RF bn l i at_ fq fc w L D) {W w2 : World} {vd : Value} {g cap f t : Nat} {x : ByteArray} (h1 : w.heap[bn]? = some (.cells #[.slice fq l.length fc, .int .i64 (i : Int), vd, .int .i64 at_, .bool (labR L at_).2, .int .i64 ((labR L at_).1 : Int)] 53 (0, 0))) (h3 : vd.ownBlock = D) (h6 : RdF (fun k => k < bn) w l (.agg #[.slice fq l.length fc]))
    (hb : Below w.heap.size w W) (hown : w2.ownsRow (bn + 1) 65 4 (.slice (some ⟨g, 0, none⟩) ((noF L).length + 1) cap) ((noF L).length + 1) ((noF L).flatMap fdC ++ fdC (fvNo f t x))) (hgrow : W.grownBy w2 vd.ownBlock) (hat : vd.ownBlock = some g ∨ g = W.heap.size) :
    RF bn l i at_ fq fc (w2.setCell ⟨bn, 2, none⟩ (.slice (some ⟨g, 0, none⟩) ((noF L).length + 1) cap)) (L ++ [fvNo f t x]) (some g) ∧ Stp bn D (some g) w (w2.setCell ⟨bn, 2, none⟩ (.slice (some ⟨g, 0, none⟩) ((noF L).length + 1) cap)) := by
  have hlt := hs.lt
  have hgg : bn + 1 ≤ g := (hown.lt g rfl).1
  have hW : ∀ k, k < w.heap.size → some k ≠ D → w2.heap[k]? = w.heap[k]? := fun k hk hn => (hgrow.block k (Nat.lt_of_lt_of_le hk hb.size) (by rw [h3]; exact hn)).trans (hb.block k hk)
  have hset : ∀ k, k ≠ bn → (w2.setCell ⟨bn, 2, none⟩ (.slice (some ⟨g, 0, none⟩) ((noF L).length + 1) cap)).heap[k]? = w2.heap[k]? := fun k hk => Below.heap_setCell w2 _ _ k hk
  have hneb : some bn ≠ D := fun e => by have := (hlt.2 bn e).1; omega
  have hbb := (hW bn hlt.1 hneb).trans h1
  have hsz : w.heap.size ≤ w2.heap.size := Nat.le_trans hb.size hgrow.size
  refine ⟨⟨⟨.slice (some ⟨g, 0, none⟩) ((noF L).length + 1) cap, ?_, ?_, rfl, ?_⟩⟩, hgrow.os.trans hb.os, hgrow.tape.trans hb.tape, hgrow.output.trans hb.output, by simpa using hsz, fun k hk k1 k2 => (hset k k1).trans (hW k hk k2), ?_⟩
  · rw [labR_no]
    simp [World.setCell, Array.getElem?_modify, hbb]
  · rw [noF_no, List.flatMap_append, List.length_append]
    have := ownsRow_setCell_other hown (a := ⟨bn, 2, none⟩) (by simp [Value.ownBlock]; omega) (.slice (some ⟨g, 0, none⟩) ((noF L).length + 1) cap)
    simpa using this
  · exact RdF.kept h6 (fun k hk => (hset k (by omega)).trans (hW k (by omega) (fun e2 => by have := (hlt.2 k e2).1; omega))) (fun _ h => h)
  · rcases hat with e1 | e1
    · exact .inl (by rw [← h3, e1])
    · exact .inr ⟨g, rfl, by rw [e1]; exact hb.size⟩
theorem flw_fl {a b : Nat} (ha : a < 256) (hb : b < 256) : flw a b = fl a b := by rw [flw_eq, tg_of ha, tg_of hb]
set_option maxHeartbeats 2000000 in
set_option maxRecDepth 100000 in
theorem rf_ask (hs : RF bn l i at_ fq fc w L D) (hn : (noF L).length < 1099511627776) (a b f t : Nat) (ha : a < 256) (hb : b < 256) (x : ByteArray) :
    Calls Tryz.prog 75 #[.pointer (some ⟨bn, 0, none⟩), .int .i64 (a : Int), .int .i64 (b : Int), .int .i64 (f : Int), .int .i64 (t : Int), .string x] w fun ex w' => ex = .returned (.tuple #[]) ∧ TlF bn (RF bn l i at_ fq fc) D (L ++ opF a b f t x) w w' := by
  have HF := hid (rflows_any a b w ha hb)
  rw [← flw_fl ha hb] at HF
  unfold opF
  by_cases hf : flw a b = true
  · rw [if_pos hf, List.append_nil]
    rw [hf] at HF
    clear hf
    go_enter Tryz.func75, Tryz.ntmps75
    go_wp2_with (first
      | (go_at_call 98; refine Calls.mono HF.out ?_; rintro e w1 ⟨rfl, hb1⟩))
    go_end0
    exact ⟨rfl, D, hs.below hb1, Stp.below hb1⟩
  · rw [if_neg hf]
    have hf : flw a b = false := by simpa using hf
    rw [hf] at HF
    obtain ⟨i0, hi0, hz0, hz1, hz2⟩ := info_parts Tryz.infoDg
    have hmax : (noF L).length + 1 ≤ maxLen := by unfold maxLen; omega
    have hbyt : ((noF L).length + 1) * 40 ≤ 140737488355328 := by omega
    clear hf
    go_enter Tryz.func75, Tryz.ntmps75
    go_wp2_with (first
      | (go_at_call 98; refine Calls.mono HF.out ?_; rintro e w1 ⟨rfl, hb1⟩; have hs1 := hs.below hb1; obtain ⟨vd, h1, h2, h3, h6⟩ := hs1.blk; have hlt := hs1.lt; have hne : some bn ≠ vd.ownBlock := (fun e => by have := (h2.lt bn e.symm).1; omega); have c2 : w1.cell? ⟨bn, 2, none⟩ = some vd := cell_of_row _ _ 2 _ _ _ h1; have d2 := cell_alloc c2; have hfz := frz_of h1; have hb2 := (Below.refl w1.heap.size w1).alloc (Nat.le_refl _) (.cells #[.int .i64 (f : Int), .int .i64 (t : Int), .int .i64 9, .string x] 65); have hsz2 : bn + 1 ≤ (w1.alloc (.cells #[.int .i64 (f : Int), .int .i64 (t : Int), .int .i64 9, .string x] 65)).heap.size := (by simp; omega); have HN := hid (World.news_of_block (heap_alloc_new w1 (.cells #[.int .i64 (f : Int), .int .i64 (t : Int), .int .i64 9, .string x] 65))); have HOW := hid (World.ownsRow.alloc h2 (.cells #[.int .i64 (f : Int), .int .i64 (t : Int), .int .i64 9, .string x] 65)); have HB2 := hid hb2; clear hb2)
      | (at_builtin; refine wpList_append_lies _ rfl (.tmp 20) (.tmp 25) 34 rfl (bn + 1) 65 i0 _ 4 40 Tryz.underlying34 hi0 hz0 hz1 hz2 rfl (by decide) _ _ _ rfl HOW.out ⟨w1.heap.size, 0, none⟩ 1 1 [.int .i64 (f : Int), .int .i64 (t : Int), .int .i64 9, .string x] rfl rfl HN.out (by intro u hu; simp at hu; rcases hu with rfl | rfl | rfl | rfl <;> rfl) (by decide) hmax hbyt hsz2 _ rfl ?_; intro g6 cap6 w6 hown6 hgrow6 hat6 hlt6; have k6 := World.cell?_of_block (a := ⟨bn, 2, none⟩) ((hgrow6.block bn (by simp; omega) hne).trans (HB2.out.block bn hlt.1)); have f6 := World.frozen?_of_block (a := ⟨bn, 2, none⟩) ((hgrow6.block bn (by simp; omega) hne).trans (HB2.out.block bn hlt.1)); rw [c2] at k6; rw [hfz 2] at f6))
    go_end0
    obtain ⟨r1, r2⟩ := rf_end (f := f) (t := t) (x := x) hs1 h1 h3 h6 HB2.out hown6 hgrow6 hat6
    exact ⟨rfl, some g6, r1, (Stp.below hb1).trans r2⟩
end
end Go.Proofs.YtdkpfnohdknldaaGreatDoor
namespace Go.Proofs.YtdkpfnohdknldaaGreatDoor
open Go.RowKit
set_option linter.unusedVariables false
attribute [local go_sem ↓] Go.wp_at_zero Go.wp_at_succ
theorem mt_and {a b : Nat} (ha : a < 256) (hb : b < 256) : mt a b = a &&& b := by unfold mt; rw [tg_of ha, tg_of hb]
theorem jn_or {a b : Nat} (ha : a < 256) (hb : b < 256) : jnL a b = a ||| b := by unfold jnL; rw [tg_of ha, tg_of hb]
theorem bothM (a b : Nat) (w : World) (ha : a < 256) (hb : b < 256) : Calls Tryz.prog 46 #[.int .i64 (a : Int), .int .i64 (b : Int), .bool true] w fun e w' => e = .returned (.int .i64 (mt a b : Int)) ∧ Below w.heap.size w w' := by
  rw [mt_and ha hb]
  exact both_and a b w ha hb
theorem bothJ (a b : Nat) (w : World) (ha : a < 256) (hb : b < 256) : Calls Tryz.prog 46 #[.int .i64 (a : Int), .int .i64 (b : Int), .bool false] w fun e w' => e = .returned (.int .i64 (jnL a b : Int)) ∧ Below w.heap.size w w' := by
  rw [jn_or ha hb]
  exact both_or a b w ha hb
theorem flP_lt {l : List (Int × It)} {n : Nat} (h : n < 256) (r : Rf) : flP l n r < 256 := by
  unfold flP
  split
  · exact mt_lt _ _
  · exact h
theorem flS_lt (l : List (Int × It)) (ss : List Rf) : ∀ n, n < 256 → ss.foldl (flP l) n < 256 := by
  induction ss with
  | nil => intro n h; exact h
  | cons r ss ih => intro n h; exact ih _ (flP_lt h r)
set_option maxHeartbeats 4000000 in
set_option maxRecDepth 100000 in
theorem rf_floor (l : List (Int × It)) (q : Option Addr) (c : Nat) (w : World) (ok : Nat → Prop) (hok : ∀ k, ok k → k < w.heap.size) (hR : RdF ok w l (.agg #[.slice q l.length c])) (hlb : ∀ e ∈ l, e.2.l < 256) (i : Nat) (pp : Int) (it : It) (hi : l[i]? = some (pp, it)) :
    Calls Tryz.prog 19 #[.agg #[.slice q l.length c], .int .i64 (i : Int)] w fun e w' => e = .returned (.int .i64 (flS l it.ss : Int)) ∧ Below w.heap.size w w' := by
  have hb1 := (Below.refl w.heap.size w).alloc (Nat.le_refl _) (.cells #[.slice q l.length c] 25)
  have hlen : l.length ≤ 1099511627776 := by obtain ⟨_, _, _, h, _⟩ := hR; exact h
  have hil := (List.getElem?_eq_some_iff.1 hi).1
  have y0 := one_new w (.slice q l.length c) 25
  have hRW : RdF (fun k => k < w.heap.size) (w.alloc (.cells #[.slice q l.length c] 25)) l (.agg #[.slice q l.length c]) := RdF.kept hR (fun k hk => hb1.block k (hok k hk)) (fun k hk => hok k hk)
  obtain ⟨g, vI, hq, hgo, hcv, hI⟩ := RdF.itemF hRW hi
  obtain ⟨p1, c1, p2, c2, p3, c3, p4, c4, rfl, _, hSW, _⟩ := hI
  subst hq
  have i4 := hcv.get 4 _ rfl
  have gi : (0 : Int) ≤ (i : Int) := by omega
  have gi1 : (i : Int) < (l.length : Int) := by omega
  have hib : i < 1099511627776 := by omega
  have e2 : (w.alloc (.cells #[.slice (some ⟨g, 0, none⟩) l.length c] 25)).heap.size = w.heap.size + 1 := by simp
  have HB := hid hb1
  have HLB := hid hlb
  rw [flS_eq]
  have HM := hid (fun k r (h : it.ss[k]? = some r) => show (it.ss.take (k + 1)).foldl (flP l) 255 = flP l ((it.ss.take k).foldl (flP l) 255) r by rw [List.take_add_one, h, List.foldl_append]; rfl)
  have HZ : Hid ((it.ss.take it.ss.length).foldl (flP l) 255 = it.ss.foldl (flP l) 255) := by show _ = _; rw [List.take_length]
  have H0 : Hid ((it.ss.take 0).foldl (flP l) 255 = 255) := by show _ = _; rfl
  have HLt := hid (fun k => flS_lt l (it.ss.take k) 255 (by decide))
  generalize hN : (fun k => (it.ss.take k).foldl (flP l) 255) = NN
  have hNk : ∀ k, (it.ss.take k).foldl (flP l) 255 = NN k := fun k => by rw [← hN]
  simp only [hNk] at HM HZ H0 HLt
  rw [← HZ.out]
  clear hN hNk HZ hR hb1 hok hcv hi hil hlb
  go_enter Tryz.func19, Tryz.ntmps19
  go_wp2
  generalize w.alloc (.cells #[.slice (some ⟨g, 0, none⟩) l.length c] 25) = W at *
  go_loopw [5, 16] (fun nv i wr => RelFl W NN it.ss.length nv i wr) (fun _ i _ => upN it.ss.length i)
  case atStart => exact ⟨0, Nat.zero_le _, by rw [H0.out]; rfl, rfl, Below.refl _ _⟩
  case round =>
    obtain ⟨j, hjl, rfl, rfl, hbr⟩ := hrel
    by_cases hlt : j < it.ss.length
    · obtain ⟨gs, rfl, hgs, hF⟩ := hSW.2 (by omega)
      obtain ⟨r, hr⟩ : ∃ r, it.ss[j]? = some r := ⟨_, List.getElem?_eq_getElem hlt⟩
      have hcg : ∀ o, wr.cell? ⟨gs, o, none⟩ = W.cell? ⟨gs, o, none⟩ := fun o => World.cell?_of_block (a := ⟨gs, o, none⟩) (hbr.block gs (by omega))
      have d0 := (hcg (j * 2 + 0)).trans (hF j r hr 0 (.string r.x) rfl)
      have d1 := (hcg (j * 2 + 1)).trans (hF j r hr 1 (.int .i64 (r.a : Int)) rfl)
      rw [Nat.add_zero] at d0
      have z0 := (World.cell?_of_block (a := ⟨w.heap.size, 0, none⟩) (hbr.block w.heap.size (by omega))).trans y0
      have gj : (0 : Int) ≤ (j : Int) := by omega
      have gj1 : (j : Int) < (it.ss.length : Int) := by omega
      have hjb : j < 1099511627776 := by have := hSW.1; omega
      have hba := (Below.refl wr.heap.size wr).alloc (Nat.le_refl _) (.cells #[.string r.x, .int .i64 (r.a : Int)] 45)
      have hbra := hbr.trans (hba.mono hbr.size)
      have HF := hid (rn_find l _ 1 r.x (wr.alloc (.cells #[.string r.x, .int .i64 (r.a : Int)] 45)) (fun k => k < w.heap.size) (fun k hk => by have := hbra.size; omega) (RdF.kept hRW (fun k hk => hbra.block k (by omega)) (fun _ h => h)))
      have hm := HM.out j r hr
      have HL := hid hlt
      have HBA := hid hbra
      have a0 := cell_alloc z0 (.cells #[.string r.x, .int .i64 (r.a : Int)] 45)
      clear hF hcg hr hlt hjl hba hbr hbra
      rcases fnd_casesF l 1 r.x with hF | ⟨kf, hF, hkf⟩
      · rw [hF] at HF
        have hm2 : NN (j + 1) = NN j := by rw [hm]; unfold flP; rw [ch_none hF]
        have HM2 := hid hm2
        clear hm hm2 hF
        go_wp2_with (first
          | (go_at_call 13; refine Calls.mono HF.out ?_; rintro e w3 ⟨rfl, hb3⟩))
        go_roundw
        case rel => exact ⟨j + 1, HL.out, by rw [HM2.out], by go_num, HBA.out.trans (hb3.mono HBA.out.size)⟩
        case measure => have := HL.out; simp [upN, intOf]; omega
      · obtain ⟨ef, hef⟩ : ∃ e, l[kf]? = some e := ⟨_, List.getElem?_eq_getElem hkf⟩
        obtain ⟨g', vI', hq', hgo', hcv, hI⟩ := RdF.itemF hRW hef
        obtain ⟨i1, d1', i2, d2', i3, d3', i4', d4', rfl, _⟩ := hI
        injection hq' with hq'
        injection hq' with hq'
        subst hq'
        rw [hF] at HF
        have hm2 : NN (j + 1) = mt (NN j) ef.2.l := by rw [hm]; unfold flP; rw [ch_some hF hef]
        have HM2 := hid hm2
        have HCV := hid (hcv.get 2 _ rfl)
        have HJ := hid (fun W => bothM (NN j) ef.2.l W (HLt.out j) (HLB.out ef (List.mem_of_getElem? hef)))
        have gk : (0 : Int) ≤ (kf : Int) := by omega
        have gk1 : (kf : Int) < (l.length : Int) := by omega
        have hkb : kf < 1099511627776 := by omega
        have gge : ((kf : Int) ≥ 0) := by omega
        generalize ef.2.l = lf at *
        clear hm hm2 hF hcv hef
        go_wp2_with (first
          | (go_at_call 13; refine Calls.mono HF.out ?_; rintro e w3 ⟨rfl, hb3⟩; have b0 := cell_onF hb3 a0; have m2 := (World.cell?_of_block (a := ⟨g, kf * 10 + 2, none⟩) ((hb3.block g (by have := HBA.out.size; omega)).trans (HBA.out.block g (by omega)))).trans HCV.out)
          | (go_at_call 46; refine Calls.mono (HJ.out _) ?_; rintro e w4 ⟨rfl, hb4⟩; rw [← HM2.out]))
        go_roundw
        case rel => exact ⟨j + 1, HL.out, rfl, by go_num, (HBA.out.trans (hb3.mono HBA.out.size)).trans (hb4.mono (HBA.out.trans (hb3.mono HBA.out.size)).size)⟩
        case measure => have := HL.out; simp [upN, intOf]; omega
    · obtain rfl : j = it.ss.length := by omega
      clear hlt hjl
      go_wp2
      go_ret
      exact ⟨rfl, HB.out.trans (hbr.mono (by omega))⟩
end Go.Proofs.YtdkpfnohdknldaaGreatDoor
namespace Go.Proofs.YtdkpfnohdknldaaGreatDoor
open Go.RowKit Go.WideMaps Go.Maps
set_option linter.unusedVariables false
/-- A map that tells the labels of a scope of m names at most. -/
def MpL (w : World) (b : Nat) (env : Env) (m : Nat) : Prop := ∃ env', w.ownsMap Tryz.prog 9 (plainElem (H := Unit) Tryz.prog 3) b (size (mpD 0 env')) (mpD 0 env') ∧ size (mpD 0 env') ≤ m + (if has (mpD 0 env') (kyB noB) then 1 else 0) ∧ (∀ x, x ≠ noB → envL env' x = envL env x) ∧ ∀ x d, envL env' x = some d → d < 256
theorem MpL.kept {w w' : World} {b : Nat} {env : Env} {m : Nat} (h : MpL w b env m) (hg : w'.heap[b]? = w.heap[b]?) : MpL w' b env m := by
  obtain ⟨env', ⟨es, clock, h1, h3⟩, h2⟩ := h
  exact ⟨env', ⟨es, clock, hg.trans h1, h3⟩, h2⟩
theorem own_tight {w : World} {P : Program} {k : TypeId} {R : Value → Option (DataW Unit × List MemPlace)} {b n : Nat} {D : DataW Unit} (h : w.ownsMap P k R b n D) : w.ownsMap P k R b (size D) D := by
  obtain ⟨es, clock, hb, F, hs, rfl⟩ := h
  exact ⟨es, clock, hb, F, by simp [size, length_sorted], rfl⟩
theorem mpD_none (p : Int) (env : Env) (x : ByteArray) (h : envL env x = none) (z : DataW Unit) : (mpD p env).atKey (kyB x) z = z := by
  induction env with
  | nil => rfl
  | cons e r ih =>
    obtain ⟨y, a⟩ := e
    unfold envL at h
    unfold mpD
    by_cases hx : x = y
    · rw [if_pos hx] at h; cases h
    · rw [if_neg hx] at h
      rw [atKey_put_other (fun e => hx (kyB_inj e))]
      exact ih h
theorem mp_look {w : World} {b : Nat} {env : Env} {m : Nat} (h : MpL w b env m) (x : ByteArray) (hx : x.size ≤ maxLen) (hn : x ≠ noB) : (Instr.lookup 94 (.map (some b)) (.string x) false).run Tryz.prog w = .ok (.int .i64 (envN env x : Int)) w := by
  obtain ⟨env', hm, _, h2, h3⟩ := h
  obtain ⟨v, ps, hrun, hv⟩ := World.ownsMap.lookup hm kStr Tryz.underlying94 (zeroI w) (plainElem_int Tryz.underlying3 (by decide)) (keyS x hx)
  rw [hrun]
  have hb := Tryz.underlying3
  have e1 : envN env x = (envL env' x).getD 0 := by unfold envN; rw [h2 x hn]
  rw [e1]
  cases he : envL env' x with
  | none =>
    rw [mpD_none 0 env' x he] at hv
    cases v <;> simp [plainElem, hb] at hv
    obtain ⟨⟨hk, hwf⟩, he2, _⟩ := hv
    simp_all
  | some d =>
    rw [mpD_at 0 env' x d he] at hv
    have hd := h3 x d he
    have ew : wI (0 + (d : Int)) = (d : Int) := by rw [wI_id (by omega) (by omega)]; omega
    rw [ew] at hv
    cases v <;> simp [plainElem, hb] at hv
    obtain ⟨⟨hk, hwf⟩, he2, _⟩ := hv
    simp_all
theorem mp_put {w : World} {b : Nat} {env : Env} (h : MpL w b env env.length) (x : ByteArray) (n : Nat) (hn : n < 256) (hx : x.size ≤ maxLen) (hm : env.length + 1 < maxLen) : ∃ w', (Instr.mapUpdate 94 (.map (some b)) (.string x) (.int .i64 (n : Int))).run Tryz.prog w = .ok () w' ∧ MpL w' b (scMk env x n) (scMk env x n).length ∧ w.grownBy w' (some b) := by
  obtain ⟨env', hown, hl, h2, h3⟩ := h
  have ew : wI (0 + (n : Int)) = (n : Int) := by rw [wI_id (by omega) (by omega)]; omega
  have hsz : size (mpD 0 env') < maxLen := by split at hl <;> omega
  obtain ⟨w', r1, r2, r3⟩ := World.ownsMap.update hown kStr Tryz.underlying94 hsz (keyS x hx) (plainElem_int Tryz.underlying3 (a := (n : Int)) (by rw [← ew]; exact wI_wf _))
  have eD : mpD 0 ((x, n) :: env') = (mpD 0 env').put (kyB x) (.lit (.int .i64 (n : Int))) := by
    show (mpD 0 env').put (kyB x) (.lit (.int .i64 (wI (0 + (n : Int))))) = _
    rw [ew]
  have hsp := size_put (k := kyB x) (hown.tidy kStr) (.lit (.int .i64 (n : Int)))
  refine ⟨w', r1, ⟨(x, n) :: env', ?_, ?_, fun y hy => ?_, fun y d hd => ?_⟩, r3⟩
  · rw [eD]
    exact own_tight r2
  · rw [eD, hsp]
    unfold scMk
    by_cases hxn : x = noB
    · rw [if_pos hxn, hxn]
      rw [has_put_same (mpD_map 0 env') (kyB_lit _), if_pos rfl]
      by_cases hh : has (mpD 0 env') (kyB noB) = true
      · rw [if_pos hh] at hl ⊢; exact hl
      · rw [if_neg hh] at hl ⊢; omega
    · rw [if_neg hxn, has_put_other (fun e => hxn (kyB_inj e).symm)]
      show _ ≤ env.length + 1 + _
      split <;> omega
  · unfold scMk
    by_cases hxn : x = noB
    · rw [if_pos hxn]
      have h4 := h2 y hy
      conv => lhs; unfold envL
      rw [if_neg (fun e => hy (e.trans hxn))]
      exact h4
    · rw [if_neg hxn]
      by_cases e : y = x
      · subst e
        unfold envL
        rw [if_pos rfl, if_pos rfl]
      · have h4 := h2 y hy
        conv => lhs; unfold envL
        conv => rhs; unfold envL
        rw [if_neg e, if_neg e]
        exact h4
  · unfold envL at hd
    by_cases e : y = x
    · rw [if_pos e] at hd
      injection hd with hd
      omega
    · rw [if_neg e] at hd
      exact h3 y d hd
theorem mp_nil (w : World) : MpL (w.alloc (.map #[] 0)) w.heap.size [] 0 := ⟨[], World.ownsMap_made _ _ _ _, Nat.zero_le _, fun _ _ => rfl, fun _ _ h => by cases h⟩
end Go.Proofs.YtdkpfnohdknldaaGreatDoor
namespace Go.Proofs.YtdkpfnohdknldaaGreatDoor
open Go.RowKit
set_option linter.unusedVariables false
section
variable {bn : Nat} {l : List (Int × It)} {i : Nat} {at_ : Int} {fq : Option Addr} {fc : Nat} {L : List Fv} {D : Option Nat} {w w' : World}
theorem say_same {L : List Fv} {at_ : Int} {f t n : Nat} (h : (labR L at_).2 = true ∨ ¬ ((f : Int) ≤ at_ ∧ at_ < (t : Int))) : labR (L ++ [fvSay f t n]) at_ = labR L at_ := by
  rw [labR_say]
  cases hb : (labR L at_).2 with
  | true => rw [if_pos rfl]
  | false =>
    rw [if_neg (by simp), labR_zero hb]
    rcases h with h | h
    · rw [hb] at h; cases h
    · rw [if_neg h]
/-- Nothing is kept. -/
theorem RF.said (h : RF bn l i at_ fq fc w L D) {f t : Nat} (n : Nat) (hc : (labR L at_).2 = true ∨ ¬ ((f : Int) ≤ at_ ∧ at_ < (t : Int))) : RF bn l i at_ fq fc w (L ++ [fvSay f t n]) D := by
  obtain ⟨vd, h1, h2, h3, h6⟩ := h.blk
  refine ⟨⟨vd, ?_, ?_, h3, h6⟩⟩
  · rw [say_same hc]; exact h1
  · rw [noF_sayA]; exact h2
/-- It is kept. -/
theorem RF.keeps (h : RF bn l i at_ fq fc w L D) {f t : Nat} (n : Nat) (hb : (labR L at_).2 = false) (h4 : (f : Int) ≤ at_) (h5 : at_ < (t : Int)) : RF bn l i at_ fq fc ((w.setCell ⟨bn, 4, none⟩ (.bool true)).setCell ⟨bn, 5, none⟩ (.int .i64 (n : Int))) (L ++ [fvSay f t n]) D ∧ Stp bn D D w ((w.setCell ⟨bn, 4, none⟩ (.bool true)).setCell ⟨bn, 5, none⟩ (.int .i64 (n : Int))) := by
  have hlt := h.lt
  obtain ⟨vd, h1, h2, h3, h6⟩ := h.blk
  have hset : ∀ k, k ≠ bn → ((w.setCell ⟨bn, 4, none⟩ (.bool true)).setCell ⟨bn, 5, none⟩ (.int .i64 (n : Int))).heap[k]? = w.heap[k]? := fun k hk => (Below.heap_setCell _ _ _ k hk).trans (Below.heap_setCell _ _ _ k hk)
  have hL : labR (L ++ [fvSay f t n]) at_ = (n, true) := by rw [labR_say, hb, if_neg (by simp), if_pos ⟨h4, h5⟩]
  refine ⟨⟨⟨vd, ?_, ?_, h3, ?_⟩⟩, rfl, rfl, rfl, by simp, fun k hk k1 k2 => hset k k1, .inl rfl⟩
  · rw [hL]
    simp [World.setCell, Array.getElem?_modify, h1]
  · rw [noF_sayA]
    exact own_kept h2 (fun k e => hset k (by have := (hlt.2 k (e.symm.trans h3)).1; omega))
  · exact RdF.kept h6 (fun k hk => hset k (by omega)) (fun _ h => h)
theorem RF.cells (h : RF bn l i at_ fq fc w L D) : w.cell? ⟨bn, 0, none⟩ = some (.slice fq l.length fc) ∧ w.cell? ⟨bn, 1, none⟩ = some (.int .i64 (i : Int)) ∧ w.cell? ⟨bn, 3, none⟩ = some (.int .i64 at_) ∧ w.cell? ⟨bn, 4, none⟩ = some (.bool (labR L at_).2) ∧ w.cell? ⟨bn, 5, none⟩ = some (.int .i64 ((labR L at_).1 : Int)) ∧ (∀ o, w.frozen? ⟨bn, o, none⟩ = false) ∧ RdF (fun k => k < bn) w l (.agg #[.slice fq l.length fc]) ∧ l.length ≤ 1099511627776 := by
  obtain ⟨vd, h1, h2, h3, h6⟩ := h.blk
  refine ⟨cell_of_row _ _ 0 _ _ _ h1, cell_of_row _ _ 1 _ _ _ h1, cell_of_row _ _ 3 _ _ _ h1, cell_of_row _ _ 4 _ _ _ h1, cell_of_row _ _ 5 _ _ _ h1, frz_of h1, h6, ?_⟩
  obtain ⟨_, _, _, h, _⟩ := h6
  exact h
/-- All that lies ahead of the walker stays. -/
theorem Stp.lowF {D' : Option Nat} (hs : Stp bn D D' w w') (h : RF bn l i at_ fq fc w L D) : ∀ k, k < bn → w'.heap[k]? = w.heap[k]? := fun k hk =>
  hs.block k (Nat.lt_trans hk h.lt.1) (by omega) (fun e => by have := (h.lt.2 k e).1; omega)
theorem RF.fresh (h : RF bn l i at_ fq fc w L D) {k : Nat} (h1 : w.heap.size ≤ k) (h2 : k < w'.heap.size) : okS 0 bn D w' k :=
  ⟨Nat.zero_le _, h2, fun e => by have := h.lt.1; omega, fun e => by have := (h.lt.2 k e).2; omega⟩
end
theorem jnL_comm (a b : Nat) : jnL a b = jnL b a := by unfold jnL; exact Nat.or_comm _ _
theorem fnL_lt {l : List (Int × It)} (hlb : ∀ e ∈ l, e.2.l < 256) (x : ByteArray) : fnL l x < 256 := by
  unfold fnL
  split
  next i h =>
    unfold hit at h
    split at h
    · cases h
    · exact hlb i (List.mem_of_getElem? h)
  next => decide
theorem rlX_lt {T : List Tok} {l : List (Int × It)} (hlb : ∀ e ∈ l, e.2.l < 256) {env : Env} (hE : ∀ x, x ≠ noB → envN env x < 256) {n c : Nat} {e : Tr} (h : wfE T n c e) : rlX l env e < 256 := by
  cases n with
  | zero => exact h.elim
  | succ n =>
    obtain ⟨k, x, m, al, f, t, rfl, h⟩ := h
    rw [rlX_mk]
    split
    next h2 =>
      rcases h with ⟨h1, _⟩ | ⟨_, h1, _⟩ | ⟨h1, _⟩ | ⟨h1, _⟩
      · exact absurd h2 h1
      · exact hE x (tkn_no h1)
      · omega
      · omega
    next =>
      split
      · split
        · exact jnL_lt _ _
        · decide
      · split
        · exact fnL_lt hlb x
        · decide
theorem MpL.lt {w : World} {b : Nat} {env : Env} {m : Nat} (h : MpL w b env m) : ∀ x, x ≠ noB → envN env x < 256 := by
  obtain ⟨env', _, _, h2, h3⟩ := h
  intro x hx
  unfold envN
  rw [← h2 x hx]
  cases he : envL env' x with
  | none => decide
  | some d => exact h3 x d he
/-- What expr is to answer. -/
def CRf (bn : Nat) (l : List (Int × It)) (i : Nat) (at_ : Int) (fq : Option Addr) (fc : Nat) (T : List Tok) (n : Nat) : Prop := ∀ (D : Option Nat) (w : World) (L : List Fv) (env : Env) (b mp : Nat) (e : Tr) (v : Value) (mm c u : Nat), RF bn l i at_ fq fc w L D → MpL w b env mp → okS 0 bn D w b → RdE mm (fun k => k < bn) w e v → wfE T n c e → u < 256 → (noF (L ++ fvX l (flA l) env u e)).length < 1099511627776 →
  Calls Tryz.prog 74 #[.pointer (some ⟨bn, 0, none⟩), .map (some b), v, .int .i64 (u : Int)] w fun ex w' => ex = .returned (.int .i64 (rlX l env e : Int)) ∧ TlF bn (RF bn l i at_ fq fc) D (L ++ fvX l (flA l) env u e) w w'
def CRg (bn : Nat) (l : List (Int × It)) (i : Nat) (at_ : Int) (fq : Option Addr) (fc : Nat) (T : List Tok) (n : Nat) (K : Nat → Prop) : Prop := ∀ (D : Option Nat) (w : World) (L : List Fv) (env : Env) (b mp k : Nat) (x : ByteArray) (mN : Nat) (al : List Tr) (f t : Nat) (q : Option Addr) (cq mm c u : Nat), RF bn l i at_ fq fc w L D → MpL w b env mp → okS 0 bn D w b → SlT (fun k => k < bn) (RdE mm (fun k => k < bn) w) w 6 al q → wfE T (n + 1) c (exMk k x mN al f t) → u < 256 → (noF (L ++ fvX l (flA l) env u (exMk k x mN al f t))).length < 1099511627776 → K k →
  Calls Tryz.prog 74 #[.pointer (some ⟨bn, 0, none⟩), .map (some b), .agg #[.int .i64 (k : Int), .string x, .int .i64 (mN : Int), .slice q al.length cq, .int .i64 (f : Int), .int .i64 (t : Int)], .int .i64 (u : Int)] w fun ex w' => ex = .returned (.int .i64 (rlX l env (exMk k x mN al f t) : Int)) ∧ TlF bn (RF bn l i at_ fq fc) D (L ++ fvX l (flA l) env u (exMk k x mN al f t)) w w'
end Go.Proofs.YtdkpfnohdknldaaGreatDoor

/- Texts of this seat, one behind the other: EffGo, EffRea, EffLst, EffAll, EffSam. -/
import Derived.Test.YtjpmnholpeidmaaZb39
import Derived.Test.YtjpmnholpeidmaaZb16
import Derived.Test.YtjpmnholpeidmaaZb38
import Derived.Test.YtjpmnholpeidmaaZb02
import Derived.Laws.MakeOwn
import Derived.Test.YtjpmnholpeidmaaZb24
namespace Go.Proofs.Ytjpmnholpeidmaa
open Go.RowKit Go.Sort
set_option linter.unusedVariables false
attribute [local go_sem ↓] Go.wp_at_zero Go.wp_at_succ
theorem app_str {P : Program} {w : World} {ops : Array Oper} {rest : List Oper} {o : Oper} {a : Act} {Q : Exit → Act → World → Prop} (hgd : o.guard = none) (s x : Operand) (t : TypeId)
    (ho : o.op = .call { callee := .builtin .append, args := #[s, x], argTypes := #[t, t] })
    (base : Nat) (e : TypeId) (i : TypeInfo) (z : Value) (bytes : Nat) (ht : P.underlying t = some (.slice e)) (hi : P.info? e = some i) (hz : i.zero = some z)
    (hsize : i.size = 1) (hby : i.bytes = bytes) (hzs : z.cells.size = 1)
    (v : Value) (n : Nat) (xs : List Value) (hs : a.eval s = v) (hown : w.ownsRow base e 1 v n xs)
    (vu : Value) (ns : List (List UInt8)) (D : Option Nat) (hx : a.eval x = vu) (hu : StrAt w D ns vu)
    (h63 : n + ns.length ≤ maxLen) (hbytes : (n + ns.length) * bytes ≤ 140737488355328) (hbase : base ≤ w.heap.size)
    (h : ∀ v' w', w'.ownsRow base e 1 v' (n + ns.length) (xs ++ ns.map encStr) → w.grownBy w' v.ownBlock → (v'.ownBlock = v.ownBlock ∨ v'.ownBlock = some w.heap.size) → wpList P ops Q rest (a.put o.dst v') w') :
    wpList P ops Q (o :: rest) a w := by
  obtain ⟨p, cap, rfl, h1, h2⟩ := hu
  cases p with
  | none =>
    obtain ⟨e1, e2⟩ := h1 rfl
    have hn : ns = [] := List.eq_nil_of_length_eq_zero e2
    subst hn
    subst e1
    refine wpList_append_own_none hgd s x t ho base e i 1 ht hi v n xs hs hown hx (h v w ?_ ⟨rfl, rfl, rfl, Nat.le_refl _, fun _ _ _ => rfl⟩ (.inl rfl))
    rw [List.map_nil, List.append_nil]
    exact hown
  | some ad =>
    refine wpList_append_own_at w hgd s x t ho base e i z 1 bytes ht hi hz hsize hby hzs (by decide) v n xs hs hown ad ns.length cap (ns.map encStr) hx (by simp) (fun j u hj => ?_) (fun u hu => ?_) h63 hbytes hbase (fun v' w' k1 k2 _ k4 => h v' w' k1 k2 k4)
    · rw [List.getElem?_map] at hj
      obtain ⟨s0, hs0, rfl⟩ := Option.map_eq_some_iff.1 hj
      obtain ⟨g, o, e1, _, _, e4⟩ := h2 (by have := (List.getElem?_eq_some_iff.1 hs0).1; omega)
      injection e1 with e1
      subst e1
      have h3 := e4 j s0 hs0
      have h5 : (⟨g, o, none⟩ : Addr).add j = ⟨g, o + j, none⟩ := by simp only [Addr.add]; split <;> simp_all
      rw [h5]
      exact h3
    · obtain ⟨s0, _, rfl⟩ := List.mem_map.1 hu
      rfl
theorem risB_le (ss : List (List UInt8)) : (risB ss).length ≤ ss.length := by
  have h := srtB_le ss
  unfold risB
  have h2 : (noE (srtB ss)).length ≤ (srtB ss).length := by
    unfold noE
    split
    · rename_i r he; rw [he]; simp
    · exact Nat.le_refl _
  omega
theorem caI_len (it : It) : (caI it).length ≤ (esI it).length := by
  have h := risB_le (bsL (clN (esI it)))
  have h2 := clN_len (esI it)
  unfold bsL at h
  rw [List.length_map] at h
  exact Nat.le_trans h h2
theorem own_form {w : World} {base n : Nat} {e : TypeId} {v : Value} {xs : List Value} (h : w.ownsRow base e 1 v n xs) : ∃ p c, v = .slice p n c := by
  rcases h.2 with ⟨e0, h0⟩ | ⟨g, cap, _, e0, _⟩
  · subst h0; exact ⟨_, _, e0⟩
  · exact ⟨_, _, e0⟩
section
variable {bf be ba bn ge : Nat} {l : List (Int × It)} {fq : Option Addr} {fc ce : Nat}
set_option maxHeartbeats 2000000 in
set_option maxRecDepth 100000 in
theorem enter_go {m : Nat} (ih : CEn bf be ba bn ge l fq fc ce m) (hnE : ∀ e ∈ l, (esI e.2).length < 1099511627776) {Da : Option Nat} {w : World} {st : List Bool × List (List UInt8)} (h : SE bf be ba bn ge l fq fc ce w st Da) (k : Nat) (pp : Int) (it : It) (hk : l[k]? = some (pp, it)) (hf : st.1[k]? = some false) (hc : cntF st.1 ≤ m + 1) (hn : (foE l m (caI it) (st.1.set k true, st.2 ++ snI it)).2.length < 1099511627776) :
    Calls Try.prog 43 #[.int .i64 (k : Int), .pointer (some ⟨bf, 0, none⟩), .pointer (some ⟨be, 0, none⟩), .pointer (some ⟨ba, 0, none⟩), .pointer (some ⟨bn, 0, none⟩)] w fun ex w' => ex = .returned (.tuple #[]) ∧ ∃ Da', SE bf be ba bn ge l fq fc ce w' (foE l m (caI it) (st.1.set k true, st.2 ++ snI it)) Da' ∧ Stz ba ge Da none Da' none w w' := by
  obtain ⟨i0, hi0, hz0, hz1, hz2⟩ := info_parts Try.infoStr
  have hlen : l.length ≤ 1099511627776 := by obtain ⟨_, _, _, h, _⟩ := h.r; exact h
  have hkl := (List.getElem?_eq_some_iff.1 hk).1
  obtain ⟨hs1, hz01⟩ := h.enter hkl
  have hcn := cntF_set hf
  obtain ⟨cur, hcur⟩ := h.b.1
  have fz : ∀ o, w.frozen? ⟨ge, o, none⟩ = false := frz_ofE hcur
  have c0 := h.f
  have c1 := h.e
  have c2 := h.b.2 k false hf
  have d0 := hs1.f
  obtain ⟨g, vI, hq, hgo, hcv, hI⟩ := RdF.itemF hs1.r hk
  obtain ⟨p1, c1', p2, c2', p3, c3, p4, c4, hvI, _⟩ := id hI
  subst hvI
  subst hq
  have e0 := hcv.get 0 _ rfl
  have e1 := hcv.get 1 _ rfl
  have e2 := hcv.get 2 _ rfl
  have e3 := hcv.get 3 _ rfl
  have e4 := hcv.get 4 _ rfl
  have e5 := hcv.get 5 _ rfl
  have e6 := hcv.get 6 _ rfl
  have e7 := hcv.get 7 _ rfl
  have e8 := hcv.get 8 _ rfl
  have e9 := hcv.get 9 _ rfl
  rw [Nat.add_zero] at e0
  have g0 : decide ((k : Int) < 0) = false := by simp
  have g1 : decide ((k : Int) ≥ (l.length : Int)) = false := by simp; omega
  have gk : (0 : Int) ≤ (k : Int) := by omega
  have gk1 : (k : Int) < (l.length : Int) := by omega
  have hkb : k < 1099511627776 := by omega
  have hlo := hs1.lo
  have HCA := hid (Nat.lt_of_le_of_lt (caI_len it) (hnE _ (List.mem_of_getElem? hk)))
  have HOw := hid (effOwn_any it pp _ _ (fun z => z < bf) (fun z hz => by show z < _; omega) hI (hnE _ (List.mem_of_getElem? hk)))
  have HS1 := hid (And.intro hs1 hz01)
  have HFa := hid (fun j => foE_less l m (caI it) (st.1.set k true, st.2 ++ snI it) j)
  have HFb := hid (fun j => (foE_facts l m ((caI it).take j) (st.1.set k true, st.2 ++ snI it)).1)
  have HM := hid (fun j s (h : (caI it)[j]? = some s) => foE_take l m (st.1.set k true, st.2 ++ snI it) h)
  have H0 : Hid (foE l m ((caI it).take 0) (st.1.set k true, st.2 ++ snI it) = (st.1.set k true, st.2 ++ snI it)) := by show _ = _; rw [List.take_zero]; rfl
  have HZ : Hid (foE l m ((caI it).take (caI it).length) (st.1.set k true, st.2 ++ snI it) = foE l m (caI it) (st.1.set k true, st.2 ++ snI it)) := by show _ = _; rw [List.take_length]
  have hsl := HFa.out 0
  rw [H0.out] at hsl
  have hsl2 : st.2.length + (snI it).length < 1099511627776 := by
    have h9 : (st.2 ++ snI it).length ≤ _ := hsl
    rw [List.length_append] at h9
    omega
  have HB := hid (fun j => Nat.lt_of_le_of_lt (HFa.out j) hn)
  generalize hMM : (fun j => foE l m ((caI it).take j) (st.1.set k true, st.2 ++ snI it)) = M
  have hMk : ∀ j, foE l m ((caI it).take j) (st.1.set k true, st.2 ++ snI it) = M j := fun j => by rw [← hMM]
  simp only [hMk] at HB HFb HM H0 HZ
  rw [← HZ.out]
  have hcm : cntF (st.1.set k true) ≤ m := by omega
  have HFb2 := hid (fun j => Nat.le_trans (HFb.out j) hcm)
  have hmax : st.2.length + (snI it).length ≤ maxLen := by unfold maxLen; omega
  have hbyt : (st.2.length + (snI it).length) * 16 ≤ 140737488355328 := by omega
  clear hMM hMk HZ HFa HFb h hs1 hz01 hcv hI hn hk hf hc hcn hcur hsl hcm hnE
  generalize hCA : caI it = CA at *
  clear hCA
  go_enter Try.func43, Try.ntmps43
  go_wp2_with (first
    | (go_at_call 7; refine Calls.mono HOw.out ?_; rintro e w2 ⟨v1, v2, rfl, ⟨D1, hS1, hD1⟩, ⟨D2, hS2, hD2⟩, hb2⟩; obtain ⟨pc, cc, hvc, hpc, hcc⟩ := id hS2; subst hvc; have hs2 := HS1.out.1.below hb2; obtain ⟨va, r1, r2, r3⟩ := hs2.a; have ca := cell_of_row _ _ 0 _ _ _ r1; have HR := hid (And.intro r1 (And.intro r2 r3)); have HS2 := hid (And.intro hs2 hb2); have hbase : ba + 1 ≤ w2.heap.size := hs2.a.lt.1; have hr2 := r2; clear r1 r3 hs2)
    | (at_builtin; refine app_str rfl (.tmp 37) (.tmp 38) 36 rfl (ba + 1) 9 i0 _ 16 Try.underlying36 hi0 hz0 hz1 hz2 rfl _ _ _ rfl HR.out.2.1 _ (snI it) D1 rfl hS1 hmax hbyt hbase ?_; intro v6 w6 hown6 hgrow6 hat6; obtain ⟨hsn, hzn⟩ := HS2.out.1.names (ns := snI it) HR.out.1 HR.out.2.2 (fun k e => HS2.out.1.a.lt.2 k e) hown6 hgrow6 hat6; have hnb : some ba ≠ va.ownBlock := (fun e => by have := (HR.out.2.1.lt ba e.symm).1; omega); have b6 := (hgrow6.block ba (by omega) hnb).trans HR.out.1; have c6 := cell_of_row _ _ 0 _ _ _ b6; have f6 := frz_ofE b6; obtain ⟨pv, cv, hv6⟩ := own_form hown6; subst hv6; have HSN := hid (And.intro hsn hzn); clear hsn hzn b6))
  have hDn : ∀ z, w2.heap.size ≤ z → True := fun _ _ => trivial
  have HOKg := hid (fun (g2 : Nat) (hd : some g2 = D2) (hl : g2 < w2.heap.size) => show (w6.setCell ⟨ba, 0, none⟩ (.slice pv (st.2.length + (snI it).length) cv)).heap[g2]? = w2.heap[g2]? ∧ okZ ba ge (Value.slice pv (st.2.length + (snI it).length) cv).ownBlock none (w6.setCell ⟨ba, 0, none⟩ (.slice pv (st.2.length + (snI it).length) cv)) g2 from by
    have hge2 := hD2 g2 hd
    have hba1 := HS1.out.1.a.lt
    obtain ⟨cur, hcur⟩ := HS1.out.1.b.1
    have hgl := (Array.getElem?_eq_some_iff.1 hcur).1
    have hz := okZ.step HSN.out.2 (k := g2) ⟨hl, by omega, by omega, fun e => by have := (hba1.2 g2 e).2; omega, fun e => by cases e⟩
    exact hz)
  generalize hDD : (Value.slice pv (st.2.length + (snI it).length) cv).ownBlock = Dn at *
  clear hDD hDn hown6 hgrow6 hat6 c6 f6 hS1 hD1
  generalize w6.setCell ⟨ba, 0, none⟩ (.slice pv (st.2.length + (snI it).length) cv) = W at *
  have HS0 := hid (show RelEn bf be ba bn ge l (some ⟨g, 0, none⟩) fc ce Dn W M CA.length (.int .i64 (0 : Nat)) W from ⟨0, Dn, Nat.zero_le _, rfl, by rw [H0.out]; exact HSN.out.1, Stz.refl _ _ _ _ _⟩)
  have HCC := hid hcc
  clear hcc hpc
  have ew := Try.call43
  go_loopw [42] (fun j wr => RelEn bf be ba bn ge l (some ⟨g, 0, none⟩) fc ce Dn W M CA.length j wr) (fun j _ => upN CA.length j)
  case atStart => exact HS0.out
  case round =>
    obtain ⟨j, D', hjl, rfl, hsr, hzr⟩ := hrel
    clear HS0
    by_cases hlt : j < CA.length
    · obtain ⟨s, hs⟩ : ∃ s, CA[j]? = some s := ⟨_, List.getElem?_eq_getElem hlt⟩
      obtain ⟨g2, o2, hp2, hd2, hl2, hcl⟩ := HCC.out (by omega)
      subst hp2
      have hok := HOKg.out g2 hd2 hl2
      have y0 : wr.cell? ⟨g2, o2 + j, none⟩ = some (.string (bA s)) := (okZ_cell hzr hok.2 (o2 + j)).trans ((World.cell?_of_block (a := ⟨g2, o2 + j, none⟩) hok.1).trans (hcl j s hs))
      have gj : (0 : Int) ≤ (j : Int) := by omega
      have gj1 : (j : Int) < (CA.length : Int) := by omega
      have hjb : j < 1099511627776 := by have := HCA.out; omega
      have z0 := hsr.f
      have z1 := hsr.n
      unfold fnE at z1
      have hdr := Below.drew (Below.refl wr.heap.size wr)
      have hsd := hsr.below hdr
      have HFi := hid (Find_any l _ 2 (bA s) wr.drew (fun z => z < bf) (fun z hz => by have := hsd.lo; show z < _; omega) hsd.r)
      have hnx := HM.out j s hs
      have HE := hid (fun (w7 : World) (hb : Below wr.drew.heap.size wr.drew w7) => ih D' w7 (M j) (fnd l 2 (bA s)) (hsd.below hb) (HFb2.out j) (by rw [← hnx]; exact HB.out (j + 1)))
      have HNX := hid hnx
      have HL := hid hlt
      have HZR := hid (hzr.trans (Stz.below (bs := ba) (bc := ge) (Ds := D') (Dc := none) hdr))
      have HSD := hid hsd
      clear hcl hs hok hnx hlt hjl hsr hzr hdr hsd
      generalize fnd l 2 (bA s) = fi at *
      go_wp2
      go_region_held3 (fun w' => w'.cell? ⟨bf, 0, none⟩ = some (.slice (some ⟨g, 0, none⟩) l.length fc) ∧ w'.cell? ⟨bn, 0, none⟩ = some (.func (.func 43) #[] #[.pointer (some ⟨bf, 0, none⟩), .pointer (some ⟨be, 0, none⟩), .pointer (some ⟨ba, 0, none⟩), .pointer (some ⟨bn, 0, none⟩)])) (first | go_keep | (with_reducible exact ⟨q0, q1⟩) | (with_reducible exact ⟨t0, t1⟩))
        (first
          | (go_at_call 44; refine Calls.mono HFi.out ?_; rintro e w7 ⟨rfl, hb7⟩; have hs7 := HSD.out.below hb7; have q0 := hs7.f; have q1 := hs7.n; unfold fnE at q1; have HE7 := hid (HE.out w7 hb7); clear hs7)
          | ((with_reducible refine Calls.mono HE7.out ?_); rintro e w8 ⟨rfl, D8, hs8, hz8⟩; have t0 := hs8.f; have t1 := hs8.n; unfold fnE at t1))
      clear q0 q1 t0 t1
      go_wp2
      go_roundw
      case rel => exact ⟨j + 1, D8, HL.out, by go_num, by rw [HNX.out]; exact hs8, (HZR.out.trans (Stz.below hb7)).trans hz8⟩
      case measure => have := HL.out; simp [upN, Go.RowKit.intOf]; omega
    · obtain rfl : j = CA.length := by omega
      clear hlt hjl
      go_wp2
      go_end0
      exact ⟨rfl, D', hsr, ((HS1.out.2.trans (Stz.below HS2.out.2)).trans HSN.out.2).trans hzr⟩
theorem enterE_any (hnE : ∀ e ∈ l, (esI e.2).length < 1099511627776) (m : Nat) : CEn bf be ba bn ge l fq fc ce m := by
  induction m with
  | zero =>
    intro Da w st i h hc hn
    refine enter_skip h i ?_
    by_cases h0 : i < 0
    · exact .inl h0
    · by_cases h1 : (l.length : Int) ≤ i
      · exact .inr (.inl h1)
      · exact .inr (.inr (cntF_zero (Nat.le_zero.1 hc) (by rw [h.len]; omega)))
  | succ m ih =>
    intro Da w st i h hc hn
    by_cases h0 : i < 0 ∨ (l.length : Int) ≤ i
    · have hd : dfs l (m + 1) st i = st := by unfold dfs; rw [if_pos h0]
      rw [hd]
      exact enter_skip h i (by rcases h0 with h0 | h0; exact .inl h0; exact .inr (.inl h0))
    · obtain ⟨k, rfl⟩ : ∃ k : Nat, i = (k : Int) := ⟨i.toNat, by omega⟩
      have hkl : k < l.length := by omega
      obtain ⟨e, he⟩ : ∃ e, l[k]? = some e := ⟨_, List.getElem?_eq_getElem hkl⟩
      obtain ⟨pp, it⟩ := e
      obtain ⟨b, hb⟩ : ∃ b, st.1[k]? = some b := ⟨_, List.getElem?_eq_getElem (by rw [h.len]; exact hkl)⟩
      cases b with
      | true =>
        have hd : dfs l (m + 1) st (k : Int) = st := by unfold dfs; rw [if_neg h0, Int.toNat_natCast, hb, he]
        rw [hd]
        exact enter_skip h (k : Int) (.inr (.inr (by rw [Int.toNat_natCast]; exact hb)))
      | false =>
        have hd : dfs l (m + 1) st (k : Int) = foE l m (caI it) (st.1.set k true, st.2 ++ snI it) := by
          conv => lhs; unfold dfs
          rw [if_neg h0, Int.toNat_natCast, hb, he]
          rfl
        rw [hd] at hn ⊢
        exact enter_go ih hnE h k pp it he hb hc hn
end
end Go.Proofs.Ytjpmnholpeidmaa

namespace Go.Proofs.Ytjpmnholpeidmaa
open Go.RowKit Go.Sort
set_option linter.unusedVariables false
attribute [local go_sem ↓] Go.wp_at_zero Go.wp_at_succ
theorem Try.infoBool : (Try.prog.info? 4).map (fun i => (i.zero, i.size, i.bytes)) = some (some (.bool false), 1, 1) := by kernel_rfl
/-- All that is reached from i, and its names. -/
def reaL (l : List (Int × It)) (i : Int) : List (List UInt8) := risB (dfs l l.length (List.replicate l.length false, []) i).2
set_option maxHeartbeats 2000000 in
set_option maxRecDepth 100000 in
theorem reached_any (l : List (Int × It)) (q : Option Addr) (c : Nat) (w : World) (ok : Nat → Prop) (hok : ∀ k, ok k → k < w.heap.size) (hR : RdF ok w l (.agg #[.slice q l.length c])) (hnE : ∀ e ∈ l, (esI e.2).length < 1099511627776) (i : Int) (hn : (dfs l l.length (List.replicate l.length false, []) i).2.length < 1099511627776) :
    Calls Try.prog 19 #[.agg #[.slice q l.length c], .int .i64 i] w fun e w' => ∃ v, e = .returned v ∧ NewS w.heap.size w' (reaL l i) v ∧ Below w.heap.size w w' := by
  have hlen : l.length ≤ 1099511627776 := by obtain ⟨_, _, _, h, _⟩ := hR; exact h
  have hmf : ∀ (fn : Go.Fn) (first cap : Array Value) (w : World), (Instr.makeFunc fn first cap).run Try.prog w = .ok (.func fn first cap) w := fun _ _ _ _ => rfl
  have hsf := fun (a : Addr) (fn : Go.Fn) (x y : Array Value) (m : Mode) (w : World) => run_store Try.prog w a (.func fn x y) m rfl
  have ew := Try.call43
  obtain ⟨i0, hi, hz0, hz1, hz2⟩ := info_parts Try.infoBool
  obtain ⟨M, hM⟩ : ∃ M, M = madeCells (Value.bool false).cells (((l.length : Nat) : Int).toNat * i0.size) := ⟨_, rfl⟩
  have hMs : M.size = l.length := by rw [hM, size_madeCells, hz1]; simp
  have hMg : ∀ j, j < l.length → M[j]? = some (.bool false) := fun j hj => by
    rw [hM]
    simp [madeCells, Value.cells, hz1, hj, Nat.mod_one]
  have hmk : ∀ W : World, (Instr.makeSlice 98 (.int .i64 (l.length : Int)) (.int .i64 (l.length : Int))).run Try.prog W = .ok (.slice (some ⟨W.heap.size, 0, none⟩) l.length l.length) (W.alloc (.cells M 4)) := fun W => by
    have h := run_make (P := Try.prog) W 98 4 i0 (.bool false) Try.underlying98 hi hz0 .i64 .i64 (l.length : Int) (l.length : Int) (by omega) (by omega) (by rw [hz2]; omega) (by omega)
    rw [← hM] at h
    simpa using h
  clear hM
  have hb1 := (Below.refl w.heap.size w).alloc (Nat.le_refl _) (.cells #[.slice q l.length c] 24)
  have hb2 := hb1.alloc (by simp) (.cells #[.slice none 0 0] 36)
  have hb3 := hb2.alloc (by simp; omega) (.cells M 4)
  have hb4 := hb3.alloc (by simp; omega) (.cells #[.slice (some ⟨w.heap.size + 1 + 1, 0, none⟩) l.length l.length] 98)
  have hb5 := hb4.alloc (by simp; omega) (.cells #[.func (.func 43) #[] #[.pointer (some ⟨w.heap.size, 0, none⟩), .pointer (some ⟨w.heap.size + 1 + 1 + 1, 0, none⟩), .pointer (some ⟨w.heap.size + 1, 0, none⟩), .pointer (some ⟨w.heap.size + 1 + 1 + 1 + 1, 0, none⟩)]] 99)
  have z1 : (w.alloc (.cells #[.slice q l.length c] 24)).heap.size = w.heap.size + 1 := by simp
  have z2 : ((w.alloc (.cells #[.slice q l.length c] 24)).alloc (.cells #[.slice none 0 0] 36)).heap.size = w.heap.size + 1 + 1 := by simp
  have z3 : (((w.alloc (.cells #[.slice q l.length c] 24)).alloc (.cells #[.slice none 0 0] 36)).alloc (.cells M 4)).heap.size = w.heap.size + 1 + 1 + 1 := by simp
  have z4 : ((((w.alloc (.cells #[.slice q l.length c] 24)).alloc (.cells #[.slice none 0 0] 36)).alloc (.cells M 4)).alloc (.cells #[.slice (some ⟨w.heap.size + 1 + 1, 0, none⟩) l.length l.length] 98)).heap.size = w.heap.size + 1 + 1 + 1 + 1 := by simp
  have z5 : (((((w.alloc (.cells #[.slice q l.length c] 24)).alloc (.cells #[.slice none 0 0] 36)).alloc (.cells M 4)).alloc (.cells #[.slice (some ⟨w.heap.size + 1 + 1, 0, none⟩) l.length l.length] 98)).alloc (.cells #[.func (.func 43) #[] #[.pointer (some ⟨w.heap.size, 0, none⟩), .pointer (some ⟨w.heap.size + 1 + 1 + 1, 0, none⟩), .pointer (some ⟨w.heap.size + 1, 0, none⟩), .pointer (some ⟨w.heap.size + 1 + 1 + 1 + 1, 0, none⟩)]] 99)).heap.size = w.heap.size + 1 + 1 + 1 + 1 + 1 := by simp
  have k1 := (Below.refl (w.alloc (.cells #[.slice q l.length c] 24)).heap.size (w.alloc (.cells #[.slice q l.length c] 24))).alloc (Nat.le_refl _) (.cells #[.slice none 0 0] 36)
  have k2 := (Below.refl ((w.alloc (.cells #[.slice q l.length c] 24)).alloc (.cells #[.slice none 0 0] 36)).heap.size ((w.alloc (.cells #[.slice q l.length c] 24)).alloc (.cells #[.slice none 0 0] 36))).alloc (Nat.le_refl _) (.cells M 4)
  have k3 := (Below.refl (((w.alloc (.cells #[.slice q l.length c] 24)).alloc (.cells #[.slice none 0 0] 36)).alloc (.cells M 4)).heap.size (((w.alloc (.cells #[.slice q l.length c] 24)).alloc (.cells #[.slice none 0 0] 36)).alloc (.cells M 4))).alloc (Nat.le_refl _) (.cells #[.slice (some ⟨w.heap.size + 1 + 1, 0, none⟩) l.length l.length] 98)
  have k4 := (Below.refl ((((w.alloc (.cells #[.slice q l.length c] 24)).alloc (.cells #[.slice none 0 0] 36)).alloc (.cells M 4)).alloc (.cells #[.slice (some ⟨w.heap.size + 1 + 1, 0, none⟩) l.length l.length] 98)).heap.size ((((w.alloc (.cells #[.slice q l.length c] 24)).alloc (.cells #[.slice none 0 0] 36)).alloc (.cells M 4)).alloc (.cells #[.slice (some ⟨w.heap.size + 1 + 1, 0, none⟩) l.length l.length] 98))).alloc (Nat.le_refl _) (.cells #[.func (.func 43) #[] #[.pointer (some ⟨w.heap.size, 0, none⟩), .pointer (some ⟨w.heap.size + 1 + 1 + 1, 0, none⟩), .pointer (some ⟨w.heap.size + 1, 0, none⟩), .pointer (some ⟨w.heap.size + 1 + 1 + 1 + 1, 0, none⟩)]] 99)
  have n0 : (((((w.alloc (.cells #[.slice q l.length c] 24)).alloc (.cells #[.slice none 0 0] 36)).alloc (.cells M 4)).alloc (.cells #[.slice (some ⟨w.heap.size + 1 + 1, 0, none⟩) l.length l.length] 98)).alloc (.cells #[.func (.func 43) #[] #[.pointer (some ⟨w.heap.size, 0, none⟩), .pointer (some ⟨w.heap.size + 1 + 1 + 1, 0, none⟩), .pointer (some ⟨w.heap.size + 1, 0, none⟩), .pointer (some ⟨w.heap.size + 1 + 1 + 1 + 1, 0, none⟩)]] 99)).heap[w.heap.size]? = _ := (k4.block _ (by omega)).trans ((k3.block _ (by omega)).trans ((k2.block _ (by omega)).trans ((k1.block _ (by omega)).trans (heap_alloc_new w (.cells #[.slice q l.length c] 24)))))
  have m1 := heap_alloc_new (w.alloc (.cells #[.slice q l.length c] 24)) (.cells #[.slice none 0 0] 36)
  rw [z1] at m1
  have n1 := (k4.block (w.heap.size + 1) (by omega)).trans ((k3.block _ (by omega)).trans ((k2.block _ (by omega)).trans m1))
  have m2 := heap_alloc_new ((w.alloc (.cells #[.slice q l.length c] 24)).alloc (.cells #[.slice none 0 0] 36)) (.cells M 4)
  rw [z2] at m2
  have n2 := (k4.block (w.heap.size + 1 + 1) (by omega)).trans ((k3.block _ (by omega)).trans m2)
  have m3 := heap_alloc_new (((w.alloc (.cells #[.slice q l.length c] 24)).alloc (.cells #[.slice none 0 0] 36)).alloc (.cells M 4)) (.cells #[.slice (some ⟨w.heap.size + 1 + 1, 0, none⟩) l.length l.length] 98)
  rw [z3] at m3
  have n3 := (k4.block (w.heap.size + 1 + 1 + 1) (by omega)).trans m3
  have n4 := heap_alloc_new ((((w.alloc (.cells #[.slice q l.length c] 24)).alloc (.cells #[.slice none 0 0] 36)).alloc (.cells M 4)).alloc (.cells #[.slice (some ⟨w.heap.size + 1 + 1, 0, none⟩) l.length l.length] 98)) (.cells #[.func (.func 43) #[] #[.pointer (some ⟨w.heap.size, 0, none⟩), .pointer (some ⟨w.heap.size + 1 + 1 + 1, 0, none⟩), .pointer (some ⟨w.heap.size + 1, 0, none⟩), .pointer (some ⟨w.heap.size + 1 + 1 + 1 + 1, 0, none⟩)]] 99)
  rw [z4] at n4
  have hse : SE w.heap.size (w.heap.size + 1 + 1 + 1) (w.heap.size + 1) (w.heap.size + 1 + 1 + 1 + 1) (w.heap.size + 1 + 1) l q c l.length (((((w.alloc (.cells #[.slice q l.length c] 24)).alloc (.cells #[.slice none 0 0] 36)).alloc (.cells M 4)).alloc (.cells #[.slice (some ⟨w.heap.size + 1 + 1, 0, none⟩) l.length l.length] 98)).alloc (.cells #[.func (.func 43) #[] #[.pointer (some ⟨w.heap.size, 0, none⟩), .pointer (some ⟨w.heap.size + 1 + 1 + 1, 0, none⟩), .pointer (some ⟨w.heap.size + 1, 0, none⟩), .pointer (some ⟨w.heap.size + 1 + 1 + 1 + 1, 0, none⟩)]] 99)) (List.replicate l.length false, []) none := ⟨cell_of_row _ _ 0 _ _ _ n0, RdF.kept hR (fun k hk => hb5.block k (hok k hk)) (fun k hk => hok k hk), cell_of_row _ _ 0 _ _ _ n3, ⟨⟨_, n2⟩, fun j x hj => by
    have hj2 : (List.replicate l.length false)[j]? = some x := hj
    rw [List.getElem?_replicate] at hj2
    split at hj2
    · rename_i hjl
      injection hj2 with hj2
      subst hj2
      exact cell_of_row _ _ j _ _ _ n2 |>.trans (hMg j hjl)
    · cases hj2⟩, ⟨_, n1, World.ownsRow_nil _ _ _ _, rfl⟩, cell_of_row _ _ 0 _ _ _ n4, List.length_replicate, ⟨by omega, by omega, by omega, by omega, by omega, by omega⟩, ⟨by omega, by omega, by omega, by omega, by omega⟩, (fun e => by cases e), (fun e => by cases e), (fun e => by cases e)⟩
  have hcf : cntF (List.replicate l.length false) ≤ l.length := by
    unfold cntF
    have h := List.countP_le_length (p := fun b : Bool => !b) (l := List.replicate l.length false)
    rw [List.length_replicate] at h
    exact h
  have HE := hid (enterE_any hnE l.length none (((((w.alloc (.cells #[.slice q l.length c] 24)).alloc (.cells #[.slice none 0 0] 36)).alloc (.cells M 4)).alloc (.cells #[.slice (some ⟨w.heap.size + 1 + 1, 0, none⟩) l.length l.length] 98)).alloc (.cells #[.func (.func 43) #[] #[.pointer (some ⟨w.heap.size, 0, none⟩), .pointer (some ⟨w.heap.size + 1 + 1 + 1, 0, none⟩), .pointer (some ⟨w.heap.size + 1, 0, none⟩), .pointer (some ⟨w.heap.size + 1 + 1 + 1 + 1, 0, none⟩)]] 99)) (List.replicate l.length false, []) i hse hcf hn)
  have HB5 := hid hb5
  have HZ5 := hid z5
  have y0 : (w.alloc (.cells #[.slice q l.length c] 24)).cell? ⟨w.heap.size, 0, none⟩ = some (.slice q l.length c) := one_new w _ _
  have y1 := cell_alloc y0 (.cells #[.slice none 0 0] 36)
  unfold reaL
  generalize dfs l l.length (List.replicate l.length false, []) i = R at *
  have hnl := hn
  clear hb1 hb2 hb3 hb4 hb5 z1 z2 z3 z4 z5 k1 k2 k3 k4 n0 n1 n2 n3 n4 m1 m2 m3 hse hcf hMg hR hok hnE hn hMs
  go_enter Try.func19, Try.ntmps19
  go_wp2_with (first
    | ((with_reducible refine Calls.mono HE.out ?_); rintro e w6 ⟨rfl, D6, hs6, hz6⟩; obtain ⟨va, r1, r2, r3⟩ := hs6.a; have ca := cell_of_row _ _ 0 _ _ _ r1; have HRi := hid (rising_any va _ _ _ w6 r2 hnl); have HS6 := hid (And.intro hz6 r2); clear hs6 hz6 r1 r2)
    | (go_at_call 23; refine Calls.mono HRi.out ?_; rintro e w7 ⟨v7, rfl, hS7, hG7⟩))
  go_ret
  have hz := HS6.out.1
  have hlt := fun k e => HS6.out.2.lt k e
  refine ⟨_, rfl, ⟨va.ownBlock, hS7, fun k e => by have := (hlt k e.symm).1; omega⟩, HB5.out.trans ⟨hG7.os.trans hz.os, hG7.tape.trans hz.tape, hG7.output.trans hz.output, Nat.le_trans hz.size hG7.size, fun k hk => (hG7.block k (by have := hz.size; have := HZ5.out; omega) (fun e => by have := (hlt k e.symm).1; omega)).trans (hz.block k (by have := HZ5.out; omega) (by omega) (by omega) (fun e => by cases e) (fun e => by cases e))⟩⟩
end Go.Proofs.Ytjpmnholpeidmaa

namespace Go.Proofs.Ytjpmnholpeidmaa
open Go.RowKit
set_option linter.unusedVariables false
abbrev BL : Type := List UInt8
theorem fnd_lt (l : List (Int × It)) (x : ByteArray) : fnd l 2 x < (l.length : Int) := by
  unfold fnd fidx
  split
  · omega
  · split
    · rename_i i h
      obtain ⟨h1, _⟩ := List.findIdx?_eq_some_iff_getElem.1 h
      omega
    · omega
section
variable (l : List (Int × It))
/-- From item j one comes to item k by a call. -/
def Edg (j k : Nat) : Prop := ∃ e s, l[j]? = some e ∧ s ∈ caI e.2 ∧ fnd l 2 (bA s) = (k : Int) ∧ k < l.length
def RchN : Nat → Nat → Nat → Prop
  | 0, i, j => i = j
  | n + 1, i, j => ∃ k, Edg l i k ∧ RchN n k j
def Rch (i j : Nat) : Prop := ∃ n, RchN l n i j
theorem Rch.refl (i : Nat) : Rch l i i := ⟨0, rfl⟩
theorem Rch.step {i k j : Nat} (h : Edg l i k) (h2 : Rch l k j) : Rch l i j := by
  obtain ⟨n, h2⟩ := h2
  exact ⟨n + 1, k, h, h2⟩
theorem rch_iff (i j : Nat) : Rch l i j ↔ i = j ∨ ∃ k, Edg l i k ∧ Rch l k j := by
  constructor
  · rintro ⟨n, h⟩
    cases n with
    | zero => exact .inl h
    | succ n =>
      obtain ⟨k, h1, h2⟩ := h
      exact .inr ⟨k, h1, n, h2⟩
  · rintro (rfl | ⟨k, h1, h2⟩)
    · exact Rch.refl l i
    · exact Rch.step l h1 h2
/-- What a walk from a state to another one has done. -/
structure Wlk (st st' : List Bool × List (List UInt8)) (from_ : Nat → Prop) : Prop where
  len : st'.1.length = st.1.length
  mono : ∀ j : Nat, st.1[j]? = some true → st'.1[j]? = some true
  only : ∀ j : Nat, st'.1[j]? = some true → st.1[j]? = some true ∨ ∃ i, from_ i ∧ Rch l i j
  all : ∀ i : Nat, from_ i → i < l.length → st'.1[i]? = some true
  shut : ∀ j : Nat, st'.1[j]? = some true → st.1[j]? ≠ some true → ∀ k : Nat, Edg l j k → st'.1[k]? = some true
  nam : ∀ s : List UInt8, s ∈ st'.2 ↔ s ∈ st.2 ∨ ∃ (j : Nat) (e : Int × It), l[j]? = some e ∧ st'.1[j]? = some true ∧ st.1[j]? ≠ some true ∧ s ∈ snI e.2
theorem wlk_nil (st : List Bool × List (List UInt8)) (fr : Nat → Prop) (h : ∀ i, fr i → i < l.length → st.1[i]? = some true) : Wlk l st st fr :=
  ⟨rfl, fun _ h => h, fun _ h => .inl h, h, fun _ h1 h2 => absurd h1 h2, fun s => ⟨fun h => .inl h, fun h => by
    rcases h with h | ⟨j, e, _, h1, h2, _⟩
    · exact h
    · exact absurd h1 h2⟩⟩
theorem Wlk.trans {s0 s1 s2 : List Bool × List (List UInt8)} {f g : Nat → Prop} (h : Wlk l s0 s1 f) (k : Wlk l s1 s2 g) : Wlk l s0 s2 (fun i => f i ∨ g i) where
  len := k.len.trans h.len
  mono := fun j hj => k.mono j (h.mono j hj)
  only := fun j hj => by
    rcases k.only j hj with h1 | ⟨i, h1, h2⟩
    · rcases h.only j h1 with h3 | ⟨i, h3, h4⟩
      · exact .inl h3
      · exact .inr ⟨i, .inl h3, h4⟩
    · exact .inr ⟨i, .inr h1, h2⟩
  all := fun i hi hl => by
    rcases hi with hi | hi
    · exact k.mono i (h.all i hi hl)
    · exact k.all i hi hl
  shut := fun j h2 h0 q hq => by
    by_cases h1 : s1.1[j]? = some true
    · exact k.mono q (h.shut j h1 h0 q hq)
    · exact k.shut j h2 h1 q hq
  nam := fun s => by
    rw [k.nam, h.nam]
    constructor
    · rintro ((h1 | ⟨j, e, h1, h2, h3, h4⟩) | ⟨j, e, h1, h2, h3, h4⟩)
      · exact .inl h1
      · exact .inr ⟨j, e, h1, k.mono j h2, h3, h4⟩
      · exact .inr ⟨j, e, h1, h2, fun h5 => h3 (h.mono j h5), h4⟩
    · rintro (h1 | ⟨j, e, h1, h2, h3, h4⟩)
      · exact .inl (.inl h1)
      · by_cases h5 : s1.1[j]? = some true
        · exact .inl (.inr ⟨j, e, h1, h5, h3, h4⟩)
        · exact .inr ⟨j, e, h1, h2, h5, h4⟩
theorem Wlk.mono_from {s0 s1 : List Bool × List (List UInt8)} {f g : Nat → Prop} (h : Wlk l s0 s1 f) (h1 : ∀ i, f i → g i) (h2 : ∀ i, g i → f i) : Wlk l s0 s1 g :=
  ⟨h.len, h.mono, fun j hj => by rcases h.only j hj with h3 | ⟨i, h3, h4⟩; exact .inl h3; exact .inr ⟨i, h1 i h3, h4⟩, fun i hi hl => h.all i (h2 i hi) hl, h.shut, h.nam⟩
theorem dfs_wlk (m : Nat) : ∀ (st : List Bool × List (List UInt8)) (i : Int), st.1.length = l.length → cntF st.1 ≤ m → Wlk l st (dfs l m st i) (fun j => (j : Int) = i) := by
  induction m with
  | zero =>
    intro st i hl hc
    exact wlk_nil l st _ (fun j hj hjl => cntF_zero (Nat.le_zero.1 hc) (by omega))
  | succ m ih =>
    intro st i hl hc
    unfold dfs
    split
    · rename_i h0
      exact wlk_nil l st _ (fun j hj hjl => by omega)
    · rename_i h0
      obtain ⟨k, rfl⟩ : ∃ k : Nat, i = (k : Int) := ⟨i.toNat, by omega⟩
      rw [Int.toNat_natCast]
      have hkl : k < l.length := by omega
      split
      · rename_i e h1 h2
        have hcn := cntF_set h1
        have hfold : ∀ (ns : List (List UInt8)) (s0 : List Bool × List (List UInt8)), s0.1.length = l.length → cntF s0.1 ≤ m → Wlk l s0 (ns.foldl (fun st s => dfs l m st (fnd l 2 (bA s))) s0) (fun j => ∃ s, s ∈ ns ∧ (j : Int) = fnd l 2 (bA s)) := by
          intro ns
          induction ns with
          | nil => intro s0 _ _; exact wlk_nil l s0 _ (fun j ⟨s, hs, _⟩ => by cases hs)
          | cons a r ihr =>
            intro s0 hs0 hc0
            rw [List.foldl_cons]
            have hd := dfs_len l m s0 (fnd l 2 (bA a))
            refine ((ih s0 (fnd l 2 (bA a)) hs0 hc0).trans l (ihr _ (hd.1.trans hs0) (Nat.le_trans hd.2 hc0))).mono_from l (fun j hj => ?_) (fun j hj => ?_)
            · rcases hj with hj | ⟨s, hs, hj⟩
              · exact ⟨a, List.mem_cons_self, hj⟩
              · exact ⟨s, List.mem_cons_of_mem _ hs, hj⟩
            · obtain ⟨s, hs, hj⟩ := hj
              rcases List.mem_cons.1 hs with rfl | hs
              · exact .inl hj
              · exact .inr ⟨s, hs, hj⟩
        have hF := hfold (caI e.2) (st.1.set k true, st.2 ++ snI e.2) (by rw [List.length_set]; exact hl) (by show cntF (st.1.set k true) ≤ m; omega)
        have hset : ∀ j, (st.1.set k true)[j]? = some true ↔ st.1[j]? = some true ∨ j = k := by
          intro j
          rw [List.getElem?_set]
          by_cases hjk : k = j
          · subst hjk
            rw [if_pos rfl, if_pos (by omega)]
            simp
          · rw [if_neg hjk]
            constructor
            · exact fun h => .inl h
            · rintro (h | h)
              · exact h
              · exact absurd h.symm hjk
        have hknew : st.1[k]? ≠ some true := by rw [h1]; simp
        refine ⟨hF.len.trans List.length_set, fun j hj => hF.mono j ((hset j).2 (.inl hj)), fun j hj => ?_, fun j hj hjl => ?_, fun j hj hj0 q hq => ?_, fun s => ?_⟩
        · rcases hF.only j hj with h3 | ⟨i, ⟨s, hs, hi⟩, h4⟩
          · rcases (hset j).1 h3 with h5 | h5
            · exact .inl h5
            · exact .inr ⟨k, rfl, by rw [h5]; exact Rch.refl l k⟩
          · exact .inr ⟨k, rfl, Rch.step l ⟨e, s, h2, hs, hi.symm, by have := fnd_lt l (bA s); omega⟩ h4⟩
        · have hjk : j = k := by omega
          subst hjk
          exact hF.mono j ((hset j).2 (.inr rfl))
        · by_cases hjk : j = k
          · subst hjk
            obtain ⟨e', s, h3, h4, h5, h6⟩ := hq
            rw [h2] at h3
            injection h3 with h3
            subst h3
            exact hF.all q ⟨s, h4, h5.symm⟩ h6
          · exact hF.shut j hj (fun h => by rcases (hset j).1 h with h | h; exact hj0 h; exact hjk h) q hq
        · rw [hF.nam]
          show s ∈ st.2 ++ snI e.2 ∨ _ ↔ _
          rw [List.mem_append]
          constructor
          · rintro ((h3 | h3) | ⟨j, e', h3, h4, h5, h6⟩)
            · exact .inl h3
            · exact .inr ⟨k, e, h2, hF.mono k ((hset k).2 (.inr rfl)), hknew, h3⟩
            · exact .inr ⟨j, e', h3, h4, fun h => h5 ((hset j).2 (.inl h)), h6⟩
          · rintro (h3 | ⟨j, e', h3, h4, h5, h6⟩)
            · exact .inl (.inl h3)
            · by_cases hjk : j = k
              · subst hjk
                rw [h2] at h3
                injection h3 with h3
                subst h3
                exact .inl (.inr h6)
              · exact .inr ⟨j, e', h3, h4, fun h => by rcases (hset j).1 h with h | h; exact h5 h; exact hjk h, h6⟩
      · rename_i h1
        refine wlk_nil l st _ (fun j hj hjl => ?_)
        have hjk : j = k := by omega
        subst hjk
        have h3 : st.1[j]? = some st.1[j] := List.getElem?_eq_getElem (by omega)
        cases hb : st.1[j] with
        | true => rw [h3, hb]
        | false =>
          rw [hb] at h3
          exact (h1 l[j] h3 (List.getElem?_eq_getElem hjl)).elim
/-- From nothing entered: just the names of all that is reached. -/
theorem dfs_names (i : Nat) (hi : i < l.length) (s : List UInt8) : s ∈ (dfs l l.length (List.replicate l.length false, []) (i : Int)).2 ↔ ∃ (j : Nat) (e : Int × It), Rch l i j ∧ l[j]? = some e ∧ s ∈ snI e.2 := by
  have hc : cntF (List.replicate l.length false) ≤ l.length := by
    unfold cntF
    have h := List.countP_le_length (p := fun b : Bool => !b) (l := List.replicate l.length false)
    rw [List.length_replicate] at h
    exact h
  have h := dfs_wlk l l.length (List.replicate l.length false, []) (i : Int) List.length_replicate hc
  have hno : ∀ j : Nat, (List.replicate l.length false)[j]? ≠ some true := fun j hj => by
    rw [List.getElem?_replicate] at hj
    split at hj
    · injection hj with hj; cases hj
    · cases hj
  have hR : ∀ n k j, (dfs l l.length (List.replicate l.length false, []) (i : Int)).1[k]? = some true → RchN l n k j → (dfs l l.length (List.replicate l.length false, []) (i : Int)).1[j]? = some true := by
    intro n
    induction n with
    | zero => intro k j hk e; rw [← (show k = j from e)]; exact hk
    | succ n ih =>
      intro k j hk ⟨q, hq, hr⟩
      exact ih q j (h.shut k hk (hno k) q hq) hr
  rw [h.nam]
  constructor
  · rintro (h0 | ⟨j, e, h1, h2, _, h4⟩)
    · cases h0
    · rcases h.only j h2 with h5 | ⟨k, hk, h5⟩
      · exact absurd h5 (hno j)
      · have hki : k = i := by omega
        subst hki
        exact ⟨j, e, h5, h1, h4⟩
  · rintro ⟨j, e, ⟨n, hr⟩, h1, h4⟩
    exact .inr ⟨j, e, h1, hR n i j (h.all i rfl hi) hr, hno j, h4⟩
/-- What is reached is one's own, and what those reach that are called. -/
theorem names_step (i : Nat) (e : Int × It) (he : l[i]? = some e) (s : List UInt8) : s ∈ (dfs l l.length (List.replicate l.length false, []) (i : Int)).2 ↔ s ∈ snI e.2 ∨ ∃ (n : List UInt8) (k : Nat), n ∈ caI e.2 ∧ fnd l 2 (bA n) = (k : Int) ∧ s ∈ (dfs l l.length (List.replicate l.length false, []) (k : Int)).2 := by
  have hi := (List.getElem?_eq_some_iff.1 he).1
  rw [dfs_names l i hi]
  constructor
  · rintro ⟨j, e', hr, h1, h2⟩
    rcases (rch_iff l i j).1 hr with rfl | ⟨k, ⟨e2, n, h3, h4, h5, h6⟩, hr2⟩
    · rw [he] at h1; injection h1 with h1; subst h1; exact .inl h2
    · rw [he] at h3; injection h3 with h3; subst h3
      exact .inr ⟨n, k, h4, h5, (dfs_names l k h6 s).2 ⟨j, e', hr2, h1, h2⟩⟩
  · rintro (h1 | ⟨n, k, h1, h2, h3⟩)
    · exact ⟨i, e, Rch.refl l i, he, h1⟩
    · have hk : k < l.length := by have := fnd_lt l (bA n); omega
      obtain ⟨j, e', hr, h4, h5⟩ := (dfs_names l k hk s).1 h3
      exact ⟨j, e', Rch.step l ⟨e, n, he, h1, h2, hk⟩ hr, h4, h5⟩
end
/-- Strictly rising. -/
def Inc (l : List BL) : Prop := l.Pairwise (· < ·)
theorem bl_trans {a b c : BL} (h : a < b) (k : b < c) : a < c := List.lt_trans h k
theorem bl_irrefl (a : BL) : ¬ a < a := List.lt_irrefl a
theorem bl_tri (a b : BL) : a < b ∨ a = b ∨ b < a := by
  by_cases h : a < b
  · exact .inl h
  · by_cases k : b < a
    · exact .inr (.inr k)
    · exact .inr (.inl (List.le_antisymm (List.not_lt.1 k) (List.not_lt.1 h)))
theorem Inc.ext : ∀ {a b : List BL}, Inc a → Inc b → (∀ s, s ∈ a ↔ s ∈ b) → a = b := by
  intro a
  induction a with
  | nil =>
    intro b _ _ h
    cases b with
    | nil => rfl
    | cons y r => exact absurd ((h y).2 List.mem_cons_self) (by simp)
  | cons x r ih =>
    intro b ha hb h
    cases b with
    | nil => exact absurd ((h x).1 List.mem_cons_self) (by simp)
    | cons y q =>
      have ha2 := List.pairwise_cons.1 ha
      have hb2 := List.pairwise_cons.1 hb
      have hxy : x = y := by
        rcases List.mem_cons.1 ((h x).1 List.mem_cons_self) with e | e
        · exact e
        · rcases List.mem_cons.1 ((h y).2 List.mem_cons_self) with e2 | e2
          · exact e2.symm
          · exact absurd (bl_trans (ha2.1 y e2) (hb2.1 x e)) (bl_irrefl x)
      subst hxy
      rw [ih ha2.2 hb2.2 (fun s => by
        constructor
        · intro hs
          rcases List.mem_cons.1 ((h s).1 (List.mem_cons_of_mem _ hs)) with e | e
          · subst e; exact absurd (ha2.1 s hs) (bl_irrefl s)
          · exact e
        · intro hs
          rcases List.mem_cons.1 ((h s).2 (List.mem_cons_of_mem _ hs)) with e | e
          · subst e; exact absurd (hb2.1 s hs) (bl_irrefl s)
          · exact e)]
/-- What is left of a sorted list. -/
theorem compact_inc (zs : List BL) (hs : zs.Pairwise (· ≤ ·)) : Inc (Lib.compact zs) ∧ ∀ s, s ∈ Lib.compact zs ↔ s ∈ zs := by
  have hget : ∀ j, j < zs.length → zs.toArray[j]! = zs[j]! := fun j hj => by simp
  have hle : ∀ i j, i < j → j < zs.length → zs[i]! ≤ zs[j]! := fun i j hij hj => by
    have h := List.pairwise_iff_getElem.1 hs i j (by omega) hj hij
    rw [getElem!_pos zs i (by omega), getElem!_pos zs j hj]
    exact h
  have key : ∀ m, m ≤ zs.length → Inc (Lib.compactUpTo zs.toArray m) ∧ (∀ s, s ∈ Lib.compactUpTo zs.toArray m ↔ ∃ j, j < m ∧ zs[j]! = s) := by
    intro m
    induction m with
    | zero => intro _; exact ⟨List.Pairwise.nil, fun s => ⟨(fun h => by cases h), fun ⟨j, hj, _⟩ => absurd hj (Nat.not_lt_zero j)⟩⟩
    | succ m ih =>
      intro hm
      obtain ⟨h1, h2⟩ := ih (by omega)
      rw [Lib.compactUpTo_succ]
      by_cases hk : Lib.keeps zs.toArray m = true
      · rw [if_pos hk]
        have hk2 : m = 0 ∨ zs[m]! ≠ zs[m - 1]! := by
          unfold Lib.keeps at hk
          have h3 := of_decide_eq_true hk
          by_cases h0 : m = 0
          · exact .inl h0
          · rw [hget m (by omega), hget (m - 1) (by omega)] at h3
            exact .inr (h3.resolve_left h0)
        refine ⟨?_, fun s => ?_⟩
        · refine List.pairwise_append.2 ⟨h1, List.pairwise_singleton _ _, fun a ha b hb => ?_⟩
          rw [List.mem_singleton] at hb
          subst hb
          obtain ⟨j, hj, rfl⟩ := (h2 a).1 ha
          rw [hget m (by omega)]
          have hne := hk2.resolve_left (by omega)
          have h4 : zs[m - 1]! < zs[m]! := by
            rcases bl_tri zs[m - 1]! zs[m]! with e | e | e
            · exact e
            · exact absurd e.symm hne
            · exact absurd e (List.not_lt.2 (hle (m - 1) m (by omega) (by omega)))
          by_cases hjm : j = m - 1
          · rw [hjm]; exact h4
          · have h5 := hle j (m - 1) (by omega) (by omega)
            rcases bl_tri zs[j]! zs[m]! with e | e | e
            · exact e
            · rw [← e] at h4; exact absurd h4 (List.not_lt.2 h5)
            · exact absurd (bl_trans h4 e) (List.not_lt.2 h5)
        · rw [List.mem_append, h2, List.mem_singleton, hget m (by omega)]
          constructor
          · rintro (⟨j, hj, e⟩ | e)
            · exact ⟨j, by omega, e⟩
            · exact ⟨m, by omega, e.symm⟩
          · rintro ⟨j, hj, e⟩
            by_cases hjm : j = m
            · exact .inr (by rw [← e, hjm])
            · exact .inl ⟨j, by omega, e⟩
      · rw [if_neg hk, List.append_nil]
        refine ⟨h1, fun s => ?_⟩
        rw [h2]
        have hk2 : m ≠ 0 ∧ zs[m]! = zs[m - 1]! := by
          unfold Lib.keeps at hk
          have h3 : ¬ (m = 0 ∨ zs.toArray[m]! ≠ zs.toArray[m - 1]!) := fun h => hk (decide_eq_true h)
          refine ⟨fun h => h3 (.inl h), ?_⟩
          rw [← hget m (by omega), ← hget (m - 1) (by omega)]
          exact Decidable.not_not.1 (fun h => h3 (.inr h))
        constructor
        · rintro ⟨j, hj, e⟩; exact ⟨j, by omega, e⟩
        · rintro ⟨j, hj, e⟩
          by_cases hjm : j = m
          · exact ⟨m - 1, by have := hk2.1; omega, by rw [← e, hjm, hk2.2]⟩
          · exact ⟨j, by omega, e⟩
  obtain ⟨h1, h2⟩ := key zs.length (Nat.le_refl _)
  refine ⟨h1, fun s => ?_⟩
  show s ∈ Lib.compactUpTo zs.toArray zs.length ↔ _
  rw [h2]
  constructor
  · rintro ⟨j, hj, rfl⟩
    rw [getElem!_pos zs j hj]
    exact List.getElem_mem hj
  · intro hs
    obtain ⟨j, hj, e⟩ := List.getElem_of_mem hs
    exact ⟨j, hj, by rw [getElem!_pos zs j hj]; exact e⟩
theorem srtB_inc (ss : List BL) : Inc (srtB ss) ∧ ∀ s, s ∈ srtB ss ↔ s ∈ ss := by
  have tr : ∀ a b c : BL, (fun x y : BL => decide (x ≤ y)) a b = true → (fun x y : BL => decide (x ≤ y)) b c = true → (fun x y : BL => decide (x ≤ y)) a c = true := fun a b c h1 h2 => by
    simp only [decide_eq_true_eq] at *
    exact List.le_trans h1 h2
  have to : ∀ a b : BL, ((fun x y : BL => decide (x ≤ y)) a b || (fun x y : BL => decide (x ≤ y)) b a) = true := fun a b => by
    simp only [Bool.or_eq_true, decide_eq_true_eq]
    exact List.le_total a b
  have hp := List.pairwise_mergeSort tr to ss
  have hs := compact_inc (ss.mergeSort fun x y => decide (x ≤ y)) (hp.imp (fun h => of_decide_eq_true h))
  refine ⟨hs.1, fun s => ?_⟩
  unfold srtB
  rw [hs.2, List.mem_mergeSort]
theorem nil_lt (a : UInt8) (s : BL) : ([] : BL) < a :: s := List.Lex.nil
theorem not_lt_nil (s : BL) : ¬ s < [] := List.not_lt_nil s
theorem noE_inc {l : List BL} (h : Inc l) : Inc (noE l) ∧ ∀ s, s ∈ noE l ↔ s ∈ l ∧ s ≠ [] := by
  unfold noE
  split
  · rename_i r
    have h2 := List.pairwise_cons.1 h
    refine ⟨h2.2, fun s => ⟨fun hs => ⟨List.mem_cons_of_mem _ hs, fun e => ?_⟩, fun ⟨hs, he⟩ => ?_⟩⟩
    · subst e; exact bl_irrefl _ (h2.1 _ hs)
    · rcases List.mem_cons.1 hs with e | e
      · exact absurd e he
      · exact e
  · rename_i hne
    refine ⟨h, fun s => ⟨fun hs => ⟨hs, fun e => ?_⟩, fun hs => hs.1⟩⟩
    subst e
    cases l with
    | nil => simp at hs
    | cons y r =>
      have h2 := List.pairwise_cons.1 h
      rcases List.mem_cons.1 hs with e | e
      · exact hne r (by rw [← e])
      · exact not_lt_nil _ (h2.1 _ e)
theorem risB_inc (ss : List BL) : Inc (risB ss) ∧ ∀ s, s ∈ risB ss ↔ s ∈ ss ∧ s ≠ [] := by
  have h := srtB_inc ss
  have h2 := noE_inc h.1
  refine ⟨h2.1, fun s => ?_⟩
  unfold risB
  rw [h2.2, h.2]
/-- Put in where it belongs. -/
theorem ins_inc {l : List BL} {n : BL} {k : Nat} (h : Inc l) (hk : k ≤ l.length) (h1 : ∀ j s, j < k → l[j]? = some s → s < n) (h2 : ∀ s, l[k]? = some s → ¬ s < n) (hn : n ∉ l) : Inc (l.take k ++ n :: l.drop k) ∧ ∀ s, s ∈ l.take k ++ n :: l.drop k ↔ s ∈ l ∨ s = n := by
  have hd : l = l.take k ++ l.drop k := (List.take_append_drop k l).symm
  have ht : ∀ a ∈ l.take k, a < n := fun a ha => by
    obtain ⟨j, hj, e⟩ := List.getElem_of_mem ha
    rw [List.length_take] at hj
    rw [List.getElem_take] at e
    exact h1 j a (by omega) (by rw [← e]; exact List.getElem?_eq_getElem (by omega))
  have hlt : ∀ b ∈ l.drop k, n < b := fun b hb => by
    have hbl : b ∈ l := List.mem_of_mem_drop hb
    obtain ⟨j, hj, e⟩ := List.getElem_of_mem hb
    rw [List.length_drop] at hj
    rw [List.getElem_drop] at e
    have hkl : k < l.length := by omega
    have h3 := h2 l[k] (List.getElem?_eq_getElem hkl)
    have hkn : n < l[k] := by
      rcases bl_tri l[k] n with e2 | e2 | e2
      · exact absurd e2 h3
      · exact absurd (by rw [← e2]; exact List.getElem_mem hkl) hn
      · exact e2
    by_cases hj0 : j = 0
    · subst hj0
      rw [← e]
      exact hkn
    · rw [← e]
      exact bl_trans hkn (List.pairwise_iff_getElem.1 h k (k + j) hkl (by omega) (by omega))
  refine ⟨?_, fun s => ?_⟩
  · have h3 : Inc (l.take k ++ l.drop k) := by rw [← hd]; exact h
    have h4 := List.pairwise_append.1 h3
    refine List.pairwise_append.2 ⟨h4.1, List.pairwise_cons.2 ⟨hlt, h4.2.1⟩, fun a ha b hb => ?_⟩
    rcases List.mem_cons.1 hb with e | e
    · rw [e]; exact ht a ha
    · exact h4.2.2 a ha b e
  · rw [List.mem_append, List.mem_cons]
    conv => rhs; rw [hd, List.mem_append]
    constructor
    · rintro (h | h | h)
      · exact .inl (.inl h)
      · exact .inr h
      · exact .inl (.inr h)
    · rintro ((h | h) | h)
      · exact .inl h
      · exact .inr (.inr h)
      · exact .inr (.inl h)

theorem rea_inc (l : List (Int × It)) (i : Int) : Inc (reaL l i) ∧ ∀ s, s ∈ reaL l i ↔ s ∈ (dfs l l.length (List.replicate l.length false, []) i).2 ∧ s ≠ [] := risB_inc _
theorem snI_ne {it : It} {s : BL} (h : s ∈ snI it) : s ≠ [] := ((risB_inc _).2 s).1 h |>.2
/-- What an item may send to: what it sends to, and what those may that it calls. -/
theorem rea_step (l : List (Int × It)) (i : Nat) (e : Int × It) (he : l[i]? = some e) (s : BL) : s ∈ reaL l (i : Int) ↔ s ∈ snI e.2 ∨ ∃ (n : BL) (k : Nat), n ∈ caI e.2 ∧ fnd l 2 (bA n) = (k : Int) ∧ s ∈ reaL l (k : Int) := by
  rw [(rea_inc l _).2, names_step l i e he]
  constructor
  · rintro ⟨h | ⟨n, k, h1, h2, h3⟩, h0⟩
    · exact .inl h
    · exact .inr ⟨n, k, h1, h2, ((rea_inc l _).2 s).2 ⟨h3, h0⟩⟩
  · rintro (h | ⟨n, k, h1, h2, h3⟩)
    · exact ⟨.inl h, snI_ne h⟩
    · obtain ⟨h4, h5⟩ := ((rea_inc l _).2 s).1 h3
      exact ⟨.inr ⟨n, k, h1, h2, h4⟩, h5⟩
theorem rea_none (l : List (Int × It)) (i : Nat) (e : Int × It) (he : l[i]? = some e) (hk : e.2.k ≠ 2) : reaL l (i : Int) = [] := by
  have h0 : esI e.2 = [] := by unfold esI; rw [if_neg hk]
  have h1 : snI e.2 = [] := by unfold snI; rw [h0]; exact risB_nil
  have h2 : caI e.2 = [] := by unfold caI; rw [h0]; exact risB_nil
  refine List.eq_nil_iff_forall_not_mem.2 (fun s hs => ?_)
  rcases (rea_step l i e he s).1 hs with h | ⟨n, k, h, _⟩
  · rw [h1] at h; cases h
  · rw [h2] at h; cases h
/-- How many names there may be. -/
theorem dfs_much (l : List (Int × It)) (B : Nat) (hB : ∀ e ∈ l, (snI e.2).length ≤ B) (m : Nat) : ∀ (st : List Bool × List BL) (i : Int), (dfs l m st i).2.length + cntF (dfs l m st i).1 * B ≤ st.2.length + cntF st.1 * B := by
  induction m with
  | zero => intro st i; exact Nat.le_refl _
  | succ m ih =>
    intro st i
    unfold dfs
    split
    · exact Nat.le_refl _
    · split
      · rename_i e h1 h2
        have hf : ∀ (ns : List BL) (s0 : List Bool × List BL), (ns.foldl (fun st s => dfs l m st (fnd l 2 (bA s))) s0).2.length + cntF (ns.foldl (fun st s => dfs l m st (fnd l 2 (bA s))) s0).1 * B ≤ s0.2.length + cntF s0.1 * B := by
          intro ns
          induction ns with
          | nil => intro s0; exact Nat.le_refl _
          | cons a r ihr => intro s0; rw [List.foldl_cons]; exact Nat.le_trans (ihr _) (ih s0 _)
        refine Nat.le_trans (hf (caI e.2) _) ?_
        show (st.2 ++ snI e.2).length + cntF (st.1.set i.toNat true) * B ≤ _
        have h6 := cntF_set h1
        have h7 := hB e (List.mem_of_getElem? h2)
        rw [← h6, List.length_append, Nat.add_mul, Nat.one_mul]
        omega
      · exact Nat.le_refl _
theorem rea_much (l : List (Int × It)) (B : Nat) (hB : ∀ e ∈ l, (snI e.2).length ≤ B) (i : Int) : (dfs l l.length (List.replicate l.length false, []) i).2.length ≤ l.length * B := by
  have h := dfs_much l B hB l.length (List.replicate l.length false, []) i
  have hc : cntF (List.replicate l.length false) ≤ l.length := by
    unfold cntF
    have h := List.countP_le_length (p := fun b : Bool => !b) (l := List.replicate l.length false)
    rw [List.length_replicate] at h
    exact h
  have h2 := Nat.mul_le_mul_right B hc
  simp only [List.length_nil, Nat.zero_add] at h
  omega
theorem cnt_es {P : Nat → Tr → Prop} {F : Tr → List Nv} (h : ∀ c a, P c a → (F a).length ≤ c) : ∀ (L : List Tr) (c : Nat), wfL P c L → (L.flatMap F).length ≤ c := by
  intro L
  induction L with
  | nil => intro c _; exact Nat.zero_le _
  | cons a r ih =>
    intro c hw
    obtain ⟨c1, c2, h1, h2, h3⟩ := hw
    have := h c1 a h2
    have := ih c2 h3
    rw [List.flatMap_cons, List.length_append]
    omega
theorem esX_cnt (L : List Tok) (n : Nat) : ∀ (c : Nat) (e : Tr), wfE L n c e → (esX e).length ≤ c := by
  induction n with
  | zero => intro c e h; exact h.elim
  | succ n ih =>
    intro c e h
    obtain ⟨k, x, m, al, f, t, rfl, h⟩ := h
    rw [esX_mk]
    rcases h with ⟨h1, h2, h3, h4⟩ | ⟨h1, h2, h3, h4⟩ | ⟨h1, h2, h3⟩ | ⟨h1, h2, c', h3, h4⟩
    · rw [if_neg h2, if_neg h3]; exact Nat.zero_le _
    · rw [if_neg (by omega), if_neg (by omega)]; exact Nat.zero_le _
    · rw [if_pos h1]; exact cnt_es ih al c h3
    · rw [if_neg (by omega), if_pos h1, List.length_cons]
      have := cnt_es ih al c' h4
      omega
theorem esY_cnt (L : List Tok) (n : Nat) : ∀ (c : Nat) (s : Tr), cwS L n c s → (esY s).length ≤ c := by
  induction n with
  | zero => intro c s h; exact h.elim
  | succ n ih =>
    intro c s h
    obtain ⟨k, x, a, lb, o, e, th, el, f, t, ce, ct, cl, rfl, ⟨m, he⟩, hth, hel, h1, h2⟩ := h
    have hx := esX_cnt L m ce e he
    have hB : (esB th).length ≤ ct := cnt_es ih th ct hth
    have hC : (esB el).length ≤ cl := cnt_es ih el cl hel
    rw [esY_mk]
    split
    · omega
    · split
      · have := h2 (by omega); rw [List.length_append, List.length_singleton]; omega
      · split
        · rw [List.length_append, List.length_append]; omega
        · split
          · rw [List.length_append]; omega
          · exact Nat.zero_le _
theorem esI_cnt {L : List Tok} {m : Nat} {it : It} (h : wfL (cwS L m) L.length it.bd) : (esI it).length ≤ L.length := by
  unfold esI
  split
  · exact cnt_es (esY_cnt L m) _ _ h
  · exact Nat.zero_le _
theorem snI_len (it : It) : (snI it).length ≤ (esI it).length := by
  have h := risB_le (bsL (sdN (esI it)))
  have h2 := sdN_len (esI it)
  unfold bsL at h
  rw [List.length_map] at h
  exact Nat.le_trans h h2
end Go.Proofs.Ytjpmnholpeidmaa

namespace Go.Proofs.Ytjpmnholpeidmaa
open Go.RowKit Go.Sort
set_option linter.unusedVariables false
attribute [local go_sem ↓] Go.wp_at_zero Go.wp_at_succ
theorem Try.infoStrs : (Try.prog.info? 36).map (fun i => (i.zero, i.size, i.bytes)) = some (some (.slice none 0 0), 1, 24) := by kernel_rfl
/-- A list of lists of names, in memory: block g has them, all in blocks of one's own. -/
def AllAt (B : Nat) (w : World) (l : List (Int × It)) (g n : Nat) : Prop := B ≤ g ∧ g < w.heap.size ∧ ∀ j : Nat, j < n → ∃ v D, w.cell? ⟨g, j, none⟩ = some v ∧ StrAt w D (reaL l (j : Int)) v ∧ ∀ k, some k = D → B ≤ k ∧ k < w.heap.size
theorem AllAt.below {B g n : Nat} {w w' : World} {l : List (Int × It)} (h : AllAt B w l g n) (hb : Below w.heap.size w w') : AllAt B w' l g n :=
  ⟨h.1, Nat.lt_of_lt_of_le h.2.1 hb.size, fun j hj => by
    obtain ⟨v, D, h1, h2, h3⟩ := h.2.2 j hj
    exact ⟨v, D, cell_onF hb h1, h2.kept hb.size (fun k e => hb.block k (h3 k e).2), fun k e => ⟨(h3 k e).1, Nat.lt_of_lt_of_le (h3 k e).2 hb.size⟩⟩⟩
def RelAl (l : List (Int × It)) (g : Nat) (W : World) (i : Value) (wr : World) : Prop := ∃ k : Nat, k ≤ l.length ∧ i = .int .i64 (k : Int) ∧ Below g W wr ∧ ∃ cs : Array Value, wr.heap[g]? = some (.cells cs 36 (0, 0)) ∧ cs.size = l.length ∧ ∀ j : Nat, j < k → ∃ v D, cs[j]? = some v ∧ StrAt wr D (reaL l (j : Int)) v ∧ ∀ k, some k = D → g < k ∧ k < wr.heap.size
theorem NewS.lt {B : Nat} {w : World} {ss : List BL} {v : Value} (h : NewS B w ss v) : ∃ D, StrAt w D ss v ∧ ∀ k, some k = D → B ≤ k ∧ k < w.heap.size := by
  obtain ⟨D, h1, h2⟩ := h
  obtain ⟨p, cap, e, h3, h4⟩ := id h1
  rcases Nat.eq_zero_or_pos ss.length with h0 | h0
  · exact ⟨none, ⟨p, cap, e, h3, fun h => by omega⟩, fun k e => by cases e⟩
  · obtain ⟨g, o, e1, e2, e3, e4⟩ := h4 h0
    exact ⟨D, h1, fun k e => ⟨h2 k e, by rw [← e2] at e; injection e with e; omega⟩⟩
set_option maxHeartbeats 4000000 in
set_option maxRecDepth 100000 in
theorem All_any (l : List (Int × It)) (q : Option Addr) (c : Nat) (w : World) (ok : Nat → Prop) (hok : ∀ k, ok k → k < w.heap.size) (hR : RdF ok w l (.agg #[.slice q l.length c])) (hnE : ∀ e ∈ l, (esI e.2).length < 1099511627776) (hn : ∀ i : Nat, i < l.length → (dfs l l.length (List.replicate l.length false, []) (i : Int)).2.length < 1099511627776) :
    Calls Try.prog 6 #[.agg #[.slice q l.length c]] w fun e w' => ∃ g fc, e = .returned (.slice (some ⟨g, 0, none⟩) l.length fc) ∧ AllAt w.heap.size w' l g l.length ∧ Below w.heap.size w w' := by
  have hlen : l.length ≤ 1099511627776 := by obtain ⟨_, _, _, h, _⟩ := hR; exact h
  obtain ⟨i0, hi, hz0, hz1, hz2⟩ := info_parts Try.infoStrs
  obtain ⟨M, hM⟩ : ∃ M, M = madeCells (Value.slice none 0 0).cells (((l.length : Nat) : Int).toNat * i0.size) := ⟨_, rfl⟩
  have hMs : M.size = l.length := by rw [hM, size_madeCells, hz1]; simp
  have hmk : ∀ W : World, (Instr.makeSlice 28 (.int .i64 (l.length : Int)) (.int .i64 (l.length : Int))).run Try.prog W = .ok (.slice (some ⟨W.heap.size, 0, none⟩) l.length l.length) (W.alloc (.cells M 36)) := fun W => by
    have h := run_make (P := Try.prog) W 28 36 i0 (.slice none 0 0) Try.underlying28 hi hz0 .i64 .i64 (l.length : Int) (l.length : Int) (by omega) (by omega) (by rw [hz2]; omega) (by omega)
    rw [← hM] at h
    simpa using h
  have hb1 := (Below.refl w.heap.size w).alloc (Nat.le_refl _) (.cells #[.slice q l.length c] 24)
  have hb2 := hb1.alloc (by simp) (.cells M 36)
  have e1 : (w.alloc (.cells #[.slice q l.length c] 24)).heap.size = w.heap.size + 1 := by simp
  have y0 := cell_alloc (one_new w (.slice q l.length c) 24) (.cells M 36)
  have hnw := heap_alloc_new (w.alloc (.cells #[.slice q l.length c] 24)) (.cells M 36)
  rw [e1] at hnw
  have hRW : RdF (fun k => k < w.heap.size) ((w.alloc (.cells #[.slice q l.length c] 24)).alloc (.cells M 36)) l (.agg #[.slice q l.length c]) := RdF.kept hR (fun k hk => hb2.block k (hok k hk)) (fun k hk => hok k hk)
  have e2 : ((w.alloc (.cells #[.slice q l.length c] 24)).alloc (.cells M 36)).heap.size = w.heap.size + 2 := by simp
  have HB := hid hb2
  have HMs := hid hMs
  have HN := hid hn
  have HNE := hid hnE
  clear hM hR hok hb1 hb2 e1 hMs hn hnE
  go_enter Try.func6, Try.ntmps6
  go_wp2
  generalize (w.alloc (.cells #[.slice q l.length c] 24)).alloc (.cells M 36) = W at *
  go_loopw [11] (fun i wr => RelAl l (w.heap.size + 1) W i wr) (fun i _ => upN l.length i)
  case atStart => exact ⟨0, Nat.zero_le _, rfl, Below.refl _ _, M, hnw, HMs.out, fun j h => by omega⟩
  case round =>
    obtain ⟨j, hjl, rfl, hbr, cs, hcs, hsz, hdn⟩ := hrel
    have z0 := (World.cell?_of_block (a := ⟨w.heap.size, 0, none⟩) (hbr.block w.heap.size (by omega))).trans y0
    by_cases hlt : j < l.length
    · have hRr : RdF (fun k => k < w.heap.size) wr l (.agg #[.slice q l.length c]) := RdF.kept hRW (fun k hk => hbr.block k (by omega)) (fun _ h => h)
      have hszr := hbr.size
      have gj : (0 : Int) ≤ (j : Int) := by omega
      have gj1 : (j : Int) < (l.length : Int) := by omega
      have hjb : j < 1099511627776 := by omega
      have HC := hid (reached_any l q c wr (fun k => k < w.heap.size) (fun k hk => by omega) hRr HNE.out (j : Int) (HN.out j hlt))
      obtain ⟨u, hu⟩ : ∃ u, cs[j]? = some u := ⟨_, Array.getElem?_eq_getElem (by omega)⟩
      have HL := hid hlt
      have HR := hid (And.intro hbr (And.intro hcs (And.intro hsz hdn)))
      have HU := hid hu
      clear hlt hjl hcs hsz hdn hRr hu
      go_wp2_with (first
        | (go_at_call 19; refine Calls.mono HC.out ?_; rintro e w3 ⟨v3, rfl, hS3, hb3⟩; have HS3 := hid hS3; obtain ⟨D3, hS3', _⟩ := id hS3; obtain ⟨p3, c3, hv3, _⟩ := id hS3'; subst hv3; have hcs3 := (hb3.block (w.heap.size + 1) (by omega)).trans HR.out.2.1; have k3 : w3.cell? ⟨w.heap.size + 1, j, none⟩ = some u := (cell_of_row _ _ j _ _ _ hcs3).trans HU.out; have f3 : w3.frozen? ⟨w.heap.size + 1, j, none⟩ = false := (by simp [World.frozen?, hcs3]); clear hcs3 hS3 hS3'))
      go_roundw
      case rel =>
        have hcs3 := (hb3.block (w.heap.size + 1) (by omega)).trans HR.out.2.1
        have hbz : Below (w.heap.size + 1) W w3 := HR.out.1.trans (hb3.mono (by omega))
        obtain ⟨D4, hS4, hD4⟩ := HS3.out.lt
        have hk4 : ∀ z, z ≠ w.heap.size + 1 → (w3.setCell ⟨w.heap.size + 1, j, none⟩ (.slice p3 (reaL l (j : Int)).length c3)).heap[z]? = w3.heap[z]? := fun z hz => Below.heap_setCell _ _ _ z hz
        refine ⟨j + 1, HL.out, by go_num, hbz.setCell (Nat.le_refl _) _, cs.setIfInBounds j (.slice p3 (reaL l (j : Int)).length c3), heap_setCell_same _ _ _ _ _ _ hcs3, by simpa using HR.out.2.2.1, fun i hi => ?_⟩
        rcases Nat.lt_or_ge i j with h | h
        · rw [Array.getElem?_setIfInBounds_ne (by omega)]
          obtain ⟨v5, D5, a1, a2, a3⟩ := HR.out.2.2.2 i h
          exact ⟨v5, D5, a1, a2.kept (by simpa using hb3.size) (fun k e => (hk4 k (by have := a3 k e; omega)).trans (hb3.block k (a3 k e).2)), fun k e => ⟨(a3 k e).1, Nat.lt_of_lt_of_le (a3 k e).2 (by simpa using hb3.size)⟩⟩
        · obtain rfl : i = j := by omega
          rw [Array.getElem?_setIfInBounds_self_of_lt (by have := HR.out.2.2.1; have := HL.out; omega)]
          exact ⟨_, D4, rfl, hS4.kept (by simp) (fun k e => hk4 k (by have := (hD4 k e).1; omega)), fun k e => ⟨by have := (hD4 k e).1; omega, by simpa using (hD4 k e).2⟩⟩
      case measure => have := HL.out; simp [upN, Go.RowKit.intOf]; omega
    · obtain rfl : j = l.length := by omega
      have hszr := hbr.size
      clear hlt hjl
      go_wp2
      go_ret
      refine ⟨w.heap.size + 1, l.length, rfl, ⟨by omega, (Array.getElem?_eq_some_iff.1 hcs).1, fun j hj => ?_⟩, HB.out.trans (hbr.mono (by omega))⟩
      obtain ⟨v, D, h1, h2, h3⟩ := hdn j hj
      exact ⟨v, D, (cell_of_row _ _ j _ _ _ hcs).trans h1, h2, fun k e => ⟨by have := (h3 k e).1; omega, (h3 k e).2⟩⟩
end Go.Proofs.Ytjpmnholpeidmaa

namespace Go.Proofs.Ytjpmnholpeidmaa
open Go.RowKit Go.Sort
set_option linter.unusedVariables false
attribute [local go_sem ↓] Go.wp_at_zero Go.wp_at_succ
def RelSx (n : Nat) (w : World) (i : Value) (wr : World) : Prop := ∃ k m : Nat, k ≤ n ∧ i = .int .i64 (k : Int) ∧ wr = w.drewN m
set_option maxHeartbeats 1000000 in
set_option maxRecDepth 100000 in
theorem sameTexts_any (ss : List BL) (v1 v2 : Value) (D1 D2 : Option Nat) (w : World) (h1 : StrAt w D1 ss v1) (h2 : StrAt w D2 ss v2) (hl : ss.length < 1099511627776) :
    Calls Try.prog 9 #[v1, v2] w fun e w' => e = .returned (.bool true) ∧ ∃ m, w' = w.drewN m := by
  obtain ⟨p1, c1, rfl, _, k1⟩ := h1
  obtain ⟨p2, c2, rfl, _, k2⟩ := h2
  go_enter Try.func9, Try.ntmps9
  go_wp2
  go_loopw [13] (fun i wr => RelSx ss.length w i wr) (fun i _ => upN ss.length i)
  case atStart => exact ⟨0, 0, Nat.zero_le _, rfl, rfl⟩
  case round =>
    obtain ⟨k, m, hk, rfl, rfl⟩ := hrel
    by_cases hlt : k < ss.length
    · obtain ⟨g1, o1, rfl, _, _, t1⟩ := k1 (by omega)
      obtain ⟨g2, o2, rfl, _, _, t2⟩ := k2 (by omega)
      obtain ⟨t, ht⟩ : ∃ t, ss[k]? = some t := ⟨_, List.getElem?_eq_getElem hlt⟩
      have a0 : w.cell? ⟨g1, o1 + k, none⟩ = some (.string (bA t)) := t1 k t ht
      have b0 : w.cell? ⟨g2, o2 + k, none⟩ = some (.string (bA t)) := t2 k t ht
      have gk : (0 : Int) ≤ (k : Int) := by omega
      have gk1 : (k : Int) < (ss.length : Int) := by omega
      clear t1 t2 k1 k2 ht
      go_wp2
      go_quiet (fail)
      go_wp2
      go_roundw
      case rel => exact ⟨k + 1, m + nq, by omega, by go_num, by simp⟩
      case measure => simp [upN, Go.RowKit.intOf]; omega
    · go_wp2
      go_ret
      exact ⟨rfl, m, rfl⟩
end Go.Proofs.Ytjpmnholpeidmaa


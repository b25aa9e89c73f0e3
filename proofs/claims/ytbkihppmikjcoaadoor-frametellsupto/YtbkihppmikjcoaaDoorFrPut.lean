/- A line of numbers, as bytes. -/
import Derived.Test.YtbkihppmikjcoaaDoorFrParse
import Derived.Lib.AppendStr
namespace Go.Proofs.YtbkihppmikjcoaaDoor
open Go.RowKit
set_option linter.unusedVariables false
attribute [local go_sem ↓] Go.wp_at_zero Go.wp_at_succ
theorem Tryd.infoByte : (Tryd.prog.info? 5).map (fun i => (i.zero, i.size, i.bytes)) = some (some (.int .u8 0), 1, 1) := by kernel_rfl
/-- Numbers with blanks between. -/
def jn : List Int → List UInt8
  | [] => []
  | n :: l => Lib.itoa n ++ (if l = [] then [] else 32 :: jn l)
theorem jn_snoc : ∀ (l : List Int) (n : Int), jn (l ++ [n]) = if l = [] then Lib.itoa n else jn l ++ 32 :: Lib.itoa n
  | [], n => by simp [jn]
  | m :: l, n => by
    have e : jn ((m :: l) ++ [n]) = Lib.itoa m ++ 32 :: jn (l ++ [n]) := by
      show Lib.itoa m ++ (if l ++ [n] = [] then [] else 32 :: jn (l ++ [n])) = _
      rw [if_neg (by simp)]
    rw [e, jn_snoc l n]
    by_cases hl : l = []
    · subst hl; simp [jn]
    · rw [if_neg hl, if_neg (by simp)]
      show _ = (Lib.itoa m ++ (if l = [] then [] else 32 :: jn l)) ++ _
      rw [if_neg hl]
      simp
theorem jn_wl : ∀ {l : List Int}, l ≠ [] → jn l ++ [10] = wl l
  | [], h => absurd rfl h
  | [n], _ => by simp [jn, wl]
  | n :: m :: l, _ => by
    have := jn_wl (l := m :: l) (by simp)
    show (Lib.itoa n ++ (if m :: l = [] then [] else 32 :: jn (m :: l))) ++ [10] = Lib.itoa n ++ (if m :: l = [] then 10 else 32) :: wl (m :: l)
    rw [if_neg (by simp), if_neg (by simp), ← this]
    simp
theorem jn_len {l : List Int} (h : ∀ n ∈ l, I64 n) : (jn l).length ≤ 21 * l.length := by
  induction l with
  | nil => simp [jn]
  | cons n l ih =>
    have h1 := itoa_len n (h n (List.mem_cons_self ..))
    have h2 := ih (fun m hm => h m (List.mem_cons_of_mem _ hm))
    unfold jn
    split
    · simp; omega
    · simp; omega
/-- A row of bytes of the call's own. -/
def OwnB (base : Nat) (w : World) (v : Value) (bs : List UInt8) : Prop := w.ownsRow base 5 1 v bs.length (Lib.byteCells bs)
/-- What was there ahead is as it was, and so is what is no bytes. -/
structure Kb (base : Nat) (w w' : World) : Prop where
  below : Below base w w'
  others : Lib.OthersKept 5 none w w'
theorem Kb.refl (base : Nat) (w : World) : Kb base w w := ⟨Below.refl _ _, Lib.OthersKept.refl _ _ _⟩
theorem Kb.trans {base : Nat} {a b c : World} (h : Kb base a b) (k : Kb base b c) : Kb base a c := ⟨h.below.trans k.below, h.others.trans k.others⟩
theorem Kb.alloc {base : Nat} {a b : World} (h : Kb base a b) (hb : base ≤ b.heap.size) (o : Obj) : Kb base a (b.alloc o) := ⟨h.below.alloc hb o, h.others.alloc o⟩
theorem OwnB.not {base : Nat} {w : World} {v : Value} {bs : List UInt8} (h : OwnB base w v bs) {k : Nat} {o : Obj} (hk : w.heap[k]? = some o) (ho : ∀ c fz, o ≠ .cells c 5 fz) : some k ≠ v.ownBlock := fun e => by
  obtain ⟨_, ⟨hv, h0⟩ | ⟨g, cap, cur, hv, _, h3, _⟩⟩ := h
  · subst hv; cases e
  · subst hv
    injection e with e
    have e : k = g := e
    rw [← e, hk] at h3
    injection h3 with h3
    exact ho _ _ h3
theorem Kb.grown {base : Nat} {a b c : World} {v : Value} {bs : List UInt8} (h : Kb base a b) (hb : base ≤ b.heap.size) (ho : OwnB base b v bs) (hg : b.grownBy c v.ownBlock) : Kb base a c :=
  ⟨h.below.grown hg hb (fun k e => (ho.lt k e).1), h.others.trans (fun k o hk _ hx => (hg.block k (Array.getElem?_eq_some_iff.1 hk).1 (ho.not hk hx)).trans hk)⟩
theorem OwnB.alloc {base : Nat} {w : World} {v : Value} {bs : List UInt8} (h : OwnB base w v bs) (o : Obj) : OwnB base (w.alloc o) v bs := World.ownsRow.alloc h o
/-- Numbers at p, whatever is written of bytes. -/
def NumK (base : Nat) (w : World) (p : Option Addr) (ns : List Int) : Prop := 0 < ns.length → ∃ g o, p = some ⟨g, o, none⟩ ∧ ∀ w', Kb base w w' → Nums w' g o ns
theorem NumK.on {base : Nat} {w w' : World} {p : Option Addr} {ns : List Int} (h : NumK base w p ns) (k : Kb base w w') : NumK base w' p ns := fun hn => by
  obtain ⟨g, o, rfl, h1⟩ := h hn
  exact ⟨g, o, rfl, fun w2 k2 => h1 w2 (k.trans k2)⟩
theorem ownB_mk {base : Nat} {w : World} {v : Value} {l m : List UInt8} {n : Nat} (h : w.ownsRow base 5 1 v (l.length + n) (Lib.byteCells l ++ Lib.byteCells m)) (hn : m.length = n) : OwnB base w v (l ++ m) := by
  subst hn
  unfold OwnB
  rw [List.length_append]
  have e : Lib.byteCells (l ++ m) = Lib.byteCells l ++ Lib.byteCells m := by simp [Lib.byteCells]
  rw [e]
  exact h
def RelPl (base : Nat) (w : World) (bs : List UInt8) (ns : List Int) (b i : Value) (wr : World) : Prop := ∃ k : Nat, k ≤ ns.length ∧ i = .int .i64 (k : Int) ∧ OwnB base wr b (bs ++ jn (ns.take k)) ∧ Kb base w wr
set_option maxHeartbeats 1000000 in
set_option maxRecDepth 100000 in
theorem putLine_any (base : Nat) (w : World) (hL : Lw w) (h3 : 3 ≤ base) (hbw : base ≤ w.heap.size) (sv : Value) (bs : List UInt8) (hown : OwnB base w sv bs) (p : Option Addr) (cp : Nat) (ns : List Int) (hn0 : ns ≠ []) (hns : ∀ n ∈ ns, I64 n) (hp : NumK base w p ns) (hlen : ns.length ≤ 6) (hlim : bs.length ≤ 1099511627000) :
    Calls Tryd.prog 19 #[sv, .slice p ns.length cp] w fun ex w' => ∃ v, ex = .returned v ∧ OwnB base w' v (bs ++ wl ns) ∧ Kb base w w' := by
  obtain ⟨g, o, rfl, hnum⟩ := hp (List.length_pos_iff.2 hn0)
  obtain ⟨i0, hi0, hz0, hz1, hz2⟩ := info_parts Tryd.infoByte
  have HO := hid hown
  have HN0 := hid hn0
  clear hown hn0 hp
  go_enter Tryd.func19, Tryd.ntmps19
  go_wp2
  go_loopw [0, 9] (fun b i wr => RelPl base w bs ns b i wr) (fun _ i _ => upN ns.length i)
  case atStart => exact ⟨0, Nat.zero_le _, rfl, by simpa [jn] using HO.out, Kb.refl _ _⟩
  case round =>
    obtain ⟨k, hkl, rfl, hO, hK⟩ := hrel
    have hjl : (bs ++ jn (ns.take k)).length ≤ 1099511627200 := by
      have := jn_len (l := ns.take k) (fun n hn => hns n (List.mem_of_mem_take hn))
      rw [List.length_take] at this
      rw [List.length_append]
      omega
    by_cases hlt : k < ns.length
    · obtain ⟨n, hn⟩ : ∃ n, ns[k]? = some n := ⟨_, List.getElem?_eq_getElem hlt⟩
      have hni := hns n (List.mem_of_getElem? hn)
      have xn := hnum wr hK k n hn
      have gk : (0 : Int) ≤ (k : Int) := by omega
      have gk1 : (k : Int) < (ns.length : Int) := by omega
      have HT : Hid (jn (ns.take (k + 1)) = if ns.take k = [] then Lib.itoa n else jn (ns.take k) ++ 32 :: Lib.itoa n) := by
        show _ = _
        rw [List.take_add_one, hn, Option.toList_some, jn_snoc]
      have HL := hid hlt
      by_cases h0 : k = 0
      · subst h0
        have HT2 : Hid (bs ++ jn (ns.take (0 + 1)) = (bs ++ jn (ns.take 0)) ++ Lib.itoa n) := by
          show _ = _
          rw [HT.out]
          simp [jn]
        have HO := hid hO
        have HK := hid hK
        have hbw2 := Nat.le_trans hbw hK.below.size
        have xn0 : wr.cell? ⟨g, o, none⟩ = some (.int .i64 n) := xn
        clear hO hK hlt hkl hn xn
        generalize bs ++ jn (ns.take 0) = A at *
        go_wp2_with (first
          | (go_at_call 25; refine Calls.mono (appendInt_any base _ n hni _ _ _ (by exact hL.below h3 HK.out.below) h3 HO.out hbw2 (by omega)) ?_; rintro ex w2 ⟨v2, rfl, hown2, hb2, ho2⟩; have HW2 := hid (ownB_mk hown2 rfl); have HK2 := hid (Kb.mk hb2 ho2); clear hown2 hb2 ho2))
        go_roundw
        case rel => exact ⟨0 + 1, HL.out, rfl, by rw [HT2.out]; exact HW2.out, HK.out.trans HK2.out⟩
        case measure => have := HL.out; simp [upN, intOf]; omega
      · have HT2 : Hid (bs ++ jn (ns.take (k + 1)) = ((bs ++ jn (ns.take k)) ++ [32]) ++ Lib.itoa n) := by
          show _ = _
          rw [HT.out, if_neg (by intro h; have := congrArg List.length h; rw [List.length_take, List.length_nil] at this; omega)]
          simp
        have hbw2 := Nat.le_trans hbw hK.below.size
        have HOW := hid (hO.alloc (.cells #[.int .u8 32] 5))
        have HKa := hid (hK.alloc hbw2 (.cells #[.int .u8 32] 5))
        have HN := hid (World.news_of_block (heap_alloc_new wr (.cells #[.int .u8 32] 5)))
        have HSZ : Hid (base ≤ (wr.alloc (.cells #[.int .u8 32] 5)).heap.size) := by show _ ≤ _; simp; omega
        have hmax : (bs ++ jn (ns.take k)).length + 1 ≤ maxLen := by unfold maxLen; omega
        have hbyt : ((bs ++ jn (ns.take k)).length + 1) * 1 ≤ 140737488355328 := by omega
        have gk2 : ((k : Int) > 0) := by omega
        clear hO hK hlt hkl hn h0 HT
        generalize bs ++ jn (ns.take k) = A at *
        go_wp2_with (first
          | (at_builtin; refine wpList_append_lies _ rfl (.tmp 16) (.tmp 17) 23 rfl base 5 i0 _ 1 1 Tryd.underlying23 hi0 hz0 hz1 hz2 rfl (by decide) _ _ _ rfl HOW.out ⟨wr.heap.size, 0, none⟩ 1 1 [.int .u8 32] rfl rfl HN.out (by intro u hu; obtain rfl := List.mem_singleton.1 hu; rfl) (by decide) hmax hbyt HSZ.out _ rfl ?_; intro g6 cap6 w6 hown6 hgrow6 hat6 hlt6; have HK6 := hid (HKa.out.grown HSZ.out HOW.out hgrow6); have HW6 := hid (ownB_mk (m := [32]) hown6 rfl); have hsz6 := hgrow6.size; have HS6 := hid hsz6; clear hown6 hgrow6 hat6 hlt6 hsz6)
          | (go_at_call 25; refine Calls.mono (appendInt_any base _ n hni _ _ _ (by exact hL.below h3 HK6.out.below) h3 HW6.out (Nat.le_trans HSZ.out HS6.out) (by rw [List.length_append, List.length_singleton]; omega)) ?_; rintro ex w2 ⟨v2, rfl, hown2, hb2, ho2⟩; have HW2 := hid (ownB_mk hown2 rfl); have HK2 := hid (Kb.mk hb2 ho2); clear hown2 hb2 ho2))
        go_roundw
        case rel => exact ⟨k + 1, HL.out, by go_num, by rw [HT2.out]; exact HW2.out, HK6.out.trans HK2.out⟩
        case measure => have := HL.out; simp [upN, intOf]; omega
    · obtain rfl : k = ns.length := by omega
      have HT2 : Hid (bs ++ wl ns = (bs ++ jn (ns.take ns.length)) ++ [10]) := by
        show _ = _
        rw [List.take_length, ← jn_wl HN0.out]
        simp
      have hbw2 := Nat.le_trans hbw hK.below.size
      have HOW := hid (hO.alloc (.cells #[.int .u8 10] 5))
      have HKa := hid (hK.alloc hbw2 (.cells #[.int .u8 10] 5))
      have HN := hid (World.news_of_block (heap_alloc_new wr (.cells #[.int .u8 10] 5)))
      have HSZ : Hid (base ≤ (wr.alloc (.cells #[.int .u8 10] 5)).heap.size) := by show _ ≤ _; simp; omega
      have hmax : (bs ++ jn (ns.take ns.length)).length + 1 ≤ maxLen := by unfold maxLen; omega
      have hbyt : ((bs ++ jn (ns.take ns.length)).length + 1) * 1 ≤ 140737488355328 := by omega
      clear hO hK hlt hkl
      generalize bs ++ jn (ns.take ns.length) = A at *
      go_wp2_with (first
        | (at_builtin; refine wpList_append_lies _ rfl (.tmp 23) (.tmp 24) 23 rfl base 5 i0 _ 1 1 Tryd.underlying23 hi0 hz0 hz1 hz2 rfl (by decide) _ _ _ rfl HOW.out ⟨wr.heap.size, 0, none⟩ 1 1 [.int .u8 10] rfl rfl HN.out (by intro u hu; obtain rfl := List.mem_singleton.1 hu; rfl) (by decide) hmax hbyt HSZ.out _ rfl ?_; intro g6 cap6 w6 hown6 hgrow6 hat6 hlt6; have HK6 := hid (HKa.out.grown HSZ.out HOW.out hgrow6); have HW6 := hid (ownB_mk (m := [10]) hown6 rfl); have hsz6 := hgrow6.size; have HS6 := hid hsz6; clear hown6 hgrow6 hat6 hlt6 hsz6))
      go_ret
      exact ⟨_, rfl, by rw [HT2.out]; exact HW6.out, HK6.out⟩
end Go.Proofs.YtbkihppmikjcoaaDoor

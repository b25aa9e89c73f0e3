/- Questions as bytes: frame.Bytes. -/
import Derived.Test.YtbkihppmikjcoaaDoorFrPut
namespace Go.Proofs.YtbkihppmikjcoaaDoor
open Go.RowKit
set_option linter.unusedVariables false
attribute [local go_sem ↓] Go.wp_at_zero Go.wp_at_succ
theorem wa_snoc : ∀ (l : List Int) (n : Int), wa (l ++ [n]) = wa l ++ wl [n]
  | [], n => by simp [wa, wl]
  | m :: l, n => by
    show Lib.itoa m ++ 10 :: wa (l ++ [n]) = (Lib.itoa m ++ 10 :: wa l) ++ _
    rw [wa_snoc l n]
    simp
theorem wa_len {l : List Int} (h : ∀ n ∈ l, I64 n) : (wa l).length ≤ 21 * l.length := by
  induction l with
  | nil => simp [wa]
  | cons n l ih =>
    have h1 := itoa_len n (h n (List.mem_cons_self ..))
    have h2 := ih (fun m hm => h m (List.mem_cons_of_mem _ hm))
    unfold wa
    simp; omega
theorem wl_len {l : List Int} (h : ∀ n ∈ l, I64 n) : (wl l).length ≤ 21 * l.length := by
  induction l with
  | nil => simp [wl]
  | cons n l ih =>
    have h1 := itoa_len n (h n (List.mem_cons_self ..))
    have h2 := ih (fun m hm => h m (List.mem_cons_of_mem _ hm))
    unfold wl
    simp; omega
theorem akH_ok {a : Ak} (ho : a.ok) (hw : akW a = 0) : ∀ n ∈ akH a, I64 n := by
  obtain ⟨hw1, hw2⟩ := akW_zero hw
  obtain ⟨o1, o2, o3, o4, o5⟩ := ho
  intro n hn
  unfold akH at hn
  simp only [List.mem_cons, List.not_mem_nil, or_false] at hn
  rcases hn with rfl | rfl | rfl | rfl | rfl | rfl
  · exact o1
  · exact o2
  · exact o3
  · exact o4
  · constructor <;> omega
  · constructor <;> omega
theorem akB_len {a : Ak} (ho : a.ok) (hw : akW a = 0) : (akB a).length ≤ 5000 := by
  obtain ⟨hw1, hw2⟩ := akW_zero hw
  have h1 := wl_len (akH_ok ho hw)
  have h2 := wa_len ho.2.2.2.2
  have h3 : (akH a).length = 6 := rfl
  unfold akB
  rw [List.length_append, List.length_append]
  omega
/-- Numbers just laid down. -/
theorem numK_new (base : Nat) (w : World) (ns : List Int) : NumK base (w.alloc (.cells (ns.map (Value.int .i64)).toArray 3)) (some ⟨w.heap.size, 0, none⟩) ns := fun _ => ⟨w.heap.size, 0, rfl, fun w' hk j n hj => by
  have h := hk.others _ _ (heap_alloc_new w (.cells (ns.map (Value.int .i64)).toArray 3)) (by simp) (by intro c fz e; simp at e)
  rw [Nat.zero_add, cell_of_row _ _ j _ _ _ h]
  simp [hj]⟩
/-- Args that lie lower down. -/
def ArgLow (base : Nat) (w : World) (p : Option Addr) (l : List Int) : Prop := 0 < l.length → ∃ g o, p = some ⟨g, o, none⟩ ∧ g < base ∧ Nums w g o l
def RelPu (base : Nat) (w : World) (bs : List UInt8) (l : List Int) (b i : Value) (wr : World) : Prop := ∃ k : Nat, k ≤ l.length ∧ i = .int .i64 (k : Int) ∧ OwnB base wr b (bs ++ wa (l.take k)) ∧ Kb base w wr
set_option maxHeartbeats 1000000 in
set_option maxRecDepth 100000 in
theorem put_any (base : Nat) (w : World) (hL : Lw w) (h3 : 3 ≤ base) (hbw : base ≤ w.heap.size) (sv : Value) (bs : List UInt8) (hown : OwnB base w sv bs) (a : Ak) (ha : a.ok) (hw : akW a = 0) (p : Option Addr) (c : Nat) (hp : ArgLow base w p a.args) (hlim : bs.length + 5000 ≤ 1099511627000) :
    Calls Tryd.prog 14 #[sv, akV a p c] w fun ex w' => ∃ v, ex = .returned v ∧ OwnB base w' v (bs ++ akB a) ∧ Kb base w w' := by
  obtain ⟨i0, hi0, hz0, hz1, hz2⟩ := info_parts Tryd.infoByte
  obtain ⟨hw1, hw2⟩ := akW_zero hw
  have hH := akH_ok ha hw
  have hwl := wl_len hH
  have h6 : (akH a).length = 6 := rfl
  have hsz := ba_size a.text
  have hArgs := ha.2.2.2.2
  obtain ⟨o1, o2, o3, o4, _⟩ := ha
  have hK1 := (Kb.refl base w).alloc hbw (.cells #[.int .i64 a.id, .int .i64 a.kind, .int .i64 a.fr, .int .i64 a.to, .string (ba a.text), .slice p a.args.length c] 26)
  have hn1 := heap_alloc_new w (.cells #[.int .i64 a.id, .int .i64 a.kind, .int .i64 a.fr, .int .i64 a.to, .string (ba a.text), .slice p a.args.length c] 26)
  have hO1 := hown.alloc (.cells #[.int .i64 a.id, .int .i64 a.kind, .int .i64 a.fr, .int .i64 a.to, .string (ba a.text), .slice p a.args.length c] 26)
  have hs1 := hK1.below.size
  have hK2 := (Kb.refl base (w.alloc (.cells #[.int .i64 a.id, .int .i64 a.kind, .int .i64 a.fr, .int .i64 a.to, .string (ba a.text), .slice p a.args.length c] 26))).alloc (by omega) (.cells ((akH a).map (Value.int .i64)).toArray 3)
  have hPL := (putLine_any base _ (hL.below h3 (hK1.trans hK2).below) h3 (Nat.le_trans hbw (hK1.trans hK2).below.size) sv bs (hO1.alloc _) (some ⟨(w.alloc (.cells #[.int .i64 a.id, .int .i64 a.kind, .int .i64 a.fr, .int .i64 a.to, .string (ba a.text), .slice p a.args.length c] 26)).heap.size, 0, none⟩) 6 (akH a) (by simp [akH]) hH (numK_new base (w.alloc (.cells #[.int .i64 a.id, .int .i64 a.kind, .int .i64 a.fr, .int .i64 a.to, .string (ba a.text), .slice p a.args.length c] 26)) (akH a)) (by rw [h6]; exact Nat.le_refl _) (by omega))
  have hcs : ((akH a).map (Value.int .i64)).toArray = #[.int .i64 a.id, .int .i64 a.kind, .int .i64 a.fr, .int .i64 a.to, .int .i64 (a.args.length : Int), .int .i64 (a.text.length : Int)] := rfl
  rw [hcs] at hK2 hPL
  rw [show (w.alloc (.cells #[.int .i64 a.id, .int .i64 a.kind, .int .i64 a.fr, .int .i64 a.to, .string (ba a.text), .slice p a.args.length c] 26)).heap.size = w.heap.size + 1 by simp, h6] at hPL
  have HPL := hid hPL
  have HK2 := hid (hK1.trans hK2)
  have HN1 := hid hn1
  have HP := hid hp
  have HAs := hid hArgs
  have HAK : Hid (bs ++ akB a = (bs ++ wl (akH a)) ++ wa (a.args.take a.args.length) ++ a.text) := by show _ = _; unfold akB; simp
  have hl1 : (bs ++ wl (akH a)).length ≤ bs.length + 126 := by rw [List.length_append]; omega
  clear hK1 hK2 hn1 hO1 hown hPL hcs hH hwl hs1 o1 o2 o3 o4
  unfold akV
  go_enter Tryd.func14, Tryd.ntmps14
  go_wp2_with (first
    | (go_at_call 19; refine Calls.mono HPL.out ?_; rintro ex w2 ⟨v2, rfl, hO2, hK2⟩; have b2 := hK2.others w.heap.size _ ((Below.heap_alloc _ _ _ (by simp)).trans HN1.out) (by simp) (by intro c fz e; simp at e); have HO2 := hid hO2; have HK3 := hid (HK2.out.trans hK2); have HBX := hid b2; obtain ⟨b20, b21, b22, b23, b24, b25, b2f⟩ := row6 b2; clear hO2 hK2 b2))
  have hb2 := HK3.out.below.size
  have HLw := hid (hL.below h3 HK3.out.below)
  have hNw : ArgLow base w2 p a.args := fun hn => by
    obtain ⟨g, o, e1, e2, e3⟩ := HP.out hn
    exact ⟨g, o, e1, e2, e3.kept (HK3.out.below.block g e2)⟩
  have HNw := hid hNw
  clear hNw
  generalize hbl : bs ++ wl (akH a) = bl at *
  clear hbl
  go_loopw [0, 27] (fun b i wr => RelPu base w2 bl a.args b i wr) (fun _ i _ => upN a.args.length i)
  case atStart => exact ⟨0, Nat.zero_le _, rfl, by simpa [wa] using HO2.out, Kb.refl _ _⟩
  case round =>
    obtain ⟨k, hkl, rfl, hO, hK⟩ := hrel
    have hjl : (bl ++ wa (a.args.take k)).length ≤ bs.length + 126 + 21 * 5 := by
      have := wa_len (l := a.args.take k) (fun n hn => HAs.out n (List.mem_of_mem_take hn))
      rw [List.length_take] at this
      rw [List.length_append]
      omega
    have hbw2 := Nat.le_trans (Nat.le_trans hbw hb2) hK.below.size
    have hx := hK.others w.heap.size _ HBX.out (by simp) (by intro c fz e; simp at e)
    obtain ⟨x0, x1, x2, x3, x4, x5, xf⟩ := row6 hx
    by_cases hlt : k < a.args.length
    · obtain ⟨g, o, rfl, hg, hnum⟩ := HNw.out (by omega)
      obtain ⟨n, hn⟩ : ∃ n, a.args[k]? = some n := ⟨_, List.getElem?_eq_getElem hlt⟩
      have hni := HAs.out n (List.mem_of_getElem? hn)
      have xn := (World.cell?_of_block (a := ⟨g, o + k, none⟩) (hK.below.block g hg)).trans (hnum k n hn)
      have gk : (0 : Int) ≤ (k : Int) := by omega
      have gk1 : (k : Int) < (a.args.length : Int) := by omega
      have hK4 := (Kb.refl base wr).alloc hbw2 (.cells (([n] : List Int).map (Value.int .i64)).toArray 3)
      have hP2 := (putLine_any base _ ((HLw.out.below h3 hK.below).below h3 hK4.below) h3 (Nat.le_trans hbw2 hK4.below.size) _ _ (hO.alloc _) (some ⟨wr.heap.size, 0, none⟩) 1 [n] (by simp) (by intro m hm; obtain rfl := List.mem_singleton.1 hm; exact hni) (numK_new base wr [n]) (by simp) (by omega))
      rw [show (([n] : List Int).map (Value.int .i64)).toArray = #[.int .i64 n] from rfl, show ([n] : List Int).length = 1 from rfl] at hP2
      rw [show (([n] : List Int).map (Value.int .i64)).toArray = #[.int .i64 n] from rfl] at hK4
      have HP2 := hid hP2
      have HL := hid hlt
      have HK4 := hid (hK.trans hK4)
      have HT : Hid (bl ++ wa (a.args.take (k + 1)) = (bl ++ wa (a.args.take k)) ++ wl [n]) := by
        show _ = _
        rw [List.take_add_one, hn, Option.toList_some, wa_snoc, List.append_assoc]
      clear hlt hkl hn hO hK hK4 hx hnum hjl hP2
      generalize bl ++ wa (a.args.take k) = A at *
      go_wp2_with (first
        | (go_at_call 19; refine Calls.mono HP2.out ?_; rintro ex w3 ⟨v3, rfl, hO3, hK3⟩; have HO3 := hid hO3; have HK5 := hid hK3; clear hO3 hK3))
      go_roundw
      case rel => exact ⟨k + 1, HL.out, by go_num, by rw [HT.out]; exact HO3.out, HK4.out.trans HK5.out⟩
      case measure => have := HL.out; simp [upN, intOf]; omega
    · obtain rfl : k = a.args.length := by omega
      have HOW := hid hO
      have HK := hid hK
      have hmax : (bl ++ wa (a.args.take a.args.length)).length + (ba a.text).size ≤ maxLen := by unfold maxLen; omega
      have hbyt : (bl ++ wa (a.args.take a.args.length)).length + (ba a.text).size ≤ 140737488355328 := by omega
      clear hlt hkl hO hK hx hjl
      generalize bl ++ wa (a.args.take a.args.length) = A at *
      go_wp2_with (first
        | (at_builtin; refine Lib.wpList_append_own_string _ rfl (.tmp 36) (.tmp 38) 23 9 rfl base 5 i0 Tryd.underlying23 Tryd.underlying9 hi0 hz0 hz1 hz2 _ _ _ rfl HOW.out (ba a.text) rfl hmax hbyt hbw2 ?_; intro v6 w6 hown6 hgrow6 hnil6; have HK6 := hid (HK.out.grown hbw2 HOW.out hgrow6); have HW6 := hid (ownB_mk (m := a.text) hown6 hsz.symm); clear hown6 hgrow6 hnil6))
      go_ret
      exact ⟨_, rfl, by rw [HAK.out]; exact HW6.out, HK3.out.trans HK6.out⟩
theorem fb_at : ∀ {l : List Ak} {k : Nat} {a : Ak}, (∀ x ∈ l.take k, akW x = 0) → l[k]? = some a → akW a ≠ 0 → fb l = .inr (akW a, k)
  | [], k, a, _, h, _ => by simp at h
  | x :: l, 0, a, _, h, hw => by
    simp at h; subst h
    unfold fb
    rw [if_pos hw]
  | x :: l, k + 1, a, h0, h, hw => by
    have h1 := fb_at (l := l) (k := k) (a := a) (fun y hy => h0 y (by simp [hy])) (by simpa using h) hw
    unfold fb
    rw [if_neg (fun e => e (h0 x (by simp))), h1]
theorem akBs_snoc (l : List Ak) (a : Ak) : akBs (l ++ [a]) = akBs l ++ akB a := by simp [akBs]
theorem akBs_len : ∀ {l : List Ak}, (∀ a ∈ l, akW a = 0 ∧ a.ok) → (akBs l).length ≤ 5000 * l.length := by
  intro l h
  induction l with
  | nil => simp [akBs]
  | cons a l ih =>
    have h1 := ih (fun x hx => h x (List.mem_cons_of_mem _ hx))
    have h2 := h a (List.mem_cons_self ..)
    have h3 := akB_len h2.2 h2.1
    have e : akBs (a :: l) = akB a ++ akBs l := rfl
    rw [e, List.length_append, List.length_cons]
    omega
theorem OwnB.in_ {base : Nat} {w : World} {v : Value} {bs : List UInt8} (h : OwnB base w v bs) : BytIn w v bs := by
  obtain ⟨h1, ⟨hv, h0⟩ | ⟨g, cap, cur, hv, _, h3, h4, _⟩⟩ := id h
  · subst hv
    have : bs = [] := List.length_eq_zero_iff.1 h0
    subst this
    exact ⟨none, 0, rfl, Nat.le_refl _, fun _ => rfl, fun h => absurd h (by simp)⟩
  · subst hv
    refine ⟨some ⟨g, 0, none⟩, cap, rfl, h4, nofun, fun _ => ⟨g, 0, rfl, (h.lt g rfl).2, fun j b hj => ?_⟩⟩
    have := World.ownsRow.cells (g := g) h rfl j (.int .u8 (b.toNat : Int)) (by simp [Lib.byteCells, hj])
    rw [show (⟨g, 0, none⟩ : Addr).add j = ⟨g, 0 + j, none⟩ by unfold Addr.add; split <;> simp_all] at this
    exact this
theorem Kb.on {base : Nat} {a b c : World} (h : Kb base a b) (hb : base ≤ b.heap.size) (k : Below b.heap.size b c) : Kb base a c := ⟨h.below.trans (k.mono hb), h.others.below k⟩
def BytesP (x : List UInt8 ⊕ (Int × Nat)) (r : Value) (e k : Int) (w' : World) : Prop :=
  match x with
  | .inl b => e = 0 ∧ k = 0 ∧ BytIn w' r b
  | .inr (e', k') => r = .slice none 0 0 ∧ e = e' ∧ k = (k' : Int)
def RelBy (w : World) (l : List Ak) (b i : Value) (wr : World) : Prop := ∃ k : Nat, k ≤ l.length ∧ i = .int .i64 (k : Int) ∧ OwnB w.heap.size wr b (akBs (l.take k)) ∧ Kb w.heap.size w wr ∧ wr.heap[w.heap.size]? = some (.cells #[.int .i64 0, .int .i64 0] 30 (0, 0)) ∧ ∀ a ∈ l.take k, akW a = 0
set_option maxHeartbeats 1000000 in
set_option maxRecDepth 100000 in
theorem bytes_any (w : World) (hL : Lw w) (v : Value) (l : List Ak) (hv : AksIn w v l) (hok : ∀ a ∈ l, a.ok) (hbig : l.length ≤ 100000000) :
    Calls Tryd.prog 8 #[v] w fun ex w' => ∃ r e k, ex = .returned (.tuple #[r, faV e k]) ∧ Below w.heap.size w w' ∧ BytesP (fb l) r e k w' := by
  obtain ⟨p, c, rfl, _, hp⟩ := hv
  obtain ⟨X, hX⟩ : ∃ X, fb l = X := ⟨_, rfl⟩
  rw [hX]
  have h3 := hL.low
  have HP := hid hp
  have HX := hid hX
  have HK0 := hid ((Kb.refl w.heap.size w).alloc (Nat.le_refl _) (.cells #[.int .i64 0, .int .i64 0] 30))
  have HN0 := hid (heap_alloc_new w (.cells #[.int .i64 0, .int .i64 0] 30))
  clear hp hX
  go_enter Tryd.func8, Tryd.ntmps8
  go_wp2
  go_loopw [4, 10] (fun b i wr => RelBy w l b i wr) (fun _ i _ => upN l.length i)
  case atStart => exact ⟨0, Nat.zero_le _, rfl, World.ownsRow_nil _ _ _ _, HK0.out, HN0.out, fun a ha => by simp at ha⟩
  case round =>
    obtain ⟨k, hkl, rfl, hO, hK, hF, hall⟩ := hrel
    have hbw := hK.below.size
    by_cases hlt : k < l.length
    · obtain ⟨g, o, rfl, hg, hak⟩ := HP.out (by omega)
      obtain ⟨a, ha⟩ : ∃ a, l[k]? = some a := ⟨_, List.getElem?_eq_getElem hlt⟩
      have hao := hok a (List.mem_of_getElem? ha)
      obtain ⟨q, cq, x0, x1, x2, x3, x4, x5, harg⟩ := (hak.below hg (Below.refl _ _)).cells ha
      have kc : ∀ j, wr.cell? ⟨g, j, none⟩ = w.cell? ⟨g, j, none⟩ := fun j => World.cell?_of_block (a := ⟨g, j, none⟩) (hK.below.block g hg)
      rw [← kc] at x0 x1 x2 x3 x4 x5
      have gk : (0 : Int) ≤ (k : Int) := by omega
      have gk1 : (k : Int) < (l.length : Int) := by omega
      have hlim : (akBs (l.take k)).length + 5000 ≤ 1099511627000 := by
        have := akBs_len (l := l.take k) (fun x hx => ⟨hall x hx, hok x (List.mem_of_mem_take hx)⟩)
        rw [List.length_take] at this
        omega
      have HT : Hid (akBs (l.take (k + 1)) = akBs (l.take k) ++ akB a) := by
        show _ = _
        rw [List.take_add_one, ha, Option.toList_some, akBs_snoc]
      have HM : Hid (akW a = 0 → ∀ x ∈ l.take (k + 1), akW x = 0) := fun h0 x hx => by
        rw [List.take_add_one, ha, Option.toList_some] at hx
        rcases List.mem_append.1 hx with hx | hx
        · exact hall x hx
        · rw [List.mem_singleton.1 hx]; exact h0
      have HE : Hid (akW a ≠ 0 → X = .inr (akW a, k)) := fun h0 => by rw [← HX.out]; exact fb_at hall ha h0
      have HL := hid hlt
      have HAr := hid harg
      have hK1 := hK.alloc hbw (.cells #[.int .i64 a.id, .int .i64 a.kind, .int .i64 a.fr, .int .i64 a.to, .string (ba a.text), .slice q a.args.length cq] 26)
      have HK1 := hid hK1
      have HO1 := hid (hO.alloc (.cells #[.int .i64 a.id, .int .i64 a.kind, .int .i64 a.fr, .int .i64 a.to, .string (ba a.text), .slice q a.args.length cq] 26))
      have HN1 := hid (heap_alloc_new wr (.cells #[.int .i64 a.id, .int .i64 a.kind, .int .i64 a.fr, .int .i64 a.to, .string (ba a.text), .slice q a.args.length cq] 26))
      have HF := hid hF
      have hF1 := (Below.heap_alloc wr (.cells #[.int .i64 a.id, .int .i64 a.kind, .int .i64 a.fr, .int .i64 a.to, .string (ba a.text), .slice q a.args.length cq] 26) w.heap.size (Array.getElem?_eq_some_iff.1 hF).1).trans hF
      have HF1 := hid hF1
      have hbw1 := hK1.below.size
      clear hlt hkl ha hall hO hK hF harg hak kc hK1 hF1
      by_cases hw : akW a = 0
      · have HW := hid hw
        go_wp2_with (first
          | (go_at_call 6; refine Calls.mono (wrong_any a q cq _) ?_; rintro ex w2 ⟨rfl, hb2⟩; have b2 := (hb2.block wr.heap.size (by simp)).trans HN1.out; obtain ⟨b20, b21, b22, b23, b24, b25, b2f⟩ := row6 b2; have HK2 := hid (HK1.out.on hbw1 hb2); have HO2 : Hid (OwnB w.heap.size w2 _ (akBs (l.take k))) := own_below HO1.out hb2; have HF2 := hid ((hb2.block w.heap.size (Array.getElem?_eq_some_iff.1 HF1.out).1).trans HF1.out); clear hb2 b2)
          | (go_at_call 14; refine Calls.mono (put_any w.heap.size _ (hL.below h3 HK2.out.below) h3 HK2.out.below.size _ _ HO2.out a hao HW.out q cq (fun hn => by obtain ⟨g2, o2, e1, e2, e3⟩ := HAr.out hn; exact ⟨g2, o2, e1, e2, e3.kept (HK2.out.below.block g2 e2)⟩) hlim) ?_; rintro ex w3 ⟨v3, rfl, hO3, hK3⟩; have HO3 := hid hO3; have HK3 := hid hK3; clear hO3 hK3))
        go_roundw
        case rel => exact ⟨k + 1, HL.out, by go_num, by rw [HT.out]; exact HO3.out, HK2.out.trans HK3.out, HK3.out.others _ _ HF2.out (by simp) (by intro c fz e; simp at e), HM.out HW.out⟩
        case measure => have := HL.out; simp [upN, intOf]; omega
      · have HW := hid hw
        have hwb : (akW a != 0) = true := by simpa using hw
        go_wp2_with (first
          | (go_at_call 6; refine Calls.mono (wrong_any a q cq _) ?_; rintro ex w2 ⟨rfl, hb2⟩; have HK2 := hid (HK1.out.on hbw1 hb2); have f2 := (hb2.block w.heap.size (Array.getElem?_eq_some_iff.1 HF1.out).1).trans HF1.out; obtain ⟨f20, f21, f2f⟩ := row2 f2; have HF2 := hid f2; clear hb2 f2))
        obtain ⟨z0, z1⟩ := fin2 HF2.out (.int .i64 (akW a)) (.int .i64 (k : Int))
        have hb9 := (HK2.out.below.setCell (p := ⟨w.heap.size, 0, none⟩) (Nat.le_refl _) (.int .i64 (akW a))).setCell (p := ⟨w.heap.size, 1, none⟩) (Nat.le_refl _) (.int .i64 (k : Int))
        generalize (w2.setCell ⟨w.heap.size, 0, none⟩ (.int .i64 (akW a))).setCell ⟨w.heap.size, 1, none⟩ (.int .i64 (k : Int)) = w9 at *
        exact bodyPost_ret (v := .tuple #[.slice none 0 0, faV (akW a) (k : Int)]) (by simp [results, Tryd.results8, go_sem, z0, z1, faV]) rfl ⟨_, _, _, rfl, hb9, by rw [HE.out HW.out]; exact ⟨rfl, rfl, rfl⟩⟩
    · obtain rfl : k = l.length := by omega
      rw [List.take_length] at hO hall
      have HX2 : Hid (X = .inl (akBs l)) := by show _ = _; rw [← HX.out]; exact fb_ok hall
      obtain ⟨d0, d1, df⟩ := row2 hF
      have HF := hid hF
      have HO := hid hO
      have HK := hid hK
      clear hO hK hF hlt hkl hall
      go_wp2
      obtain ⟨z0, z1⟩ := fin2 HF.out (.int .i64 0) (.int .i64 0)
      have hb9 := (HK.out.below.setCell (p := ⟨w.heap.size, 0, none⟩) (Nat.le_refl _) (.int .i64 0)).setCell (p := ⟨w.heap.size, 1, none⟩) (Nat.le_refl _) (.int .i64 0)
      have hne := HO.out.not HF.out (by intro c fz e; simp at e)
      have hO9 : OwnB w.heap.size ((wr.setCell ⟨w.heap.size, 0, none⟩ (.int .i64 0)).setCell ⟨w.heap.size, 1, none⟩ (.int .i64 0)) _ (akBs l) := ownsRow_setCell_other (ownsRow_setCell_other HO.out (a := ⟨w.heap.size, 0, none⟩) (fun e => hne e.symm) _) (a := ⟨w.heap.size, 1, none⟩) (fun e => hne e.symm) _
      generalize (wr.setCell ⟨w.heap.size, 0, none⟩ (.int .i64 0)).setCell ⟨w.heap.size, 1, none⟩ (.int .i64 0) = w9 at *
      refine bodyPost_ret (v := .tuple #[_, faV 0 0]) (by simp [results, Tryd.results8, go_sem, z0, z1, faV]; rfl) rfl ⟨_, _, _, rfl, hb9, by rw [HX2.out]; exact ⟨rfl, rfl, hO9.in_⟩⟩
end Go.Proofs.YtbkihppmikjcoaaDoor

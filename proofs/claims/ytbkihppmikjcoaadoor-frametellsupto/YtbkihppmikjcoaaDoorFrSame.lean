/- The document's comparison of questions. -/
import Derived.Test.YtbkihppmikjcoaaDoorFrBytes
import Derived.BigRegion
namespace Go.Proofs.YtbkihppmikjcoaaDoor
open Go.RowKit
set_option linter.unusedVariables false
attribute [local go_sem ↓] Go.wp_at_zero Go.wp_at_succ
/-- A question's box. -/
def akO (a : Ak) (p : Option Addr) (c : Nat) : Obj := .cells #[.int .i64 a.id, .int .i64 a.kind, .int .i64 a.fr, .int .i64 a.to, .string (ba a.text), .slice p a.args.length c] 26
theorem ak_eq {a b : Ak} (h1 : a.id = b.id) (h2 : a.kind = b.kind) (h3 : a.fr = b.fr) (h4 : a.to = b.to) (h5 : a.text = b.text) (h6 : a.args = b.args) : a = b := by
  cases a; cases b
  simp only at h1 h2 h3 h4 h5 h6
  subst h1 h2 h3 h4 h5 h6
  rfl
def RelIn (w : World) (l m : List Int) (i : Value) (wr : World) : Prop := ∃ k : Nat, k ≤ l.length ∧ i = .int .i64 (k : Int) ∧ Below w.heap.size w wr ∧ l.take k = m.take k
def RelSa (w : World) (l m : List Ak) (i : Value) (wr : World) : Prop := ∃ k : Nat, k ≤ l.length ∧ i = .int .i64 (k : Int) ∧ Below w.heap.size w wr ∧ l.take k = m.take k
set_option maxHeartbeats 1000000 in
set_option maxRecDepth 100000 in
theorem same_any (w : World) (v u : Value) (l m : List Ak) (hv : AksIn w v l) (hu : AksIn w u m) (hl : l.length ≤ 1099511627776) (hal : ∀ a ∈ l, a.args.length ≤ 1099511627776) :
    Calls Tryd.prog 12 #[v, u] w fun ex w' => ∃ b, ex = .returned (.bool b) ∧ Below w.heap.size w w' ∧ (b = true ↔ l = m) := by
  obtain ⟨p, c, rfl, _, hp⟩ := hv
  obtain ⟨q, d, rfl, _, hq⟩ := hu
  have HP := hid hp
  have HQ := hid hq
  clear hp hq
  by_cases hlm : l.length = m.length
  · have HLM := hid hlm
    have hbe : ((l.length : Int) != (m.length : Int)) = false := by rw [hlm]; simp
    clear hlm
    go_enter Tryd.func12, Tryd.ntmps12
    go_wp2
    go_loopw [16] (fun i wr => RelSa w l m i wr) (fun i _ => upN l.length i)
    case atStart => exact ⟨0, Nat.zero_le _, rfl, Below.refl _ _, rfl⟩
    case round =>
      obtain ⟨k, hkl, rfl, hB, hT⟩ := hrel
      by_cases hlt : k < l.length
      · obtain ⟨g, o, rfl, hg, hak⟩ := HP.out (by omega)
        obtain ⟨g2, o2, rfl, hg2, hak2⟩ := HQ.out (by have := HLM.out; omega)
        obtain ⟨a, ha⟩ : ∃ a, l[k]? = some a := ⟨_, List.getElem?_eq_getElem hlt⟩
        obtain ⟨b, hb⟩ : ∃ b, m[k]? = some b := ⟨_, List.getElem?_eq_getElem (by have := HLM.out; omega)⟩
        obtain ⟨pa, ca, x0, x1, x2, x3, x4, x5, harg⟩ := hak.cells ha
        obtain ⟨pb, cb, y0, y1, y2, y3, y4, y5, harg2⟩ := hak2.cells hb
        have kc : ∀ j, wr.cell? ⟨g, j, none⟩ = w.cell? ⟨g, j, none⟩ := fun j => World.cell?_of_block (a := ⟨g, j, none⟩) (hB.block g hg)
        have kd : ∀ j, wr.cell? ⟨g2, j, none⟩ = w.cell? ⟨g2, j, none⟩ := fun j => World.cell?_of_block (a := ⟨g2, j, none⟩) (hB.block g2 hg2)
        rw [← kc] at x0 x1 x2 x3 x4 x5
        rw [← kd] at y0 y1 y2 y3 y4 y5
        have gk : (0 : Int) ≤ (k : Int) := by omega
        have gk1 : (k : Int) < (l.length : Int) := by omega
        have gk2 : (k : Int) < (m.length : Int) := by have := HLM.out; omega
        have hab := hal a (List.mem_of_getElem? ha)
        have HA := hid harg
        have HA2 := hid harg2
        have HL := hid hlt
        have HT := hid hT
        have HB := hid hB
        have Ha := hid ha
        have Hb := hid hb
        have HEQ : Hid (l = m → a = b) := fun e => by rw [e, hb] at ha; injection ha with ha; exact ha.symm
        have n0 := cell_alloc x0
        have n1 := cell_alloc x1
        have n2 := cell_alloc x2
        have n3 := cell_alloc x3
        have n4 := cell_alloc x4
        have n5 := cell_alloc x5
        have m0 := cell_alloc y0
        have m1 := cell_alloc y1
        have m2 := cell_alloc y2
        have m3 := cell_alloc y3
        have m4 := cell_alloc y4
        have m5 := cell_alloc y5
        have n02 := fun o => cell_alloc (n0 o)
        have m02 := fun o => cell_alloc (m0 o)
        have n12 := fun o => cell_alloc (n1 o)
        have m12 := fun o => cell_alloc (m1 o)
        have n22 := fun o => cell_alloc (n2 o)
        have m22 := fun o => cell_alloc (m2 o)
        have n32 := fun o => cell_alloc (n3 o)
        have m32 := fun o => cell_alloc (m3 o)
        have n42 := fun o => cell_alloc (n4 o)
        have m42 := fun o => cell_alloc (m4 o)
        have n52 := fun o => cell_alloc (n5 o)
        have m52 := fun o => cell_alloc (m5 o)
        have e1 : ¬ wr.heap.size = g := by have := hB.size; omega
        have e2 : ¬ wr.heap.size = g2 := by have := hB.size; omega
        have e3 : ¬ wr.heap.size + 1 = g := by have := hB.size; omega
        have e4 : ¬ wr.heap.size + 1 = g2 := by have := hB.size; omega
        clear harg harg2 hlt hkl hT hB ha hb hak hak2 kc kd
        go_wp2
        go_region
        · have hW := ((Below.refl wr.heap.size wr).alloc (Nat.le_refl _) (.cells #[.int .i64 a.id, .int .i64 a.kind, .int .i64 a.fr, .int .i64 a.to, .string (ba a.text), .slice pa a.args.length ca] 26)).alloc (by simp) (.cells #[.int .i64 b.id, .int .i64 b.kind, .int .i64 b.fr, .int .i64 b.to, .string (ba b.text), .slice pb b.args.length cb] 26) |>.drew
          have hW0 : ((wr.alloc (.cells #[.int .i64 a.id, .int .i64 a.kind, .int .i64 a.fr, .int .i64 a.to, .string (ba a.text), .slice pa a.args.length ca] 26)).alloc (.cells #[.int .i64 b.id, .int .i64 b.kind, .int .i64 b.fr, .int .i64 b.to, .string (ba b.text), .slice pb b.args.length cb] 26)).drew.heap[wr.heap.size]? = some (.cells #[.int .i64 a.id, .int .i64 a.kind, .int .i64 a.fr, .int .i64 a.to, .string (ba a.text), .slice pa a.args.length ca] 26) := (Below.heap_alloc (wr.alloc (.cells #[.int .i64 a.id, .int .i64 a.kind, .int .i64 a.fr, .int .i64 a.to, .string (ba a.text), .slice pa a.args.length ca] 26)) (.cells #[.int .i64 b.id, .int .i64 b.kind, .int .i64 b.fr, .int .i64 b.to, .string (ba b.text), .slice pb b.args.length cb] 26) wr.heap.size (by simp)).trans (heap_alloc_new wr (.cells #[.int .i64 a.id, .int .i64 a.kind, .int .i64 a.fr, .int .i64 a.to, .string (ba a.text), .slice pa a.args.length ca] 26))
          have hW1 : ((wr.alloc (.cells #[.int .i64 a.id, .int .i64 a.kind, .int .i64 a.fr, .int .i64 a.to, .string (ba a.text), .slice pa a.args.length ca] 26)).alloc (.cells #[.int .i64 b.id, .int .i64 b.kind, .int .i64 b.fr, .int .i64 b.to, .string (ba b.text), .slice pb b.args.length cb] 26)).drew.heap[wr.heap.size + 1]? = some (.cells #[.int .i64 b.id, .int .i64 b.kind, .int .i64 b.fr, .int .i64 b.to, .string (ba b.text), .slice pb b.args.length cb] 26) := (by have := heap_alloc_new (wr.alloc (.cells #[.int .i64 a.id, .int .i64 a.kind, .int .i64 a.fr, .int .i64 a.to, .string (ba a.text), .slice pa a.args.length ca] 26)) (.cells #[.int .i64 b.id, .int .i64 b.kind, .int .i64 b.fr, .int .i64 b.to, .string (ba b.text), .slice pb b.args.length cb] 26); rwa [show (wr.alloc (.cells #[.int .i64 a.id, .int .i64 a.kind, .int .i64 a.fr, .int .i64 a.to, .string (ba a.text), .slice pa a.args.length ca] 26)).heap.size = wr.heap.size + 1 by simp] at this)
          generalize ((wr.alloc (.cells #[.int .i64 a.id, .int .i64 a.kind, .int .i64 a.fr, .int .i64 a.to, .string (ba a.text), .slice pa a.args.length ca] 26)).alloc (.cells #[.int .i64 b.id, .int .i64 b.kind, .int .i64 b.fr, .int .i64 b.to, .string (ba b.text), .slice pb b.args.length cb] 26)).drew = W1 at *
          obtain ⟨z0, z1, z2, z3, z4, z5, _⟩ := row6 hW0
          obtain ⟨t0, t1, t2, t3, t4, t5, _⟩ := row6 hW1
          have HW0 := hid hW0
          have HW1 := hid hW1
          have HBW := hid (HB.out.trans (hW.mono HB.out.size))
          clear hW0 hW1 hW n0 n1 n2 n3 n4 n5 m0 m1 m2 m3 m4 m5 n02 n12 n22 n32 n42 n52 m02 m12 m22 m32 m42 m52 x0 x1 x2 x3 x4 x5 y0 y1 y2 y3 y4 y5
          go_wp2
          · rename_i h
            go_ret
            exact ⟨false, rfl, HBW.out, fun h => (by cases h), fun e => absurd (congrArg (fun x => (x.args.length : Int)) (HEQ.out e)) (bne_iff_ne.1 h)⟩
          · rename_i h1 h2 h3 h4 h5 h6
            have hal : a.args.length = b.args.length := by have h7 : (a.args.length : Int) = (b.args.length : Int) := by simpa using h6
                                                           omega
            have HAB : Hid (a.args = b.args → a = b) := fun h7 => ak_eq h1 h2 h3 h4 (ba_inj (by apply ByteArray.ext; apply Array.ext'; simpa [Lib.toList_data] using h5)) h7
            have HAL := hid hal
            clear h1 h2 h3 h4 h5 h6 hal z0 z1 z2 z3 z4 z5 t0 t1 t2 t3 t4 t5 e1 e2 e3 e4
            generalize wr.heap.size = N at *
            go_loopw [72] (fun i wr2 => RelIn W1 a.args b.args i wr2) (fun i _ => upN a.args.length i)
            case atStart => exact ⟨0, Nat.zero_le _, rfl, Below.refl _ _, rfl⟩
            case round =>
              obtain ⟨j, hjl, rfl, hB2, hT2⟩ := hrel
              obtain ⟨z0, z1, z2, z3, z4, z5, _⟩ := row6 ((hB2.block N (Array.getElem?_eq_some_iff.1 HW0.out).1).trans HW0.out)
              obtain ⟨t0, t1, t2, t3, t4, t5, _⟩ := row6 ((hB2.block (N + 1) (Array.getElem?_eq_some_iff.1 HW1.out).1).trans HW1.out)
              have HB2 := hid (HBW.out.trans (hB2.mono HBW.out.size))
              have HB3 := hid hB2
              have HT2 := hid hT2
              by_cases hlj : j < a.args.length
              · obtain ⟨g3, o3, rfl, hg3, hn3⟩ := HA.out (by omega)
                obtain ⟨g4, o4, rfl, hg4, hn4⟩ := HA2.out (by have := HAL.out; omega)
                obtain ⟨na, hna⟩ : ∃ x, a.args[j]? = some x := ⟨_, List.getElem?_eq_getElem hlj⟩
                obtain ⟨nb, hnb⟩ : ∃ x, b.args[j]? = some x := ⟨_, List.getElem?_eq_getElem (by have := HAL.out; omega)⟩
                have xa := (World.cell?_of_block (a := ⟨g3, o3 + j, none⟩) (HB2.out.block g3 hg3)).trans (hn3 j na hna)
                have xb := (World.cell?_of_block (a := ⟨g4, o4 + j, none⟩) (HB2.out.block g4 hg4)).trans (hn4 j nb hnb)
                have gj : (0 : Int) ≤ (j : Int) := by omega
                have gjb : j < 1099511627776 := by omega
                have gj1 : (j : Int) < (a.args.length : Int) := by omega
                have gj2 : (j : Int) < (b.args.length : Int) := by have := HAL.out; omega
                have HLJ := hid hlj
                have HNA := hid hna
                have HNB := hid hnb
                clear hlj hjl hB2 hT2 hn3 hn4 hna hnb
                by_cases hnn : na = nb
                · have HNN := hid hnn
                  have hnb : (na != nb) = false := by rw [hnn]; simp
                  clear hnn
                  go_wp2
                  go_quiet (fail)
                  go_wp2
                  go_roundw
                  case rel => exact ⟨j + 1, HLJ.out, by go_num, below_drewN HB3.out _, by rw [List.take_add_one, List.take_add_one, HT2.out, HNA.out, HNB.out, HNN.out]⟩
                  case measure => have := HLJ.out; simp [upN, intOf]; omega
                · have HNN := hid hnn
                  have hnb : (na != nb) = true := by rw [bne_iff_ne]; exact hnn
                  clear hnn
                  go_wp2
                  go_quiet (fail)
                  go_wp2
                  go_ret
                  exact ⟨false, rfl, below_drewN HB2.out _, fun h => (by cases h), fun e => absurd (by have := HEQ.out e; have h1 := HNA.out; rw [this, HNB.out] at h1; injection h1 with h1; exact h1.symm) HNN.out⟩
              · obtain rfl : j = a.args.length := by omega
                have HE : Hid (a = b) := HAB.out (by have h := HT2.out; rw [List.take_length, HAL.out, List.take_length] at h; exact h)
                clear hlj hjl hB2 hT2
                go_wp2
                go_roundw
                case rel => exact ⟨k + 1, HL.out, by go_num, HB2.out, by rw [List.take_add_one, List.take_add_one, HT.out, Ha.out, Hb.out, HE.out]⟩
                case measure => have := HL.out; simp [upN, intOf]; omega
          all_goals rename_i h
          all_goals go_ret
          all_goals refine ⟨false, rfl, HBW.out, fun h => (by cases h), fun e => ?_⟩
          · exact absurd (congrArg (fun x => (ba x.text).toList) (HEQ.out e)) h
          · exact absurd (congrArg Ak.to (HEQ.out e)) h
          · exact absurd (congrArg Ak.fr (HEQ.out e)) h
          · exact absurd (congrArg Ak.kind (HEQ.out e)) h
          · exact absurd (congrArg Ak.id (HEQ.out e)) h
        · have hW := ((Below.refl wr.heap.size wr).alloc (Nat.le_refl _) (.cells #[.int .i64 b.id, .int .i64 b.kind, .int .i64 b.fr, .int .i64 b.to, .string (ba b.text), .slice pb b.args.length cb] 26)).alloc (by simp) (.cells #[.int .i64 a.id, .int .i64 a.kind, .int .i64 a.fr, .int .i64 a.to, .string (ba a.text), .slice pa a.args.length ca] 26) |>.drew
          have hW0 : ((wr.alloc (.cells #[.int .i64 b.id, .int .i64 b.kind, .int .i64 b.fr, .int .i64 b.to, .string (ba b.text), .slice pb b.args.length cb] 26)).alloc (.cells #[.int .i64 a.id, .int .i64 a.kind, .int .i64 a.fr, .int .i64 a.to, .string (ba a.text), .slice pa a.args.length ca] 26)).drew.heap[wr.heap.size]? = some (.cells #[.int .i64 b.id, .int .i64 b.kind, .int .i64 b.fr, .int .i64 b.to, .string (ba b.text), .slice pb b.args.length cb] 26) := (Below.heap_alloc (wr.alloc (.cells #[.int .i64 b.id, .int .i64 b.kind, .int .i64 b.fr, .int .i64 b.to, .string (ba b.text), .slice pb b.args.length cb] 26)) (.cells #[.int .i64 a.id, .int .i64 a.kind, .int .i64 a.fr, .int .i64 a.to, .string (ba a.text), .slice pa a.args.length ca] 26) wr.heap.size (by simp)).trans (heap_alloc_new wr (.cells #[.int .i64 b.id, .int .i64 b.kind, .int .i64 b.fr, .int .i64 b.to, .string (ba b.text), .slice pb b.args.length cb] 26))
          have hW1 : ((wr.alloc (.cells #[.int .i64 b.id, .int .i64 b.kind, .int .i64 b.fr, .int .i64 b.to, .string (ba b.text), .slice pb b.args.length cb] 26)).alloc (.cells #[.int .i64 a.id, .int .i64 a.kind, .int .i64 a.fr, .int .i64 a.to, .string (ba a.text), .slice pa a.args.length ca] 26)).drew.heap[wr.heap.size + 1]? = some (.cells #[.int .i64 a.id, .int .i64 a.kind, .int .i64 a.fr, .int .i64 a.to, .string (ba a.text), .slice pa a.args.length ca] 26) := (by have := heap_alloc_new (wr.alloc (.cells #[.int .i64 b.id, .int .i64 b.kind, .int .i64 b.fr, .int .i64 b.to, .string (ba b.text), .slice pb b.args.length cb] 26)) (.cells #[.int .i64 a.id, .int .i64 a.kind, .int .i64 a.fr, .int .i64 a.to, .string (ba a.text), .slice pa a.args.length ca] 26); rwa [show (wr.alloc (.cells #[.int .i64 b.id, .int .i64 b.kind, .int .i64 b.fr, .int .i64 b.to, .string (ba b.text), .slice pb b.args.length cb] 26)).heap.size = wr.heap.size + 1 by simp] at this)
          generalize ((wr.alloc (.cells #[.int .i64 b.id, .int .i64 b.kind, .int .i64 b.fr, .int .i64 b.to, .string (ba b.text), .slice pb b.args.length cb] 26)).alloc (.cells #[.int .i64 a.id, .int .i64 a.kind, .int .i64 a.fr, .int .i64 a.to, .string (ba a.text), .slice pa a.args.length ca] 26)).drew = W1 at *
          obtain ⟨z0, z1, z2, z3, z4, z5, _⟩ := row6 hW0
          obtain ⟨t0, t1, t2, t3, t4, t5, _⟩ := row6 hW1
          have HW0 := hid hW0
          have HW1 := hid hW1
          have HBW := hid (HB.out.trans (hW.mono HB.out.size))
          clear hW0 hW1 hW n0 n1 n2 n3 n4 n5 m0 m1 m2 m3 m4 m5 n02 n12 n22 n32 n42 n52 m02 m12 m22 m32 m42 m52 x0 x1 x2 x3 x4 x5 y0 y1 y2 y3 y4 y5
          go_wp2
          · rename_i h
            go_ret
            exact ⟨false, rfl, HBW.out, fun h => (by cases h), fun e => absurd (congrArg (fun x => (x.args.length : Int)) (HEQ.out e)) (bne_iff_ne.1 h)⟩
          · rename_i h1 h2 h3 h4 h5 h6
            have hal : a.args.length = b.args.length := by have h7 : (a.args.length : Int) = (b.args.length : Int) := by simpa using h6
                                                           omega
            have HAB : Hid (a.args = b.args → a = b) := fun h7 => ak_eq h1 h2 h3 h4 (ba_inj (by apply ByteArray.ext; apply Array.ext'; simpa [Lib.toList_data] using h5)) h7
            have HAL := hid hal
            clear h1 h2 h3 h4 h5 h6 hal z0 z1 z2 z3 z4 z5 t0 t1 t2 t3 t4 t5 e1 e2 e3 e4
            generalize wr.heap.size = N at *
            go_loopw [72] (fun i wr2 => RelIn W1 a.args b.args i wr2) (fun i _ => upN a.args.length i)
            case atStart => exact ⟨0, Nat.zero_le _, rfl, Below.refl _ _, rfl⟩
            case round =>
              obtain ⟨j, hjl, rfl, hB2, hT2⟩ := hrel
              obtain ⟨z0, z1, z2, z3, z4, z5, _⟩ := row6 ((hB2.block N (Array.getElem?_eq_some_iff.1 HW0.out).1).trans HW0.out)
              obtain ⟨t0, t1, t2, t3, t4, t5, _⟩ := row6 ((hB2.block (N + 1) (Array.getElem?_eq_some_iff.1 HW1.out).1).trans HW1.out)
              have HB2 := hid (HBW.out.trans (hB2.mono HBW.out.size))
              have HB3 := hid hB2
              have HT2 := hid hT2
              by_cases hlj : j < a.args.length
              · obtain ⟨g3, o3, rfl, hg3, hn3⟩ := HA.out (by omega)
                obtain ⟨g4, o4, rfl, hg4, hn4⟩ := HA2.out (by have := HAL.out; omega)
                obtain ⟨na, hna⟩ : ∃ x, a.args[j]? = some x := ⟨_, List.getElem?_eq_getElem hlj⟩
                obtain ⟨nb, hnb⟩ : ∃ x, b.args[j]? = some x := ⟨_, List.getElem?_eq_getElem (by have := HAL.out; omega)⟩
                have xa := (World.cell?_of_block (a := ⟨g3, o3 + j, none⟩) (HB2.out.block g3 hg3)).trans (hn3 j na hna)
                have xb := (World.cell?_of_block (a := ⟨g4, o4 + j, none⟩) (HB2.out.block g4 hg4)).trans (hn4 j nb hnb)
                have gj : (0 : Int) ≤ (j : Int) := by omega
                have gjb : j < 1099511627776 := by omega
                have gj1 : (j : Int) < (a.args.length : Int) := by omega
                have gj2 : (j : Int) < (b.args.length : Int) := by have := HAL.out; omega
                have HLJ := hid hlj
                have HNA := hid hna
                have HNB := hid hnb
                clear hlj hjl hB2 hT2 hn3 hn4 hna hnb
                by_cases hnn : na = nb
                · have HNN := hid hnn
                  have hnb : (na != nb) = false := by rw [hnn]; simp
                  clear hnn
                  go_wp2
                  go_quiet (fail)
                  go_wp2
                  go_roundw
                  case rel => exact ⟨j + 1, HLJ.out, by go_num, below_drewN HB3.out _, by rw [List.take_add_one, List.take_add_one, HT2.out, HNA.out, HNB.out, HNN.out]⟩
                  case measure => have := HLJ.out; simp [upN, intOf]; omega
                · have HNN := hid hnn
                  have hnb : (na != nb) = true := by rw [bne_iff_ne]; exact hnn
                  clear hnn
                  go_wp2
                  go_quiet (fail)
                  go_wp2
                  go_ret
                  exact ⟨false, rfl, below_drewN HB2.out _, fun h => (by cases h), fun e => absurd (by have := HEQ.out e; have h1 := HNA.out; rw [this, HNB.out] at h1; injection h1 with h1; exact h1.symm) HNN.out⟩
              · obtain rfl : j = a.args.length := by omega
                have HE : Hid (a = b) := HAB.out (by have h := HT2.out; rw [List.take_length, HAL.out, List.take_length] at h; exact h)
                clear hlj hjl hB2 hT2
                go_wp2
                go_roundw
                case rel => exact ⟨k + 1, HL.out, by go_num, HB2.out, by rw [List.take_add_one, List.take_add_one, HT.out, Ha.out, Hb.out, HE.out]⟩
                case measure => have := HL.out; simp [upN, intOf]; omega
          all_goals rename_i h
          all_goals go_ret
          all_goals refine ⟨false, rfl, HBW.out, fun h => (by cases h), fun e => ?_⟩
          · exact absurd (congrArg (fun x => (ba x.text).toList) (HEQ.out e)) h
          · exact absurd (congrArg Ak.to (HEQ.out e)) h
          · exact absurd (congrArg Ak.fr (HEQ.out e)) h
          · exact absurd (congrArg Ak.kind (HEQ.out e)) h
          · exact absurd (congrArg Ak.id (HEQ.out e)) h
      · obtain rfl : k = l.length := by omega
        have HE : Hid (l = m) := by
          have h := hT
          rw [List.take_length, HLM.out, List.take_length] at h
          exact h
        have HB := hid hB
        clear hlt hkl hB hT
        go_wp2
        go_ret
        exact ⟨true, rfl, HB.out, fun _ => HE.out, fun _ => rfl⟩
  · have HLM := hid hlm
    have hbe : ((l.length : Int) != (m.length : Int)) = true := by rw [bne_iff_ne]; omega
    clear hlm
    go_enter Tryd.func12, Tryd.ntmps12
    go_wp2
    go_ret
    exact ⟨false, rfl, Below.refl _ _, fun h => (by cases h), fun e => absurd (congrArg List.length e) HLM.out⟩
end Go.Proofs.YtbkihppmikjcoaaDoor

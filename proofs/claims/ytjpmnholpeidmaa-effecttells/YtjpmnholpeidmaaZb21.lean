/- Texts of this seat, one behind the other: RnFind. -/
import Derived.Test.YtjpmnholpeidmaaZb19
namespace Go.Proofs.Ytjpmnholpeidmaa
open Go.RowKit
set_option linter.unusedVariables false
attribute [local go_sem ↓] Go.wp_at_zero Go.wp_at_succ
def RelRf (l : List (Int × It)) (kd : Int) (nm : ByteArray) (W : World) (i : Value) (wr : World) : Prop := ∃ k : Nat, k ≤ l.length ∧ i = .int .i64 (k : Int) ∧ (nm ≠ noB → ∀ j e, j < k → l[j]? = some e → isIt kd nm e.2 = false) ∧ Below W.heap.size W wr
theorem nonempty_of {nm : ByteArray} (hn : ¬ nm = noB) : nm.toList.isEmpty = false := by
  have h := (Lib.bytes_beq_false_iff nm noB).2 hn
  rw [noB_list] at h
  cases hl : nm.toList with
  | nil => rw [hl] at h; cases h
  | cons a r => rfl
set_option maxHeartbeats 1000000 in
set_option maxRecDepth 100000 in
theorem rn_find (l : List (Int × It)) (fv : Value) (kd : Int) (nm : ByteArray) (w : World) (ok : Nat → Prop) (hok : ∀ k, ok k → k < w.heap.size) (hf : RdF ok w l fv) :
    Calls Try.prog 26 #[fv, .int .i64 kd, .string nm] w fun e w' => e = .returned (.int .i64 (fnd l kd nm)) ∧ Below w.heap.size w w' := by
  obtain ⟨p, c, rfl, hl, hits⟩ := hf
  generalize hr : fnd l kd nm = r
  have HR := hid hr
  clear hr
  have hb0 := (Below.refl w.heap.size w).alloc (Nat.le_refl _) (.cells #[.slice p l.length c] 24)
  go_enter Try.func26, Try.ntmps26
  go_wp2
  generalize w.alloc (.cells #[.slice p l.length c] 24) = W at *
  go_loopw [12] (fun i wr => RelRf l kd nm W i wr) (fun i _ => upN l.length i)
  case atStart => exact ⟨0, Nat.zero_le _, rfl, fun _ j e h => by omega, Below.refl _ _⟩
  case round =>
    obtain ⟨k, hkl, rfl, hno, hbr⟩ := hrel
    have hbw := hb0.trans (hbr.mono hb0.size)
    by_cases hlt : k < l.length
    · obtain ⟨g, hpg, hg, hR⟩ := hits (by omega)
      subst hpg
      obtain ⟨e, he⟩ : ∃ e, l[k]? = some e := ⟨_, List.getElem?_eq_getElem hlt⟩
      obtain ⟨v, hcv, hI⟩ := RdIs.at hR (hbw.block g (hok g hg)) (fun b hb => hbw.block b (hok b hb)) (e1 := e.1) (e2 := e.2) he
      obtain ⟨p1, c1, p2, c2, p3, c3, p4, c4, rfl, _⟩ := hI
      have d0 := hcv.get 0 _ rfl
      have d1 := hcv.get 1 _ rfl
      have d2 := hcv.get 2 _ rfl
      have d3 := hcv.get 3 _ rfl
      have d4 := hcv.get 4 _ rfl
      have d5 := hcv.get 5 _ rfl
      have d6 := hcv.get 6 _ rfl
      have d7 := hcv.get 7 _ rfl
      have d8 := hcv.get 8 _ rfl
      have d9 := hcv.get 9 _ rfl
      rw [Nat.add_zero] at d0
      have gk : (0 : Int) ≤ (k : Int) := by omega
      have gk1 : (k : Int) < (l.length : Int) := by omega
      have hkb : k < 1099511627776 := by omega
      have HL := hid hlt
      have HE := hid he
      have HNO := hid hno
      clear hcv hR hits he hno hlt hkl
      by_cases hn : nm = noB
      · have gx : nm.toList.isEmpty = true := by rw [hn, noB_list]; rfl
        have HN := hid hn
        clear hn
        go_wp2
        go_roundw
        case rel => exact ⟨k + 1, HL.out, by go_num, fun h => absurd HN.out h, hbr.alloc hbr.size _⟩
        case measure => have := HL.out; simp [upN, intOf]; omega
      · have gx := nonempty_of hn
        have HN := hid hn
        have next : ∀ (hp : isIt kd nm e.2 = false), RelRf l kd nm W (.int .i64 ((k : Int) + 1)) (wr.alloc (.cells #[.int .i64 (e.2.k : Int), .string e.2.x, .int .i64 (e.2.l : Int), .slice p1 e.2.ps.length c1, .slice p2 e.2.ss.length c2, .slice p3 e.2.bd.length c3, .int .i64 e.1, .int .i64 (e.2.sz : Int), .int .i64 (e.2.mrk : Int), .slice p4 e.2.ds.length c4] 35)) := fun hp => by
          refine ⟨k + 1, HL.out, by go_num, fun hx j f hj hf => ?_, hbr.alloc hbr.size _⟩
          rcases Nat.lt_or_ge j k with h | h
          · exact HNO.out hx j f h hf
          · obtain rfl : j = k := by omega
            rw [HE.out] at hf
            injection hf with hf
            rw [← hf]
            exact hp
        have HX := hid next
        clear hn next
        by_cases h1 : (e.2.k : Int) = kd
        · have g1 : ((e.2.k : Int) == kd) = true := by simpa using h1
          by_cases h2 : e.2.x = nm
          · have g2 : (e.2.x.toList == nm.toList) = true := (Lib.bytes_beq_iff _ _).2 h2
            have hp : isIt kd nm e.2 = true := by unfold isIt; simp [h1, h2]
            have hres : r = (k : Int) := by rw [← HR.out]; unfold fnd fidx; rw [if_neg HN.out, fnd_hit (HNO.out HN.out) HE.out hp]
            have HRES := hid hres
            clear h1 h2 hp hres
            go_wp2
            go_ret
            exact ⟨by rw [HRES.out]; rfl, hb0.trans ((hbr.alloc hbr.size _).mono hb0.size)⟩
          · have g2 : (e.2.x.toList == nm.toList) = false := (Lib.bytes_beq_false_iff _ _).2 h2
            have hp : isIt kd nm e.2 = false := by unfold isIt; simp [h2]
            have HP := hid hp
            clear h1 h2 hp
            go_wp2
            go_roundw
            case rel => exact HX.out HP.out
            case measure => have := HL.out; simp [upN, intOf]; omega
        · have g1 : ((e.2.k : Int) == kd) = false := by simpa using h1
          have hp : isIt kd nm e.2 = false := by unfold isIt; simp [h1]
          have HP := hid hp
          clear h1 hp
          go_wp2
          go_roundw
          case rel => exact HX.out HP.out
          case measure => have := HL.out; simp [upN, intOf]; omega
    · obtain rfl : k = l.length := by omega
      have hres : r = -1 := by
        rw [← HR.out]; unfold fnd
        by_cases hn : nm = noB
        · rw [if_pos hn]
        · rw [if_neg hn]; unfold fidx; rw [fnd_miss (hno hn)]
      have HRES := hid hres
      clear hlt hkl hno hres
      go_wp2
      go_ret
      exact ⟨by rw [HRES.out]; rfl, hbw⟩
end Go.Proofs.Ytjpmnholpeidmaa


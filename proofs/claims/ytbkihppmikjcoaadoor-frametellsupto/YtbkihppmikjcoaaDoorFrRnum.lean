/- The document's reading of a number. -/
import Derived.Test.YtbkihppmikjcoaaDoorFrNum
namespace Go.Proofs.YtbkihppmikjcoaaDoor
open Go.RowKit
set_option linter.unusedVariables false
attribute [local go_sem ↓] Go.wp_at_zero Go.wp_at_succ
theorem rn_cut {e : UInt8} {b x t : List UInt8} (h : b = x ++ e :: t) (hx : e ∉ x) : rn e b = match Lib.atoiAll x with | .ok n => if Lib.itoa n = x then some (n, t) else none | _ => none := by
  unfold rn
  rw [h, cut_app hx]
  rfl
theorem rn_end {e : UInt8} {b : List UInt8} (h : e ∉ b) : rn e b = none := by
  unfold rn
  cases hc : cutAt e b with
  | none => rfl
  | some p =>
    obtain ⟨s, t⟩ := p
    exact absurd (by rw [(cut_some hc).2.1]; simp) h
theorem rn_far {e : UInt8} {b : List UInt8} (h : e ∉ b.take 21) (hl : 21 ≤ b.length) : rn e b = none := by
  unfold rn
  cases hc : cutAt e b with
  | none => rfl
  | some p =>
    obtain ⟨s, t⟩ := p
    obtain ⟨_, h2, h3⟩ := cut_some hc
    have hs : 21 ≤ s.length := by
      rcases Nat.lt_or_ge s.length 21 with h4 | h4
      · refine absurd ?_ h
        rw [h2, List.take_append, List.mem_append]
        right
        rw [show 21 - s.length = (20 - s.length) + 1 by omega]
        simp
      · exact h4
    simp only
    cases ha : Lib.atoiAll s with
    | ok n =>
      simp only
      rw [if_neg (fun e2 => by have := itoa_len n (Lib.atoiAll_bounds ha); rw [e2] at this; omega)]
    | _ => rfl
def RnP (B : List UInt8) (x : Option (Int × List UInt8)) (n k : Int) (ok : Bool) : Prop :=
  match x with
  | some (m, t) => n = m ∧ k = ((B.length - t.length : Nat) : Int) ∧ ok = true
  | none => ok = false
def RelRn (at_ : Nat) (D : List UInt8) (e : UInt8) (w : World) (s i : Value) (wr : World) : Prop := ∃ j : Nat, j ≤ D.length ∧ j ≤ 21 ∧ i = .int .i64 ((at_ + j : Nat) : Int) ∧ s = .string (ba (D.take j)) ∧ e ∉ D.take j ∧ wr = w
set_option maxHeartbeats 1000000 in
set_option maxRecDepth 100000 in
theorem num_any (w : World) (hL : Lw w) (B : List UInt8) (g o c : Nat) (hcap : B.length ≤ c) (hbig : B.length ≤ 1099511627776) (hg : g < w.heap.size) (hby : Byt w g o B) (at_ : Nat) (hat : at_ ≤ B.length) (e : UInt8) :
    Calls Tryd.prog 18 #[.slice (some ⟨g, o, none⟩) B.length c, .int .i64 (at_ : Int), .int .u8 (e.toNat : Int)] w fun ex w' =>
      ∃ n k ok, ex = .returned (.tuple #[.int .i64 n, .int .i64 k, .bool ok]) ∧ Below w.heap.size w w' ∧ RnP B (rn e (B.drop at_)) n k ok := by
  obtain ⟨X, hX⟩ : ∃ X, rn e (B.drop at_) = X := ⟨_, rfl⟩
  have hdl : (B.drop at_).length = B.length - at_ := List.length_drop
  have HX := hid hX
  rw [hX]
  have HDD : Hid (∀ j, (B.drop at_)[j]? = B[at_ + j]?) := fun j => List.getElem?_drop
  clear hX
  generalize hD : B.drop at_ = D at *
  have HDl := hid hdl
  clear hD hdl
  go_enter Tryd.func18, Tryd.ntmps18
  go_wp2
  go_loopw [9, 10] (fun s i wr => RelRn at_ D e w s i wr) (fun _ i _ => upN (at_ + 22) i)
  case atStart => exact ⟨0, Nat.zero_le _, by omega, rfl, by simp [ba], by simp, rfl⟩
  case round =>
    obtain ⟨j, hjD, hj21, rfl, rfl, hne, rfl⟩ := hrel
    have hDl := HDl.out
    by_cases hlt : j < D.length ∧ j ≤ 20
    · obtain ⟨hl1, hl2⟩ := hlt
      obtain ⟨b, hb⟩ : ∃ b, D[j]? = some b := ⟨_, List.getElem?_eq_getElem hl1⟩
      obtain ⟨K, hK⟩ : ∃ K, at_ + j = K := ⟨_, rfl⟩
      have hBK : B[K]? = some b := by rw [← hK, ← HDD.out]; exact hb
      have xb := hby K b hBK
      have hKl : K < B.length := by omega
      rw [hK]
      have gk : (0 : Int) ≤ (K : Int) := by omega
      have gk1 : (K : Int) < (B.length : Int) := by omega
      have gk2 : (K : Int) ≤ (at_ : Int) + 20 := by omega
      have gw : IntKind.i64.wrap ((at_ : Int) + 20) = (at_ : Int) + 20 := wrap_id _ (by omega) (by omega)
      have HJ : Hid (j < D.length ∧ j ≤ 20 ∧ at_ + j = K) := ⟨hl1, hl2, hK⟩
      have hxl : (D.take j).length ≤ 1099511627776 := by rw [List.length_take]; omega
      have hDj : D = D.take j ++ b :: D.drop (j + 1) := by
        conv => lhs; rw [← List.take_append_drop j D, List.drop_eq_getElem_cons hl1]
        have : D[j] = b := (List.getElem?_eq_some_iff.1 hb).2
        rw [this]
      have HDj := hid hDj
      have HNE := hid hne
      have HBK := hid hBK
      clear hDj hne hBK hb hK hl1 hl2 hjD hj21 hDl
      by_cases hbe : b = e
      · subst hbe
        have hxx : ((b.toNat : Int) == (b.toNat : Int)) = true := by simp
        have HX2 := hid (rn_cut HDj.out HNE.out)
        have HK1 : Hid ((K : Int) + 1 = ((B.length - (D.drop (j + 1)).length : Nat) : Int)) := by
          have h1 := HDl.out
          have h2 := HJ.out
          show _ = _
          rw [List.length_drop]
          omega
        generalize D.take j = x at *
        generalize D.drop (j + 1) = t at *
        cases ha : Lib.atoiAll x with
        | ok v =>
          have HA := hid ha
          have HV := hid (Lib.atoiAll_bounds ha)
          by_cases hit : Lib.itoa v = x
          · have HX3 : Hid (X = some (v, t)) := by show _ = _; rw [← HX.out, HX2.out, ha]; simp only; rw [if_pos hit]
            have hbeq : ((ba (Lib.itoa v)).toList == (ba x).toList) = true := (Lib.bytes_beq_iff _ _).2 (by rw [hit])
            clear ha hit
            go_wp2_with (first
              | (go_at_call 24; refine Calls.mono (atoi_any x hxl _ (by exact hL)) ?_; rintro e2 w2 ⟨v2, er, rfl, hb2, hor⟩; obtain ⟨hok, rfl⟩ := hor.resolve_right (fun hno => hno.1 _ HA.out); obtain rfl : v2 = v := (by have := HA.out.symm.trans hok; injection this with this; exact this.symm); clear hor hok; have HB2 := hid hb2; clear hb2)
              | (go_at_call 15; refine Calls.mono (itoa_any _ HV.out _ (by exact hL.below hL.low HB2.out)) ?_; rintro e3 w3 ⟨rfl, hb3⟩; have HB3 := hid hb3; clear hb3))
            go_ret3
            exact ⟨_, _, true, rfl, HB2.out.trans (HB3.out.mono HB2.out.size), by rw [HX3.out]; exact ⟨rfl, HK1.out, rfl⟩⟩
          · have HX3 : Hid (X = none) := by show _ = _; rw [← HX.out, HX2.out, ha]; simp only; rw [if_neg hit]
            have hbeq : ((ba (Lib.itoa v)).toList == (ba x).toList) = false := (Lib.bytes_beq_false_iff _ _).2 (fun h => hit (ba_inj h))
            clear ha hit
            go_wp2_with (first
              | (go_at_call 24; refine Calls.mono (atoi_any x hxl _ (by exact hL)) ?_; rintro e2 w2 ⟨v2, er, rfl, hb2, hor⟩; obtain ⟨hok, rfl⟩ := hor.resolve_right (fun hno => hno.1 _ HA.out); obtain rfl : v2 = v := (by have := HA.out.symm.trans hok; injection this with this; exact this.symm); clear hor hok; have HB2 := hid hb2; clear hb2)
              | (go_at_call 15; refine Calls.mono (itoa_any _ HV.out _ (by exact hL.below hL.low HB2.out)) ?_; rintro e3 w3 ⟨rfl, hb3⟩; have HB3 := hid hb3; clear hb3))
            go_ret3
            exact ⟨_, _, false, rfl, HB2.out.trans (HB3.out.mono HB2.out.size), by rw [HX3.out]; exact rfl⟩
        | _ =>
          have HA : Hid (∀ n, Lib.atoiAll x ≠ .ok n) := by intro n hn; rw [ha] at hn; cases hn
          have HX3 : Hid (X = none) := by show _ = _; rw [← HX.out, HX2.out, ha]
          clear ha
          go_wp2_with (first
            | (go_at_call 24; refine Calls.mono (atoi_any x hxl _ (by exact hL)) ?_; rintro e2 w2 ⟨v2, er, rfl, hb2, hor⟩; obtain ⟨_, et, ep, rfl⟩ := hor.resolve_left (fun hno => HA.out _ hno.1); clear hor; have HB2 := hid hb2; clear hb2))
          go_ret3
          exact ⟨_, _, false, rfl, HB2.out, by rw [HX3.out]; exact rfl⟩
      · have hxx : ((b.toNat : Int) == (e.toNat : Int)) = false := by
          rw [beq_eq_false_iff_ne]
          intro h
          exact hbe (UInt8.toNat_inj.1 (by omega))
        have HBE := hid hbe
        have hne2 : ¬ c = K := by omega
        have hcv := conv_byt wr g (o + K) (c - K) 1 [b] (by simp) (fun i u hu => by
          cases i with
          | zero => simp at hu; subst hu; exact xb
          | succ i => simp at hu)
        have hsz := ba_size (D.take j)
        have n1 : ¬ 9223372036854775807 < (ba (D.take j)).size + (ba [b]).size := by rw [ba_size, ba_size]; simp only [List.length_singleton]; omega
        have HT : Hid (ba (D.take j) ++ ba [b] = ba (D.take (j + 1))) := by
          show _ = _
          rw [ba_app, List.take_add_one]
          congr 2
          have h := HDD.out j
          rw [HJ.out.2.2, HBK.out] at h
          rw [h]
          rfl
        have gk3 : (K : Int) + 1 ≤ (c : Int) := by omega
        clear hbe hsz
        obtain ⟨SA, hSA⟩ : ∃ S, ba (D.take j) = S := ⟨_, rfl⟩
        obtain ⟨S1, hS1⟩ : ∃ S, ba [b] = S := ⟨_, rfl⟩
        rw [hSA, hS1] at n1 HT
        rw [hS1] at hcv
        rw [hSA]
        clear hSA hS1
        go_wp2
        go_roundw
        case rel => exact ⟨j + 1, HJ.out.1, by have := HJ.out; omega, by have := HJ.out; go_num, by rw [← HT.out], fun hm => by
            rw [List.take_add_one] at hm
            rcases List.mem_append.1 hm with hm | hm
            · exact HNE.out hm
            · have h := HDD.out j
              rw [HJ.out.2.2, HBK.out] at h
              rw [h] at hm
              simp at hm
              exact HBE.out hm.symm, rfl⟩
        case measure => have := HJ.out; simp [upN, intOf]; omega
    · have HX2 : Hid (X = none) := by
        show _ = _
        rw [← HX.out]
        rcases Nat.lt_or_ge j D.length with h1 | h1
        · have : j = 21 := by omega
          subst this
          exact rn_far hne (by omega)
        · rw [List.take_of_length_le h1] at hne
          exact rn_end hne
      have gw : IntKind.i64.wrap ((at_ : Int) + 20) = (at_ : Int) + 20 := wrap_id _ (by omega) (by omega)
      obtain ⟨K, hK⟩ : ∃ K, at_ + j = K := ⟨_, rfl⟩
      rw [hK]
      by_cases hl1 : K < B.length
      · have gk1 : (K : Int) < (B.length : Int) := by omega
        have gk2 : ¬ ((K : Int) ≤ (at_ : Int) + 20) := by omega
        clear hlt hne hjD hj21 hDl hK
        go_wp2
        go_ret3
        first
          | exact ⟨_, _, false, rfl, Below.refl _ _, by rw [HX2.out]; exact rfl⟩
          | exact ⟨_, _, .inl ⟨rfl, Below.refl _ _, by rw [HX2.out]; exact rfl⟩⟩
      · have gk1 : ¬ (K : Int) < (B.length : Int) := by omega
        clear hlt hne hjD hj21 hDl hK
        go_wp2
        go_ret3
        first
          | exact ⟨_, _, false, rfl, Below.refl _ _, by rw [HX2.out]; exact rfl⟩
          | exact ⟨_, _, .inl ⟨rfl, Below.refl _ _, by rw [HX2.out]; exact rfl⟩⟩
end Go.Proofs.YtbkihppmikjcoaaDoor

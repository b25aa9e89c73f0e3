/- The document's Label. -/
import Derived.Test.YtgfmoefbofenhaaRefBits
import Derived.Test.YtgfmoefbofenhaaParse
namespace Go.Proofs.Ytgfmoefbofenhaa
open Go.RowKit
def okd (s : ByteArray) (j : Nat) : Prop := (j % 2 = 1 → 97 ≤ byt s j ∧ byt s j < 105) ∧ (j % 2 = 0 → byt s j = 44)
theorem okc_okd (s : ByteArray) (i : Nat) : okc s i ↔ okd s (1 + i) := by
  unfold okc okd
  rw [show (1 + i) % 2 = 1 ↔ i % 2 = 0 from by omega, show (1 + i) % 2 = 0 ↔ i % 2 = 1 from by omega]
def RelL1 (s : ByteArray) (i : Value) : Prop := ∃ k : Nat, 1 ≤ k ∧ k ≤ s.size - 1 ∧ i = .int .i64 (k : Int) ∧ ∀ j, 1 ≤ j → j < k → okd s j
def RelL2 (s : ByteArray) (w : World) (n i : Value) (wr : World) : Prop :=
  ∃ t m : Nat, 2 * t + 1 ≤ s.size ∧ i = .int .i64 ((2 * t + 1 : Nat) : Int) ∧ n = .int .i64 (m : Int) ∧ m < 256 ∧ acc s t = some m ∧ Below w.heap.size w wr
def RelL3 (x : Nat) (b c : Value) : Prop := ∃ j p : Nat, j ≤ x ∧ b = .int .i64 (p : Int) ∧ c = .int .u8 (j : Int) ∧ p = 2 ^ j
def upTo (n : Nat) (i : Value) : Nat := n - (intOf i).toNat
theorem fl_pow : ∀ x, x < 8 → ∀ m, m < 256 → fl (2 ^ x) m = !(m &&& 2 ^ x == 0) := by decide +kernel
theorem add_pow : ∀ x, x < 8 → ∀ m, m < 256 → m &&& 2 ^ x = 0 → m + 2 ^ x = m ||| 2 ^ x := by decide +kernel
theorem lab_empty {s : ByteArray} (h : (s.toList == [123, 125]) = true) : pN s = 0 ∧ pE s = 0 := by
  have e : s = ⟨#[123, 125]⟩ := by
    rw [beq_iff_eq, Lib.toList_data] at h
    apply ByteArray.ext
    apply Array.ext'
    exact h
  subst e
  decide +kernel
theorem lab_not_empty {s : ByteArray} (h : (s.toList == [123, 125]) = false) (hf : Formed s) : 3 ≤ s.size ∧ s.size % 2 = 1 := by
  obtain ⟨h2, h0, h1, e | ⟨e, _⟩⟩ := hf
  · exfalso
    have : s.toList = [123, 125] := by
      rw [Lib.toList_data]
      have hl : s.data.toList.length = 2 := by simpa using e
      match hd : s.data.toList, hl with
      | [a, b], _ =>
        rw [e] at h1
        unfold byt at h0 h1
        rw [hd] at h0 h1
        simp at h0 h1
        have ea : a = 123 := by apply UInt8.toNat_inj.1; rw [h0]; rfl
        have eb : b = 125 := by apply UInt8.toNat_inj.1; rw [h1]; rfl
        rw [ea, eb]
    rw [this] at h
    simp at h
  · exact ⟨by omega, e⟩
set_option maxHeartbeats 4000000 in
theorem rlabel_any (s : ByteArray) (w : World) (hs : s.size ≤ maxLen) :
    Calls Try.prog 7 #[.string s] w fun e w' => e = .returned (.tuple #[.int .i64 (pN s : Int), .int .i64 (pE s : Int)]) ∧ Below w.heap.size w w' := by
  unfold maxLen at hs
  cases hE : s.toList == [123, 125]
  · by_cases hz : 3 ≤ s.size ∧ s.size % 2 = 1
    · obtain ⟨hz1, hz2⟩ := hz
      have hp : ((s.size : Int) % 2 == 0) = false := by simp; omega
      by_cases h0 : (s[0].toNat : Int) = 123
      · by_cases h1 : (s[s.size - 1].toNat : Int) = 125
        · have h4 : ((s[s.size - 1].toNat : Int) != 125) = false := by simpa using h1
          have H0 : Hid (byt s 0 = 123) := by show _ = _; rw [byt_get s 0 (by omega)]; omega
          have H1 : Hid (byt s (s.size - 1) = 125) := by show _ = _; rw [byt_get s _ (by omega)]; omega
          go_enter Try.func7, Try.ntmps7
          go_wp2
          clear h0 h1 h4 hE hp
          go_loop [4] (fun i => RelL1 s i) (fun i => upTo s.size i)
          case atStart => exact ⟨1, by omega, by omega, rfl, fun j h h' => by omega⟩
          case round =>
            obtain ⟨k, hk1, hk, rfl, hall⟩ := hrel
            have HA : Hid (∀ j, 1 ≤ j → j < k → okd s j) := hall
            clear hall
            by_cases hlt : k < s.size - 1
            · have hkl : k < s.size := by omega
              have HG : Hid (byt s k = (s[k]'hkl).toNat) := byt_get s k hkl
              have NO : Hid (¬ okd s k → pN s = 0 ∧ pE s = 2) := by
                intro h
                refine p_no (fm_no fun hf => ?_).symm
                obtain ⟨_, _, _, e | ⟨_, e⟩⟩ := hf
                · omega
                · apply h
                  have := (okc_okd s (k - 1)).1 (e (k - 1) (by omega))
                  rwa [show 1 + (k - 1) = k from by omega] at this
              have YES : Hid (okd s k → RelL1 s (.int .i64 ((k + 1 : Nat) : Int))) := by
                intro h
                refine ⟨k + 1, by omega, by omega, rfl, ?_⟩
                intro j h1 h2
                by_cases e : j = k
                · subst e; exact h
                · exact HA.out j h1 (by omega)
              clear HA
              rcases Nat.mod_two_eq_zero_or_one k with hp | hp
              · have hp1 : ((k : Int) % 2 == 0) = true := by simp; omega
                have hp2 : ((k : Int) % 2 == 1) = false := by simp; omega
                by_cases hc : (s[k].toNat : Int) = 44
                · have hc2 : ((s[k].toNat : Int) != 44) = false := by simpa using hc
                  have R : Hid (RelL1 s (.int .i64 ((k + 1 : Nat) : Int))) := YES.out ⟨fun h => by omega, fun _ => by rw [HG.out]; omega⟩
                  go_wp2
                  exact ⟨R.out, by simp [upTo, intOf]; omega⟩
                · have hc2 : ((s[k].toNat : Int) != 44) = true := by simpa using hc
                  have P : Hid (pN s = 0 ∧ pE s = 2) := NO.out fun h => hc (by have := h.2 hp; rw [HG.out] at this; omega)
                  go_wp2
                  go_ret2
                  exact ⟨tuple_ret P.out.1.symm P.out.2.symm, Below.refl _ _⟩
              · have hp1 : ((k : Int) % 2 == 0) = false := by simp; omega
                have hp2 : ((k : Int) % 2 == 1) = true := by simp; omega
                by_cases hc : (s[k].toNat : Int) < 97
                · have P : Hid (pN s = 0 ∧ pE s = 2) := NO.out fun h => by have := h.1 hp; rw [HG.out] at this; omega
                  go_wp2
                  go_ret2
                  exact ⟨tuple_ret P.out.1.symm P.out.2.symm, Below.refl _ _⟩
                · by_cases hc2 : 104 < (s[k].toNat : Int)
                  · have P : Hid (pN s = 0 ∧ pE s = 2) := NO.out fun h => by have := h.1 hp; rw [HG.out] at this; omega
                    go_wp2
                    go_ret2
                    exact ⟨tuple_ret P.out.1.symm P.out.2.symm, Below.refl _ _⟩
                  · have R : Hid (RelL1 s (.int .i64 ((k + 1 : Nat) : Int))) := YES.out ⟨fun _ => by rw [HG.out]; omega, fun h => by omega⟩
                    go_wp2
                    exact ⟨R.out, by simp [upTo, intOf]; omega⟩
            · have HF : Hid (fmB s = true) := (fm_yes ⟨by omega, H0.out, H1.out, .inr ⟨hz2, fun i hi => (okc_okd s i).2 (HA.out (1 + i) (by omega) (by omega))⟩⟩).symm
              go_wp2
              go_loopw [5, 6] (fun n i wr => RelL2 s w n i wr) (fun _ i _ => upTo s.size i)
              case atStart => exact ⟨0, 0, by omega, rfl, rfl, by omega, rfl, Below.refl _ _⟩
              case round =>
                obtain ⟨t, m, ht, rfl, rfl, hm, ha, hbel⟩ := hrel
                have HA2 : Hid (acc s t = some m) := ha
                clear ha
                by_cases hlt2 : 2 * t + 1 < s.size
                · have hb := byt_get s (2 * t + 1) hlt2
                  have hc := fm_tag HF.out (t := t) (by omega)
                  rw [hb] at hc
                  have HT : Hid (tagAt s t = 2 ^ ((s[2 * t + 1]'hlt2).toNat - 97)) := by show _ = _; unfold tagAt; rw [hb]
                  clear hb
                  obtain ⟨hc1, hc2⟩ := hc
                  obtain ⟨x, hx⟩ : ∃ x, (s[2 * t + 1]'hlt2).toNat = x + 97 := ⟨(s[2 * t + 1]'hlt2).toNat - 97, by omega⟩
                  have hx8 : x < 8 := by omega
                  have HT2 : Hid (tagAt s t = 2 ^ x) := by show _ = _; rw [HT.out, hx]; rfl
                  go_wp2
                  go_loop [7, 75] (fun b c => RelL3 x b c) (fun _ c => upTo x c)
                  case atStart => exact ⟨0, 1, by omega, rfl, rfl, rfl⟩
                  case round =>
                    obtain ⟨j, p, hj, rfl, rfl, hp⟩ := hrel
                    have hpl : p < 256 := by rw [hp]; exact pow_lt j (by omega)
                    have HP : Hid (p = 2 ^ j) := hp
                    clear hp
                    by_cases hjx : j < x
                    · have R : Hid (RelL3 x (.int .i64 (2 * (p : Int))) (.int .u8 ((j : Int) + 1))) := ⟨j + 1, 2 * p, by omega, by go_num, by go_num, by rw [HP.out, Nat.pow_succ]; omega⟩
                      go_wp2
                      exact ⟨R.out, by simp [upTo, intOf]; omega⟩
                    · have ejx : j = x := by omega
                      have hpx : p = tagAt s t := by rw [HP.out, HT2.out, ejx]
                      have hfl := fl_pow x hx8 m hm
                      rw [← ejx, ← HP.out] at hfl
                      by_cases hd : m &&& p = 0
                      · have hfl2 : fl p m = false := by rw [hfl, hd]; rfl
                        have R : Hid (∀ wq, Below w.heap.size w wq → RelL2 s w (.int .i64 ((m : Int) + (p : Int))) (.int .i64 (2 * (t : Int) + 1 + 2)) wq) := by
                          intro wq hq
                          have e := add_pow x hx8 m hm (by rw [← ejx, ← HP.out]; exact hd)
                          rw [← ejx, ← HP.out] at e
                          refine ⟨t + 1, m ||| p, by omega, by go_num, by rw [← e]; go_num, or_lt m p hm hpl, ?_, hq⟩
                          rw [hpx] at hd ⊢
                          exact acc_new s t m HA2.out hd
                        clear hfl hpx hd
                        go_wp2_with (go_at_call 11; refine (rflows_any _ _ _ (by assumption) (by assumption)).mono ?_; rintro e w1 ⟨rfl, hb1⟩)
                        exact ⟨R.out _ (below_step hbel hb1), by simp [upTo, intOf]; omega⟩
                      · have hfl2 : fl p m = true := by rw [hfl]; simpa using hd
                        have P : Hid (pN s = 0 ∧ pE s = 7) := by
                          refine p_dup HF.out ?_
                          have e : (s.size - 1) / 2 = t + 1 + ((s.size - 1) / 2 - (t + 1)) := by omega
                          rw [e]
                          rw [hpx] at hd
                          exact acc_none s _ _ (acc_dup s t m HA2.out hd)
                        clear hfl hpx hd
                        go_wp2_with (go_at_call 11; refine (rflows_any _ _ _ (by assumption) (by assumption)).mono ?_; rintro e w1 ⟨rfl, hb1⟩)
                        go_ret2
                        exact ⟨tuple_ret P.out.1.symm P.out.2.symm, below_step hbel hb1⟩
                · have P : Hid (pN s = m ∧ pE s = 0) := by
                    refine p_yes HF.out ?_
                    have e : (s.size - 1) / 2 = t := by omega
                    rw [e]
                    exact HA2.out
                  go_wp2
                  go_ret2
                  exact ⟨tuple_ret P.out.1.symm P.out.2.symm, hbel⟩
        · have h4 : ((s[s.size - 1].toNat : Int) != 125) = true := by simpa using h1
          have P : Hid (pN s = 0 ∧ pE s = 2) := p_no (fm_no fun h => h1 (by have := h.2.2.1; rw [byt_get s _ (by omega)] at this; omega)).symm
          go_enter Try.func7, Try.ntmps7
          go_wp2
          go_ret2
          exact ⟨tuple_ret P.out.1.symm P.out.2.symm, Below.refl _ _⟩
      · have P : Hid (pN s = 0 ∧ pE s = 2) := p_no (fm_no fun h => h0 (by have := h.2.1; rw [byt_get s _ (by omega)] at this; omega)).symm
        go_enter Try.func7, Try.ntmps7
        go_wp2
        go_ret2
        exact ⟨tuple_ret P.out.1.symm P.out.2.symm, Below.refl _ _⟩
    · have P : Hid (pN s = 0 ∧ pE s = 2) := p_no (fm_no fun h => hz (lab_not_empty hE h)).symm
      by_cases hp : s.size % 2 = 0
      · have hp2 : ((s.size : Int) % 2 == 0) = true := by simp; omega
        clear hz
        go_enter Try.func7, Try.ntmps7
        go_wp2
        go_ret2
        exact ⟨tuple_ret P.out.1.symm P.out.2.symm, Below.refl _ _⟩
      · have hp2 : ((s.size : Int) % 2 == 0) = false := by simp; omega
        have hz3 : s.size < 3 := by omega
        clear hz hp
        go_enter Try.func7, Try.ntmps7
        go_wp2
        go_ret2
        exact ⟨tuple_ret P.out.1.symm P.out.2.symm, Below.refl _ _⟩
  · have P : Hid (pN s = 0 ∧ pE s = 0) := lab_empty hE
    go_enter Try.func7, Try.ntmps7
    go_wp2
    go_ret2
    exact ⟨tuple_ret P.out.1.symm P.out.2.symm, Below.refl _ _⟩
end Go.Proofs.Ytgfmoefbofenhaa

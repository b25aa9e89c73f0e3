/- What is used is made: the law NamesUses. -/
import Derived.Test.YtpmjognfoddiaaaGreatDoorZb19
namespace Go.Proofs.YtpmjognfoddiaaaGreatDoor
open Go.RowKit
attribute [local go_sem ↓] Go.wp_at_zero Go.wp_at_succ
theorem flE_small {s : ByteArray} (h : flE s = 0) : s.size ≤ 4000 ∧ (cts s).length ≤ 30 := by
  unfold flE at h
  split at h
  · cases h
  · split at h
    · cases h
    · omega
theorem flE_le5 (s : ByteArray) : flE s ≤ 5 := by unfold flE; split <;> (try split) <;> omega
theorem fil_n (s : ByteArray) (h : flE s = 0) : ∀ i, i < (fil s).length → (evI (fil s) i).length < 1099511627776 := by
  intro i hi
  rw [fil_len] at hi
  have := (fil_ev s i hi).2
  have := (flE_small h).1
  omega
theorem fil_m (s : ByteArray) (h : flE s = 0) : ∀ k, k ≤ (fil s).length → (usE (fil s) k).length ≤ 1099511627776 := by
  intro k hk
  rw [fil_len] at hk
  have h1 := usE_len s k
  obtain ⟨h2, h3⟩ := flE_small h
  have h4 : k * (22 + 2 * s.size) ≤ 30 * (22 + 2 * 4000) := Nat.mul_le_mul (by omega) (by omega)
  omega
/-- Files that were read can be asked. -/
theorem RdF.now {A : Nat} {w1 w2 : World} {l : List (Int × It)} {v : Value} (h : RdF (fun k => A ≤ k ∧ k < w1.heap.size) w1 l v) (hb : Below w1.heap.size w1 w2) : RdF (fun k => k < w1.heap.size) w2 l v := RdF.kept h (fun k hk => hb.block k hk.2) (fun _ hk => hk.2)
def RelNU (n : Nat) (W : World) (i : Value) (wr : World) : Prop := ∃ k : Nat, k ≤ n ∧ i = .int .i64 (k : Int) ∧ Below W.heap.size W wr
set_option maxHeartbeats 2000000 in
set_option maxRecDepth 100000 in
theorem nuses_walk (s : ByteArray) (w : World) (hV : VarAt w) : Calls Tryz.prog 4 #[.string s] w fun e w' => e = .returned (.bool true) ∧ Below w.heap.size w w' := by
  have HAl := hid (alive4 w hV)
  have HFi := hid (fun w' hv => File_any s w' hv)
  have hE5 := flE_le5 s
  by_cases hE : flE s = 0
  · have hU : ∀ u ∈ usE (fil s) (fil s).length, UsOk s u := fil_us s (flE_small hE).1 _
    have HUs := hid (fun (W : World) (fv : Value) (ok : Nat → Prop) (hok : ∀ k, ok k → k < W.heap.size) (hR : RdF ok W (fil s) fv) => Uses_any (fil s) fv W ok hok hR (fil_sends s) (fil_n s hE) (fil_m s hE))
    have hlu := fil_m s hE (fil s).length (Nat.le_refl _)
    have hs4 := (flE_small hE).1
    have HE := hid hE
    have hE0 : ((flE s : Nat) : Int) = 0 := by rw [hE]; rfl
    have HE0 := hid hE0
    generalize usE (fil s) (fil s).length = us at *
    have HUK := hid hU
    clear hE hE0 hU hE5
    go_enter Tryz.func4, Tryz.ntmps4
    go_wp2_with (first
      | (go_at_call 16; refine Calls.mono HAl.out ?_; rintro e w0 ⟨rfl, hb0⟩; have hV0 := hV.below hb0)
      | (go_at_call 7; refine Calls.mono (HFi.out _ hV0) ?_; rintro e w1 ⟨p, m, c, rfl, hft, hb1⟩; rw [HE0.out]; have hR1 := hft.1 HE.out; clear hft; have hba := (Below.refl w1.heap.size w1).alloc (Nat.le_refl _) (.cells #[.slice p m c] 24); have HR2 := hid (RdF.now hR1 hba); clear hR1)
      | (go_at_call 13; refine Calls.mono (HUs.out _ _ _ (fun k hk => Nat.lt_of_lt_of_le hk hba.size) HR2.out) ?_; rintro e w2 ⟨v, rfl, hrow, hb2⟩; obtain ⟨pu, cu, hv, hits⟩ := row_read (fun a => by rw [uvC_eq]; rfl) hrow; subst hv; clear hrow))
    have hB1 := hb0.trans (hb1.mono hb0.size)
    have hB2 := hB1.trans (hba.mono hB1.size)
    have hB3 := hB2.trans (hb2.mono hB2.size)
    clear HAl HFi HUs HE HE0 hV0
    go_loopw [20] (fun i wr => RelNU us.length w2 i wr) (fun i _ => upN us.length i)
    case atStart => exact ⟨0, Nat.zero_le _, rfl, Below.refl _ _⟩
    case round =>
      obtain ⟨k, hkl, rfl, hbr⟩ := hrel
      have hBr := hB3.trans (hbr.mono hB3.size)
      by_cases hlt : k < us.length
      · obtain ⟨g, hpg, hg, hF⟩ := hits (by omega)
        subst hpg
        obtain ⟨u, hu⟩ : ∃ u, us[k]? = some u := ⟨_, List.getElem?_eq_getElem hlt⟩
        have hcg : ∀ o, wr.cell? ⟨g, o, none⟩ = w2.cell? ⟨g, o, none⟩ := fun o => World.cell?_of_block (a := ⟨g, o, none⟩) (hbr.block g hg.2)
        have d0 := (hcg (k * 3 + 0)).trans (hF k u hu 0 (.int .i64 (frU u)) rfl)
        have d1 := (hcg (k * 3 + 1)).trans (hF k u hu 1 (.int .i64 (toU u)) rfl)
        have d2 := (hcg (k * 3 + 2)).trans (hF k u hu 2 (.int .i64 u.2.d) rfl)
        rw [Nat.add_zero] at d0
        obtain ⟨P, d, h1, h2, h3, h4, h5, h6, h7⟩ := HUK.out u (List.mem_of_getElem? hu)
        have e0 : frU u = ((P + u.2.a : Nat) : Int) := by unfold frU; rw [h1, wI_id (by omega) (by omega)]; simp
        have e1 : toU u = ((P + u.2.a + u.2.x.size : Nat) : Int) := by unfold toU; rw [e0, wI_id (by omega) (by omega)]; simp
        rw [e0] at d0
        rw [e1] at d1
        rw [h2] at d2
        have gk : (0 : Int) ≤ (k : Int) := by omega
        have gk1 : (k : Int) < (us.length : Int) := by omega
        have hkb : k < 1099511627776 := by omega
        have HL := hid hlt
        clear hits hF hcg hu hlt hkl e0 e1 h1 h2
        generalize hx : u.2.x = x at *
        generalize hn : x.size = n at *
        obtain ⟨T, hT⟩ : ∃ T, T = P + u.2.a + n := ⟨_, rfl⟩
        rw [← hT] at d1 h4 h6
        generalize hFr : P + u.2.a = F at *
        have g1 : ¬ (F : Int) < 0 := by omega
        have g2 : ¬ (T : Int) ≤ (F : Int) := by omega
        have g3 : ¬ (T : Int) > (s.size : Int) := by omega
        have g4 : IntKind.i64.wrap ((T : Int) - (F : Int)) = (n : Int) := by rw [wrap_id _ (by omega) (by omega)]; omega
        have g5 : ¬ (d : Int) < 0 := by omega
        have g6 : IntKind.i64.wrap ((s.size : Int) - (n : Int)) = (s.size : Int) - (n : Int) := wrap_id _ (by omega) (by omega)
        have g7 : ¬ (d : Int) > (s.size : Int) - (n : Int) := by omega
        have g8 : IntKind.i64.wrap ((d : Int) + (n : Int)) = (d : Int) + (n : Int) := wrap_id _ (by omega) (by omega)
        have b1 : (0 : Int) ≤ (F : Int) := by omega
        have b2 : (F : Int) ≤ (T : Int) := by omega
        have b3 : (T : Int) ≤ (s.size : Int) := by omega
        have b4 : (0 : Int) ≤ (d : Int) := by omega
        have b5 : (d : Int) ≤ (d : Int) + (n : Int) := by omega
        have b6 : (d : Int) + (n : Int) ≤ (s.size : Int) := by omega
        have hba2 := hbr.alloc hbr.size (.cells #[.int .i64 (F : Int), .int .i64 (T : Int), .int .i64 (d : Int)] 39)
        obtain ⟨y0, y1, y2, _⟩ := three_at (heap_alloc_new wr (.cells #[.int .i64 (F : Int), .int .i64 (T : Int), .int .i64 (d : Int)] 39))
        have h8 : s.extract d ((d : Int) + (n : Int)).toNat = x := by rw [show ((d : Int) + (n : Int)).toNat = d + n by omega]; exact h7
        clear hx hn hT hFr h3 h4 h5
        go_wp2
        go_quiet (fail)
        go_wp2
        go_roundw
        case rel => exact ⟨k + 1, by have := HL.out; omega, by go_num, below_drewN hba2 _⟩
        case measure => have := HL.out; simp [upN, intOf]; omega
      · obtain rfl : k = us.length := by omega
        clear hlt hkl
        go_wp2
        go_ret
        exact ⟨rfl, hBr⟩
  · have g : ((flE s : Int) != 0) = true := by simp; omega
    generalize flE s = e5 at *
    go_enter Tryz.func4, Tryz.ntmps4
    go_wp2_with (first
      | (go_at_call 16; refine Calls.mono HAl.out ?_; rintro e w0 ⟨rfl, hb0⟩; have hV0 := hV.below hb0)
      | (go_at_call 7; refine Calls.mono (HFi.out _ hV0) ?_; rintro e w1 ⟨p, m, c, rfl, _, hb1⟩))
    go_ret
    have hB1 := hb0.trans (hb1.mono hb0.size)
    exact ⟨rfl, hB1.alloc hB1.size _⟩
end Go.Proofs.YtpmjognfoddiaaaGreatDoor

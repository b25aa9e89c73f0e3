/- What the laws of secrets ask of first holds. -/
import Derived.Test.YtdkpfnohdknldaaGreatDoorZg30
import Derived.Test.YtdkpfnohdknldaaGreatDoorZhLawNUses
namespace Go.Proofs.YtdkpfnohdknldaaGreatDoor
open Go.RowKit
set_option linter.unusedVariables false
attribute [local go_sem ↓] Go.wp_at_zero Go.wp_at_succ
theorem itI_cw (s : ByteArray) (j : Nat) : ∃ n, wfL (cwS (tks (txI s j)) n) (tks (txI s j)).length (itI s j).bd := by
 rw [itI_tx]
 exact itm_cw (txI s j)
theorem fil_cw (s : ByteArray) (hs : s.size ≤ 4000) : ∀ (i : Nat) (p : Int) (it : It), (fil s)[i]? = some (p, it) → ∃ T m, wfL (cwS T m) T.length it.bd ∧ T.length ≤ 1000000 := by
 intro i p it h
 obtain ⟨j, _, hj⟩ := fil_mem (List.mem_of_getElem? h)
 injection hj with _ h2
 have hn := itI_cw s j
 have hl := txI_len s j
 rw [← h2] at hn
 generalize tks (txI s j) = T at *
 obtain ⟨n, hn⟩ := hn
 exact ⟨T, n, hn, by omega⟩
theorem fil_ps (s : ByteArray) : ∀ e ∈ fil s, e.2.ps.length ≤ 5 := by
 intro e he
 obtain ⟨j, _, hj⟩ := fil_mem he
 rw [hj]
 exact (itI_wf s j).pn
theorem RdF.sizeQ {ok : Nat → Prop} {w : World} {l : List (Int × It)} {p : Option Addr} {m c : Nat} (h : RdF ok w l (.agg #[.slice p m c])) : m = l.length := by
 obtain ⟨q, c', h1, _⟩ := h
 injection h1 with h1
 have h1 : Value.slice p m c = Value.slice q l.length c' := by simpa using h1
 injection h1
def alF : ByteArray := ⟨#[99, 104, 97, 110, 32, 110, 101, 116, 58, 32, 123, 125, 59, 10, 102, 110, 32, 102, 40, 120, 58, 32, 123, 97, 125, 41, 58, 32, 123, 125, 32, 123, 32, 115, 101, 110, 100, 32, 110, 101, 116, 32, 120, 59, 32, 125]⟩
def alG : ByteArray := ⟨#[102, 110, 32, 102, 40, 120, 58, 32, 123, 97, 125, 41, 58, 32, 123, 97, 125, 32, 123, 32, 114, 101, 116, 117, 114, 110, 32, 120, 59, 32, 125]⟩
def alFa : It := ⟨1, ⟨#[110, 101, 116]⟩, 0, [], [], [], 14, 5, []⟩
def alFb : It := ⟨2, ⟨#[102]⟩, 0, [⟨⟨#[120]⟩, 1, 5⟩], [], [stMk 5 ⟨#[110, 101, 116]⟩ 24 0 false (exMk 2 ⟨#[120]⟩ 0 [] 28 29) [] [] 19 30], 32, 3, []⟩
def alGa : It := ⟨2, ⟨#[102]⟩, 1, [⟨⟨#[120]⟩, 1, 5⟩], [], [stMk 6 ⟨#[]⟩ 0 0 false (exMk 2 ⟨#[120]⟩ 0 [] 27 28) [] [] 20 29], 31, 3, []⟩
def lF6 : List (Int × It) := [(0, alFa), (14, alFb)]
def lG6 : List (Int × It) := [(0, alGa)]
theorem alF_err : flE alF = 0 := by decide +kernel
theorem alG_err : flE alG = 0 := by decide +kernel
theorem alF_fil : fil alF = lF6 := by kernel_rfl
theorem alG_fil : fil alG = lG6 := by kernel_rfl
theorem alF_fv : fvJ lF6 (flA lF6) 1 = [fvSay 28 29 1, fvNo 19 30 ⟨#[110, 101, 116]⟩] := by
 have h : fvJ lF6 (flA lF6) 1 = fvB lF6 (flA lF6) 0 0 (scQ [] [⟨⟨#[120]⟩, 1, 5⟩]) [stMk 5 ⟨#[110, 101, 116]⟩ 24 0 false (exMk 2 ⟨#[120]⟩ 0 [] 28 29) [] [] 19 30] := rfl
 rw [h, fvB_cons, fvB_nil, fvY_mk, fvX_mk, lbX_mk]
 refine eqM ?_
 kernel_rfl
theorem alG_fv : fvJ lG6 (flA lG6) 0 = [fvSay 27 28 1] := by
 have h : fvJ lG6 (flA lG6) 0 = fvB lG6 (flA lG6) 1 0 (scQ [] [⟨⟨#[120]⟩, 1, 5⟩]) [stMk 6 ⟨#[]⟩ 0 0 false (exMk 2 ⟨#[120]⟩ 0 [] 27 28) [] [] 20 29] := rfl
 rw [h, fvB_cons, fvB_nil, fvY_mk, fvX_mk, lbX_mk]
 refine eqM ?_
 kernel_rfl
theorem alF_snd : sndB lF6 = false := by
 unfold sndB
 rw [List.all_eq_false]
 refine ⟨1, by decide, ?_⟩
 rw [alF_fv]
 decide
theorem alG_snd : sndB lG6 = true := by
 unfold sndB
 rw [List.all_eq_true]
 intro i hi
 have hi : i < 1 := List.mem_range.1 hi
 obtain rfl : i = 0 := by omega
 rw [alG_fv]
 decide
theorem al6_F (W : World) (p : Option Addr) (c : Nat) (ok : Nat → Prop) (hok : ∀ k, ok k → k < W.heap.size) (hR : RdF ok W lF6 (.agg #[.slice p 2 c])) :
  (Calls Tryz.prog 21 #[.agg #[.slice p 2 c], .int .i64 1] W fun e w' => ∃ g d, e = .returned (.slice (some ⟨g, 0, none⟩) 1 d) ∧ w'.cell? ⟨g, 2, none⟩ = some (.int .i64 9) ∧ Below W.heap.size W w') ∧
  (Calls Tryz.prog 23 #[.agg #[.slice p 2 c]] W fun e w' => e = .returned (.bool false) ∧ Below W.heap.size W w') ∧
  (Calls Tryz.prog 17 #[.agg #[.slice p 2 c]] W fun e w' => ∃ q d, e = .returned (.slice q 2 d) ∧ Below W.heap.size W w') := by
 have hP : ∀ e ∈ lF6, e.2.ps.length ≤ 5 := by rw [← alF_fil]; exact fil_ps alF
 have hw : ∀ (i : Nat) (p : Int) (it : It), lF6[i]? = some (p, it) → ∃ T m, wfL (cwS T m) T.length it.bd ∧ T.length ≤ 1000000 := by rw [← alF_fil]; exact fil_cw alF (by decide)
 refine ⟨?_, ?_, ?_⟩
 ·refine (FDiags_any lF6 p c W ok hok hR hP 1 (by decide) (hw 1)).mono ?_
  rintro e w' ⟨v, rfl, hrow, hb⟩
  rw [alF_fv] at hrow
  obtain ⟨q, d, rfl, hits⟩ := row_read (c := fdC) (us := [fvNo 19 30 ⟨#[110, 101, 116]⟩]) (fun a => rfl) hrow
  obtain ⟨g, rfl, _, hF⟩ := hits (by decide)
  exact ⟨g, d, rfl, hF 0 _ rfl 2 _ rfl, hb⟩
 ·refine (Sound_any lF6 p c W ok hok hR hP hw).mono ?_
  rintro e w' ⟨rfl, hb⟩
  rw [alF_snd]
  exact ⟨rfl, hb⟩
 ·refine (Floors_any lF6 p c W ok hok hR).mono ?_
  rintro e w' ⟨g, d, rfl, _, hb⟩
  exact ⟨_, d, rfl, hb⟩
theorem al6_G (W : World) (p : Option Addr) (c : Nat) (ok : Nat → Prop) (hok : ∀ k, ok k → k < W.heap.size) (hR : RdF ok W lG6 (.agg #[.slice p 1 c])) :
  (Calls Tryz.prog 22 #[.agg #[.slice p 1 c], .int .i64 0, .int .i64 27] W fun e w' => e = .returned (.tuple #[.int .i64 1, .bool true]) ∧ Below W.heap.size W w') ∧
  (Calls Tryz.prog 23 #[.agg #[.slice p 1 c]] W fun e w' => e = .returned (.bool true) ∧ Below W.heap.size W w') := by
 have hP : ∀ e ∈ lG6, e.2.ps.length ≤ 5 := by rw [← alG_fil]; exact fil_ps alG
 have hw : ∀ (i : Nat) (p : Int) (it : It), lG6[i]? = some (p, it) → ∃ T m, wfL (cwS T m) T.length it.bd ∧ T.length ≤ 1000000 := by rw [← alG_fil]; exact fil_cw alG (by decide)
 refine ⟨?_, ?_⟩
 ·refine (Label_any lG6 p c W ok hok hR hP 0 (by decide) 27 (hw 0)).mono ?_
  rintro e w' ⟨rfl, hb⟩
  rw [alG_fv]
  exact ⟨rfl, hb⟩
 ·refine (Sound_any lG6 p c W ok hok hR hP hw).mono ?_
  rintro e w' ⟨rfl, hb⟩
  rw [alG_snd]
  exact ⟨rfl, hb⟩
set_option maxHeartbeats 4000000 in
set_option maxRecDepth 100000 in
theorem alive6 (w : World) (hV : VarAt w) : Calls Tryz.prog 24 #[] w fun e w' => e = .returned (.bool true) ∧ Below w.heap.size w w' := by
 have hE : ((flE alF : Nat) : Int) = 0 := by rw [alF_err]; rfl
 have hE2 : ((flE alG : Nat) : Int) = 0 := by rw [alG_err]; rfl
 have HFi := hid (File_any alF w hV)
 have HGf := hid (fun (W : World) (h : VarAt W) => File_any alG W h)
 have HER := hid (And.intro alF_err alG_err)
 have HFL := hid (And.intro alF_fil alG_fil)
 have HEE := hid (And.intro hE hE2)
 have F1 : Hid (1 = 1) := rfl
 have F2 : Hid (2 = 2) := rfl
 clear hE hE2
 go_enter Tryz.func24, Tryz.ntmps24
 go_wp2_with (first
  | (go_at_call 10; have ff := F1; clear ff F1; refine Calls.mono HFi.out ?_; rintro e w1 ⟨p1, m1, c1, rfl, hft1, hb1⟩; rw [HEE.out.1]; have hR1 := hft1.1 HER.out.1; rw [HFL.out.1] at hR1; clear hft1; have hm1 : m1 = 2 := RdF.sizeQ hR1; subst hm1; have hba1 := (Below.refl w1.heap.size w1).alloc (Nat.le_refl _) (.cells #[.slice p1 2 c1] 25); have y1 := one_new w1 (.slice p1 2 c1) 25; have HG2 := hid (HGf.out (w1.alloc (.cells #[.slice p1 2 c1] 25)) ((hV.below hb1).below hba1)))
  | (go_at_call 10; refine Calls.mono HG2.out ?_; rintro e w2 ⟨p2, m2, c2, rfl, hft2, hb2⟩; rw [HEE.out.2]; have hR2 := hft2.1 HER.out.2; rw [HFL.out.2] at hR2; clear hft2; have hm2 : m2 = 1 := RdF.sizeQ hR2; subst hm2; have hba2 := (Below.refl w2.heap.size w2).alloc (Nat.le_refl _) (.cells #[.slice p2 1 c2] 25); have y2 := one_new w2 (.slice p2 1 c2) 25; have y1b := cell_alloc (cell_onF hb2 y1) (.cells #[.slice p2 1 c2] 25); have hB0 : Below w.heap.size w (w2.alloc (.cells #[.slice p2 1 c2] 25)) := ((hb1.trans (hba1.mono hb1.size)).trans (hb2.mono (hb1.trans (hba1.mono hb1.size)).size)).trans (hba2.mono ((hb1.trans (hba1.mono hb1.size)).trans (hb2.mono (hb1.trans (hba1.mono hb1.size)).size)).size); have hRF : RdF (fun k => k < (w2.alloc (.cells #[.slice p2 1 c2] 25)).heap.size) (w2.alloc (.cells #[.slice p2 1 c2] 25)) lF6 (.agg #[.slice p1 2 c1]) := RdF.kept hR1 (fun k hk => ((hba2.block k (Nat.lt_of_lt_of_le hk.2 (Nat.le_trans hba1.size hb2.size))).trans (hb2.block k (Nat.lt_of_lt_of_le hk.2 hba1.size))).trans (hba1.block k hk.2)) (fun k hk => Nat.lt_of_lt_of_le hk.2 (Nat.le_trans hba1.size (Nat.le_trans hb2.size hba2.size))); have hRG : RdF (fun k => k < (w2.alloc (.cells #[.slice p2 1 c2] 25)).heap.size) (w2.alloc (.cells #[.slice p2 1 c2] 25)) lG6 (.agg #[.slice p2 1 c2]) := RdF.kept hR2 (fun k hk => hba2.block k hk.2) (fun k hk => Nat.lt_of_lt_of_le hk.2 hba2.size); have HP := hid (And.intro y1b (And.intro y2 (And.intro hB0 (And.intro hRF hRG)))); clear hR1 hR2 y1 hRF hRG hB0 hb1 hb2 hba1 hba2; have HLb := hid (al6_G _ p2 c2 _ (fun k hk => hk) HP.out.2.2.2.2).1)
  | (go_at_call 22; refine Calls.mono HLb.out ?_; rintro e w3 ⟨rfl, hb3⟩; have z1 := cell_onF hb3 HP.out.1; have z2 := cell_onF hb3 HP.out.2.1; have hRF3 := (RdF.kept HP.out.2.2.2.1 (ok' := fun k => k < w3.heap.size) (fun k hk => hb3.block k hk) (fun k hk => Nat.lt_of_lt_of_le hk hb3.size)); have hRG3 := (RdF.kept HP.out.2.2.2.2 (ok' := fun k => k < w3.heap.size) (fun k hk => hb3.block k hk) (fun k hk => Nat.lt_of_lt_of_le hk hb3.size)); have HQ := hid (And.intro (HP.out.2.2.1.trans (hb3.mono HP.out.2.2.1.size)) (And.intro hRF3 hRG3)); clear hRF3 hRG3; have HDg := hid (al6_F w3 p1 c1 _ (fun k hk => hk) HQ.out.2.1).1)
  | (go_at_call 21; refine Calls.mono HDg.out ?_; rintro e w4 ⟨g4, d4, rfl, e4, hb4⟩; have q1 := cell_onF hb4 z1; have q2 := cell_onF hb4 z2; have hRF4 := (RdF.kept HQ.out.2.1 (ok' := fun k => k < w4.heap.size) (fun k hk => hb4.block k hk) (fun k hk => Nat.lt_of_lt_of_le hk hb4.size)); have hRG4 := (RdF.kept HQ.out.2.2 (ok' := fun k => k < w4.heap.size) (fun k hk => hb4.block k hk) (fun k hk => Nat.lt_of_lt_of_le hk hb4.size)); have HR4 := hid (And.intro (HQ.out.1.trans (hb4.mono HQ.out.1.size)) (And.intro hRF4 hRG4)); clear hRF4 hRG4 z1 z2; have HS1 := hid (al6_G w4 p2 c2 _ (fun k hk => hk) HR4.out.2.2).2)
  | (go_at_call 23; have ff := F2; clear ff F2; refine Calls.mono HS1.out ?_; rintro e w5 ⟨rfl, hb5⟩; have r1 := cell_onF hb5 q1; have hRF5 := (RdF.kept HR4.out.2.1 (ok' := fun k => k < w5.heap.size) (fun k hk => hb5.block k hk) (fun k hk => Nat.lt_of_lt_of_le hk hb5.size)); have HR5 := hid (And.intro (HR4.out.1.trans (hb5.mono HR4.out.1.size)) hRF5); clear hRF5 q1 q2; have HS2 := hid (al6_F w5 p1 c1 _ (fun k hk => hk) HR5.out.2).2.1)
  | (go_at_call 23; refine Calls.mono HS2.out ?_; rintro e w6 ⟨rfl, hb6⟩; have s1 := cell_onF hb6 r1; have hRF6 := (RdF.kept HR5.out.2 (ok' := fun k => k < w6.heap.size) (fun k hk => hb6.block k hk) (fun k hk => Nat.lt_of_lt_of_le hk hb6.size)); have HR6 := hid (And.intro (HR5.out.1.trans (hb6.mono HR5.out.1.size)) hRF6); clear hRF6 r1; have HFl := hid (al6_F w6 p1 c1 _ (fun k hk => hk) HR6.out.2).2.2)
  | (go_at_call 17; refine Calls.mono HFl.out ?_; rintro e w7 ⟨q7, d7, rfl, hb7⟩))
 go_ret
 exact ⟨rfl, HR6.out.1.trans (hb7.mono HR6.out.1.size)⟩
end Go.Proofs.YtdkpfnohdknldaaGreatDoor

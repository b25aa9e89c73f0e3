/- Texts of this seat, one behind the other: FilChange, LawAlive3. -/
import Derived.Test.YtdpjhemddigpiabGreatDoorZb12
import Derived.Test.YtdpjhemddigpiabGreatDoorZb01b
namespace Go.Proofs.YtdpjhemddigpiabGreatDoor
open Go.RowKit
attribute [local go_sem ↓] Go.wp_at_zero Go.wp_at_succ
/-- Why an edit can't be done. -/
def chN (s : ByteArray) (a b : Int) (x : ByteArray) : Nat := if a < 0 ∨ b < a ∨ (s.size : Int) < b then 3 else if (4000 : Int) < s.size - (b - a) + x.size then 4 else 0
/-- What an edit makes of a text. -/
def chS (s : ByteArray) (a b : Int) (x : ByteArray) : ByteArray := if chN s a b x = 0 then s.extract 0 a.toNat ++ x ++ s.extract b.toNat s.size else noB
theorem chN_ok {s : ByteArray} {a b : Int} {x : ByteArray} (h : chN s a b x = 0) : 0 ≤ a ∧ a ≤ b ∧ b ≤ s.size ∧ (s.size : Int) - (b - a) + x.size ≤ 4000 := by
  unfold chN at h
  split at h
  · cases h
  · split at h
    · cases h
    · omega
set_option maxHeartbeats 1000000 in
set_option maxRecDepth 100000 in
theorem change_any (s : ByteArray) (a b : Int) (x : ByteArray) (w : World) (hs47 : s.size ≤ 140737488355328) (hx47 : x.size ≤ 140737488355328) :
    Calls Tryz.prog 16 #[.string s, .agg #[.int .i64 a, .int .i64 b, .string x]] w fun e w' => e = .returned (.tuple #[.string (chS s a b x), .int .i64 (chN s a b x : Int)]) ∧ Below w.heap.size w w' := by
  have hb0 := (Below.refl w.heap.size w).alloc (Nat.le_refl _) (.cells #[.int .i64 a, .int .i64 b, .string x] 23)
  go_enter Tryz.func16, Tryz.ntmps16
  by_cases hbad : a < 0 ∨ b < a ∨ (s.size : Int) < b
  · have e : chN s a b x = 3 := by unfold chN; rw [if_pos hbad]
    have e2 : chS s a b x = noB := by unfold chS; rw [e]; rfl
    rw [e, e2]
    clear e e2
    by_cases h1 : a < 0
    · clear hbad
      go_wp2
      exact bodyPost_ret (v := .tuple #[.string noB, .int .i64 3]) (by simp [results, Tryz.results16, go_sem, noB]) rfl ⟨rfl, hb0⟩
    · by_cases h2 : b < a
      · clear hbad
        go_wp2
        exact bodyPost_ret (v := .tuple #[.string noB, .int .i64 3]) (by simp [results, Tryz.results16, go_sem, noB]) rfl ⟨rfl, hb0⟩
      · have h3 : b > (s.size : Int) := by omega
        clear hbad
        go_wp2
        exact bodyPost_ret (v := .tuple #[.string noB, .int .i64 3]) (by simp [results, Tryz.results16, go_sem, noB]) rfl ⟨rfl, hb0⟩
  · obtain ⟨i, rfl⟩ : ∃ i : Nat, a = (i : Int) := ⟨a.toNat, by omega⟩
    obtain ⟨j, rfl⟩ : ∃ j : Nat, b = (j : Int) := ⟨b.toNat, by omega⟩
    have h1 : ¬ (i : Int) < 0 := by omega
    have h2 : ¬ (j : Int) < (i : Int) := by omega
    have h3 : ¬ (j : Int) > (s.size : Int) := by omega
    have gw1 : IntKind.i64.wrap ((j : Int) - (i : Int)) = (j : Int) - (i : Int) := wrap_id _ (by omega) (by omega)
    have gw2 : IntKind.i64.wrap ((s.size : Int) - ((j : Int) - (i : Int))) = (s.size : Int) - ((j : Int) - (i : Int)) := wrap_id _ (by omega) (by omega)
    have gw3 : IntKind.i64.wrap ((s.size : Int) - ((j : Int) - (i : Int)) + (x.size : Int)) = (s.size : Int) - ((j : Int) - (i : Int)) + (x.size : Int) := wrap_id _ (by omega) (by omega)
    by_cases h4 : (s.size : Int) - ((j : Int) - (i : Int)) + (x.size : Int) > 4000
    · have e : chN s i j x = 4 := by unfold chN; rw [if_neg hbad, if_pos (by omega)]
      have e2 : chS s i j x = noB := by unfold chS; rw [e]; rfl
      rw [e, e2]
      clear e e2 hbad
      go_wp2
      exact bodyPost_ret (v := .tuple #[.string noB, .int .i64 4]) (by simp [results, Tryz.results16, go_sem, noB]) rfl ⟨rfl, hb0⟩
    · have e : chN s i j x = 0 := by unfold chN; rw [if_neg hbad, if_neg (by omega)]
      have e2 : chS s i j x = s.extract 0 i ++ x ++ s.extract j s.size := by unfold chS; rw [if_pos e, Int.toNat_natCast, Int.toNat_natCast]
      rw [e, e2]
      have g0 : (0 : Int) ≤ (i : Int) := by omega
      have g1 : (i : Int) ≤ (s.size : Int) := by omega
      have g2 : (0 : Int) ≤ (j : Int) := by omega
      have g3 : (j : Int) ≤ (s.size : Int) := by omega
      clear e e2 hbad
      go_wp2
      go_quiet (fail)
      go_wp2
      exact bodyPost_ret (v := .tuple #[.string (s.extract 0 i ++ x ++ s.extract j s.size), .int .i64 0]) (by simp [results, Tryz.results16, go_sem]) rfl ⟨rfl, below_drewN hb0 _⟩
end Go.Proofs.YtdpjhemddigpiabGreatDoor
namespace Go.Proofs.YtdpjhemddigpiabGreatDoor
open Go.RowKit
attribute [local go_sem ↓] Go.wp_at_zero Go.wp_at_succ
theorem cell_on {w w' : World} (hb : Below w.heap.size w w') {a : Addr} {u : Value} (h : w.cell? a = some u) : w'.cell? a = some u := (hb.cell (World.block_lt_of_cell? w a h)).trans h
theorem ch_abc : chN ⟨#[97, 98, 99]⟩ 1 2 ⟨#[120, 121]⟩ = 0 ∧ chS ⟨#[97, 98, 99]⟩ 1 2 ⟨#[120, 121]⟩ = ⟨#[97, 120, 121, 99]⟩ := by decide +kernel
/-- The two items in memory. -/
theorem al_two {w w1 : World} {p : Option Addr} {m c : Nat} (h : FileTold w w1 alT (.agg #[.slice p m c])) : m = 2 ∧ ∃ g q0 e0 q5 e5 q9 e9 gp e3, p = some ⟨g, 0, none⟩ ∧ w1.cell? ⟨g, 9, none⟩ = some (.slice q0 0 e0) ∧ w1.cell? ⟨g, 15, none⟩ = some (.slice q5 1 e5) ∧ w1.cell? ⟨g, 19, none⟩ = some (.slice q9 0 e9) ∧ w1.cell? ⟨g, 13, none⟩ = some (.slice (some ⟨gp, 0, none⟩) 1 e3) ∧ w1.cell? ⟨gp, 1, none⟩ = some (.int .i64 1) := by
  obtain ⟨p', c', hv, _, hits⟩ := h.1 alT_err
  injection hv with hv
  simp only [Array.mk.injEq, List.cons.injEq, Value.slice.injEq, and_true] at hv
  obtain ⟨rfl, rfl, rfl⟩ := hv
  have hl : (fil alT).length = 2 := (fil_len _).trans alT_cts
  obtain ⟨g, rfl, _, hR⟩ := hits (by omega)
  obtain ⟨v0, h0, hI0⟩ := RdIs.at hR rfl (fun _ _ => rfl) (fil_get alT 0 (by rw [alT_cts]; omega))
  obtain ⟨v1, h1, hI1⟩ := RdIs.at hR rfl (fun _ _ => rfl) (fil_get alT 1 (by rw [alT_cts]; omega))
  have a0 := alT_it0
  obtain ⟨a1, a2, a3⟩ := alT_it1
  generalize itI alT 0 = it0 at *
  generalize itI alT 1 = it1 at *
  obtain ⟨p1, c1, p2, c2, p3, c3, p4, c4, rfl, _⟩ := hI0
  obtain ⟨q1, d1, q2, d2, q3, d3, q4, d4, rfl, hps, _⟩ := hI1
  have hpl : it1.ps.length = 1 := by have := congrArg List.length a3; simpa using this
  obtain ⟨gp, rfl, _, hfl⟩ := hps.2 (by omega)
  obtain ⟨pm, hpm⟩ : ∃ pm, it1.ps = [pm] := by
    match hq : it1.ps with
    | [x] => exact ⟨x, rfl⟩
    | [] => rw [hq] at hpl; cases hpl
    | _ :: _ :: _ => rw [hq] at hpl; simp at hpl
  rw [hpm] at a3 hfl
  have hlab : pm.l = 1 := by simpa using a3
  have e9 := h0.get 9 _ rfl
  have e15 := h1.get 5 _ rfl
  have e19 := h1.get 9 _ rfl
  have e13 := h1.get 3 _ rfl
  rw [a0] at e9
  rw [a2] at e15
  rw [a1] at e19
  rw [hpl] at e13
  refine ⟨hl, g, _, _, _, _, _, _, gp, _, rfl, e9, e15, e19, e13, ?_⟩
  have := hfl 0 pm rfl 1 _ rfl
  rw [hlab] at this
  exact this
set_option maxHeartbeats 1000000 in
set_option maxRecDepth 100000 in
theorem alive3 (w : World) (hV : VarAt w) : Calls Tryz.prog 17 #[] w fun e w' => e = .returned (.bool true) ∧ Below w.heap.size w w' := by
  have hE : ((flE alT : Nat) : Int) = 0 := by rw [alT_err]; rfl
  go_enter Tryz.func17, Tryz.ntmps17
  go_wp2_with (first
    | (go_at_call 9; refine (File_any alT _ hV).mono ?_; rintro e w1 ⟨p, m, c, rfl, hft, hb1⟩; obtain ⟨hm, g, q0, e0, q5, e5, q9, e9, gp, e3, hp, f1, f2, f3, f4, f5⟩ := al_two hft; subst hm hp; rw [hE]; clear hft; have hba := (Below.refl w1.heap.size w1).alloc (Nat.le_refl _) (.cells #[.slice (some ⟨g, 0, none⟩) 2 c] 26); have y0 := cell_of_row _ _ 0 _ _ _ (heap_alloc_new w1 (.cells #[.slice (some ⟨g, 0, none⟩) 2 c] 26)); simp only [List.getElem?_toArray, List.getElem?_cons_zero] at y0)
    | (go_at_call 16; refine (change_any ⟨#[97, 98, 99]⟩ 1 2 ⟨#[120, 121]⟩ _ (by decide) (by decide)).mono ?_; rintro e w2 ⟨rfl, hb2⟩; rw [ch_abc.1, ch_abc.2]; have z0 := cell_on hb2 y0; have z1 := cell_on hb2 (cell_on hba f1); have z2 := cell_on hb2 (cell_on hba f2); have z3 := cell_on hb2 (cell_on hba f3); have z4 := cell_on hb2 (cell_on hba f4); have z5 := cell_on hb2 (cell_on hba f5); clear f1 f2 f3 f4 f5 y0))
  go_quiet (fail)
  go_wp2
  go_ret
  exact ⟨rfl, below_drewN (hb1.trans ((hba.mono hb1.size).trans (hb2.mono (Nat.le_trans hb1.size hba.size)))) _⟩
end Go.Proofs.YtdpjhemddigpiabGreatDoor

/- The closed fact that the statements ask first. -/
import Derived.Test.YtbkihppmikjcoaaDoorFrBytes
namespace Go.Proofs.YtbkihppmikjcoaaDoor
open Go.RowKit
set_option linter.unusedVariables false
attribute [local go_sem ↓] Go.wp_at_zero Go.wp_at_succ
def a0 : Ak := ⟨7, 8, 0, 0, [102], [-3]⟩
def b0 : List UInt8 := [55, 32, 56, 32, 48, 32, 48, 32, 49, 32, 49, 10, 45, 51, 10, 102]
theorem itoa_one (n : Nat) (h : n < 10) : Lib.itoa (n : Int) = [UInt8.ofNat (48 + n)] := by
  rw [Lib.itoa_nonneg, Lib.decDigits_one h]
theorem a0_bytes : akBs [a0] = b0 := by
  have h0 := itoa_one 0 (by decide)
  have h1 := itoa_one 1 (by decide)
  have h7 := itoa_one 7 (by decide)
  have h8 := itoa_one 8 (by decide)
  have h3 : Lib.itoa (-3) = [45, 51] := by
    have := Lib.itoa_neg 3 (by decide)
    rw [Lib.decDigits_one (by decide)] at this
    exact this
  show akB a0 ++ [] = _
  unfold akB akH a0 wl
  simp only [wl, wa]
  rw [show ((([-3] : List Int).length : Nat) : Int) = ((1 : Nat) : Int) from rfl, show ((([102] : List UInt8).length : Nat) : Int) = ((1 : Nat) : Int) from rfl, h3]
  rw [show Lib.itoa 7 = [UInt8.ofNat (48 + 7)] from h7, show Lib.itoa 8 = [UInt8.ofNat (48 + 8)] from h8, show Lib.itoa 0 = [UInt8.ofNat (48 + 0)] from h0, h1]
  rfl
theorem a0_ok : ∀ a ∈ [a0], akW a = 0 ∧ a.ok := by
  intro a ha
  obtain rfl := List.mem_singleton.1 ha
  refine ⟨rfl, ⟨by decide, by decide⟩, ⟨by decide, by decide⟩, ⟨by decide, by decide⟩, ⟨by decide, by decide⟩, fun n hn => ?_⟩
  obtain rfl := List.mem_singleton.1 hn
  exact ⟨by decide, by decide⟩
theorem a0_fb : fb [a0] = .inl b0 := by rw [fb_ok (fun a ha => (a0_ok a ha).1), a0_bytes]
theorem a0_pr : pr b0 = .inl [a0] := by rw [← a0_bytes]; exact pr_mk a0_ok
set_option maxHeartbeats 1000000 in
set_option maxRecDepth 100000 in
theorem alive_any (w : World) (hL : Lw w) : Calls Tryd.prog 13 #[] w fun ex w' => ex = .returned (.bool true) ∧ Below w.heap.size w w' := by
  have hb1 := ((Below.refl w.heap.size w).alloc (Nat.le_refl _) (.cells #[.int .i64 (-3)] 3)).alloc (by simp) (.cells #[.int .i64 7, .int .i64 8, .int .i64 0, .int .i64 0, .string ⟨#[102]⟩, .slice (some ⟨w.heap.size, 0, none⟩) 1 1] 26)
  have hn0 := (Below.heap_alloc (w.alloc (.cells #[.int .i64 (-3)] 3)) (.cells #[.int .i64 7, .int .i64 8, .int .i64 0, .int .i64 0, .string ⟨#[102]⟩, .slice (some ⟨w.heap.size, 0, none⟩) 1 1] 26) w.heap.size (by simp)).trans (heap_alloc_new w _)
  have hn1 := heap_alloc_new (w.alloc (.cells #[.int .i64 (-3)] 3)) (.cells #[.int .i64 7, .int .i64 8, .int .i64 0, .int .i64 0, .string ⟨#[102]⟩, .slice (some ⟨w.heap.size, 0, none⟩) 1 1] 26)
  rw [show (w.alloc (.cells #[.int .i64 (-3)] 3)).heap.size = w.heap.size + 1 by simp] at hn1
  have hin : AksIn ((w.alloc (.cells #[.int .i64 (-3)] 3)).alloc (.cells #[.int .i64 7, .int .i64 8, .int .i64 0, .int .i64 0, .string ⟨#[102]⟩, .slice (some ⟨w.heap.size, 0, none⟩) 1 1] 26)) (.slice (some ⟨w.heap.size + 1, 0, none⟩) 1 1) [a0] := by
    refine ⟨some ⟨w.heap.size + 1, 0, none⟩, 1, rfl, nofun, fun _ => ⟨_, 0, rfl, by simp, fun j a hj => ?_⟩⟩
    cases j with
    | succ j => simp at hj
    | zero =>
      simp at hj
      subst hj
      refine ⟨some ⟨w.heap.size, 0, none⟩, 1, fun i u hu => ?_, fun _ => ⟨_, 0, rfl, by simp <;> omega, fun i n hi => ?_⟩⟩
      · rw [cell_of_row _ _ _ _ _ _ hn1, show 0 + 0 * 6 + i = i by omega]
        have hu : ([Value.int .i64 7, .int .i64 8, .int .i64 0, .int .i64 0, .string ⟨#[102]⟩, .slice (some ⟨w.heap.size, 0, none⟩) 1 1] : List Value)[i]? = some u := hu
        rw [List.getElem?_toArray]
        exact hu
      · cases i with
        | succ i => simp [a0] at hi
        | zero =>
          simp [a0] at hi
          subst hi
          exact cell_of_row _ _ 0 _ _ _ hn0
  have HBy := hid (bytes_any _ (hL.below hL.low hb1) _ [a0] hin (fun a ha => (a0_ok a ha).2) (by simp))
  have HB1 := hid hb1
  have hbe : (ba b0).toList = (⟨#[55, 32, 56, 32, 48, 32, 48, 32, 49, 32, 49, 10, 45, 51, 10, 102]⟩ : ByteArray).toList := rfl
  clear hn0 hn1 hin hb1
  go_enter Tryd.func13, Tryd.ntmps13
  go_wp2_with (first
    | (go_at_call 8; refine Calls.mono HBy.out ?_; rintro ex w2 ⟨r, e, k, rfl, hb2, hP⟩; rw [a0_fb] at hP; obtain ⟨rfl, rfl, hin2⟩ := hP; have HIn := hid hin2; obtain ⟨p, c, rfl, hcap, _, hh⟩ := hin2; obtain ⟨g, o, rfl, hg, hby⟩ := hh (by decide); unfold faV; have HG := hid hg; have HBY := hid hby; have HB2 := hid (HB1.out.trans (hb2.mono HB1.out.size)); clear hb2 hg hby hh hcap)
    | (go_at_call 10; refine Calls.mono (parse_any _ (by exact (hL.below hL.low HB2.out).below hL.low (((Below.refl w.heap.size w2).alloc HB2.out.size _))) _ b0 (by exact HIn.out.below ((Below.refl w2.heap.size w2).alloc (Nat.le_refl _) _)) (by decide)) ?_; rintro ex w3 ⟨r, e, k, rfl, hb3, hP⟩; rw [a0_pr] at hP; obtain ⟨rfl, rfl, p3, c3, rfl, _, hh3⟩ := hP; obtain ⟨g3, o3, rfl, hg3, hak⟩ := hh3 (by decide); obtain ⟨pa, ca, y0, _⟩ := hak.cells (j := 0) (a := a0) rfl; unfold faV; have hx := (hb3.block w2.heap.size (by simp)).trans (heap_alloc_new w2 (.cells #[.int .i64 0, .int .i64 0] 30)); obtain ⟨f0, f1, ff⟩ := row2 hx; have g0 := cell_alloc f0; have g1 := cell_alloc f1; rw [Nat.zero_mul, Nat.add_zero] at y0; have y1 := cell_alloc y0; have hbx : Below w2.heap.size w2 w3 := ((Below.refl w2.heap.size w2).alloc (Nat.le_refl _) _).trans (hb3.mono (by simp)); have hcv := fun x => conv_byt (w3.alloc x) g o c b0.length b0 rfl (HBY.out.kept ((Below.heap_alloc w3 x g (by have := HG.out; have := hbx.size; omega)).trans (hbx.block g HG.out))); have HB3 := hid (HB2.out.trans (hbx.mono HB2.out.size)); clear hb3 hx hh3 hak hbx))
  go_ret
  exact ⟨ret_bool rfl, HB3.out.alloc HB3.out.size _⟩
end Go.Proofs.YtbkihppmikjcoaaDoor

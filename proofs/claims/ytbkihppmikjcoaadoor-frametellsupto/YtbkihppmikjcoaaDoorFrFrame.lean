/- The document's questions as bytes. -/
import Derived.Test.YtbkihppmikjcoaaDoorFrBytes
import Derived.Lib.QuietBelow
import Derived.Laws.IdiomStrings
namespace Go.Proofs.YtbkihppmikjcoaaDoor
open Go.RowKit
set_option linter.unusedVariables false
attribute [local go_sem ↓] Go.wp_at_zero Go.wp_at_succ
section
variable (a : Ak) (p : Option Addr) (c : Nat) (w : World)
set_option maxHeartbeats 1000000 in
set_option maxRecDepth 100000 in
theorem wrongAsk_any : Calls Tryd.prog 7 #[akV a p c] w fun e w' => e = .returned (.int .i64 (akW a)) ∧ Below w.heap.size w w' := by
  have HW : Hid (akW a = if a.kind < 1 ∨ 9 < a.kind then 1 else if 5 < a.args.length then 5 else if 4000 < a.text.length then 4 else 0) := rfl
  have hs := ba_size a.text
  unfold akV
  generalize ba a.text = s at *
  generalize a.args.length = n at *
  generalize a.text.length = m at *
  generalize a.kind = k at *
  generalize akW a = T at *
  go_enter Tryd.func7, Tryd.ntmps7
  go_wp2
  all_goals go_ret
  all_goals refine ⟨ret_int ?_, (Below.refl _ _).alloc (Nat.le_refl _) _⟩
  all_goals (have hw := HW.out; rw [hw]; try simp only [decide_eq_true_eq, decide_eq_false_iff_not] at *)
  all_goals (repeat' split) <;> omega
end
theorem ba_32 : (⟨#[32]⟩ : ByteArray) = ba [32] := rfl
theorem ba_10 : (⟨#[10]⟩ : ByteArray) = ba [10] := rfl
/-- A text's bytes as a slice of its own. -/
theorem conv_any (w : World) (l : List UInt8) : ∃ cap w', (convert 9 23 (.string (ba l))).run Tryd.prog w = .ok (.slice (some ⟨w.heap.size, 0, none⟩) l.length cap) w' ∧ l.length ≤ cap ∧ Below w.heap.size w w' ∧ w.heap.size < w'.heap.size ∧ Byt w' w.heap.size 0 l := by
  have h := run_bytes_of_string (P := Tryd.prog) w 9 23 5 (ba l) Tryd.underlying9 Tryd.underlying23 Tryd.underlying5
  rw [ba_size] at h
  refine ⟨_, _, h, grownCap_ge _ _ _ _, ?_, ?_, ?_⟩
  · exact (⟨rfl, rfl, rfl, Nat.le_refl _, fun _ _ => rfl⟩ : Below w.heap.size w w.drew).alloc (Nat.le_refl _) _
  · simp
  · intro j b hj
    have hl : j < (ba l).data.size := by
      have := (List.getElem?_eq_some_iff.1 hj).1
      simpa [ba] using this
    have e : (ba l).data[j] = b := by
      have := (List.getElem?_eq_some_iff.1 hj).2
      simpa [ba] using this
    have h2 := bytesRow_at (ba l) (grownCap w l.length 0 5) j hl
    rw [e] at h2
    rw [Nat.zero_add]
    exact (cell_of_row _ _ j _ _ _ (heap_alloc_new w.drew _)).trans h2
def RelFa (w : World) (l : List Ak) (s i : Value) (wr : World) : Prop := ∃ k : Nat, k ≤ l.length ∧ i = .int .i64 (k : Int) ∧ s = .string (ba (akBs (l.take k))) ∧ Below w.heap.size w wr ∧ wr.heap[w.heap.size]? = some (.cells #[.int .i64 0, .int .i64 0] 30 (0, 0)) ∧ ∀ a ∈ l.take k, akW a = 0
def RelFb (w : World) (A : List UInt8) (l : List Int) (s i : Value) (wr : World) : Prop := ∃ k : Nat, k ≤ l.length ∧ i = .int .i64 (k : Int) ∧ s = .string (ba (A ++ wa (l.take k))) ∧ Below w.heap.size w wr
set_option maxHeartbeats 2000000 in
set_option maxRecDepth 100000 in
theorem frame_any (w : World) (hL : Lw w) (v : Value) (l : List Ak) (hv : AksIn w v l) (hok : ∀ a ∈ l, a.ok) (hbig : l.length ≤ 100000000) :
    Calls Tryd.prog 9 #[v] w fun ex w' => ∃ r e k, ex = .returned (.tuple #[r, faV e k]) ∧ Below w.heap.size w w' ∧ BytesP (fb l) r e k w' := by
  obtain ⟨p, c, rfl, _, hp⟩ := hv
  obtain ⟨X, hX⟩ : ∃ X, fb l = X := ⟨_, rfl⟩
  rw [hX]
  have h3 := hL.low
  have HP := hid hp
  have HX := hid hX
  have HK0 := hid ((Below.refl w.heap.size w).alloc (Nat.le_refl _) (.cells #[.int .i64 0, .int .i64 0] 30))
  have HN0 := hid (heap_alloc_new w (.cells #[.int .i64 0, .int .i64 0] 30))
  clear hp hX
  go_enter Tryd.func9, Tryd.ntmps9
  go_wp2
  go_loopw [4, 12] (fun s i wr => RelFa w l s i wr) (fun _ i _ => upN l.length i)
  case atStart => exact ⟨0, Nat.zero_le _, rfl, rfl, HK0.out, HN0.out, fun a ha => by simp at ha⟩
  case round =>
    obtain ⟨k, hkl, rfl, rfl, hK, hF, hall⟩ := hrel
    have hbw := hK.size
    by_cases hlt : k < l.length
    · obtain ⟨g, o, rfl, hg, hak⟩ := HP.out (by omega)
      obtain ⟨a, ha⟩ : ∃ a, l[k]? = some a := ⟨_, List.getElem?_eq_getElem hlt⟩
      have hao := hok a (List.mem_of_getElem? ha)
      obtain ⟨q, cq, x0, x1, x2, x3, x4, x5, harg⟩ := hak.cells ha
      have kc : ∀ j, wr.cell? ⟨g, j, none⟩ = w.cell? ⟨g, j, none⟩ := fun j => World.cell?_of_block (a := ⟨g, j, none⟩) (hK.block g hg)
      rw [← kc] at x0 x1 x2 x3 x4 x5
      have gk : (0 : Int) ≤ (k : Int) := by omega
      have gk1 : (k : Int) < (l.length : Int) := by omega
      have hlim : (akBs (l.take k)).length + 5000 ≤ 1099511627000 := by
        have := akBs_len (l := l.take k) (fun x hx => ⟨hall x hx, hok x (List.mem_of_mem_take hx)⟩)
        rw [List.length_take] at this
        omega
      have HT : Hid (akBs (l.take (k + 1)) = akBs (l.take k) ++ akB a) := by
        show _ = _
        rw [List.take_add_one, ha, Option.toList_some, akBs_snoc]
      have HM : Hid (akW a = 0 → ∀ x ∈ l.take (k + 1), akW x = 0) := fun h0 x hx => by
        rw [List.take_add_one, ha, Option.toList_some] at hx
        rcases List.mem_append.1 hx with hx | hx
        · exact hall x hx
        · rw [List.mem_singleton.1 hx]; exact h0
      have HE : Hid (akW a ≠ 0 → X = .inr (akW a, k)) := fun h0 => by rw [← HX.out]; exact fb_at hall ha h0
      have HL := hid hlt
      have HAr := hid harg
      have hK1 := hK.alloc hbw (.cells #[.int .i64 a.id, .int .i64 a.kind, .int .i64 a.fr, .int .i64 a.to, .string (ba a.text), .slice q a.args.length cq] 26)
      have HK1 := hid hK1
      have HN1 := hid (heap_alloc_new wr (.cells #[.int .i64 a.id, .int .i64 a.kind, .int .i64 a.fr, .int .i64 a.to, .string (ba a.text), .slice q a.args.length cq] 26))
      have hF1 := (Below.heap_alloc wr (.cells #[.int .i64 a.id, .int .i64 a.kind, .int .i64 a.fr, .int .i64 a.to, .string (ba a.text), .slice q a.args.length cq] 26) w.heap.size (Array.getElem?_eq_some_iff.1 hF).1).trans hF
      have HF1 := hid hF1
      have hbw1 := hK1.size
      have hsA := ba_size (akBs (l.take k))
      clear hlt hkl ha hall hK hF harg hak kc hK1 hF1
      by_cases hw : akW a = 0
      · have HW := hid hw
        obtain ⟨hw1, hw2⟩ := akW_zero hw
        have hH := akH_ok hao hw
        have hwl := wl_len hH
        have h6 : (akH a).length = 6 := rfl
        obtain ⟨o1, o2, o3, o4, o5⟩ := hao
        have o6 : I64 (a.args.length : Int) := hH _ (by simp [akH])
        have o7 : I64 (a.text.length : Int) := hH _ (by simp [akH])
        have i1 := itoa_len _ o1
        have i2 := itoa_len _ o2
        have i3 := itoa_len _ o3
        have i4 := itoa_len _ o4
        have i5 := itoa_len _ o6
        have i6 := itoa_len _ o7
        have I1 := hid i1
        have I2 := hid i2
        have I3 := hid i3
        have I4 := hid i4
        have I5 := hid i5
        have I6 := hid i6
        clear i1 i2 i3 i4 i5 i6 hwl hH
        generalize akBs (l.take k) = A at *
        go_wp2_with (first
          | (go_at_call 7; refine Calls.mono (wrongAsk_any a q cq _) ?_; rintro ex w2 ⟨rfl, hb2⟩; have b2 := (hb2.block wr.heap.size (by simp)).trans HN1.out; have B2 := hid b2; obtain ⟨b20, b21, b22, b23, b24, b25, b2f⟩ := row6 b2; have HK2 := hid (HK1.out.trans (hb2.mono hbw1)); have HF2 := hid ((hb2.block w.heap.size (Array.getElem?_eq_some_iff.1 HF1.out).1).trans HF1.out); clear hb2 b2))
        have hL2 := hL.below h3 HK2.out
        obtain ⟨S1, hS1⟩ : ∃ S, ba (Lib.itoa a.id) = S := ⟨_, rfl⟩
        have q1 : ∀ d os, Calls Tryd.prog 15 #[.int .i64 a.id] (Go.Sort.grow (redrawn w2 d) os) fun e w'' => e = .returned (.string S1) ∧ ∃ p : Regrown, w'' = Go.Sort.grow (redrawn w2 p.d) p.os := fun d os => Calls.regrown_of (by rw [← hS1]; exact itoa_any _ o1 _ (hL2.kept (below_regrown w2 d os).size (fun k hk => (below_regrown w2 d os).block k (by have := hL2.low; omega))))
        have s1 : S1.size ≤ 20 := by rw [← hS1, ba_size]; exact I1.out
        obtain ⟨S2, hS2⟩ : ∃ S, ba (Lib.itoa a.kind) = S := ⟨_, rfl⟩
        have q2 : ∀ d os, Calls Tryd.prog 15 #[.int .i64 a.kind] (Go.Sort.grow (redrawn w2 d) os) fun e w'' => e = .returned (.string S2) ∧ ∃ p : Regrown, w'' = Go.Sort.grow (redrawn w2 p.d) p.os := fun d os => Calls.regrown_of (by rw [← hS2]; exact itoa_any _ o2 _ (hL2.kept (below_regrown w2 d os).size (fun k hk => (below_regrown w2 d os).block k (by have := hL2.low; omega))))
        have s2 : S2.size ≤ 20 := by rw [← hS2, ba_size]; exact I2.out
        obtain ⟨S3, hS3⟩ : ∃ S, ba (Lib.itoa a.fr) = S := ⟨_, rfl⟩
        have q3 : ∀ d os, Calls Tryd.prog 15 #[.int .i64 a.fr] (Go.Sort.grow (redrawn w2 d) os) fun e w'' => e = .returned (.string S3) ∧ ∃ p : Regrown, w'' = Go.Sort.grow (redrawn w2 p.d) p.os := fun d os => Calls.regrown_of (by rw [← hS3]; exact itoa_any _ o3 _ (hL2.kept (below_regrown w2 d os).size (fun k hk => (below_regrown w2 d os).block k (by have := hL2.low; omega))))
        have s3 : S3.size ≤ 20 := by rw [← hS3, ba_size]; exact I3.out
        obtain ⟨S4, hS4⟩ : ∃ S, ba (Lib.itoa a.to) = S := ⟨_, rfl⟩
        have q4 : ∀ d os, Calls Tryd.prog 15 #[.int .i64 a.to] (Go.Sort.grow (redrawn w2 d) os) fun e w'' => e = .returned (.string S4) ∧ ∃ p : Regrown, w'' = Go.Sort.grow (redrawn w2 p.d) p.os := fun d os => Calls.regrown_of (by rw [← hS4]; exact itoa_any _ o4 _ (hL2.kept (below_regrown w2 d os).size (fun k hk => (below_regrown w2 d os).block k (by have := hL2.low; omega))))
        have s4 : S4.size ≤ 20 := by rw [← hS4, ba_size]; exact I4.out
        obtain ⟨S5, hS5⟩ : ∃ S, ba (Lib.itoa (a.args.length : Int)) = S := ⟨_, rfl⟩
        have q5 : ∀ d os, Calls Tryd.prog 15 #[.int .i64 (a.args.length : Int)] (Go.Sort.grow (redrawn w2 d) os) fun e w'' => e = .returned (.string S5) ∧ ∃ p : Regrown, w'' = Go.Sort.grow (redrawn w2 p.d) p.os := fun d os => Calls.regrown_of (by rw [← hS5]; exact itoa_any _ o6 _ (hL2.kept (below_regrown w2 d os).size (fun k hk => (below_regrown w2 d os).block k (by have := hL2.low; omega))))
        have s5 : S5.size ≤ 20 := by rw [← hS5, ba_size]; exact I5.out
        obtain ⟨S6, hS6⟩ : ∃ S, ba (Lib.itoa (a.text.length : Int)) = S := ⟨_, rfl⟩
        have q6 : ∀ d os, Calls Tryd.prog 15 #[.int .i64 (a.text.length : Int)] (Go.Sort.grow (redrawn w2 d) os) fun e w'' => e = .returned (.string S6) ∧ ∃ p : Regrown, w'' = Go.Sort.grow (redrawn w2 p.d) p.os := fun d os => Calls.regrown_of (by rw [← hS6]; exact itoa_any _ o7 _ (hL2.kept (below_regrown w2 d os).size (fun k hk => (below_regrown w2 d os).block k (by have := hL2.low; omega))))
        have s6 : S6.size ≤ 20 := by rw [← hS6, ba_size]; exact I6.out
        obtain ⟨SA, hSA⟩ : ∃ S, ba A = S := ⟨_, rfl⟩
        have sA : SA.size ≤ 1099511627000 := by rw [← hSA, ba_size]; omega
        have n1 : ¬ 9223372036854775807 < SA.size + S1.size := by omega
        have n2 : ¬ 9223372036854775807 < SA.size + S1.size + 1 := by omega
        have n3 : ¬ 9223372036854775807 < SA.size + S1.size + 1 + S2.size := by omega
        have n4 : ¬ 9223372036854775807 < SA.size + S1.size + 1 + S2.size + 1 := by omega
        have n5 : ¬ 9223372036854775807 < SA.size + S1.size + 1 + S2.size + 1 + S3.size := by omega
        have n6 : ¬ 9223372036854775807 < SA.size + S1.size + 1 + S2.size + 1 + S3.size + 1 := by omega
        have n7 : ¬ 9223372036854775807 < SA.size + S1.size + 1 + S2.size + 1 + S3.size + 1 + S4.size := by omega
        have n8 : ¬ 9223372036854775807 < SA.size + S1.size + 1 + S2.size + 1 + S3.size + 1 + S4.size + 1 := by omega
        have n9 : ¬ 9223372036854775807 < SA.size + S1.size + 1 + S2.size + 1 + S3.size + 1 + S4.size + 1 + S5.size := by omega
        have n10 : ¬ 9223372036854775807 < SA.size + S1.size + 1 + S2.size + 1 + S3.size + 1 + S4.size + 1 + S5.size + 1 := by omega
        have n11 : ¬ 9223372036854775807 < SA.size + S1.size + 1 + S2.size + 1 + S3.size + 1 + S4.size + 1 + S5.size + 1 + S6.size := by omega
        have n12 : ¬ 9223372036854775807 < SA.size + S1.size + 1 + S2.size + 1 + S3.size + 1 + S4.size + 1 + S5.size + 1 + S6.size + 1 := by omega
        have k0 := cell_regrown b20
        have k1 := cell_regrown b21
        have k2 := cell_regrown b22
        have k3 := cell_regrown b23
        have k4 := cell_regrown b24
        have k5 := cell_regrown b25
        have HSS : Hid (SA ++ S1 ++ ⟨#[32]⟩ ++ S2 ++ ⟨#[32]⟩ ++ S3 ++ ⟨#[32]⟩ ++ S4 ++ ⟨#[32]⟩ ++ S5 ++ ⟨#[32]⟩ ++ S6 ++ ⟨#[10]⟩ = ba (A ++ wl (akH a))) := by
          show _ = _
          rw [← hSA, ← hS1, ← hS2, ← hS3, ← hS4, ← hS5, ← hS6, ba_32, ba_10]
          simp only [ba_app]
          congr 1
          simp [akH, wl]
        rw [hSA]
        clear hS1 hS2 hS3 hS4 hS5 hS6 hsA hSA
        refine wp_region_quiet_below (by kernel_rfl) (by kernel_rfl) ?_
        repeat (quiet_step (first | exact q1 _ _ | exact q2 _ _ | exact q3 _ _ | exact q4 _ _ | exact q5 _ _ | exact q6 _ _))
        refine wpQuiet_nil ?_
        intro _ hw'
        obtain ⟨⟨dq, osq⟩, hw''⟩ := hw'
        subst hw''
        rw [HSS.out]
        have hb6 := below_regrown w2 dq osq
        have B6 := hid ((hb6.block wr.heap.size (Array.getElem?_eq_some_iff.1 B2.out).1).trans B2.out)
        have HF6 := hid ((hb6.block w.heap.size (Array.getElem?_eq_some_iff.1 HF2.out).1).trans HF2.out)
        have HK6 := hid (HK2.out.trans (hb6.mono HK2.out.size))
        have HA6 : Hid (ArgIn w q a.args) := HAr.out
        have hA2 : (A ++ wl (akH a)).length ≤ 1099511627000 - 4800 := by
          have := wl_len (akH_ok ⟨o1, o2, o3, o4, o5⟩ HW.out)
          rw [List.length_append]
          omega
        have HTT : Hid (A ++ akB a = (A ++ wl (akH a)) ++ wa (a.args.take a.args.length) ++ a.text) := by show _ = _; unfold akB; simp
        clear b20 b21 b22 b23 b24 b25 b2f k0 k1 k2 k3 k4 k5 q1 q2 q3 q4 q5 q6 n1 n2 n3 n4 n5 n6 n7 n8 n9 n10 n11 n12 s1 s2 s3 s4 s5 s6 sA HSS hL2 hb6 x0 x1 x2 x3 x4 x5
        generalize Go.Sort.grow (redrawn w2 dq) osq = w6 at *
        generalize A ++ wl (akH a) = A2 at *
        obtain ⟨b20, b21, b22, b23, b24, b25, b2f⟩ := row6 B6.out
        clear HN1 HK1 HF1
        generalize wr.heap.size = N at *
        go_wp2
        go_loopw [4, 60] (fun s i wr2 => RelFb w6 A2 a.args s i wr2) (fun _ i _ => upN a.args.length i)
        case atStart => exact ⟨0, Nat.zero_le _, rfl, by simp [wa], Below.refl _ _⟩
        case round =>
          obtain ⟨j, hjl, rfl, rfl, hB7⟩ := hrel
          have hln : (A2 ++ wa (a.args.take j)).length ≤ 1099511627000 - 4800 + 105 := by
            have := wa_len (l := a.args.take j) (fun n hn => o5 n (List.mem_of_mem_take hn))
            rw [List.length_take] at this
            rw [List.length_append]
            omega
          have B7 := hid ((hB7.block N (Array.getElem?_eq_some_iff.1 B6.out).1).trans B6.out)
          by_cases hlj : j < a.args.length
          · obtain ⟨g3, o3, rfl, hg3, hn3⟩ := HA6.out (by omega)
            obtain ⟨n, hn⟩ : ∃ n, a.args[j]? = some n := ⟨_, List.getElem?_eq_getElem hlj⟩
            have hni := o5 n (List.mem_of_getElem? hn)
            have hBB := HK6.out.trans (hB7.mono HK6.out.size)
            have xn := (World.cell?_of_block (a := ⟨g3, o3 + j, none⟩) (hBB.block g3 hg3)).trans (hn3 j n hn)
            have gj : (0 : Int) ≤ (j : Int) := by omega
            have gj1 : (j : Int) < (a.args.length : Int) := by omega
            have gjb : j < 5 := by omega
            have HL7 := hid (hL.below h3 hBB)
            have HB7 := hid hB7
            have HLJ := hid hlj
            have HT2 : Hid (ba (A2 ++ wa (a.args.take j)) ++ ba (Lib.itoa n) ++ ⟨#[10]⟩ = ba (A2 ++ wa (a.args.take (j + 1)))) := by
              show _ = _
              rw [ba_10, ba_app, ba_app, List.take_add_one, hn, Option.toList_some, wa_snoc]
              congr 1
              simp [wl]
            have hs1 := itoa_len n hni
            rw [← ba_size] at hs1 hln
            have n1 : ¬ 9223372036854775807 < (ba (A2 ++ wa (a.args.take j))).size + (ba (Lib.itoa n)).size := by omega
            have n2 : ¬ 9223372036854775807 < (ba (A2 ++ wa (a.args.take j))).size + (ba (Lib.itoa n)).size + 1 := by omega
            clear hlj hjl hB7 hn hn3 hBB hs1 hln
            obtain ⟨SA, hSA⟩ : ∃ S, ba (A2 ++ wa (a.args.take j)) = S := ⟨_, rfl⟩
            obtain ⟨S1, hS1⟩ : ∃ S, ba (Lib.itoa n) = S := ⟨_, rfl⟩
            have HS1 := hid hS1
            rw [hSA, hS1] at n1 n2 HT2
            rw [hSA]
            clear hSA hS1
            go_wp2_with (first
              | (go_at_call 15; refine Calls.mono (itoa_any n hni _ HL7.out) ?_; rintro ex w8 ⟨rfl, hb8⟩; rw [HS1.out]; have HB8 := hid hb8; clear hb8))
            go_roundw
            case rel => exact ⟨j + 1, HLJ.out, by go_num, by rw [← HT2.out], HB7.out.trans (HB8.out.mono HB7.out.size)⟩
            case measure => have := HLJ.out; simp [upN, intOf]; omega
          · obtain rfl : j = a.args.length := by omega
            have HB7 := hid hB7
            obtain ⟨b20, b21, b22, b23, b24, b25, b2f⟩ := row6 B7.out
            have HF7 := hid ((hB7.block w.heap.size (Array.getElem?_eq_some_iff.1 HF6.out).1).trans HF6.out)
            have HT2 : Hid (ba (A2 ++ wa (a.args.take a.args.length)) ++ ba a.text = ba (akBs (l.take (k + 1)))) := by
              show _ = _
              rw [ba_app, HT.out, HTT.out]
            rw [← ba_size] at hln
            have hst := ba_size a.text
            have n1 : ¬ 9223372036854775807 < (ba (A2 ++ wa (a.args.take a.args.length))).size + (ba a.text).size := by omega
            clear hlj hjl hB7 hln hst
            obtain ⟨SA, hSA⟩ : ∃ S, ba (A2 ++ wa (a.args.take a.args.length)) = S := ⟨_, rfl⟩
            rw [hSA] at n1 HT2
            rw [hSA]
            clear hSA
            go_wp2
            go_roundw
            case rel => exact ⟨k + 1, HL.out, by go_num, by rw [← HT2.out], HK6.out.trans (HB7.out.mono HK6.out.size), HF7.out, HM.out HW.out⟩
            case measure => have := HL.out; simp [upN, intOf]; omega
      · have HW := hid hw
        have hwb : (akW a != 0) = true := by simpa using hw
        go_wp2_with (first
          | (go_at_call 7; refine Calls.mono (wrongAsk_any a q cq _) ?_; rintro ex w2 ⟨rfl, hb2⟩; have HK2 := hid (HK1.out.trans (hb2.mono hbw1)); have f2 := (hb2.block w.heap.size (Array.getElem?_eq_some_iff.1 HF1.out).1).trans HF1.out; obtain ⟨f20, f21, f2f⟩ := row2 f2; have HF2 := hid f2; clear hb2 f2))
        obtain ⟨z0, z1⟩ := fin2 HF2.out (.int .i64 (akW a)) (.int .i64 (k : Int))
        have hb9 := (HK2.out.setCell (p := ⟨w.heap.size, 0, none⟩) (Nat.le_refl _) (.int .i64 (akW a))).setCell (p := ⟨w.heap.size, 1, none⟩) (Nat.le_refl _) (.int .i64 (k : Int))
        generalize (w2.setCell ⟨w.heap.size, 0, none⟩ (.int .i64 (akW a))).setCell ⟨w.heap.size, 1, none⟩ (.int .i64 (k : Int)) = w9 at *
        exact bodyPost_ret (v := .tuple #[.slice none 0 0, faV (akW a) (k : Int)]) (by simp [results, Tryd.results9, go_sem, z0, z1, faV]) rfl ⟨_, _, _, rfl, hb9, by rw [HE.out HW.out]; exact ⟨rfl, rfl, rfl⟩⟩
    · obtain rfl : k = l.length := by omega
      rw [List.take_length] at hall
      have HX2 : Hid (X = .inl (akBs l)) := by show _ = _; rw [← HX.out]; exact fb_ok hall
      obtain ⟨d0, d1, df⟩ := row2 hF
      have HF := hid hF
      have HK := hid hK
      have hlen : (akBs l).length ≤ 5000 * l.length := akBs_len (fun x hx => ⟨hall x hx, hok x hx⟩)
      rw [List.take_length]
      clear hK hF hlt hkl hall
      obtain ⟨cap, w8, hcv, hcl, hb8, hs8, hby8⟩ := conv_any wr (akBs l)
      have hf8 := (hb8.block w.heap.size (Array.getElem?_eq_some_iff.1 HF.out).1).trans HF.out
      obtain ⟨e0, e1, ef⟩ := row2 hf8
      have HF8 := hid hf8
      have HB8 := hid (HK.out.trans (hb8.mono HK.out.size))
      have HBY := hid hby8
      have HCL := hid hcl
      have HS8 := hid hs8
      clear hf8 hb8 hby8 hcl hs8 hlen
      go_wp2
      obtain ⟨z0, z1⟩ := fin2 HF8.out (.int .i64 0) (.int .i64 0)
      have hb9 := (HB8.out.setCell (p := ⟨w.heap.size, 0, none⟩) (Nat.le_refl _) (.int .i64 0)).setCell (p := ⟨w.heap.size, 1, none⟩) (Nat.le_refl _) (.int .i64 0)
      have hO9 : 0 < (akBs l).length → wr.heap.size ≠ w.heap.size → Byt ((w8.setCell ⟨w.heap.size, 0, none⟩ (.int .i64 0)).setCell ⟨w.heap.size, 1, none⟩ (.int .i64 0)) wr.heap.size 0 (akBs l) := fun _ hn => HBY.out.kept ((Below.heap_setCell _ _ _ _ hn).trans (Below.heap_setCell _ _ _ _ hn))
      have hsz9 : ((w8.setCell ⟨w.heap.size, 0, none⟩ (.int .i64 0)).setCell ⟨w.heap.size, 1, none⟩ (.int .i64 0)).heap.size = w8.heap.size := by simp
      have hne : wr.heap.size ≠ w.heap.size := by have := (Array.getElem?_eq_some_iff.1 HF.out).1; omega
      generalize (w8.setCell ⟨w.heap.size, 0, none⟩ (.int .i64 0)).setCell ⟨w.heap.size, 1, none⟩ (.int .i64 0) = w9 at *
      refine bodyPost_ret (v := .tuple #[.slice (some ⟨wr.heap.size, 0, none⟩) (akBs l).length cap, faV 0 0]) (by simp [results, Tryd.results9, go_sem, z0, z1, faV]) rfl ⟨_, _, _, rfl, hb9, by rw [HX2.out]; exact ⟨rfl, rfl, some ⟨wr.heap.size, 0, none⟩, cap, rfl, HCL.out, nofun, fun hp => ⟨_, 0, rfl, by have := HS8.out; omega, hO9 hp hne⟩⟩⟩
end Go.Proofs.YtbkihppmikjcoaaDoor

/- An edit among the arguments: how it is read. -/
import Derived.Test.YtdpjhemddigpiabGreatDoorZb12
import Derived.Deep.Strs
import Derived.ShutString
import Derived.SizedLaws
namespace Go.Proofs.YtdpjhemddigpiabGreatDoor
open Go.ChangeShapes Go.WideShapes Go.ChangeAt Go.RowKit Go.Deep
open Go.ChangeMaps (open_string shut_string)
theorem cellsEd : Tryz.prog.cellsOf 23 = 3 := by kernel_rfl
theorem cellsIn : Tryz.prog.cellsOf 3 = 1 := by kernel_rfl
theorem cellsSt : Tryz.prog.cellsOf 9 = 1 := by kernel_rfl
set_option maxRecDepth 100000 in
theorem edit_open {H : Type} {enc : TypeId × Value → H} {W : World} {base : Nat} {v : Value} {d : DataW H} {p : List MemPlace} {sp : Nat → Bool} (hv : Value.okWide Tryz.prog W .any base 23 v) (h : DataW.Trod enc Tryz.prog W 0 sp true 23 v d p) :
    ∃ (a b : Int) (x : ByteArray), v = .agg #[.int .i64 a, .int .i64 b, .string x] ∧ d = .agg [.lit (.int .i64 a), .lit (.int .i64 b), .lit (.string x.data.toList)] ∧ p = [] ∧ (Lit.int .i64 a).wf = true ∧ (Lit.int .i64 b).wf = true ∧ x.size ≤ maxLen := by
  obtain ⟨cs, rfl, hsz⟩ := okWide_struct Tryz.underlying23 hv
  rw [cellsEd] at hsz
  obtain ⟨l⟩ := cs
  match l, hsz with
  | [c0, c1, c2], _ =>
  obtain ⟨fuel, hf⟩ := h
  obtain ⟨y0, y1, y2, m, hx, _, hy0, hy1, hy2⟩ := trod_struct3 Tryz.underlying23 hf
  obtain ⟨a, e0, rfl, wa⟩ := DataW.trod_int Tryz.underlying3 hy0
  obtain ⟨b, e1, rfl, wb⟩ := DataW.trod_int Tryz.underlying3 hy1
  obtain ⟨x, e2, rfl, wx⟩ := DataW.trod_string Tryz.underlying9 hy2
  simp [Value.cells, cellsIn, cellsSt] at e0 e1 e2
  subst e0 e1 e2
  simp only [Prod.mk.injEq] at hx
  obtain ⟨rfl, rfl⟩ := hx
  exact ⟨a, b, x, rfl, rfl, rfl, wa, wb, wx⟩
set_option maxRecDepth 100000 in
theorem edit_reads {H : Type} {enc : TypeId × Value → H} (W : World) (sp : Nat → Bool) (base : Nat) (held : Bool) (a b : Int) (x : ByteArray) (wa : (Lit.int .i64 a).wf = true) (wb : (Lit.int .i64 b).wf = true) (wx : x.size ≤ maxLen) :
    DataW.Trod enc Tryz.prog W base sp held 23 (.agg #[.int .i64 a, .int .i64 b, .string x]) (.agg [.lit (.int .i64 a), .lit (.int .i64 b), .lit (.string x.data.toList)]) [] := ⟨2, by
  have f0 : DataW.trod enc Tryz.prog W base sp held 1 3 [.int .i64 a] = some (.lit (.int .i64 a), []) := by simp [DataW.trod, Tryz.underlying3, wa]
  have f1 : DataW.trod enc Tryz.prog W base sp held 1 3 [.int .i64 b] = some (.lit (.int .i64 b), []) := by simp [DataW.trod, Tryz.underlying3, wb]
  have f2 : DataW.trod enc Tryz.prog W base sp held 1 9 [.string x] = some (.lit (.string x.data.toList), []) := by simp [DataW.trod, Tryz.underlying9, wx]
  have := trod_struct3_mk (enc := enc) (w := W) (base := base) (spare := sp) (held := held) (n := 1) (cs := [.int .i64 a, .int .i64 b, .string x]) Tryz.underlying23 (by simp [cellsEd]) (by simpa [cellsIn] using f0) (by simpa [cellsIn] using f1) (by simpa [cellsSt] using f2)
  simpa [Value.cells] using this⟩
set_option maxRecDepth 100000 in
theorem edit_sized {H : Type} {ds : List (DataW H)} {ts : List TypeId} {s : List UInt8} {a b : Int} {x : ByteArray} (h : (DataW.weightsEach Tryz.prog (9 :: 23 :: ts) (.lit (.string s) :: .agg [.lit (.int .i64 a), .lit (.int .i64 b), .lit (.string x.data.toList)] :: ds)).all (· ≤ reachBytes) = true) : s.length ≤ 140737488355328 ∧ x.size ≤ 140737488355328 := by
  have h0 := sized_string h (j := 0) rfl rfl
  have h1 := List.all_eq_true.1 h x.data.toList.length (DataW.weights_mem_each (j := 1) rfl rfl _ (by simp [DataW.weights, DataW.weightsEach, Tryz.underlying23]))
  have e : x.data.toList.length = x.size := by rw [Array.length_toList]; rfl
  simp only [decide_eq_true_eq] at h1
  unfold reachBytes at h0 h1
  omega
end Go.Proofs.YtdpjhemddigpiabGreatDoor

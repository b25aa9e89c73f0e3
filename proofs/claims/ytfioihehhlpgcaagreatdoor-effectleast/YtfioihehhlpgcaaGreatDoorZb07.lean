/- Texts of this seat, one behind the other: Shelf, LndE, LndF, LndG, LndH, LndI, LndJ, LndK, LndL, LndM, LndN. -/
import Derived.Shelf.Strconv.AtoiAll
import Derived.Test.YtfioihehhlpgcaaGreatDoorProg
import Derived.Test.YtfioihehhlpgcaaGreatDoorZb06
import Derived.Test.YtfioihehhlpgcaaGreatDoorZb01b
import Derived.Lib.SmallJoins
import Derived.Deep.RegionHeld3
import Derived.BigRegion
namespace Go.Proofs
open Go.Shelf
def Tryz.laysAtoi_ren : Go.Shelf.Ren := ⟨fun | 172 => 211 | 244 => 213 | 245 => 214 | 247 => 215 | 279 => 216 | 280 => 217 | 281 => 218 | 282 => 219 | 287 => 220 | 316 => 143 | 171 => 222 | 205 => 221 | 321 => 223 | 322 => 224 | 243 => 225 | 246 => 226 | 283 => 227 | 284 => 228 | 285 => 229 | 286 => 230 | 129 => 121 | 317 => 231 | 318 => 232 | 319 => 233 | 320 => 234 | 337 => 235 | 338 => 236 | n => n, fun | 9 => 9 | 3 => 3 | 75 => 251 | 76 => 252 | 4 => 4 | 5 => 5 | 167 => 256 | 37 => 229 | 0 => 0 | 85 => 257 | 2 => 2 | 168 => 259 | 53 => 192 | 175 => 262 | 46 => 155 | 210 => 265 | 127 => 230 | 145 => 271 | 143 => 269 | 21 => 21 | 171 => 273 | 173 => 275 | 212 => 277 | 51 => 190 | 20 => 20 | 213 => 278 | 232 => 279 | 233 => 280 | 80 => 211 | n => n, fun | 15 => 1 | 16 => 2 | 17 => 3 | 18 => 4 | 19 => 5 | n => n⟩
theorem Tryz.laysAtoi : Go.Proofs.LaysC.n172 Tryz.prog Tryz.laysAtoi_ren := {
  mixed := by kernel_rfl
  f129 := Tryz.func121.trans (congrArg some (by kernel_rfl))
  f171 := Tryz.func222.trans (congrArg some (by kernel_rfl))
  f172 := Tryz.func211.trans (congrArg some (by kernel_rfl))
  f205 := Tryz.func221.trans (congrArg some (by kernel_rfl))
  f243 := Tryz.func225.trans (congrArg some (by kernel_rfl))
  f244 := Tryz.func213.trans (congrArg some (by kernel_rfl))
  f245 := Tryz.func214.trans (congrArg some (by kernel_rfl))
  f246 := Tryz.func226.trans (congrArg some (by kernel_rfl))
  f247 := Tryz.func215.trans (congrArg some (by kernel_rfl))
  f279 := Tryz.func216.trans (congrArg some (by kernel_rfl))
  f280 := Tryz.func217.trans (congrArg some (by kernel_rfl))
  f281 := Tryz.func218.trans (congrArg some (by kernel_rfl))
  f282 := Tryz.func219.trans (congrArg some (by kernel_rfl))
  f283 := Tryz.func227.trans (congrArg some (by kernel_rfl))
  f284 := Tryz.func228.trans (congrArg some (by kernel_rfl))
  f285 := Tryz.func229.trans (congrArg some (by kernel_rfl))
  f286 := Tryz.func230.trans (congrArg some (by kernel_rfl))
  f287 := Tryz.func220.trans (congrArg some (by kernel_rfl))
  f316 := Tryz.func143.trans (congrArg some (by kernel_rfl))
  f317 := Tryz.func231.trans (congrArg some (by kernel_rfl))
  f318 := Tryz.func232.trans (congrArg some (by kernel_rfl))
  f319 := Tryz.func233.trans (congrArg some (by kernel_rfl))
  f320 := Tryz.func234.trans (congrArg some (by kernel_rfl))
  f321 := Tryz.func223.trans (congrArg some (by kernel_rfl))
  f322 := Tryz.func224.trans (congrArg some (by kernel_rfl))
  f337 := Tryz.func235.trans (congrArg some (by kernel_rfl))
  f338 := Tryz.func236.trans (congrArg some (by kernel_rfl))
  t0 := Tryz.underlying0
  a0 := Tryz.isAgg0
  z0 := Tryz.sizeOf0
  v0 := Tryz.zeroValue0
  t2 := Tryz.underlying2
  a2 := Tryz.isAgg2
  z2 := Tryz.sizeOf2
  v2 := Tryz.zeroValue2
  t3 := Tryz.underlying3
  a3 := Tryz.isAgg3
  z3 := Tryz.sizeOf3
  v3 := Tryz.zeroValue3
  t4 := Tryz.underlying4
  a4 := Tryz.isAgg4
  z4 := Tryz.sizeOf4
  v4 := Tryz.zeroValue4
  t5 := Tryz.underlying5
  a5 := Tryz.isAgg5
  z5 := Tryz.sizeOf5
  v5 := Tryz.zeroValue5
  t9 := Tryz.underlying9
  a9 := Tryz.isAgg9
  z9 := Tryz.sizeOf9
  v9 := Tryz.zeroValue9
  t20 := Tryz.underlying20
  a20 := Tryz.isAgg20
  z20 := Tryz.sizeOf20
  v20 := Tryz.zeroValue20
  t21 := Tryz.underlying21
  a21 := Tryz.isAgg21
  z21 := Tryz.sizeOf21
  v21 := Tryz.zeroValue21
  t37 := Tryz.underlying229
  a37 := Tryz.isAgg229
  z37 := Tryz.sizeOf229
  v37 := Tryz.zeroValue229
  t46 := Tryz.underlying155
  a46 := Tryz.isAgg155
  z46 := Tryz.sizeOf155
  v46 := Tryz.zeroValue155
  t51 := Tryz.underlying190
  a51 := Tryz.isAgg190
  z51 := Tryz.sizeOf190
  v51 := Tryz.zeroValue190
  t53 := Tryz.underlying192
  a53 := Tryz.isAgg192
  z53 := Tryz.sizeOf192
  v53 := Tryz.zeroValue192
  t75 := Tryz.underlying251
  a75 := Tryz.isAgg251
  z75 := Tryz.sizeOf251
  v75 := Tryz.zeroValue251
  t76 := Tryz.underlying252
  a76 := Tryz.isAgg252
  z76 := Tryz.sizeOf252
  v76 := Tryz.zeroValue252
  t85 := Tryz.underlying257
  a85 := Tryz.isAgg257
  z85 := Tryz.sizeOf257
  v85 := Tryz.zeroValue257
  t127 := Tryz.underlying230
  a127 := Tryz.isAgg230
  z127 := Tryz.sizeOf230
  v127 := Tryz.zeroValue230
  t143 := Tryz.underlying269
  a143 := Tryz.isAgg269
  z143 := Tryz.sizeOf269
  v143 := Tryz.zeroValue269
  t145 := Tryz.underlying271
  a145 := Tryz.isAgg271
  z145 := Tryz.sizeOf271
  v145 := Tryz.zeroValue271
  t167 := Tryz.underlying256
  a167 := Tryz.isAgg256
  z167 := Tryz.sizeOf256
  v167 := Tryz.zeroValue256
  t168 := Tryz.underlying259
  a168 := Tryz.isAgg259
  z168 := Tryz.sizeOf259
  v168 := Tryz.zeroValue259
  t171 := Tryz.underlying273
  a171 := Tryz.isAgg273
  z171 := Tryz.sizeOf273
  v171 := Tryz.zeroValue273
  t173 := Tryz.underlying275
  a173 := Tryz.isAgg275
  z173 := Tryz.sizeOf275
  v173 := Tryz.zeroValue275
  t175 := Tryz.underlying262
  a175 := Tryz.isAgg262
  z175 := Tryz.sizeOf262
  v175 := Tryz.zeroValue262
  t210 := Tryz.underlying265
  a210 := Tryz.isAgg265
  z210 := Tryz.sizeOf265
  v210 := Tryz.zeroValue265
  t212 := Tryz.underlying277
  a212 := Tryz.isAgg277
  z212 := Tryz.sizeOf277
  v212 := Tryz.zeroValue277
  t213 := Tryz.underlying278
  a213 := Tryz.isAgg278
  z213 := Tryz.sizeOf278
  t232 := Tryz.underlying279
  a232 := Tryz.isAgg279
  z232 := Tryz.sizeOf279
  v232 := Tryz.zeroValue279
  t233 := Tryz.underlying280
  a233 := Tryz.isAgg280
  z233 := Tryz.sizeOf280
  v233 := Tryz.zeroValue280
  g15 := by kernel_rfl
  g16 := by kernel_rfl
  g17 := by kernel_rfl
  g18 := by kernel_rfl
  g19 := by kernel_rfl
  t80 := Tryz.underlying211
  a80 := Tryz.isAgg211
  z80 := Tryz.sizeOf211
  v80 := Tryz.zeroValue211
  i0 := by kernel_rfl
  i2 := by kernel_rfl
  i3 := by kernel_rfl
  i4 := by kernel_rfl
  i5 := by kernel_rfl
  i9 := by kernel_rfl
  i20 := by kernel_rfl
  i21 := by kernel_rfl
  i37 := by kernel_rfl
  i46 := by kernel_rfl
  i51 := by kernel_rfl
  i53 := by kernel_rfl
  i75 := by kernel_rfl
  i76 := by kernel_rfl
  i80 := by kernel_rfl
  i85 := by kernel_rfl
  i127 := by kernel_rfl
  i143 := by kernel_rfl
  i145 := by kernel_rfl
  i167 := by kernel_rfl
  i168 := by kernel_rfl
  i171 := by kernel_rfl
  i173 := by kernel_rfl
  i175 := by kernel_rfl
  i210 := by kernel_rfl
  i212 := by kernel_rfl
  i232 := by kernel_rfl
  i233 := by kernel_rfl
  m15 := by kernel_rfl
  m16 := by kernel_rfl
  m17 := by kernel_rfl
  m18 := by kernel_rfl
  m19 := by kernel_rfl
  c0 := by kernel_rfl
  c2 := by kernel_rfl
  c3 := by kernel_rfl
  c4 := by kernel_rfl
  c5 := by kernel_rfl
  c9 := by kernel_rfl
  c20 := by kernel_rfl
  c21 := by kernel_rfl
  c37 := by kernel_rfl
  c46 := by kernel_rfl
  c51 := by kernel_rfl
  c53 := by kernel_rfl
  c75 := by kernel_rfl
  c76 := by kernel_rfl
  c80 := by kernel_rfl
  c85 := by kernel_rfl
  c127 := by kernel_rfl
  c143 := by kernel_rfl
  c145 := by kernel_rfl
  c167 := by kernel_rfl
  c168 := by kernel_rfl
  c171 := by kernel_rfl
  c173 := by kernel_rfl
  c175 := by kernel_rfl
  c210 := by kernel_rfl
  c212 := by kernel_rfl
  c213 := by kernel_rfl
  c232 := by kernel_rfl
  c233 := by kernel_rfl }
end Go.Proofs
namespace Go.Proofs.YtfioihehhlpgcaaGreatDoor
open Go.RowKit
attribute [local go_sem ↓] Go.wp_at_zero Go.wp_at_succ
/-- The blocks from B on that the reader leaves alone. -/
def okS (B gp : Nat) (D : Option Nat) (w : World) (k : Nat) : Prop := B ≤ k ∧ k < w.heap.size ∧ k ≠ gp ∧ some k ≠ D
theorem okS.step {B gp : Nat} {D D' : Option Nat} {w w' : World} (h : Stp gp D D' w w') : (∀ k, okS B gp D w k → w'.heap[k]? = w.heap[k]?) ∧ ∀ k, okS B gp D w k → okS B gp D' w' k := by
  refine ⟨fun k hk => h.block k hk.2.1 hk.2.2.1 hk.2.2.2, fun k hk => ⟨hk.1, Nat.lt_of_lt_of_le hk.2.1 h.size, hk.2.2.1, fun e => ?_⟩⟩
  rcases h.own with e2 | ⟨j, e2, hj⟩
  · exact hk.2.2.2 (by rw [e, e2])
  · rw [e2] at e; injection e with e; have := hk.2.1; omega
theorem RdE.step {n B gp : Nat} {D D' : Option Nat} {w w' : World} {e : Tr} {v : Value} (hr : RdE n (okS B gp D w) w e v) (h : Stp gp D D' w w') : RdE n (okS B gp D' w') w' e v := RdE.kept n (okS.step h).1 (okS.step h).2 e v hr
theorem RdE.base {n B B' gp : Nat} {D : Option Nat} {w : World} {e : Tr} {v : Value} (hr : RdE n (okS B gp D w) w e v) (h : B' ≤ B) : RdE n (okS B' gp D w) w e v := RdE.kept n (fun _ _ => rfl) (fun _ hk => ⟨Nat.le_trans h hk.1, hk.2⟩) e v hr
theorem RdE.set {n B gp : Nat} {D : Option Nat} {w : World} {e : Tr} {v : Value} (hr : RdE n (okS B gp D w) w e v) {b : Nat} (h : b < B) (o : Nat) (u : Value) : RdE n (okS B gp D (w.setCell ⟨b, o, none⟩ u)) (w.setCell ⟨b, o, none⟩ u) e v :=
  RdE.kept n (fun k hk => Below.heap_setCell w _ _ k (by have := hk.1; simp; omega)) (fun k hk => ⟨hk.1, by simpa using hk.2.1, hk.2.2⟩) e v hr
/-- What an expression looks like. -/
theorem RdE.shape {n : Nat} {ok : Nat → Prop} {w : World} {e : Tr} {v : Value} (h : RdE n ok w e v) : ∃ (k : Nat) (x : ByteArray) (m : Nat) (p : Option Addr) (l c : Nat), v = .agg #[.int .i64 (k : Int), .string x, .int .i64 (m : Int), .slice p l c, .int .i64 (exF e : Int), .int .i64 (exT e : Int)] := by
  cases n with
  | zero => exact h.elim
  | succ n =>
    obtain ⟨k, x, m, al, f, t, p, cap, he, hv, hs⟩ := h
    subst he
    exact ⟨k, x, m, p, al.length, cap, by rw [hv, exF_mk, exT_mk]⟩
/-- An expression was read: what was wrong is told, the expression lies in memory. -/
def ToldE (gp : Nat) (L : List Tok) (sz dp : Nat) (D : Option Nat) (ds : List Dg) (w w' : World) (r : R Tr) (v : Value) : Prop := ∃ D' n, PSt gp w' L sz r.i dp (ds ++ r.d) D' ∧ Stp gp D D' w w' ∧ RdE n (okS w.heap.size gp D' w') w' r.v v
theorem rd_none {ok : Nat → Prop} {w : World} (k : Nat) (x : ByteArray) (m f t : Nat) (p : Option Addr) (c : Nat) : RdE 1 ok w (exMk k x m [] f t) (.agg #[.int .i64 (k : Int), .string x, .int .i64 (m : Int), .slice p 0 c, .int .i64 (f : Int), .int .i64 (t : Int)]) :=
  ⟨k, x, m, [], f, t, p, c, rfl, rfl, by simp, fun h => absurd h (by simp)⟩

theorem bs1_iff (s : ByteArray) (c : UInt8) : s = bs1 c ↔ s.toList = [c] := by
  rw [Lib.toList_data]
  constructor
  · rintro rfl; rfl
  · intro h; exact bytes_inj (by rw [h]; rfl)
theorem beq_bs (x s : ByteArray) : (x.toList == s.toList) = decide (x = s) := by
  by_cases h : x = s
  · rw [(Lib.bytes_beq_iff _ _).2 h]; simp [h]
  · rw [(Lib.bytes_beq_false_iff _ _).2 h]; simp [h]
set_option maxHeartbeats 1000000 in
set_option maxRecDepth 100000 in
theorem binds_any (x : ByteArray) (w : World) : Calls Tryz.prog 207 #[.string x] w fun e w' => e = .returned (.int .i64 (tight x : Nat)) ∧ Below w.heap.size w w' := by
  go_enter Tryz.func207, Tryz.ntmps207
  go_wp2
  all_goals
    go_ret
    refine ⟨ret_int ?_, Below.refl _ _⟩
    unfold tight
    simp only [bs1_iff]
    simp_all
section
variable {gp : Nat} {w : World} {L : List Tok} {sz i dp : Nat} {ds : List Dg} {D : Option Nat}
set_option maxHeartbeats 1000000 in
set_option maxRecDepth 100000 in
theorem opensR_any (hp : PSt gp w L sz i dp ds D) :
    Calls Tryz.prog 204 #[.pointer (some ⟨gp, 0, none⟩)] w fun e w' => e = .returned (.bool (opB (tk L sz i))) ∧ Below w.heap.size w w' := by
  have hsz := hp.siz
  have htk := tk_small hp i
  have hx : (tk L sz i).x.size ≤ maxLen := by unfold maxLen; omega
  go_enter Tryz.func204, Tryz.ntmps204
  have HO : Hid (opB (tk L sz i) = (decide ((tk L sz i).k = 2) || nmB (tk L sz i).x || decide ((tk L sz i).x = bs1 40))) := rfl
  generalize opB (tk L sz i) = ob at *
  by_cases hk : (tk L sz i).k = 2
  · have hK : (((tk L sz i).k : Int) == 2) = true := by rw [hk]; rfl
    have HK : Hid ((tk L sz i).k = 2) := hk
    clear hk
    go_wp2_with (first
      | (go_at_call 146; refine (peek_any hp).mono ?_; rintro e w1 ⟨rfl, hb1⟩; unfold tkV; obtain ⟨q1, q2, q3, q4, q5⟩ := peekd hp hb1 (tk L sz i); obtain ⟨y0, y1, y2⟩ := tokSlot w1 (tk L sz i)))
    go_ret
    exact ⟨ret_bool (by rw [HO.out]; simp [HK.out]), q2⟩
  · have hK : (((tk L sz i).k : Int) == 2) = false := by simp; omega
    have HK : Hid (¬ (tk L sz i).k = 2) := hk
    clear hk
    cases hN : nmB (tk L sz i).x
    · have hB := beq_bs (tk L sz i).x (bs1 40)
      by_cases hP : (tk L sz i).x = bs1 40
      · have hb : ((tk L sz i).x.toList == [40]) = true := by rw [show ([40] : List UInt8) = (bs1 40).toList from by rw [Lib.toList_data]; rfl, hB]; simp [hP]
        have HP : Hid ((tk L sz i).x = bs1 40) := hP
        clear hP hB
        go_wp2_with (first
          | (go_at_call 146; refine (peek_any hp).mono ?_; rintro e w1 ⟨rfl, hb1⟩; unfold tkV; obtain ⟨q1, q2, q3, q4, q5⟩ := peekd hp hb1 (tk L sz i); obtain ⟨y0, y1, y2⟩ := tokSlot w1 (tk L sz i))
          | (go_at_call 169; refine (name_any _ _ hx).mono ?_; rintro e w2 ⟨rfl, hb2⟩; rw [hN]; have z1 := ((bcell hb2).1 w1.heap.size 1 (by simp)).trans y1))
        go_ret
        exact ⟨ret_bool (by rw [HO.out]; simp [HP.out]), q2.trans (hb2.mono q2.size)⟩
      · have hb : ((tk L sz i).x.toList == [40]) = false := by rw [show ([40] : List UInt8) = (bs1 40).toList from by rw [Lib.toList_data]; rfl, hB]; simp [hP]
        have HP : Hid (¬ (tk L sz i).x = bs1 40) := hP
        clear hP hB
        go_wp2_with (first
          | (go_at_call 146; refine (peek_any hp).mono ?_; rintro e w1 ⟨rfl, hb1⟩; unfold tkV; obtain ⟨q1, q2, q3, q4, q5⟩ := peekd hp hb1 (tk L sz i); obtain ⟨y0, y1, y2⟩ := tokSlot w1 (tk L sz i))
          | (go_at_call 169; refine (name_any _ _ hx).mono ?_; rintro e w2 ⟨rfl, hb2⟩; rw [hN]; have z1 := ((bcell hb2).1 w1.heap.size 1 (by simp)).trans y1))
        go_ret
        exact ⟨ret_bool (by rw [HO.out]; simp [HP.out, HK.out, hN]), q2.trans (hb2.mono q2.size)⟩
    · go_wp2_with (first
        | (go_at_call 146; refine (peek_any hp).mono ?_; rintro e w1 ⟨rfl, hb1⟩; unfold tkV; obtain ⟨q1, q2, q3, q4, q5⟩ := peekd hp hb1 (tk L sz i); obtain ⟨y0, y1, y2⟩ := tokSlot w1 (tk L sz i))
        | (go_at_call 169; refine (name_any _ _ hx).mono ?_; rintro e w2 ⟨rfl, hb2⟩; rw [hN]; have z1 := ((bcell hb2).1 w1.heap.size 1 (by simp)).trans y1))
      go_ret
      exact ⟨ret_bool (by rw [HO.out]; simp [hN]), q2.trans (hb2.mono q2.size)⟩
theorem PSt.drew (h : PSt gp w L sz i dp ds D) : PSt gp w.drew L sz i dp ds D := h.below (Below.refl _ _).drew
theorem Stp.drew {w' : World} {D' : Option Nat} (h : Stp gp D D' w w') : Stp gp D D' w w'.drew := ⟨h.os, h.tape, h.output, h.size, h.block, h.own⟩
/-- An expression is written into its place. -/
theorem six {w' : World} {D' : Option Nat} {b : Nat} (h : PSt gp w' L sz i dp ds D') (hs : Stp gp D D' w w') (hb : w.heap.size ≤ b) (h1 : gp < b) (h2 : some b ≠ D') (u0 u1 u2 u3 u4 u5 : Value) :
    PSt gp ((((((w'.setCell ⟨b, 0, none⟩ u0).setCell ⟨b, 1, none⟩ u1).setCell ⟨b, 2, none⟩ u2).setCell ⟨b, 3, none⟩ u3).setCell ⟨b, 4, none⟩ u4).setCell ⟨b, 5, none⟩ u5) L sz i dp ds D' ∧
    Stp gp D D' w ((((((w'.setCell ⟨b, 0, none⟩ u0).setCell ⟨b, 1, none⟩ u1).setCell ⟨b, 2, none⟩ u2).setCell ⟨b, 3, none⟩ u3).setCell ⟨b, 4, none⟩ u4).setCell ⟨b, 5, none⟩ u5) :=
  ⟨(((((h.set h1 h2 _ _).set h1 h2 _ _).set h1 h2 _ _).set h1 h2 _ _).set h1 h2 _ _).set h1 h2 _ _, (((((hs.set hb _ _).set hb _ _).set hb _ _).set hb _ _).set hb _ _).set hb _ _⟩
/-- The zero expression. -/
abbrev ex0 : Obj := .cells #[.int .i64 0, .string ⟨#[]⟩, .int .i64 0, .slice none 0 0, .int .i64 0, .int .i64 0] 91
set_option maxHeartbeats 1000000 in
set_option maxRecDepth 100000 in
theorem none_any (hp : PSt gp w L sz i dp ds D) (e0 : Nat) (hds : ds.length + 1 ≤ 1099511627776) :
    Calls Tryz.prog 205 #[.pointer (some ⟨gp, 0, none⟩), .int .i64 (e0 : Int)] w fun e w' => ∃ v, e = .returned v ∧ ToldE gp L sz dp D ds w w' ⟨exNo L sz i, i, [bad L sz i e0]⟩ v := by
  have hb0 := (Below.refl w.heap.size w).alloc (Nat.le_refl _) (.cells #[.int .i64 0, .string ⟨#[]⟩, .int .i64 0, .slice none 0 0, .int .i64 0, .int .i64 0] 91)
  have hp0 := hp.below hb0
  have hfr := hp.fresh (Nat.le_refl w.heap.size)
  have hfd := fun w2 => (tkField (tk L sz i) w2).2.2
  go_enter Tryz.func205, Tryz.ntmps205
  go_wp2_with (first
    | (go_at_call 108; refine (tell_any hp0 e0 hds).mono ?_; rintro e w1 ⟨rfl, D1, hp1, hs1⟩)
    | (go_at_call 146; refine (peek_any hp1).mono ?_; rintro e w2 ⟨rfl, hb2⟩; unfold tkV; replace hp1 := hp1.below hb2; replace hs1 := hs1.trans (Stp.below hb2); obtain ⟨hl1, hl2, hl3⟩ := slot (hs1.block w.heap.size (by simp) (by omega) hfr.2); have hl4 := hl3 0 _ rfl; have hl5 := hl3 1 _ rfl; have hl6 := hl3 2 _ rfl; have hl7 := hl3 3 _ rfl; have hl8 := hl3 4 _ rfl; have hl9 := hl3 5 _ rfl; clear hl3))
  have hn1 := hfr.1
  have hn2 := hs1.fresh (b := w.heap.size) (by simp) hfr.2
  refine bodyPost_ret (v := .agg #[.int .i64 5, .string ⟨#[]⟩, .int .i64 0, .slice none 0 0, .int .i64 ((tk L sz i).a : Int), .int .i64 ((tk L sz i).a : Int)]) (by simp [results, Tryz.results205, go_sem, hl4, hl5, hl6, hl7, hl8, hl9]) rfl ⟨_, rfl, D1, 1, ?_, ?_, rd_none 5 noB 0 _ _ none 0⟩
  · exact (((((hp1.set hn1 hn2 _ _).set hn1 hn2 _ _).set hn1 hn2 _ _).set hn1 hn2 _ _).set hn1 hn2 _ _).set hn1 hn2 _ _
  · exact ((((((Stp.below hb0).trans hs1).set (Nat.le_refl _) _ _).set (Nat.le_refl _) _ _).set (Nat.le_refl _) _ _).set (Nat.le_refl _) _ _).set (Nat.le_refl _) _ _ |>.set (Nat.le_refl _) _ _
end
end Go.Proofs.YtfioihehhlpgcaaGreatDoor
namespace Go.Proofs.YtfioihehhlpgcaaGreatDoor
open Go.RowKit Go.Shelf
attribute [local go_sem ↓] Go.wp_at_zero Go.wp_at_succ
theorem atoi_ok (s : ByteArray) (hs : s.size ≤ 1099511627776) (v : Nat) (h : Lib.atoiAll s.data.toList = .ok (v : Int)) (w : World) :
    Calls Tryz.prog 211 #[.string s] w fun e w' => e = .returned (.tuple #[.int .i64 (v : Int), .nilIface]) ∧ Below w.heap.size w w' := by
  refine (show Calls Tryz.prog 211 #[.string s] w _ from Any.strconv_Atoi_ok Tryz.laysAtoi s (by omega) v h w).mono ?_
  rintro e w' ⟨rfl, rfl | ⟨t, rfl⟩⟩
  · exact ⟨rfl, Below.refl _ _⟩
  · exact ⟨rfl, ⟨rfl, rfl, rfl, by rw [Lib.bytesWorld_size]; omega, fun j hj => Lib.bytesWorld_at_old w _ t j hj⟩⟩
theorem atoi_range (s : ByteArray) (hs : s.size ≤ 1099511627776) (h : Lib.atoiAll s.data.toList = .range) (w : World) (hv : VarOk w) :
    Calls Tryz.prog 211 #[.string s] w fun e w' => ∃ v t p, e = .returned (.tuple #[.int .i64 v, .iface t p]) ∧ Below w.heap.size w w' := by
  obtain ⟨ev, h1, h2⟩ := hv
  refine (show Calls Tryz.prog 211 #[.string s] w _ from Any.strconv_Atoi_range Tryz.laysAtoi s (by omega) h ev w h1 h2).mono ?_
  rintro e w' ⟨N, rfl, _, _, hb⟩
  exact ⟨_, _, _, rfl, hb⟩
section
variable {gp : Nat} {w : World} {L : List Tok} {sz i dp : Nat} {ds : List Dg} {D : Option Nat}
theorem tk_digits (hp : PSt gp w L sz i dp ds D) (h : (tk L sz i).k = 2) : i < L.length ∧ (tk L sz i).x.data.toList ≠ [] ∧ ∀ c ∈ (tk L sz i).x.data.toList, 48 ≤ c.toNat ∧ c.toNat ≤ 57 := by
  have hl : i < L.length := by
    rcases Nat.lt_or_ge i L.length with h1 | h1
    · exact h1
    · rw [tok_no h1] at h; cases h
  obtain ⟨_, h2, h3, _⟩ := hp.end_ _ (List.mem_of_getElem? (tok_of (sz := sz) hl))
  refine ⟨hl, ?_, fun c hc => ?_⟩
  · intro e
    have h4 := h2.1
    have h5 : (tk L sz i).x.size = (tk L sz i).x.data.toList.length := rfl
    rw [h5, e] at h4
    exact absurd h4 (by simp)
  · obtain ⟨j, hj, e⟩ := List.getElem_of_mem hc
    have hj2 : j < (tk L sz i).x.size := hj
    have := h3 h j hj2
    unfold byt at this
    rw [List.getD_eq_getElem?_getD, List.getElem?_eq_getElem hj, e] at this
    simpa [dgt] using this
set_option maxHeartbeats 1000000 in
set_option maxRecDepth 100000 in
theorem number_any (hp : PSt gp w L sz i dp ds D) (hk : (tk L sz i).k = 2) (hds : ds.length + 1 ≤ 1099511627776) (r : R Tr)
    (hr : r = if 1000000000 < num (tk L sz i).x.data.toList 0 then ⟨exMk 1 noB 0 [] (tk L sz i).a ((tk L sz i).a + (tk L sz i).x.size), i + 1, [bad L sz i 3]⟩
      else ⟨exMk 1 noB (num (tk L sz i).x.data.toList 0) [] (tk L sz i).a ((tk L sz i).a + (tk L sz i).x.size), i + 1, []⟩) :
    Calls Tryz.prog 209 #[.pointer (some ⟨gp, 0, none⟩)] w fun e w' => ∃ v, e = .returned v ∧ ToldE gp L sz dp D ds w w' r v := by
  obtain ⟨hil, hne, hdg⟩ := tk_digits hp hk
  have hsiz := hp.siz
  have htk := tk_small hp i
  have hgp := hp.gp_lt
  have hb0 := (Below.refl w.heap.size w).alloc (Nat.le_refl _) (.cells #[.int .i64 0, .string ⟨#[]⟩, .int .i64 0, .slice none 0 0, .int .i64 0, .int .i64 0] 91)
  have hp0 := hp.below hb0
  have hfr := hp.fresh (Nat.le_refl w.heap.size)
  have hfd := fun w2 => (tkField (tk L sz i) w2).2.1
  have hend : endT L sz (i + 1) = (tk L sz i).a + (tk L sz i).x.size := by unfold endT; rw [if_neg (by omega), Nat.add_sub_cancel]
  have hxs : (tk L sz i).x.size ≤ 1099511627776 := by omega
  have HR : Hid (r = _) := hr
  clear hr hk
  go_enter Tryz.func209, Tryz.ntmps209
  rcases atoi_num _ hne hdg with ⟨v, hok, hv63, hv1, hv2⟩ | ⟨hrg, hv2⟩
  · by_cases hbig : v ≤ 1000000000
    · have HV : Hid (num (tk L sz i).x.data.toList 0 = v) := hv1 hbig
      clear hv1 hv2 hdg hne
      go_wp2_with (first
        | (go_at_call 146; refine (peek_any hp0).mono ?_; rintro e w1 ⟨rfl, hb1⟩; unfold tkV; have hp1 := hp0.below hb1)
        | (go_at_call 211; refine (atoi_ok _ hxs v hok w1).mono ?_; rintro e w2 ⟨rfl, hb2⟩; have hp2 := hp1.below hb2; have hs2 := (Stp.below (gp := gp) (D := D) hb1).trans (Stp.below hb2))
        | (go_at_call 145; refine (pass_any hp2 hil).mono ?_; rintro e w3 ⟨rfl, hp3, hs3⟩; unfold tkV; replace hs3 := hs2.trans hs3; obtain ⟨q1, q2, q3, q4, q5⟩ := peekd hp3 (Below.refl _ _) (tk L sz i); obtain ⟨y0, y1, y2⟩ := tokSlot w3 (tk L sz i); obtain ⟨p0, cc, vv, c0, c1, c2, c3, c4, c5, hf, htok, hown, hDD⟩ := q1.cells; clear htok hown hDD; obtain ⟨l1, l2, l3⟩ := slot (hs3.block w.heap.size (by simp) (by omega) hfr.2); have r0 := cell_alloc (l3 0 _ rfl); have r1 := cell_alloc (l3 1 _ rfl); have r2 := cell_alloc (l3 2 _ rfl); have r3 := cell_alloc (l3 3 _ rfl); have r4 := cell_alloc (l3 4 _ rfl); have r5 := cell_alloc (l3 5 _ rfl); have hz : w.heap.size + 1 ≤ w3.heap.size := (by simpa using hs3.size); have l4 : ∀ o k, (w3.alloc o).frozen? ⟨w.heap.size, k, none⟩ = false := (fun o k => frozen_alloc (l2 k) (show w.heap.size < w3.heap.size by omega) o); clear l1 l2 l3; have hn1 : ¬ w3.heap.size = gp := (by omega); have hn2 : ¬ gp = w3.heap.size := (by omega); have hn3 : ¬ w3.heap.size = w.heap.size := (by omega); have hn4 : ¬ w.heap.size = w3.heap.size := (by omega); have hn5 : ¬ w.heap.size = gp := (by omega)))
      go_region
      go_wp2
      have hn6 := hs3.fresh (b := w.heap.size) (by simp) hfr.2
      have hsx := six q1 (((Stp.below hb0).trans hs3).trans (Stp.below q2)) (Nat.le_refl _) hfr.1 hn6
      refine bodyPost_ret (v := .agg #[.int .i64 1, .string ⟨#[]⟩, .int .i64 (v : Int), .slice none 0 0, .int .i64 ((tk L sz i).a : Int), .int .i64 ((tk L sz i).a + (tk L sz i).x.size : Int)]) (by simp [results, Tryz.results209, go_sem, r0, r1, r2, r3, r4, r5]) rfl ⟨_, rfl, D, 1, ?_, ?_, ?_⟩
      · rw [HR.out, if_neg (by rw [HV.out]; omega), HV.out]
        simpa using (hsx _ _ _ _ _ _).1.drew
      · exact (hsx _ _ _ _ _ _).2.drew
      · rw [HR.out, if_neg (by rw [HV.out]; omega), HV.out]
        exact rd_none 1 noB v _ _ none 0
    · have HV : Hid (1000000000 < num (tk L sz i).x.data.toList 0) := hv2 (by omega)
      have hbig2 : (1000000000 : Int) < (v : Int) := by omega
      clear hv1 hv2 hdg hne hbig
      go_wp2_with (first
        | (go_at_call 146; refine (peek_any hp0).mono ?_; rintro e w1 ⟨rfl, hb1⟩; unfold tkV; have hp1 := hp0.below hb1)
        | (go_at_call 211; refine (atoi_ok _ hxs v hok w1).mono ?_; rintro e w2 ⟨rfl, hb2⟩; have hp2 := hp1.below hb2; have hs2 := (Stp.below (gp := gp) (D := D) hb1).trans (Stp.below hb2))
        | (go_at_call 108; refine (tell_any hp2 3 hds).mono ?_; rintro e w5 ⟨rfl, D5, hp5, hs5⟩; clear hp2; have hp2 := hp5; replace hs2 := hs2.trans hs5)
        | (go_at_call 145; refine (pass_any hp2 hil).mono ?_; rintro e w3 ⟨rfl, hp3, hs3⟩; unfold tkV; replace hs3 := hs2.trans hs3; obtain ⟨q1, q2, q3, q4, q5⟩ := peekd hp3 (Below.refl _ _) (tk L sz i); obtain ⟨y0, y1, y2⟩ := tokSlot w3 (tk L sz i); obtain ⟨p0, cc, vv, c0, c1, c2, c3, c4, c5, hf, htok, hown, hDD⟩ := q1.cells; clear htok hown hDD; obtain ⟨l1, l2, l3⟩ := slot (hs3.block w.heap.size (by simp) (by omega) hfr.2); have r0 := cell_alloc (l3 0 _ rfl); have r1 := cell_alloc (l3 1 _ rfl); have r2 := cell_alloc (l3 2 _ rfl); have r3 := cell_alloc (l3 3 _ rfl); have r4 := cell_alloc (l3 4 _ rfl); have r5 := cell_alloc (l3 5 _ rfl); have hz : w.heap.size + 1 ≤ w3.heap.size := (by simpa using hs3.size); have l4 : ∀ o k, (w3.alloc o).frozen? ⟨w.heap.size, k, none⟩ = false := (fun o k => frozen_alloc (l2 k) (show w.heap.size < w3.heap.size by omega) o); clear l1 l2 l3; have hn1 : ¬ w3.heap.size = gp := (by omega); have hn2 : ¬ gp = w3.heap.size := (by omega); have hn3 : ¬ w3.heap.size = w.heap.size := (by omega); have hn4 : ¬ w.heap.size = w3.heap.size := (by omega); have hn5 : ¬ w.heap.size = gp := (by omega)))
      go_region
      go_wp2
      have hn6 := hs3.fresh (b := w.heap.size) (by simp) hfr.2
      have hsx := six q1 (((Stp.below hb0).trans hs3).trans (Stp.below q2)) (Nat.le_refl _) hfr.1 hn6
      refine bodyPost_ret (v := .agg #[.int .i64 1, .string ⟨#[]⟩, .int .i64 (0 : Int), .slice none 0 0, .int .i64 ((tk L sz i).a : Int), .int .i64 ((tk L sz i).a + (tk L sz i).x.size : Int)]) (by simp [results, Tryz.results209, go_sem, r0, r1, r2, r3, r4, r5]) rfl ⟨_, rfl, D5, 1, ?_, ?_, ?_⟩
      · rw [HR.out, if_pos HV.out]
        simpa using (hsx _ _ _ _ _ _).1.drew
      · exact (hsx _ _ _ _ _ _).2.drew
      · rw [HR.out, if_pos HV.out]
        exact rd_none 1 noB 0 _ _ none 0
  · have HV : Hid (1000000000 < num (tk L sz i).x.data.toList 0) := hv2
    clear hv2 hdg hne
    go_wp2_with (first
      | (go_at_call 146; refine (peek_any hp0).mono ?_; rintro e w1 ⟨rfl, hb1⟩; unfold tkV; have hp1 := hp0.below hb1)
      | (go_at_call 211; refine (atoi_range _ hxs hrg w1 hp1.var_.2).mono ?_; rintro e w2 ⟨v, t, p, rfl, hb2⟩; have hp2 := hp1.below hb2; have hs2 := (Stp.below (gp := gp) (D := D) hb1).trans (Stp.below hb2))
      | (go_at_call 108; refine (tell_any hp2 3 hds).mono ?_; rintro e w5 ⟨rfl, D5, hp5, hs5⟩; clear hp2; have hp2 := hp5; replace hs2 := hs2.trans hs5)
      | (go_at_call 145; refine (pass_any hp2 hil).mono ?_; rintro e w3 ⟨rfl, hp3, hs3⟩; unfold tkV; replace hs3 := hs2.trans hs3; obtain ⟨q1, q2, q3, q4, q5⟩ := peekd hp3 (Below.refl _ _) (tk L sz i); obtain ⟨y0, y1, y2⟩ := tokSlot w3 (tk L sz i); obtain ⟨p0, cc, vv, c0, c1, c2, c3, c4, c5, hf, htok, hown, hDD⟩ := q1.cells; clear htok hown hDD; obtain ⟨l1, l2, l3⟩ := slot (hs3.block w.heap.size (by simp) (by omega) hfr.2); have r0 := cell_alloc (l3 0 _ rfl); have r1 := cell_alloc (l3 1 _ rfl); have r2 := cell_alloc (l3 2 _ rfl); have r3 := cell_alloc (l3 3 _ rfl); have r4 := cell_alloc (l3 4 _ rfl); have r5 := cell_alloc (l3 5 _ rfl); have hz : w.heap.size + 1 ≤ w3.heap.size := (by simpa using hs3.size); have l4 : ∀ o k, (w3.alloc o).frozen? ⟨w.heap.size, k, none⟩ = false := (fun o k => frozen_alloc (l2 k) (show w.heap.size < w3.heap.size by omega) o); clear l1 l2 l3; have hn1 : ¬ w3.heap.size = gp := (by omega); have hn2 : ¬ gp = w3.heap.size := (by omega); have hn3 : ¬ w3.heap.size = w.heap.size := (by omega); have hn4 : ¬ w.heap.size = w3.heap.size := (by omega); have hn5 : ¬ w.heap.size = gp := (by omega)))
    go_region
    go_wp2
    have hn6 := hs3.fresh (b := w.heap.size) (by simp) hfr.2
    have hsx := six q1 (((Stp.below hb0).trans hs3).trans (Stp.below q2)) (Nat.le_refl _) hfr.1 hn6
    refine bodyPost_ret (v := .agg #[.int .i64 1, .string ⟨#[]⟩, .int .i64 (0 : Int), .slice none 0 0, .int .i64 ((tk L sz i).a : Int), .int .i64 ((tk L sz i).a + (tk L sz i).x.size : Int)]) (by simp [results, Tryz.results209, go_sem, r0, r1, r2, r3, r4, r5]) rfl ⟨_, rfl, D5, 1, ?_, ?_, ?_⟩
    · rw [HR.out, if_pos HV.out]
      simpa using (hsx _ _ _ _ _ _).1.drew
    · exact (hsx _ _ _ _ _ _).2.drew
    · rw [HR.out, if_pos HV.out]
      exact rd_none 1 noB 0 _ _ none 0
end
end Go.Proofs.YtfioihehhlpgcaaGreatDoor
namespace Go.Proofs.YtfioihehhlpgcaaGreatDoor
open Go.RowKit
theorem six_at {w1 : World} {b : Nat} {u0 u1 u2 u3 u4 u5 : Value} {t : TypeId} (h : w1.heap[b]? = some (.cells #[u0, u1, u2, u3, u4, u5] t (0, 0))) :
    w1.cell? ⟨b, 0, none⟩ = some u0 ∧ w1.cell? ⟨b, 1, none⟩ = some u1 ∧ w1.cell? ⟨b, 2, none⟩ = some u2 ∧ w1.cell? ⟨b, 3, none⟩ = some u3 ∧ w1.cell? ⟨b, 4, none⟩ = some u4 ∧ w1.cell? ⟨b, 5, none⟩ = some u5 ∧ ∀ o, w1.frozen? ⟨b, o, none⟩ = false :=
  ⟨cell_of_row _ _ _ _ _ _ h, cell_of_row _ _ _ _ _ _ h, cell_of_row _ _ _ _ _ _ h, cell_of_row _ _ _ _ _ _ h, cell_of_row _ _ _ _ _ _ h, cell_of_row _ _ _ _ _ _ h, fun o => by simp [World.frozen?, h]⟩
theorem six_blk {w' : World} {b : Nat} {x0 x1 x2 x3 x4 x5 : Value} {t : TypeId} (h : w'.heap[b]? = some (.cells #[x0, x1, x2, x3, x4, x5] t (0, 0))) (u0 u1 u2 u3 u4 u5 : Value) :
    ((((((w'.setCell ⟨b, 0, none⟩ u0).setCell ⟨b, 1, none⟩ u1).setCell ⟨b, 2, none⟩ u2).setCell ⟨b, 3, none⟩ u3).setCell ⟨b, 4, none⟩ u4).setCell ⟨b, 5, none⟩ u5).heap[b]? = some (.cells #[u0, u1, u2, u3, u4, u5] t (0, 0)) := by
  simp [World.setCell, Array.getElem?_modify, h]
/-- A reading that hangs on the memory it speaks of alone. -/
def Kept {α : Type} (rd : (Nat → Prop) → World → α → Value → Prop) : Prop := ∀ (ok ok' : Nat → Prop) (w w' : World), (∀ k, ok k → w'.heap[k]? = w.heap[k]?) → (∀ k, ok k → ok' k) → ∀ a v, rd ok w a v → rd ok' w' a v
theorem kept_E (n : Nat) : Kept (RdE n) := fun _ _ _ _ h1 h2 a v h => RdE.kept n h1 h2 a v h
theorem kept_S (n : Nat) : Kept (RdS n) := fun _ _ _ _ h1 h2 a v h => RdS.kept n h1 h2 a v h
theorem own_kept {w w' : World} {base size n : Nat} {e : TypeId} {v : Value} {xs : List Value} (h : w.ownsRow base e size v n xs) (hg : ∀ g, v.ownBlock = some g → w'.heap[g]? = w.heap[g]?) : w'.ownsRow base e size v n xs := by
  obtain ⟨h1, h2 | ⟨g, cap, cur, rfl, h3, h4, h5⟩⟩ := h
  · exact ⟨h1, .inl h2⟩
  · exact ⟨h1, .inr ⟨g, cap, cur, rfl, h3, (hg g rfl).trans h4, h5⟩⟩
theorem own_uniq {w : World} {base size n : Nat} {e : TypeId} {v : Value} {xs ys : List Value} (h : w.ownsRow base e size v n xs) (k : w.ownsRow base e size v n ys) : xs = ys := by
  obtain ⟨h1, ⟨h2, h3⟩ | ⟨g, cap, cur, h2, _, h4, _, _, _, h5⟩⟩ := h
  · have k1 := k.1
    rw [h3, Nat.zero_mul] at h1 k1
    rw [List.length_eq_zero_iff.1 h1, List.length_eq_zero_iff.1 k1]
  · obtain ⟨k1, ⟨k2, k3⟩ | ⟨g', cap', cur', k2, _, k4, _, _, _, k5⟩⟩ := k
    · rw [h2] at k2; cases k2
    · rw [h2] at k2
      injection k2 with k2
      injection k2 with k2
      injection k2 with k2
      subst k2
      rw [h4] at k4
      injection k4 with k4
      injection k4 with k4
      subst k4
      rw [← h5, ← k5]
/-- A list in the making: its own row, from block B on; what its parts lead to is neither the row, nor the reader, nor its list. -/
structure Row {α : Type} (rd : (Nat → Prop) → World → α → Value → Prop) (T : TypeId) (st B gp : Nat) (D : Option Nat) (w : World) (v : Value) (l : List α) : Prop where
  own : ∃ vs : List (List Value), w.ownsRow B T st v l.length vs.flatten ∧ vs.length = l.length ∧ (∀ c ∈ vs, c.length = st) ∧ ∀ (j : Nat) (a : α) (c : List Value), l[j]? = some a → vs[j]? = some c → rd (fun k => okS B gp D w k ∧ some k ≠ v.ownBlock) w a (.agg c.toArray)
  ne : ∀ g, v.ownBlock = some g → some g ≠ D
  gpB : gp < B
section
variable {α : Type} {rd : (Nat → Prop) → World → α → Value → Prop} {T : TypeId} {st B gp : Nat} {D D' : Option Nat} {w w' : World} {v : Value} {l : List α}
theorem Row.nil (hB : gp < B) : Row rd T st B gp D w (.slice none 0 0) ([] : List α) :=
  ⟨⟨[], World.ownsRow_nil _ _ _ _, rfl, fun c h => absurd h (List.not_mem_nil), fun j a c h => by simp at h⟩, fun g h => by simp [Value.ownBlock] at h, hB⟩
theorem Row.lt (h : Row rd T st B gp D w v l) {g : Nat} (e : v.ownBlock = some g) : B ≤ g ∧ g < w.heap.size := by
  obtain ⟨vs, h1, _⟩ := h.own
  exact h1.lt g e
/-- The reader steps on. -/
theorem Row.step (hk : Kept rd) (h : Row rd T st B gp D w v l) (hs : Stp gp D D' w w') : Row rd T st B gp D' w' v l := by
  obtain ⟨vs, h1, h2, h3, h4⟩ := h.own
  have hg : ∀ g, v.ownBlock = some g → w'.heap[g]? = w.heap[g]? := fun g e => hs.block g (h.lt e).2 (by have := (h.lt e).1; have := h.gpB; omega) (h.ne g e)
  refine ⟨⟨vs, own_kept h1 hg, h2, h3, fun j a c hj hc => hk _ _ w w' (fun k hk2 => (okS.step hs).1 k hk2.1) (fun k hk2 => ⟨(okS.step hs).2 k hk2.1, hk2.2⟩) _ _ (h4 j a c hj hc)⟩, fun g e => hs.fresh (h.lt e).2 (h.ne g e), h.gpB⟩
theorem Row.mono {rd' : (Nat → Prop) → World → α → Value → Prop} (h : Row rd T st B gp D w v l) (hm : ∀ ok w a v, rd ok w a v → rd' ok w a v) : Row rd' T st B gp D w v l := by
  obtain ⟨vs, h1, h2, h3, h4⟩ := h.own
  exact ⟨⟨vs, h1, h2, h3, fun j a c hj hc => hm _ _ _ _ (h4 j a c hj hc)⟩, h.ne, h.gpB⟩
theorem Row.below (hk : Kept rd) (h : Row rd T st B gp D w v l) (hb : Below w.heap.size w w') : Row rd T st B gp D w' v l := h.step hk (Stp.below hb)
/-- A part more. -/
theorem Row.snoc (hk : Kept rd) (h : Row rd T st B gp D w v l) {w2 : World} {g cap W : Nat} {a : α} {c : List Value} (hc : c.length = st)
    (ha : rd (fun k => okS W gp D w k ∧ some k ≠ v.ownBlock) w a (.agg c.toArray)) (hW : B ≤ W)
    {xs : List Value} (hown0 : w.ownsRow B T st v l.length xs) (hown : w2.ownsRow B T st (.slice (some ⟨g, 0, none⟩) (l.length + 1) cap) (l.length + 1) (xs ++ c))
    (hgrow : w.grownBy w2 v.ownBlock) (hat : v.ownBlock = some g ∨ g = w.heap.size) (hD : ∀ k, some k = D → k < w.heap.size) : Row rd T st B gp D w2 (.slice (some ⟨g, 0, none⟩) (l.length + 1) cap) (l ++ [a]) := by
  obtain ⟨vs, h1, h2, h3, h4⟩ := h.own
  have hok : ∀ X k, (okS X gp D w k ∧ some k ≠ v.ownBlock) → B ≤ X → okS B gp D w2 k ∧ some k ≠ (Value.slice (some ⟨g, 0, none⟩) (l.length + 1) cap).ownBlock := by
    rintro X k ⟨⟨k1, k2, k3, k4⟩, k5⟩ hX
    refine ⟨⟨by omega, Nat.lt_of_lt_of_le k2 hgrow.size, k3, k4⟩, ?_⟩
    show some k ≠ some g
    rcases hat with e | e
    · rw [← e]; exact k5
    · intro e2; injection e2 with e2; omega
  refine ⟨⟨vs ++ [c], ?_, by simp [h2], ?_, ?_⟩, ?_, h.gpB⟩
  · rw [own_uniq hown0 h1] at hown
    rw [List.flatten_append, List.length_append]
    simpa using hown
  · intro x hx
    rcases List.mem_append.1 hx with hx | hx
    · exact h3 x hx
    · rw [List.mem_singleton] at hx; rw [hx]; exact hc
  · intro j a' c' hj hc'
    rcases Nat.lt_trichotomy j l.length with hlt | heq | hgt
    · rw [List.getElem?_append_left hlt] at hj
      rw [List.getElem?_append_left (by omega)] at hc'
      exact hk _ _ w w2 (fun k hk2 => hgrow.block k hk2.1.2.1 hk2.2) (fun k hk2 => hok B k hk2 (Nat.le_refl _)) _ _ (h4 j a' c' hj hc')
    · subst heq
      rw [List.getElem?_append_right (Nat.le_refl _), Nat.sub_self] at hj
      rw [List.getElem?_append_right (by omega), h2, Nat.sub_self] at hc'
      simp at hj hc'
      subst hj hc'
      exact hk _ _ w w2 (fun k hk2 => hgrow.block k hk2.1.2.1 hk2.2) (fun k hk2 => hok W k hk2 hW) _ _ ha
    · rw [List.getElem?_eq_none (by simp; omega)] at hj; cases hj
  · intro g' e
    have e : g' = g := by simpa [Value.ownBlock] using e.symm
    subst e
    rcases hat with e | e
    · exact h.ne g' e
    · intro e2; have := hD g' e2; omega
theorem flat_at {vs : List (List Value)} {st : Nat} (h : ∀ c ∈ vs, c.length = st) : ∀ (j : Nat) (c : List Value), vs[j]? = some c → ∀ (i : Nat) (u : Value), c[i]? = some u → vs.flatten[j * st + i]? = some u := by
  induction vs with
  | nil => intro j c hj; simp at hj
  | cons x r ih =>
    intro j c hj i u hi
    have hx : x.length = st := h x (List.mem_cons_self ..)
    cases j with
    | zero =>
      simp at hj
      subst hj
      rw [Nat.zero_mul, Nat.zero_add, List.flatten_cons, List.getElem?_append_left (List.getElem?_eq_some_iff.1 hi).1]
      exact hi
    | succ j =>
      simp at hj
      rw [List.flatten_cons, List.getElem?_append_right (by rw [hx, Nat.succ_mul]; omega), hx, show (j + 1) * st + i - st = j * st + i by rw [Nat.succ_mul]; omega]
      exact ih (fun c hc => h c (List.mem_cons_of_mem _ hc)) j c hj i u hi
/-- A list that is made: a slice of so many, and where its parts lie. -/
theorem Row.done (hk : Kept rd) (h : Row rd T st B gp D w v l) : ∃ p cap, v = .slice p l.length cap ∧ (0 < l.length → ∃ g, p = some ⟨g, 0, none⟩ ∧ okS B gp D w g ∧ ∀ (j : Nat) (a : α), l[j]? = some a → ∃ c : List Value, c.length = st ∧ CellsV w g (j * st) (.agg c.toArray) ∧ rd (okS B gp D w) w a (.agg c.toArray)) := by
  obtain ⟨vs, h1, h2, h3, h4⟩ := h.own
  have hcells : ∀ g, v.ownBlock = some g → ∀ j u, vs.flatten[j]? = some u → w.cell? ((⟨g, 0, none⟩ : Addr).add j) = some u := fun g hg => h1.cells hg
  have hlt := fun g e => h.lt (g := g) e
  obtain ⟨_, ⟨rfl, h0⟩ | ⟨g, cap, cur, rfl, hb, hg, hcap, _⟩⟩ := h1
  · exact ⟨none, 0, by rw [h0], fun hl => by omega⟩
  · have e : ∀ i, (⟨g, 0, none⟩ : Addr).add i = ⟨g, i, none⟩ := by intro i; simp only [Addr.add, Nat.zero_add]; split <;> simp_all
    refine ⟨_, cap, rfl, fun _ => ⟨g, rfl, ⟨hb, (hlt g rfl).2, by have := h.gpB; omega, h.ne g rfl⟩, fun j a hj => ?_⟩⟩
    have hj2 : j < vs.length := by rw [h2]; exact (List.getElem?_eq_some_iff.1 hj).1
    have hc : vs[j]? = some vs[j] := List.getElem?_eq_getElem hj2
    refine ⟨vs[j], h3 _ (List.getElem_mem hj2), ⟨_, rfl, fun i u hi => ?_⟩, hk _ _ w w (fun _ _ => rfl) (fun k hk2 => hk2.1) _ _ (h4 j a _ hj hc)⟩
    have hi' : vs[j][i]? = some u := by simpa using hi
    have := hcells g rfl _ _ (flat_at h3 j _ hc i u hi')
    rwa [e] at this
theorem PSt.grown {L : List Tok} {sz i dp : Nat} {ds : List Dg} {row : Option Nat} (h : PSt gp w L sz i dp ds D) (hg : w.grownBy w' row) (hr : ∀ k, row = some k → gp < k ∧ some k ≠ D) : PSt gp w' L sz i dp ds D := by
  have hgp := h.gp_lt
  have hlow : ∀ k, k ≤ gp → w'.heap[k]? = w.heap[k]? := fun k hk => hg.block k (by omega) (fun e => by have := (hr k e.symm).1; omega)
  obtain ⟨p, c, v, h1, h2, h3, h4⟩ := h.blk
  refine ⟨⟨p, c, v, (hlow gp (Nat.le_refl _)).trans h1, fun hl => ?_, own_kept h3 (fun g e => hg.block g (h3.lt g e).2 (fun e2 => (hr g e2.symm).2 (by rw [← e, h4]))), h4⟩, h.len, h.siz, h.end_, h.at_, h.dp1, h.var_.1, h.var_.2.kept (hlow _ (Nat.le_of_lt h.var_.1))⟩
  obtain ⟨g, e1, e2, e3⟩ := h2 hl
  exact ⟨g, e1, e2, e3.kept (hlow g (by omega))⟩
theorem Stp.grown {w0 : World} {row : Option Nat} (h : Stp gp D D' w0 w) (hg : w.grownBy w' row) (hr : ∀ k, row = some k → w0.heap.size ≤ k) : Stp gp D D' w0 w' :=
  ⟨hg.os.trans h.os, hg.tape.trans h.tape, hg.output.trans h.output, Nat.le_trans h.size hg.size, fun k hk h2 h3 => (hg.block k (Nat.lt_of_lt_of_le hk h.size) (fun e => by have := hr k e.symm; omega)).trans (h.block k hk h2 h3), h.own⟩
/-- A part was read, and is put behind the others. -/
theorem app_step (hk : Kept rd) {w0 w6 : World} {D0 : Option Nat} {L : List Tok} {sz i dp : Nat} {ds : List Dg} {g cap W : Nat} {a : α} {c : List Value} {o : Obj} {xs : List Value} (hp : PSt gp w L sz i dp ds D) (hs : Stp gp D0 D w0 w) (hrow : Row rd T st w0.heap.size gp D w v l) (hc : c.length = st)
    (ha : rd (okS W gp D w) w a (.agg c.toArray)) (hW : w0.heap.size ≤ W) (hv : ∀ k, v.ownBlock = some k → k < W)
    (hown0 : (w.alloc o).ownsRow w0.heap.size T st v l.length xs) (hown : w6.ownsRow w0.heap.size T st (.slice (some ⟨g, 0, none⟩) (l.length + 1) cap) (l.length + 1) (xs ++ c))
    (hgrow : (w.alloc o).grownBy w6 v.ownBlock) (hat : v.ownBlock = some g ∨ g = (w.alloc o).heap.size) :
    PSt gp w6 L sz i dp ds D ∧ Stp gp D0 D w0 w6 ∧ Row rd T st w0.heap.size gp D w6 (.slice (some ⟨g, 0, none⟩) (l.length + 1) cap) (l ++ [a]) := by
  have hb := (Below.refl w.heap.size w).alloc (Nat.le_refl _) o
  have hrow5 := hrow.below hk hb
  refine ⟨(hp.below hb).grown hgrow (fun k e => ⟨by have := (hrow.lt e).1; have := hrow.gpB; omega, hrow.ne k e⟩), (hs.trans (Stp.below hb)).grown hgrow (fun k e => (hrow.lt e).1), ?_⟩
  refine hrow5.snoc hk hc (hk _ _ w (w.alloc o) (fun k h => hb.block k h.2.1) (fun k h => ⟨⟨h.1, Nat.lt_of_lt_of_le h.2.1 hb.size, h.2.2⟩, fun e => by have := hv k e.symm; have := h.1; omega⟩) _ _ ha) hW hown0 hown hgrow hat (fun k e => ((hp.below hb).D_lt e).2)
end
end Go.Proofs.YtfioihehhlpgcaaGreatDoor
namespace Go.Proofs.YtfioihehhlpgcaaGreatDoor
open Go.RowKit
attribute [local go_sem ↓] Go.wp_at_zero Go.wp_at_succ
/-- What expr is to answer, with so much fuel. -/
def CEx (f : Nat) : Prop := ∀ {gp : Nat} {w : World} {L : List Tok} {sz i dp : Nat} {ds : List Dg} {D : Option Nat}, PSt gp w L sz i dp ds D → 6 * (L.length - i) + 6 ≤ f → ds.length + (pExpr L sz f dp i 0).d.length + 1 ≤ 1099511627776 →
  Calls Tryz.prog 201 #[.pointer (some ⟨gp, 0, none⟩)] w fun e w' => ∃ v, e = .returned v ∧ ToldE gp L sz dp D ds w w' (pExpr L sz f dp i 0) v
section
variable {gp : Nat} {w : World} {L : List Tok} {sz i dp : Nat} {ds : List Dg} {D : Option Nat}
set_option maxHeartbeats 1000000 in
set_option maxRecDepth 100000 in
theorem grouped_any {f : Nat} (hE : CEx f) (hp : PSt gp w L sz i dp ds D) (hd : dp < 12) (hil : i < L.length) (hf : 6 * (L.length - i) ≤ f)
    (hds : ds.length + ((pExpr L sz f (dp + 1) (i + 1) 0).d ++ (pNeed L sz (pExpr L sz f (dp + 1) (i + 1) 0).i (bs1 41)).d).length + 1 ≤ 1099511627776) :
    Calls Tryz.prog 208 #[.pointer (some ⟨gp, 0, none⟩)] w fun e w' => ∃ v, e = .returned v ∧ ToldE gp L sz dp D ds w w' ⟨(pExpr L sz f (dp + 1) (i + 1) 0).v, (pNeed L sz (pExpr L sz f (dp + 1) (i + 1) 0).i (bs1 41)).i, (pExpr L sz f (dp + 1) (i + 1) 0).d ++ (pNeed L sz (pExpr L sz f (dp + 1) (i + 1) 0).i (bs1 41)).d⟩ v := by
  have hgp := hp.gp_lt
  have hb0 := (Below.refl w.heap.size w).alloc (Nat.le_refl _) (.cells #[.int .i64 0, .string ⟨#[]⟩, .int .i64 0, .slice none 0 0, .int .i64 0, .int .i64 0] 91)
  have hp0 := hp.below hb0
  have hfr := hp.fresh (Nat.le_refl w.heap.size)
  have hd1 : ds.length + (pExpr L sz f (dp + 1) (i + 1) 0).d.length + 1 ≤ 1099511627776 := by simp only [List.length_append] at hds; omega
  have hd2 : (ds ++ (pExpr L sz f (dp + 1) (i + 1) 0).d).length + 1 ≤ 1099511627776 := by simp only [List.length_append] at hds ⊢; omega
  generalize hX : pExpr L sz f (dp + 1) (i + 1) 0 = x at *
  go_enter_defers Tryz.func208, Tryz.ntmps208
  go_wp2_with (first
    | (go_at_call 173; refine (enter_any hp0 hd).mono ?_; rintro e w1 ⟨rfl, hp1, hs1⟩)
    | (go_at_call 145; refine (pass_any hp1 hil).mono ?_; rintro e w2 ⟨rfl, hp2, hs2⟩; unfold tkV)
    | (go_at_call 201; refine (hE hp2 (by omega) (by rw [hX]; exact hd1)).mono ?_; rintro e w3 ⟨v, rfl, D3, n, hp3, hs3, hr3⟩; rw [hX] at hp3 hr3; obtain ⟨k0, x0, m0, p0, l0, c0, hv⟩ := hr3.shape; subst hv; have hfr3 := hp3.fresh (Nat.le_refl w3.heap.size); have hb3 := (Below.refl w3.heap.size w3).alloc (Nat.le_refl _) (.cells #[.int .i64 (k0 : Int), .string x0, .int .i64 (m0 : Int), .slice p0 l0 c0, .int .i64 (exF x.v : Int), .int .i64 (exT x.v : Int)] 91); have h03 := hs1.trans (hs2.trans hs3))
    | (go_at_call 148; refine (need_any (hp3.below hb3) (bs1 41) (by decide) hd2).mono ?_; rintro e w4 ⟨rfl, D4, hp4, hs4⟩; have h04 := h03.trans ((Stp.below hb3).trans hs4); obtain ⟨a0, a1, a2, a3, a4, a5, af⟩ := six_at (slot (hs4.block w3.heap.size (by simp) (by omega) hfr3.2)).1; have hsl := (slot (h04.block w.heap.size (by simp) (by omega) hfr.2)).1; obtain ⟨r0, r1, r2, r3, r4, r5, rf⟩ := six_at hsl; have hz : w.heap.size + 1 ≤ w3.heap.size := (by simpa using h03.size); have hn1 : ¬ w3.heap.size = w.heap.size := (by omega); have hn2 : ¬ w.heap.size = w3.heap.size := (by omega); have hn3 : ¬ w.heap.size = gp := (by omega); have hn4 : ¬ w3.heap.size = gp := (by omega)))
  have hn6 := h04.fresh (b := w.heap.size) (by simp) hfr.2
  have hsx := six hp4 ((Stp.below hb0).trans h04) (Nat.le_refl _) hfr.1 hn6
  refine leaves_cons (f := 174) (args := #[.pointer (some ⟨gp, 0, none⟩)]) (by simp) (by simp [go_sem]) ?_
  refine (leave_any (hsx _ _ _ _ _ _).1 .returning).mono ?_
  rintro e u' w5 ⟨rfl, rfl, hp5, hs5⟩
  obtain ⟨t0, t1, t2, t3, t4, t5, tf⟩ := six_at ((hs5.block w.heap.size (by simp; have := h04.size; simp at this; omega) (by omega) hn6).trans (six_blk hsl _ _ _ _ _ _))
  refine ⟨.agg #[.int .i64 (k0 : Int), .string x0, .int .i64 (m0 : Int), .slice p0 l0 c0, .int .i64 (exF x.v : Int), .int .i64 (exT x.v : Int)], by simp [results, Tryz.results208, go_sem, t0, t1, t2, t3, t4, t5], _, rfl, D4, n, by simpa using hp5, (hsx _ _ _ _ _ _).2.trans hs5, ?_⟩
  have e1 := RdE.base (B' := w.heap.size + 1) (hr3.step ((Stp.below hb3).trans hs4)) (by have := (hs1.trans hs2).size; simpa using this)
  have e2 := ((((((e1.set (b := w.heap.size) (by omega) 0 (.int .i64 (k0 : Int))).set (b := w.heap.size) (by omega) 1 (.string x0)).set (b := w.heap.size) (by omega) 2 (.int .i64 (m0 : Int))).set (b := w.heap.size) (by omega) 3 (.slice p0 l0 c0)).set (b := w.heap.size) (by omega) 4 (.int .i64 (exF x.v : Int))).set (b := w.heap.size) (by omega) 5 (.int .i64 (exT x.v : Int))).step hs5
  exact e2.base (by omega)
end
end Go.Proofs.YtfioihehhlpgcaaGreatDoor
namespace Go.Proofs.YtfioihehhlpgcaaGreatDoor
open Go.RowKit
attribute [local go_sem ↓] Go.wp_at_zero Go.wp_at_succ
theorem Tryz.infoEx : (Tryz.prog.info? 91).map (fun i => (i.zero, i.size, i.bytes)) = some (some (.agg #[.int .i64 0, .string ⟨#[]⟩, .int .i64 0, .slice none 0 0, .int .i64 0, .int .i64 0]), 6, 72) := by kernel_rfl
/-- Where the reading of arguments stands. -/
def RelA (gp : Nat) (L : List Tok) (sz dp : Nat) (D : Option Nat) (ds : List Dg) (f B : Nat) (w : World) (r : R (List Tr)) (v : Value) (wr : World) : Prop :=
  ∃ g j l da D' n, PSt gp wr L sz j dp (ds ++ da) D' ∧ Stp gp D D' w wr ∧ Row (RdE n) 91 6 B gp D' wr v l ∧ 6 * (L.length - j) + 7 ≤ g ∧ g ≤ f ∧ l.length ≤ 5 ∧ r = ⟨(pArgs L sz g dp j l (moreB L j)).v, (pArgs L sz g dp j l (moreB L j)).i, da ++ (pArgs L sz g dp j l (moreB L j)).d⟩
/-- A call's arguments were read. -/
def ToldA (gp : Nat) (L : List Tok) (sz dp : Nat) (D : Option Nat) (ds : List Dg) (w w' : World) (r : R (List Tr)) (v : Value) : Prop := ∃ D' n p cap, PSt gp w' L sz r.i dp (ds ++ r.d) D' ∧ Stp gp D D' w w' ∧ v = .slice p r.v.length cap ∧ SlT (okS w.heap.size gp D' w') (RdE n (okS w.heap.size gp D' w') w') w' 6 r.v p
theorem told_args {gp : Nat} {w w5 : World} {L : List Tok} {sz j dp n : Nat} {ds d : List Dg} {D D3 : Option Nat} {v : Value} {l : List Tr} (hp5 : PSt gp w5 L sz j dp (ds ++ d) D3) (hs : Stp gp D D3 w w5) (hrow : Row (RdE n) 91 6 w.heap.size gp D3 w5 v l) (hl : l.length ≤ 1099511627776) : ToldA gp L sz dp D ds w w5 ⟨l, j, d⟩ v := by
  obtain ⟨p, cap, rfl, h⟩ := hrow.done (kept_E n)
  refine ⟨D3, n, p, cap, hp5, hs, rfl, hl, fun h0 => ?_⟩
  obtain ⟨g, e1, e2, e3⟩ := h h0
  refine ⟨g, e1, e2, fun j a hj => ?_⟩
  obtain ⟨c, _, h2, h3⟩ := e3 j a hj
  exact ⟨_, h2, h3⟩
theorem more_of {L : List Tok} {sz j n : Nat} (h : moreB L j = false) : pMore L sz j n 5 (bs1 41) = ⟨false, j, []⟩ := by
  unfold pMore
  rw [if_neg (fun h2 => by unfold moreB at h; simp [h2.1, h2.2] at h)]
theorem more_on {L : List Tok} {sz j n : Nat} (h : moreB L j = true) : pMore L sz j n 5 (bs1 41) = if n = 5 then ⟨false, j, [bad L sz j 5]⟩ else ⟨true, j, []⟩ := by
  unfold pMore
  rw [if_pos (by unfold moreB at h; simpa using h)]
section
variable {gp : Nat} {w : World} {L : List Tok} {sz i dp : Nat} {ds : List Dg} {D : Option Nat}
set_option maxHeartbeats 400000 in
set_option maxRecDepth 100000 in
theorem args_any {f : Nat} (hE : ∀ g, g < f → CEx g) (hp : PSt gp w L sz i dp ds D) (hd : dp < 12) (hf : 6 * (L.length - i) + 7 ≤ f)
    (hds : ds.length + (pArgs L sz f (dp + 1) i [] (moreB L i)).d.length + 1 ≤ 1099511627776) :
    Calls Tryz.prog 212 #[.pointer (some ⟨gp, 0, none⟩)] w fun e w' => ∃ v, e = .returned v ∧ ToldA gp L sz dp D ds w w' (pArgs L sz f (dp + 1) i [] (moreB L i)) v := by
  have hgp := hp.gp_lt
  obtain ⟨i0, hi0, hz0, hz1, hz2⟩ := info_parts Tryz.infoEx
  have HE : Hid (∀ wr, Told gp L sz (dp + 1) D i ds w wr → RelA gp L sz (dp + 1) D ds f w.heap.size w (pArgs L sz f (dp + 1) i [] (moreB L i)) (.slice none 0 0) wr) := fun wr ⟨D1, h1, h2⟩ => ⟨f, i, [], [], D1, 0, by rw [List.append_nil]; exact h1, h2, Row.nil hgp, hf, Nat.le_refl _, by simp, rfl⟩
  generalize pArgs L sz f (dp + 1) i [] (moreB L i) = r at *
  go_enter_defers Tryz.func212, Tryz.ntmps212
  go_wp2_with (first
    | (go_at_call 173; refine (enter_any hp hd).mono ?_; rintro e w1 ⟨rfl, hp1, hs1⟩))
  go_loopw [3] (fun v wr => RelA gp L sz (dp + 1) D ds f w.heap.size w r v wr) (fun _ wr => msL L gp wr)
  case atStart => exact HE.out _ ⟨D, hp1, hs1⟩
  case round =>
    obtain ⟨g, j, l, da, D2, n, hp2, hs2, hrow, hg1, hg2, hl5, hr⟩ := hrel
    obtain ⟨p, cap, hv, _⟩ := hrow.done (kept_E n)
    subst hv
    obtain ⟨g, rfl⟩ : ∃ q, g = q + 1 := ⟨g - 1, by omega⟩
    have HR : Hid (r = ⟨(pArgs L sz (g + 1) (dp + 1) j l (moreB L j)).v, (pArgs L sz (g + 1) (dp + 1) j l (moreB L j)).i, da ++ (pArgs L sz (g + 1) (dp + 1) j l (moreB L j)).d⟩) := hr
    clear hr
    have hdl : (ds ++ da).length + 1 ≤ 1099511627776 := by rw [HR.out] at hds; simp only [List.length_append] at hds ⊢; omega
    cases hM : moreB L j
    · have hQ : r = ⟨l, j, da⟩ := by rw [HR.out, hM, pArgs_succ]; simp
      have hm := more_of (sz := sz) (n := l.length) hM
      clear HR
      subst hQ
      go_wp2_with (first
        | (go_at_call 170; refine (more_any hp2 l.length 5 (bs1 41) (by decide) hdl).mono ?_; rintro e w3 ⟨rfl, D3, hp3, hs3⟩; rw [hm] at hp3 ⊢))
      refine leaves_cons (f := 174) (args := #[.pointer (some ⟨gp, 0, none⟩)]) (by simp) (by simp [go_sem]) ?_
      refine (leave_any hp3 .returning).mono ?_
      rintro e u' w5 ⟨rfl, rfl, hp5, hs5⟩
      have hp5' : PSt gp w5 L sz j dp (ds ++ da) D3 := by simpa using hp5
      have hT := told_args hp5' ((hs2.trans hs3).trans hs5) ((hrow.step (kept_E n) hs3).step (kept_E n) hs5) (by omega)
      exact ⟨.slice p l.length cap, by simp [results, Tryz.results212, go_sem], _, rfl, hT⟩
    · have hm := more_on (sz := sz) (n := l.length) hM
      by_cases h5 : l.length = 5
      · rw [if_pos h5] at hm
        have hQ : r = ⟨l, j, da ++ [bad L sz j 5]⟩ := by rw [HR.out, hM, pArgs_succ, if_pos rfl, if_pos h5]
        clear HR h5
        subst hQ
        go_wp2_with (first
          | (go_at_call 170; refine (more_any hp2 l.length 5 (bs1 41) (by decide) hdl).mono ?_; rintro e w3 ⟨rfl, D3, hp3, hs3⟩; rw [hm] at hp3 ⊢))
        refine leaves_cons (f := 174) (args := #[.pointer (some ⟨gp, 0, none⟩)]) (by simp) (by simp [go_sem]) ?_
        refine (leave_any hp3 .returning).mono ?_
        rintro e u' w5 ⟨rfl, rfl, hp5, hs5⟩
        have hp5' : PSt gp w5 L sz j dp (ds ++ (da ++ [bad L sz j 5])) D3 := by simpa using hp5
        have hT := told_args hp5' ((hs2.trans hs3).trans hs5) ((hrow.step (kept_E n) hs3).step (kept_E n) hs5) (by omega)
        exact ⟨.slice p l.length cap, by simp [results, Tryz.results212, go_sem], _, rfl, hT⟩
      · rw [if_neg h5] at hm
        have HQ : Hid (_ = _) := pArgs_succ L sz g (dp + 1) j l true
        have hx1 : (ds ++ da).length + (pExpr L sz g (dp + 1) j 0).d.length + 1 ≤ 1099511627776 := by
          rw [HR.out, hM, HQ.out, if_pos rfl, if_neg h5] at hds
          split at hds <;> (simp only [List.length_append] at hds ⊢; omega)
        have hIx : j ≤ (pExpr L sz g (dp + 1) j 0).i := ((expr_ok (sz := sz) hp.okL g).2.2.1 (dp + 1) j 0 hp2.at_).1.ge
        generalize hX : pExpr L sz g (dp + 1) j 0 = x at *
        have H5 : Hid (¬ l.length = 5) := h5
        clear h5
        have hbytes : (l.length + 1) * 72 ≤ 140737488355328 := by omega
        have hmax : l.length + 1 ≤ maxLen := by unfold maxLen; omega
        cases hC : isT L x.i (bs1 44)
        · go_wp2_with (first
            | (go_at_call 170; refine (more_any hp2 l.length 5 (bs1 41) (by decide) hdl).mono ?_; rintro e w3 ⟨rfl, D3, hp3, hs3⟩; rw [hm] at hp3 ⊢)
            | (go_at_call 201; refine (hE g (by omega) hp3 (by omega) (by rw [hX]; simpa using hx1)).mono ?_; rintro e w4 ⟨v, rfl, D4, n4, hp4, hs4, hr4⟩; rw [hX] at hp4 hr4; obtain ⟨k0, x0, m0, p0, l0, c0, hv⟩ := hr4.shape; subst hv; have hrow4 := (hrow.step (kept_E n) hs3).step (kept_E n) hs4; have hs04 := (hs2.trans hs3).trans hs4; have hbn := (Below.refl w4.heap.size w4).alloc (Nat.le_refl _) (.cells #[.int .i64 (k0 : Int), .string x0, .int .i64 (m0 : Int), .slice p0 l0 c0, .int .i64 (exF x.v : Int), .int .i64 (exT x.v : Int)] 91); have hrow5 := hrow4.below (kept_E n) hbn; obtain ⟨vs, ho5, _⟩ := hrow5.own; have hz4 := hs04.size)
            | (at_builtin; refine wpList_append_lies _ rfl (.tmp 11) (.tmp 14) 89 rfl w.heap.size 91 i0 _ 6 72 Tryz.underlying89 hi0 hz0 hz1 hz2 rfl (by decide) _ _ _ rfl ho5 ⟨w4.heap.size, 0, none⟩ 1 1 [.int .i64 (k0 : Int), .string x0, .int .i64 (m0 : Int), .slice p0 l0 c0, .int .i64 (exF x.v : Int), .int .i64 (exT x.v : Int)] rfl rfl (World.news_of_block (heap_alloc_new w4 _)) (by simp [Value.oneCell']) (by decide) hmax hbytes (by simp; omega) _ rfl ?_; intro g6 cap6 w6 hown6 hgrow6 hat6 hlt6; obtain ⟨hp6, hs6, hrow6⟩ := app_step (kept_E (max n n4)) hp4 hs04 (hrow4.mono (fun _ _ _ _ h => h.le (Nat.le_max_left n n4))) rfl (hr4.le (Nat.le_max_right n n4)) ((hs2.trans hs3).size) (fun k e => Nat.lt_of_lt_of_le (hrow.lt e).2 hs3.size) ho5 hown6 hgrow6 hat6)
            | (go_at_call 105; refine (take_any hp6 (bs1 44) (by decide)).mono ?_; rintro e w7 ⟨rfl, hp7, hs7⟩; rw [hC] at hp7 ⊢))
          refine leaves_cons (f := 174) (args := #[.pointer (some ⟨gp, 0, none⟩)]) (by simp) (by simp [go_sem]) ?_
          refine (leave_any hp7 .returning).mono ?_
          rintro e u' w8 ⟨rfl, rfl, hp8, hs8⟩
          have hQ : r = ⟨l ++ [x.v], x.i, da ++ x.d⟩ := by
            rw [HR.out, hM, HQ.out]
            simp only [if_true, if_neg H5.out, hC, Bool.false_eq_true, if_false]
          subst hQ
          have hp8' : PSt gp w8 L sz x.i dp (ds ++ (da ++ x.d)) D4 := by simpa using hp8
          have hT := told_args hp8' ((hs6.trans hs7).trans hs8) ((hrow6.step (kept_E _) hs7).step (kept_E _) hs8) (by simp; omega)
          exact ⟨.slice (some ⟨g6, 0, none⟩) (l.length + 1) cap6, by simp [results, Tryz.results212, go_sem], _, rfl, hT⟩
        · go_wp2_with (first
            | (go_at_call 170; refine (more_any hp2 l.length 5 (bs1 41) (by decide) hdl).mono ?_; rintro e w3 ⟨rfl, D3, hp3, hs3⟩; rw [hm] at hp3 ⊢)
            | (go_at_call 201; refine (hE g (by omega) hp3 (by omega) (by rw [hX]; simpa using hx1)).mono ?_; rintro e w4 ⟨v, rfl, D4, n4, hp4, hs4, hr4⟩; rw [hX] at hp4 hr4; obtain ⟨k0, x0, m0, p0, l0, c0, hv⟩ := hr4.shape; subst hv; have hrow4 := (hrow.step (kept_E n) hs3).step (kept_E n) hs4; have hs04 := (hs2.trans hs3).trans hs4; have hbn := (Below.refl w4.heap.size w4).alloc (Nat.le_refl _) (.cells #[.int .i64 (k0 : Int), .string x0, .int .i64 (m0 : Int), .slice p0 l0 c0, .int .i64 (exF x.v : Int), .int .i64 (exT x.v : Int)] 91); have hrow5 := hrow4.below (kept_E n) hbn; obtain ⟨vs, ho5, _⟩ := hrow5.own; have hz4 := hs04.size)
            | (at_builtin; refine wpList_append_lies _ rfl (.tmp 11) (.tmp 14) 89 rfl w.heap.size 91 i0 _ 6 72 Tryz.underlying89 hi0 hz0 hz1 hz2 rfl (by decide) _ _ _ rfl ho5 ⟨w4.heap.size, 0, none⟩ 1 1 [.int .i64 (k0 : Int), .string x0, .int .i64 (m0 : Int), .slice p0 l0 c0, .int .i64 (exF x.v : Int), .int .i64 (exT x.v : Int)] rfl rfl (World.news_of_block (heap_alloc_new w4 _)) (by simp [Value.oneCell']) (by decide) hmax hbytes (by simp; omega) _ rfl ?_; intro g6 cap6 w6 hown6 hgrow6 hat6 hlt6; obtain ⟨hp6, hs6, hrow6⟩ := app_step (kept_E (max n n4)) hp4 hs04 (hrow4.mono (fun _ _ _ _ h => h.le (Nat.le_max_left n n4))) rfl (hr4.le (Nat.le_max_right n n4)) ((hs2.trans hs3).size) (fun k e => Nat.lt_of_lt_of_le (hrow.lt e).2 hs3.size) ho5 hown6 hgrow6 hat6)
            | (go_at_call 105; refine (take_any hp6 (bs1 44) (by decide)).mono ?_; rintro e w7 ⟨rfl, hp7, hs7⟩; rw [hC] at hp7 ⊢))
          go_roundw
          case rel =>
            refine ⟨g, x.i + 1, l ++ [x.v], da ++ x.d, D4, max n n4, by simpa using hp7, hs6.trans hs7, by simpa using hrow6.step (kept_E _) hs7, ?_, by omega, ?_, ?_⟩
            · have := (isT_lt hC).1; omega
            · have := H5.out; simp; omega
            · rw [HR.out, hM, HQ.out]
              simp only [if_true, if_neg H5.out, hC, List.append_assoc]
          case measure =>
            rw [msL_at hp7, msL_at hp2]
            have := (isT_lt hC).1
            simp only [if_true]
            omega
end
end Go.Proofs.YtfioihehhlpgcaaGreatDoor
namespace Go.Proofs.YtfioihehhlpgcaaGreatDoor
open Go.RowKit
attribute [local go_sem ↓] Go.wp_at_zero Go.wp_at_succ
/-- A call's arguments were read, and lie beside the expression at block eb. -/
structure CallSt (gp : Nat) (w : World) (L : List Tok) (sz dp : Nat) (ds : List Dg) (D D3 : Option Nat) (x : R (List Tr)) (y : ByteArray) (ya n3 c3 : Nat) (p3 : Option Addr) (W : World) (eb : Nat) : Prop where
  p : PSt gp W L sz x.i dp (ds ++ x.d) D3
  s : Stp gp D D3 (w.alloc (.cells #[.int .i64 0, .string ⟨#[]⟩, .int .i64 0, .slice none 0 0, .int .i64 0, .int .i64 0] 91)) W
  b : W.heap[eb]? = some (.cells #[.int .i64 4, .string y, .int .i64 0, .slice p3 x.v.length c3, .int .i64 (ya : Int), .int .i64 0] 91 (0, 0))
  n : w.heap.size < eb ∧ eb < W.heap.size ∧ gp < eb ∧ some eb ≠ D3
  r : SlT (fun k => okS (w.heap.size + 1) gp D3 W k ∧ k ≠ eb) (RdE n3 (fun k => okS (w.heap.size + 1) gp D3 W k ∧ k ≠ eb) W) W 6 x.v p3
/-- The call's end is reckoned: k of its arguments were looked at. -/
def RelM (gp : Nat) (w : World) (L : List Tok) (sz dp : Nat) (ds : List Dg) (D D4 : Option Nat) (al : List Tr) (y : ByteArray) (ya n3 c3 : Nat) (p3 : Option Addr) (eb q : Nat) (idx : Value) (wr : World) : Prop :=
  ∃ k : Nat, idx = .int .i64 (k : Int) ∧ k ≤ al.length ∧ PSt gp wr L sz q dp ds D4 ∧ Stp gp D D4 (w.alloc (.cells #[.int .i64 0, .string ⟨#[]⟩, .int .i64 0, .slice none 0 0, .int .i64 0, .int .i64 0] 91)) wr ∧
    wr.heap[eb]? = some (.cells #[.int .i64 4, .string y, .int .i64 0, .slice p3 al.length c3, .int .i64 (ya : Int), .int .i64 (callT L sz q (al.take k) : Int)] 91 (0, 0)) ∧
    (w.heap.size < eb ∧ eb < wr.heap.size ∧ gp < eb ∧ some eb ≠ D4) ∧
    SlT (fun k => okS (w.heap.size + 1) gp D4 wr k ∧ k ≠ eb) (RdE n3 (fun k => okS (w.heap.size + 1) gp D4 wr k ∧ k ≠ eb) wr) wr 6 al p3
theorem relM_set {gp : Nat} {w wr : World} {L : List Tok} {sz dp : Nat} {ds : List Dg} {D D4 : Option Nat} {al : List Tr} {y : ByteArray} {ya n3 c3 : Nat} {p3 : Option Addr} {eb q k : Nat} {u0 : Value} (hk : k ≤ al.length) (hp : PSt gp wr L sz q dp ds D4) (hs : Stp gp D D4 (w.alloc (.cells #[.int .i64 0, .string ⟨#[]⟩, .int .i64 0, .slice none 0 0, .int .i64 0, .int .i64 0] 91)) wr)
    (hb : wr.heap[eb]? = some (.cells #[.int .i64 4, .string y, .int .i64 0, .slice p3 al.length c3, .int .i64 (ya : Int), u0] 91 (0, 0))) (hn : w.heap.size < eb ∧ eb < wr.heap.size ∧ gp < eb ∧ some eb ≠ D4)
    (hr : SlT (fun k => okS (w.heap.size + 1) gp D4 wr k ∧ k ≠ eb) (RdE n3 (fun k => okS (w.heap.size + 1) gp D4 wr k ∧ k ≠ eb) wr) wr 6 al p3) {m : Int} (hm : m = (callT L sz q (al.take k) : Nat)) :
    RelM gp w L sz dp ds D D4 al y ya n3 c3 p3 eb q (.int .i64 (k : Int)) (wr.setCell ⟨eb, 5, none⟩ (.int .i64 m)) := by
  subst hm
  have h1 : ∀ j, (okS (w.heap.size + 1) gp D4 wr j ∧ j ≠ eb) → (wr.setCell ⟨eb, 5, none⟩ (.int .i64 (callT L sz q (al.take k) : Nat))).heap[j]? = wr.heap[j]? := fun j hj => Below.heap_setCell wr _ _ j hj.2
  have h2 : ∀ j, (okS (w.heap.size + 1) gp D4 wr j ∧ j ≠ eb) → (okS (w.heap.size + 1) gp D4 (wr.setCell ⟨eb, 5, none⟩ (.int .i64 (callT L sz q (al.take k) : Nat))) j ∧ j ≠ eb) := fun j hj => ⟨⟨hj.1.1, by simpa using hj.1.2.1, hj.1.2.2⟩, hj.2⟩
  refine ⟨k, rfl, hk, hp.set hn.2.2.1 hn.2.2.2 _ _, hs.set (by simp; omega) _ _, ?_, ⟨hn.1, by simpa using hn.2.1, hn.2.2⟩, hr.kept h1 h2 (RdE.kept n3 h1 h2)⟩
  simp [World.setCell, Array.getElem?_modify, hb]
theorem RelM.alloc {gp : Nat} {w wr : World} {L : List Tok} {sz dp : Nat} {ds : List Dg} {D D4 : Option Nat} {al : List Tr} {y : ByteArray} {ya n3 c3 : Nat} {p3 : Option Addr} {eb q : Nat} {idx : Value} (h : RelM gp w L sz dp ds D D4 al y ya n3 c3 p3 eb q idx wr) (o : Obj) : RelM gp w L sz dp ds D D4 al y ya n3 c3 p3 eb q idx (wr.alloc o) := by
  obtain ⟨k, rfl, h1, h2, h3, h4, h5, h6⟩ := h
  have hb := (Below.refl wr.heap.size wr).alloc (Nat.le_refl _) o
  have e1 : ∀ j, (okS (w.heap.size + 1) gp D4 wr j ∧ j ≠ eb) → (wr.alloc o).heap[j]? = wr.heap[j]? := fun j hj => hb.block j hj.1.2.1
  have e2 : ∀ j, (okS (w.heap.size + 1) gp D4 wr j ∧ j ≠ eb) → (okS (w.heap.size + 1) gp D4 (wr.alloc o) j ∧ j ≠ eb) := fun j hj => ⟨⟨hj.1.1, Nat.lt_of_lt_of_le hj.1.2.1 hb.size, hj.1.2.2⟩, hj.2⟩
  exact ⟨k, rfl, h1, h2.below hb, h3.trans (Stp.below hb), (hb.block eb h5.2.1).trans h4, ⟨h5.1, Nat.lt_of_lt_of_le h5.2.1 hb.size, h5.2.2⟩, h6.kept e1 e2 (RdE.kept n3 e1 e2)⟩
theorem callT_next {L : List Tok} {sz q k : Nat} {al : List Tr} {a : Tr} (h : al[k]? = some a) : callT L sz q (al.take (k + 1)) = max (callT L sz q (al.take k)) (exT a) := by
  unfold callT
  rw [List.take_add_one, h]
  simp
section
variable {gp : Nat} {w : World} {L : List Tok} {sz i dp : Nat} {ds : List Dg} {D : Option Nat}
set_option maxHeartbeats 400000 in
set_option maxRecDepth 100000 in
theorem named_var (hp : PSt gp w L sz i dp ds D) (hil : i < L.length) (hI : isT L (i + 1) (bs1 40) = false) :
    Calls Tryz.prog 210 #[.pointer (some ⟨gp, 0, none⟩)] w fun e w' => ∃ v, e = .returned v ∧ ToldE gp L sz dp D ds w w' ⟨exMk 2 (tk L sz i).x 0 [] (tk L sz i).a ((tk L sz i).a + (tk L sz i).x.size), i + 1, []⟩ v := by
  have hgp := hp.gp_lt
  have hb0 := (Below.refl w.heap.size w).alloc (Nat.le_refl _) (.cells #[.int .i64 0, .string ⟨#[]⟩, .int .i64 0, .slice none 0 0, .int .i64 0, .int .i64 0] 91)
  have hp0 := hp.below hb0
  have hfr := hp.fresh (Nat.le_refl w.heap.size)
  have hend : endT L sz (i + 1) = (tk L sz i).a + (tk L sz i).x.size := by unfold endT; rw [if_neg (by omega), Nat.add_sub_cancel]
  go_enter Tryz.func210, Tryz.ntmps210
  go_wp2_with (first
    | (go_at_call 145; refine (pass_any hp0 hil).mono ?_; rintro e w1 ⟨rfl, hp1, hs1⟩; unfold tkV; obtain ⟨q1, q2, q3, q4, q5⟩ := peekd hp1 (Below.refl _ _) (tk L sz i))
    | (go_at_call 105; refine (take_any q1 (bs1 40) (by decide)).mono ?_; rintro e w2 ⟨rfl, hp2, hs2⟩; rw [hI] at hp2 ⊢; have h02 := hs1.trans ((Stp.below q2).trans hs2); obtain ⟨l1, l2, l3⟩ := slot (hs2.block w1.heap.size (by simp) (by omega) q5); have y1 := l3 1 _ rfl; have y2 := l3 2 _ rfl; clear l3; have hsl := (slot (h02.block w.heap.size (by simp) (by omega) hfr.2)).1; obtain ⟨r0, r1, r2, r3, r4, r5, rf⟩ := six_at hsl; obtain ⟨p0, cc, vv, c0, c1, c2, c3, c4, c5, hf, htok, hown, hDD⟩ := hp2.cells; clear htok hown hDD; have hz : w.heap.size + 1 ≤ w1.heap.size := (by simpa using hs1.size); have hn1 : ¬ w1.heap.size = w.heap.size := (by omega); have hn2 : ¬ w.heap.size = w1.heap.size := (by omega); have hn3 : ¬ w.heap.size = gp := (by omega); have hn4 : ¬ w1.heap.size = gp := (by omega); simp only [Bool.false_eq_true, if_false, hend] at c3))
  go_region
  go_wp2
  have hn6 := h02.fresh (b := w.heap.size) (by simp) hfr.2
  have hsx := six hp2 ((Stp.below hb0).trans h02) (Nat.le_refl _) hfr.1 hn6
  refine bodyPost_ret (v := .agg #[.int .i64 2, .string (tk L sz i).x, .int .i64 0, .slice none 0 0, .int .i64 ((tk L sz i).a : Int), .int .i64 (((tk L sz i).a + (tk L sz i).x.size : Nat) : Int)]) (by simp [results, Tryz.results210, go_sem, r0, r1, r2, r3, r4, r5]) rfl ⟨_, rfl, D, 1, ?_, ?_, rd_none 2 _ 0 _ _ none 0⟩
  · simpa using (hsx _ _ _ _ _ _).1.drew
  · exact (hsx _ _ _ _ _ _).2.drew
set_option maxHeartbeats 2000000 in
set_option maxRecDepth 100000 in
theorem named_call {f : Nat} (hE : ∀ g, g < f → CEx g) (hp : PSt gp w L sz i dp ds D) (hd : dp < 12) (hil : i < L.length) (hI : isT L (i + 1) (bs1 40) = true) (hf : 6 * (L.length - i) ≤ f) (x : R (List Tr)) (hX : pArgs L sz f (dp + 1) (i + 2) [] (moreB L (i + 2)) = x)
    (hds : ds.length + (x.d ++ (pNeed L sz x.i (bs1 41)).d).length + 1 ≤ 1099511627776) :
    Calls Tryz.prog 210 #[.pointer (some ⟨gp, 0, none⟩)] w fun e w' => ∃ v, e = .returned v ∧ ToldE gp L sz dp D ds w w' ⟨exMk 4 (tk L sz i).x 0 x.v (tk L sz i).a (callT L sz (pNeed L sz x.i (bs1 41)).i x.v), (pNeed L sz x.i (bs1 41)).i, x.d ++ (pNeed L sz x.i (bs1 41)).d⟩ v := by
  have hgp := hp.gp_lt
  have hi2 : i + 1 < L.length := (isT_lt hI).1
  have hd1 : ds.length + x.d.length + 1 ≤ 1099511627776 := by simp only [List.length_append] at hds; omega
  have hd2 : (ds ++ x.d).length + 1 ≤ 1099511627776 := by simp only [List.length_append] at hds ⊢; omega
  have hb0 := (Below.refl w.heap.size w).alloc (Nat.le_refl _) (.cells #[.int .i64 0, .string ⟨#[]⟩, .int .i64 0, .slice none 0 0, .int .i64 0, .int .i64 0] 91)
  have hp0 := hp.below hb0
  have hfr := hp.fresh (Nat.le_refl w.heap.size)
  go_enter Tryz.func210, Tryz.ntmps210
  go_wp2_with (first
    | (go_at_call 145; refine (pass_any hp0 hil).mono ?_; rintro e w1 ⟨rfl, hp1, hs1⟩; unfold tkV; obtain ⟨q1, q2, q3, q4, q5⟩ := peekd hp1 (Below.refl _ _) (tk L sz i))
    | (go_at_call 105; refine (take_any q1 (bs1 40) (by decide)).mono ?_; rintro e w2 ⟨rfl, hp2, hs2⟩; rw [hI] at hp2 ⊢; have h02 := hs1.trans ((Stp.below q2).trans hs2); obtain ⟨l1, l2, l3⟩ := slot (hs2.block w1.heap.size (by simp) (by omega) q5); have y1 := l3 1 _ rfl; have y2 := l3 2 _ rfl; clear l3; simp only [if_true] at hp2))
  have hb2 := (Below.refl w2.heap.size w2).alloc (Nat.le_refl _) (.cells #[.int .i64 0, .string ⟨#[]⟩, .int .i64 0, .slice none 0 0, .int .i64 0, .int .i64 0] 91)
  have hfr2 := hp2.fresh (Nat.le_refl w2.heap.size)
  have hz1 : w.heap.size + 1 ≤ w1.heap.size := by simpa using hs1.size
  have hz2 : w1.heap.size + 1 ≤ w2.heap.size := by simpa using hs2.size
  have hgp2 := hp2.gp_lt
  have HF1 : Hid (w1.heap.size < w2.heap.size ∧ w1.heap.size ≠ gp ∧ some w1.heap.size ≠ D) := ⟨by omega, by omega, q5⟩
  have hw1 : w1.heap.size < w2.heap.size := by omega
  have hne2 : ¬ w1.heap.size = w2.heap.size := by omega
  have hne3 : ¬ w2.heap.size = w1.heap.size := by omega
  go_region_held3 (fun w' => w'.cell? ⟨w1.heap.size, 1, none⟩ = some (.string (tk L sz i).x) ∧ w'.cell? ⟨w1.heap.size, 2, none⟩ = some (.int .i64 ((tk L sz i).a : Int)))
    (first | go_keep | (with_reducible exact ⟨z1, z2⟩) | (refine ⟨?_, ?_⟩ <;> simp [go_sem, z1, z2, hne2, hne3]))
    (first
      | (go_at_call 212; (with_reducible show Calls _ _ _ (World.drew (World.alloc _ _)) _); refine (args_any hE (hp2.below hb2).drew hd (by omega) (by rw [hX]; exact hd1)).mono ?_; rintro e w3 ⟨v, rfl, D3, n3, p3, c3, hp3, hs3, rfl, hr3⟩; rw [hX] at hp3 hr3; have z1 := (World.cell?_of_block (a := ⟨w1.heap.size, 1, none⟩) ((hs3.block w1.heap.size (by simp; omega) HF1.out.2.1 HF1.out.2.2).trans (hb2.block w1.heap.size (by omega)))).trans y1; have z2 := (World.cell?_of_block (a := ⟨w1.heap.size, 2, none⟩) ((hs3.block w1.heap.size (by simp; omega) HF1.out.2.1 HF1.out.2.2).trans (hb2.block w1.heap.size (by omega)))).trans y2; have hsl3 := (hs3.block w2.heap.size (by simp) (by omega) hfr2.2).trans (heap_alloc_new w2 _); obtain ⟨e0, e1, e2, e3, e4, e5, ef⟩ := six_at hsl3)
      | (go_at_call 212; refine (args_any hE hp2.drew hd (by omega) (by rw [hX]; exact hd1)).mono ?_; rintro e w3 ⟨v, rfl, D3, n3, p3, c3, hp3, hs3, rfl, hr3⟩; rw [hX] at hp3 hr3; have z1 := (World.cell?_of_block (a := ⟨w1.heap.size, 1, none⟩) (hs3.block w1.heap.size HF1.out.1 HF1.out.2.1 HF1.out.2.2)).trans y1; have z2 := (World.cell?_of_block (a := ⟨w1.heap.size, 2, none⟩) (hs3.block w1.heap.size HF1.out.1 HF1.out.2.1 HF1.out.2.2)).trans y2))
  · have h03 := h02.trans ((Stp.refl gp D w2).drew.trans hs3)
    have hzz := h03.size
    rw [World.size_alloc] at hzz
    have hb3 := (Below.refl w3.heap.size w3).alloc (Nat.le_refl _) (.cells #[.int .i64 4, .string (tk L sz i).x, .int .i64 0, .slice p3 x.v.length c3, .int .i64 ((tk L sz i).a : Int), .int .i64 0] 91)
    have hok : ∀ k, okS w2.drew.heap.size gp D3 w3 k → (w3.alloc (.cells #[.int .i64 4, .string (tk L sz i).x, .int .i64 0, .slice p3 x.v.length c3, .int .i64 ((tk L sz i).a : Int), .int .i64 0] 91)).heap[k]? = w3.heap[k]? := fun k hk => hb3.block k hk.2.1
    have hok2 : ∀ k, okS w2.drew.heap.size gp D3 w3 k → okS (w.heap.size + 1) gp D3 (w3.alloc (.cells #[.int .i64 4, .string (tk L sz i).x, .int .i64 0, .slice p3 x.v.length c3, .int .i64 ((tk L sz i).a : Int), .int .i64 0] 91)) k ∧ k ≠ w3.heap.size := fun k hk => ⟨⟨by have : w2.heap.size ≤ k := hk.1; omega, Nat.lt_of_lt_of_le hk.2.1 hb3.size, hk.2.2⟩, by have := hk.2.1; omega⟩
    have F : CallSt gp w L sz dp ds D D3 x (tk L sz i).x (tk L sz i).a n3 c3 p3 (w3.alloc (.cells #[.int .i64 4, .string (tk L sz i).x, .int .i64 0, .slice p3 x.v.length c3, .int .i64 ((tk L sz i).a : Int), .int .i64 0] 91)) w3.heap.size := ⟨hp3.below hb3, h03.trans (Stp.below hb3), heap_alloc_new w3 _, ⟨by omega, by simp, hp3.gp_lt, (hp3.fresh (Nat.le_refl _)).2⟩, hr3.kept hok hok2 (RdE.kept n3 hok hok2)⟩
    clear hok hok2 hb3 hzz h03 hs3 hp3 hr3 z1 z2
    revert F
    generalize (w3.alloc (.cells #[.int .i64 4, .string (tk L sz i).x, .int .i64 0, .slice p3 x.v.length c3, .int .i64 ((tk L sz i).a : Int), .int .i64 0] 91)) = W
    generalize w3.heap.size = eb
    intro F
    skip
    have hbk := F.b
    have hsl := (slot (F.s.block w.heap.size (by simp) (by omega) hfr.2)).1
    go_wp2_with (first
      | (go_at_call 148; refine (need_any F.p (bs1 41) (by decide) hd2).mono ?_; rintro e w4 ⟨rfl, D4, hp4, hs4⟩; have hbk4 := (hs4.block eb F.n.2.1 (by have := F.n.2.2.1; omega) F.n.2.2.2).trans hbk; obtain ⟨a0, a1, a2, a3, a4, a5, af⟩ := six_at hbk4; obtain ⟨p0, cc, vv, c0, c1, c2, d3, c4, c5, hf9, htok, hown, hDD⟩ := hp4.cells; clear htok hown hDD; have hm1 : ¬ eb = gp := (by have := F.n.2.2.1; omega); have hm2 : ¬ gp = eb := (by have := F.n.2.2.1; omega)))
    have hM0 := relM_set (k := 0) (w := w) (D := D) (al := x.v) (y := (tk L sz i).x) (ya := (tk L sz i).a) (n3 := n3) (c3 := c3) (p3 := p3) (m := (endT L sz (pNeed L sz x.i (bs1 41)).i : Nat)) (Nat.zero_le _) hp4 (F.s.trans hs4) hbk4 ⟨F.n.1, Nat.lt_of_lt_of_le F.n.2.1 hs4.size, F.n.2.2.1, hs4.fresh F.n.2.1 F.n.2.2.2⟩ (F.r.kept (fun k hk => (okS.step hs4).1 k hk.1) (fun k hk => ⟨(okS.step hs4).2 k hk.1, hk.2⟩) (RdE.kept n3 (fun k hk => (okS.step hs4).1 k hk.1) (fun k hk => ⟨(okS.step hs4).2 k hk.1, hk.2⟩))) rfl
    have hxl := F.r.1
    clear F hbk hsl hp4 hs4 hbk4 a0 a1 a2 a3 a4 a5 af c0 c1 c2 d3 c4 c5 hf9 hm1 hm2 hX hE
    generalize (w4.setCell ⟨eb, 5, none⟩ (.int .i64 (endT L sz (pNeed L sz x.i (bs1 41)).i : Nat))) = W4 at *
    go_loopw [38] (fun idx wr => RelM gp w L sz dp (ds ++ x.d ++ (pNeed L sz x.i (bs1 41)).d) D D4 x.v (tk L sz i).x (tk L sz i).a n3 c3 p3 eb (pNeed L sz x.i (bs1 41)).i idx wr) (fun idx _ => upN x.v.length idx)
    case atStart => exact hM0
    case round =>
      obtain ⟨k, rfl, hk, hpr, hsr, hbr, hnr, hrr⟩ := hrel
      clear hM0
      obtain ⟨a0, a1, a2, a3, a4, a5, af⟩ := six_at hbr
      by_cases hlt : k < x.v.length
      · obtain ⟨g, rfl, hgk, hLA⟩ := hrr.2 (by omega)
        obtain ⟨t, ht⟩ : ∃ t, x.v[k]? = some t := ⟨_, List.getElem?_eq_getElem hlt⟩
        obtain ⟨va, hcv, hrv⟩ := hLA k t ht
        obtain ⟨k0, x0, m0, p0, l0, c0, rfl⟩ := hrv.shape
        have b0 := hcv.get 0 _ rfl
        have b1 := hcv.get 1 _ rfl
        have b2 := hcv.get 2 _ rfl
        have b3 := hcv.get 3 _ rfl
        have b4 := hcv.get 4 _ rfl
        have b5 := hcv.get 5 _ rfl
        rw [Nat.add_zero] at b0
        have HC : Hid (_ = _) := callT_next (L := L) (sz := sz) (q := (pNeed L sz x.i (bs1 41)).i) ht
        have gi : (0 : Int) ≤ (k : Int) := by omega
        have gj : (k : Int) < (x.v.length : Int) := by omega
        have hne1 : ¬ eb = wr.heap.size := by have := hnr.2.1; omega
        have hne2 : ¬ wr.heap.size = eb := by have := hnr.2.1; omega
        clear hLA hcv hrv
        go_wp2
        go_roundw
        case rel =>
          have e : ((k : Int) + 1) = ((k + 1 : Nat) : Int) := by omega
          rw [e]
          exact (relM_set (k := k + 1) (by omega) hpr hsr hbr hnr hrr (by rw [HC.out]; omega)).alloc _
        case measure => simp [upN, intOf]; omega
      · have hkl : k = x.v.length := by omega
        subst hkl
        rw [List.take_length] at hbr a5
        have hsl := (slot (hsr.block w.heap.size (by simp) (by omega) hfr.2)).1
        obtain ⟨r0, r1, r2, r3, r4, r5, rf⟩ := six_at hsl
        have hm3 : ¬ eb = w.heap.size := by have := hnr.1; omega
        have hm4 : ¬ w.heap.size = eb := by have := hnr.1; omega
        go_wp2
        have hn6 := hsr.fresh (b := w.heap.size) (by simp) hfr.2
        have hsx := six hpr ((Stp.below hb0).trans hsr) (Nat.le_refl _) hfr.1 hn6 (.int .i64 4) (.string (tk L sz i).x) (.int .i64 0) (.slice p3 x.v.length c3) (.int .i64 ((tk L sz i).a : Int)) (.int .i64 (callT L sz (pNeed L sz x.i (bs1 41)).i x.v : Int))
        refine bodyPost_ret (v := .agg #[.int .i64 4, .string (tk L sz i).x, .int .i64 0, .slice p3 x.v.length c3, .int .i64 ((tk L sz i).a : Int), .int .i64 (callT L sz (pNeed L sz x.i (bs1 41)).i x.v : Int)]) (by simp [results, Tryz.results210, go_sem, r0, r1, r2, r3, r4, r5]) rfl ⟨_, rfl, D4, n3 + 1, ?_, ?_, ?_⟩
        · simpa using hsx.1
        · exact hsx.2
        · have e1 : ∀ j, (okS (w.heap.size + 1) gp D4 wr j ∧ j ≠ eb) → _ = wr.heap[j]? := fun j hj => (((((Below.heap_setCell _ ⟨w.heap.size, 5, none⟩ (.int .i64 (callT L sz (pNeed L sz x.i (bs1 41)).i x.v : Int)) j (by have := hj.1.1; simp; omega)).trans (Below.heap_setCell _ ⟨w.heap.size, 4, none⟩ (.int .i64 ((tk L sz i).a : Int)) j (by have := hj.1.1; simp; omega))).trans (Below.heap_setCell _ ⟨w.heap.size, 3, none⟩ (.slice p3 x.v.length c3) j (by have := hj.1.1; simp; omega))).trans (Below.heap_setCell _ ⟨w.heap.size, 2, none⟩ (.int .i64 0) j (by have := hj.1.1; simp; omega))).trans (Below.heap_setCell _ ⟨w.heap.size, 1, none⟩ (.string (tk L sz i).x) j (by have := hj.1.1; simp; omega))).trans (Below.heap_setCell wr ⟨w.heap.size, 0, none⟩ (.int .i64 4) j (by have := hj.1.1; simp; omega))
          have e2 : ∀ j, (okS (w.heap.size + 1) gp D4 wr j ∧ j ≠ eb) → okS w.heap.size gp D4 ((((((wr.setCell ⟨w.heap.size, 0, none⟩ (.int .i64 4)).setCell ⟨w.heap.size, 1, none⟩ (.string (tk L sz i).x)).setCell ⟨w.heap.size, 2, none⟩ (.int .i64 0)).setCell ⟨w.heap.size, 3, none⟩ (.slice p3 x.v.length c3)).setCell ⟨w.heap.size, 4, none⟩ (.int .i64 ((tk L sz i).a : Int))).setCell ⟨w.heap.size, 5, none⟩ (.int .i64 (callT L sz (pNeed L sz x.i (bs1 41)).i x.v : Int))) j := fun j hj => ⟨by have := hj.1.1; omega, by simpa using hj.1.2.1, hj.1.2.2⟩
          exact ⟨4, (tk L sz i).x, 0, x.v, (tk L sz i).a, callT L sz (pNeed L sz x.i (bs1 41)).i x.v, p3, c3, rfl, rfl, hrr.kept e1 e2 (RdE.kept n3 e1 e2)⟩
  · have h03 := h02.trans (((Stp.below hb2).drew).trans hs3)
    have hzz : w2.heap.size + 1 ≤ w3.heap.size := by simpa using hs3.size
    have hsx := six hp3 h03 (b := w2.heap.size) (by simp; omega) hfr2.1 (hs3.fresh (by simp) hfr2.2) (.int .i64 4) (.string (tk L sz i).x) (.int .i64 0) (.slice p3 x.v.length c3) (.int .i64 ((tk L sz i).a : Int)) (.int .i64 0)
    have hbk := six_blk hsl3 (.int .i64 4) (.string (tk L sz i).x) (.int .i64 0) (.slice p3 x.v.length c3) (.int .i64 ((tk L sz i).a : Int)) (.int .i64 0)
    have hok : ∀ k, okS ((w2.alloc (.cells #[.int .i64 0, .string ⟨#[]⟩, .int .i64 0, .slice none 0 0, .int .i64 0, .int .i64 0] 91)).drew).heap.size gp D3 w3 k → ((((((w3.setCell ⟨w2.heap.size, 0, none⟩ (.int .i64 4)).setCell ⟨w2.heap.size, 1, none⟩ (.string (tk L sz i).x)).setCell ⟨w2.heap.size, 2, none⟩ (.int .i64 0)).setCell ⟨w2.heap.size, 3, none⟩ (.slice p3 x.v.length c3)).setCell ⟨w2.heap.size, 4, none⟩ (.int .i64 ((tk L sz i).a : Int))).setCell ⟨w2.heap.size, 5, none⟩ (.int .i64 0)).heap[k]? = w3.heap[k]? := fun k hk => by
      have hk1 : w2.heap.size + 1 ≤ k := by simpa using hk.1
      have hne : k ≠ w2.heap.size := by omega
      exact (((((Below.heap_setCell _ _ _ k hne).trans (Below.heap_setCell _ _ _ k hne)).trans (Below.heap_setCell _ _ _ k hne)).trans (Below.heap_setCell _ _ _ k hne)).trans (Below.heap_setCell _ _ _ k hne)).trans (Below.heap_setCell _ _ _ k hne)
    have hok2 : ∀ k, okS ((w2.alloc (.cells #[.int .i64 0, .string ⟨#[]⟩, .int .i64 0, .slice none 0 0, .int .i64 0, .int .i64 0] 91)).drew).heap.size gp D3 w3 k → okS (w.heap.size + 1) gp D3 ((((((w3.setCell ⟨w2.heap.size, 0, none⟩ (.int .i64 4)).setCell ⟨w2.heap.size, 1, none⟩ (.string (tk L sz i).x)).setCell ⟨w2.heap.size, 2, none⟩ (.int .i64 0)).setCell ⟨w2.heap.size, 3, none⟩ (.slice p3 x.v.length c3)).setCell ⟨w2.heap.size, 4, none⟩ (.int .i64 ((tk L sz i).a : Int))).setCell ⟨w2.heap.size, 5, none⟩ (.int .i64 0)) k ∧ k ≠ w2.heap.size := fun k hk => by
      have hk1 : w2.heap.size + 1 ≤ k := by simpa using hk.1
      exact ⟨⟨by omega, by simpa using hk.2.1, hk.2.2⟩, by omega⟩
    have F : CallSt gp w L sz dp ds D D3 x (tk L sz i).x (tk L sz i).a n3 c3 p3 ((((((w3.setCell ⟨w2.heap.size, 0, none⟩ (.int .i64 4)).setCell ⟨w2.heap.size, 1, none⟩ (.string (tk L sz i).x)).setCell ⟨w2.heap.size, 2, none⟩ (.int .i64 0)).setCell ⟨w2.heap.size, 3, none⟩ (.slice p3 x.v.length c3)).setCell ⟨w2.heap.size, 4, none⟩ (.int .i64 ((tk L sz i).a : Int))).setCell ⟨w2.heap.size, 5, none⟩ (.int .i64 0)) w2.heap.size := ⟨hsx.1, hsx.2, hbk, ⟨by omega, by simp; omega, hfr2.1, hs3.fresh (by simp) hfr2.2⟩, hr3.kept hok hok2 (RdE.kept n3 hok hok2)⟩
    clear hok hok2 hbk hsx hzz h03 hs3 hp3 hr3 z1 z2 hsl3 e0 e1 e2 e3 e4 e5 ef
    revert F
    generalize ((((((w3.setCell ⟨w2.heap.size, 0, none⟩ (.int .i64 4)).setCell ⟨w2.heap.size, 1, none⟩ (.string (tk L sz i).x)).setCell ⟨w2.heap.size, 2, none⟩ (.int .i64 0)).setCell ⟨w2.heap.size, 3, none⟩ (.slice p3 x.v.length c3)).setCell ⟨w2.heap.size, 4, none⟩ (.int .i64 ((tk L sz i).a : Int))).setCell ⟨w2.heap.size, 5, none⟩ (.int .i64 0)) = W
    clear hb2 hfr2 hz2 hgp2 HF1 hw1 hne2 hne3 h02 hs2 hp2 l1 l2 y1 y2
    generalize w2.heap.size = eb
    intro F
    skip
    have hbk := F.b
    have hsl := (slot (F.s.block w.heap.size (by simp) (by omega) hfr.2)).1
    go_wp2_with (first
      | (go_at_call 148; refine (need_any F.p (bs1 41) (by decide) hd2).mono ?_; rintro e w4 ⟨rfl, D4, hp4, hs4⟩; have hbk4 := (hs4.block eb F.n.2.1 (by have := F.n.2.2.1; omega) F.n.2.2.2).trans hbk; obtain ⟨a0, a1, a2, a3, a4, a5, af⟩ := six_at hbk4; obtain ⟨p0, cc, vv, c0, c1, c2, d3, c4, c5, hf9, htok, hown, hDD⟩ := hp4.cells; clear htok hown hDD; have hm1 : ¬ eb = gp := (by have := F.n.2.2.1; omega); have hm2 : ¬ gp = eb := (by have := F.n.2.2.1; omega)))
    have hM0 := relM_set (k := 0) (w := w) (D := D) (al := x.v) (y := (tk L sz i).x) (ya := (tk L sz i).a) (n3 := n3) (c3 := c3) (p3 := p3) (m := (endT L sz (pNeed L sz x.i (bs1 41)).i : Nat)) (Nat.zero_le _) hp4 (F.s.trans hs4) hbk4 ⟨F.n.1, Nat.lt_of_lt_of_le F.n.2.1 hs4.size, F.n.2.2.1, hs4.fresh F.n.2.1 F.n.2.2.2⟩ (F.r.kept (fun k hk => (okS.step hs4).1 k hk.1) (fun k hk => ⟨(okS.step hs4).2 k hk.1, hk.2⟩) (RdE.kept n3 (fun k hk => (okS.step hs4).1 k hk.1) (fun k hk => ⟨(okS.step hs4).2 k hk.1, hk.2⟩))) rfl
    have hxl := F.r.1
    clear F hbk hsl hp4 hs4 hbk4 a0 a1 a2 a3 a4 a5 af c0 c1 c2 d3 c4 c5 hf9 hm1 hm2 hX hE
    generalize (w4.setCell ⟨eb, 5, none⟩ (.int .i64 (endT L sz (pNeed L sz x.i (bs1 41)).i : Nat))) = W4 at *
    go_loopw [38] (fun idx wr => RelM gp w L sz dp (ds ++ x.d ++ (pNeed L sz x.i (bs1 41)).d) D D4 x.v (tk L sz i).x (tk L sz i).a n3 c3 p3 eb (pNeed L sz x.i (bs1 41)).i idx wr) (fun idx _ => upN x.v.length idx)
    case atStart => exact hM0
    case round =>
      obtain ⟨k, rfl, hk, hpr, hsr, hbr, hnr, hrr⟩ := hrel
      clear hM0
      obtain ⟨a0, a1, a2, a3, a4, a5, af⟩ := six_at hbr
      by_cases hlt : k < x.v.length
      · obtain ⟨g, rfl, hgk, hLA⟩ := hrr.2 (by omega)
        obtain ⟨t, ht⟩ : ∃ t, x.v[k]? = some t := ⟨_, List.getElem?_eq_getElem hlt⟩
        obtain ⟨va, hcv, hrv⟩ := hLA k t ht
        obtain ⟨k0, x0, m0, p0, l0, c0, rfl⟩ := hrv.shape
        have b0 := hcv.get 0 _ rfl
        have b1 := hcv.get 1 _ rfl
        have b2 := hcv.get 2 _ rfl
        have b3 := hcv.get 3 _ rfl
        have b4 := hcv.get 4 _ rfl
        have b5 := hcv.get 5 _ rfl
        rw [Nat.add_zero] at b0
        have HC : Hid (_ = _) := callT_next (L := L) (sz := sz) (q := (pNeed L sz x.i (bs1 41)).i) ht
        have gi : (0 : Int) ≤ (k : Int) := by omega
        have gj : (k : Int) < (x.v.length : Int) := by omega
        have hne1 : ¬ eb = wr.heap.size := by have := hnr.2.1; omega
        have hne2 : ¬ wr.heap.size = eb := by have := hnr.2.1; omega
        clear hLA hcv hrv
        go_wp2
        go_roundw
        case rel =>
          have e : ((k : Int) + 1) = ((k + 1 : Nat) : Int) := by omega
          rw [e]
          exact (relM_set (k := k + 1) (by omega) hpr hsr hbr hnr hrr (by rw [HC.out]; omega)).alloc _
        case measure => simp [upN, intOf]; omega
      · have hkl : k = x.v.length := by omega
        subst hkl
        rw [List.take_length] at hbr a5
        have hsl := (slot (hsr.block w.heap.size (by simp) (by omega) hfr.2)).1
        obtain ⟨r0, r1, r2, r3, r4, r5, rf⟩ := six_at hsl
        have hm3 : ¬ eb = w.heap.size := by have := hnr.1; omega
        have hm4 : ¬ w.heap.size = eb := by have := hnr.1; omega
        go_wp2
        have hn6 := hsr.fresh (b := w.heap.size) (by simp) hfr.2
        have hsx := six hpr ((Stp.below hb0).trans hsr) (Nat.le_refl _) hfr.1 hn6 (.int .i64 4) (.string (tk L sz i).x) (.int .i64 0) (.slice p3 x.v.length c3) (.int .i64 ((tk L sz i).a : Int)) (.int .i64 (callT L sz (pNeed L sz x.i (bs1 41)).i x.v : Int))
        refine bodyPost_ret (v := .agg #[.int .i64 4, .string (tk L sz i).x, .int .i64 0, .slice p3 x.v.length c3, .int .i64 ((tk L sz i).a : Int), .int .i64 (callT L sz (pNeed L sz x.i (bs1 41)).i x.v : Int)]) (by simp [results, Tryz.results210, go_sem, r0, r1, r2, r3, r4, r5]) rfl ⟨_, rfl, D4, n3 + 1, ?_, ?_, ?_⟩
        · simpa using hsx.1
        · exact hsx.2
        · have e1 : ∀ j, (okS (w.heap.size + 1) gp D4 wr j ∧ j ≠ eb) → _ = wr.heap[j]? := fun j hj => (((((Below.heap_setCell _ ⟨w.heap.size, 5, none⟩ (.int .i64 (callT L sz (pNeed L sz x.i (bs1 41)).i x.v : Int)) j (by have := hj.1.1; simp; omega)).trans (Below.heap_setCell _ ⟨w.heap.size, 4, none⟩ (.int .i64 ((tk L sz i).a : Int)) j (by have := hj.1.1; simp; omega))).trans (Below.heap_setCell _ ⟨w.heap.size, 3, none⟩ (.slice p3 x.v.length c3) j (by have := hj.1.1; simp; omega))).trans (Below.heap_setCell _ ⟨w.heap.size, 2, none⟩ (.int .i64 0) j (by have := hj.1.1; simp; omega))).trans (Below.heap_setCell _ ⟨w.heap.size, 1, none⟩ (.string (tk L sz i).x) j (by have := hj.1.1; simp; omega))).trans (Below.heap_setCell wr ⟨w.heap.size, 0, none⟩ (.int .i64 4) j (by have := hj.1.1; simp; omega))
          have e2 : ∀ j, (okS (w.heap.size + 1) gp D4 wr j ∧ j ≠ eb) → okS w.heap.size gp D4 ((((((wr.setCell ⟨w.heap.size, 0, none⟩ (.int .i64 4)).setCell ⟨w.heap.size, 1, none⟩ (.string (tk L sz i).x)).setCell ⟨w.heap.size, 2, none⟩ (.int .i64 0)).setCell ⟨w.heap.size, 3, none⟩ (.slice p3 x.v.length c3)).setCell ⟨w.heap.size, 4, none⟩ (.int .i64 ((tk L sz i).a : Int))).setCell ⟨w.heap.size, 5, none⟩ (.int .i64 (callT L sz (pNeed L sz x.i (bs1 41)).i x.v : Int))) j := fun j hj => ⟨by have := hj.1.1; omega, by simpa using hj.1.2.1, hj.1.2.2⟩
          exact ⟨4, (tk L sz i).x, 0, x.v, (tk L sz i).a, callT L sz (pNeed L sz x.i (bs1 41)).i x.v, p3, c3, rfl, rfl, hrr.kept e1 e2 (RdE.kept n3 e1 e2)⟩
end
end Go.Proofs.YtfioihehhlpgcaaGreatDoor
namespace Go.Proofs.YtfioihehhlpgcaaGreatDoor
open Go.RowKit
attribute [local go_sem ↓] Go.wp_at_zero Go.wp_at_succ
section
variable {gp : Nat} {w : World} {L : List Tok} {sz i dp : Nat} {ds : List Dg} {D : Option Nat}
/-- What a callee read is handed on: the result's place is there, and what it is then. -/
theorem ex_ret {wc w1 : World} {r : R Tr} {u0 u1 u2 u3 u4 u5 : Value} (hp : PSt gp w L sz i dp ds D) (h0 : Stp gp D D (w.alloc (.cells #[.int .i64 0, .string ⟨#[]⟩, .int .i64 0, .slice none 0 0, .int .i64 0, .int .i64 0] 91)) wc) (h : ToldE gp L sz dp D ds wc w1 r (.agg #[u0, u1, u2, u3, u4, u5])) :
    w1.heap[w.heap.size]? = some (.cells #[.int .i64 0, .string ⟨#[]⟩, .int .i64 0, .slice none 0 0, .int .i64 0, .int .i64 0] 91 (0, 0)) ∧
    ToldE gp L sz dp D ds w ((((((w1.setCell ⟨w.heap.size, 0, none⟩ u0).setCell ⟨w.heap.size, 1, none⟩ u1).setCell ⟨w.heap.size, 2, none⟩ u2).setCell ⟨w.heap.size, 3, none⟩ u3).setCell ⟨w.heap.size, 4, none⟩ u4).setCell ⟨w.heap.size, 5, none⟩ u5) r (.agg #[u0, u1, u2, u3, u4, u5]) := by
  obtain ⟨D1, n, h1, h2, h3⟩ := h
  have hfr := hp.fresh (Nat.le_refl w.heap.size)
  have h02 := h0.trans h2
  have hz : w.heap.size + 1 ≤ wc.heap.size := by simpa using h0.size
  have hb0 := (Below.refl w.heap.size w).alloc (Nat.le_refl _) (.cells #[.int .i64 0, .string ⟨#[]⟩, .int .i64 0, .slice none 0 0, .int .i64 0, .int .i64 0] 91)
  have hsx := six h1 ((Stp.below hb0).trans h02) (Nat.le_refl _) hfr.1 (h02.fresh (by simp) hfr.2) u0 u1 u2 u3 u4 u5
  refine ⟨(slot (h02.block w.heap.size (by simp) (by omega) hfr.2)).1, D1, n, hsx.1, hsx.2, ?_⟩
  have e2 := ((((((h3.set (b := w.heap.size) (by omega) 0 u0).set (b := w.heap.size) (by omega) 1 u1).set (b := w.heap.size) (by omega) 2 u2).set (b := w.heap.size) (by omega) 3 u3).set (b := w.heap.size) (by omega) 4 u4).set (b := w.heap.size) (by omega) 5 u5)
  exact e2.base (by omega)
theorem ToldE.shape {w1 : World} {r : R Tr} {v : Value} (h : ToldE gp L sz dp D ds w w1 r v) : ∃ (k : Nat) (x : ByteArray) (m : Nat) (p : Option Addr) (l c f t : Nat), v = .agg #[.int .i64 (k : Int), .string x, .int .i64 (m : Int), .slice p l c, .int .i64 (f : Int), .int .i64 (t : Int)] := by
  obtain ⟨_, n, _, _, h3⟩ := h
  obtain ⟨k, x, m, p, l, c, rfl⟩ := h3.shape
  exact ⟨_, _, _, _, _, _, _, _, rfl⟩
theorem is_tk {s : ByteArray} (hs : s ≠ noB) : isT L i s = decide ((tk L sz i).x = s) := by
  unfold isT
  rcases Nat.lt_or_ge i L.length with h | h
  · rw [tok_of (sz := sz) h]
  · rw [List.getElem?_eq_none h, tok_no h]
    simp
    exact fun e => hs e.symm
set_option maxHeartbeats 1000000 in
set_option maxRecDepth 100000 in
theorem single_any {f : Nat} (hE : CEx f) (hEs : ∀ g, g < f → CEx g) (hp : PSt gp w L sz i dp ds D) (hd : dp < 12) (hf : 6 * (L.length - i) ≤ f)
    (hds : ds.length + (pAtom L sz (f + 1) dp i).d.length + 1 ≤ 1099511627776) :
    Calls Tryz.prog 206 #[.pointer (some ⟨gp, 0, none⟩)] w fun e w' => ∃ v, e = .returned v ∧ ToldE gp L sz dp D ds w w' (pAtom L sz (f + 1) dp i) v := by
  have hgp := hp.gp_lt
  have hb0 := (Below.refl w.heap.size w).alloc (Nat.le_refl _) (.cells #[.int .i64 0, .string ⟨#[]⟩, .int .i64 0, .slice none 0 0, .int .i64 0, .int .i64 0] 91)
  have hp0 := hp.below hb0
  have hfd := fun w2 => (tkField (tk L sz i) w2).1
  have hpe := pAtom_succ L sz f dp i
  have his := is_tk (L := L) (sz := sz) (i := i) (s := bs1 40) (by decide)
  have hdl : ds.length + 1 ≤ 1099511627776 := by omega
  have HP : Hid (pAtom L sz (f + 1) dp i = _) := hpe
  generalize pAtom L sz (f + 1) dp i = r at *
  clear hpe
  go_enter Tryz.func206, Tryz.ntmps206
  cases hO : opB (tk L sz i)
  · have hr : r = ⟨exNo L sz i, i, [bad L sz i 2]⟩ := by rw [HP.out, if_neg (by rw [hO]; decide)]
    subst hr
    clear HP
    go_wp2_with (first
      | (go_at_call 204; refine (opensR_any hp0).mono ?_; rintro e w1 ⟨rfl, hb1⟩; rw [hO])
      | (go_at_call 205; refine (none_any (hp0.below hb1) 2 hdl).mono ?_; rintro e w2 ⟨v, rfl, ht⟩; obtain ⟨k0, x0, m0, p0, l0, c0, f0, t0, rfl⟩ := ht.shape; obtain ⟨hsl, hT⟩ := ex_ret hp (Stp.below hb1) ht; obtain ⟨r0, r1, r2, r3, r4, r5, rf⟩ := six_at hsl))
    exact bodyPost_ret (v := .agg #[.int .i64 (k0 : Int), .string x0, .int .i64 (m0 : Int), .slice p0 l0 c0, .int .i64 (f0 : Int), .int .i64 (t0 : Int)]) (by simp [results, Tryz.results206, go_sem, r0, r1, r2, r3, r4, r5]) rfl ⟨_, rfl, hT⟩
  · have hil := op_lt hO
    by_cases hx : (tk L sz i).x = bs1 40
    · rw [decide_eq_true hx] at his
      have hr := HP.out
      rw [if_pos hO, if_pos hx] at hr
      subst hr
      clear HP hx
      go_wp2_with (first
        | (go_at_call 204; refine (opensR_any hp0).mono ?_; rintro e w1 ⟨rfl, hb1⟩; rw [hO])
        | (go_at_call 144; refine (is_any (hp0.below hb1) (bs1 40) (by decide)).mono ?_; rintro e w2 ⟨rfl, hb2⟩; rw [his])
        | (go_at_call 208; refine (grouped_any hE ((hp0.below hb1).below hb2) hd hil hf hds).mono ?_; rintro e w3 ⟨v, rfl, ht⟩; obtain ⟨k0, x0, m0, p0, l0, c0, f0, t0, rfl⟩ := ht.shape; obtain ⟨hsl, hT⟩ := ex_ret hp ((Stp.below hb1).trans (Stp.below hb2)) ht; obtain ⟨r0, r1, r2, r3, r4, r5, rf⟩ := six_at hsl))
      exact bodyPost_ret (v := .agg #[.int .i64 (k0 : Int), .string x0, .int .i64 (m0 : Int), .slice p0 l0 c0, .int .i64 (f0 : Int), .int .i64 (t0 : Int)]) (by simp [results, Tryz.results206, go_sem, r0, r1, r2, r3, r4, r5]) rfl ⟨_, rfl, hT⟩
    · rw [decide_eq_false hx] at his
      by_cases hk : (tk L sz i).k = 2
      · have hr := HP.out
        rw [if_pos hO, if_neg hx, if_pos hk] at hr
        have hK : (((tk L sz i).k : Int) == 2) = true := by rw [hk]; rfl
        have HK : Hid ((tk L sz i).k = 2) := hk
        clear HP hx hk
        go_wp2_with (first
          | (go_at_call 204; refine (opensR_any hp0).mono ?_; rintro e w1 ⟨rfl, hb1⟩; rw [hO])
          | (go_at_call 144; refine (is_any (hp0.below hb1) (bs1 40) (by decide)).mono ?_; rintro e w2 ⟨rfl, hb2⟩; rw [his])
          | (go_at_call 146; refine (peek_any ((hp0.below hb1).below hb2)).mono ?_; rintro e w3 ⟨rfl, hb3⟩; unfold tkV)
          | (go_at_call 209; refine (number_any (((hp0.below hb1).below hb2).below hb3) HK.out hdl r hr).mono ?_; rintro e w4 ⟨v, rfl, ht⟩; obtain ⟨k0, x0, m0, p0, l0, c0, f0, t0, rfl⟩ := ht.shape; obtain ⟨hsl, hT⟩ := ex_ret hp (((Stp.below hb1).trans (Stp.below hb2)).trans (Stp.below hb3)) ht; obtain ⟨r0, r1, r2, r3, r4, r5, rf⟩ := six_at hsl))
        exact bodyPost_ret (v := .agg #[.int .i64 (k0 : Int), .string x0, .int .i64 (m0 : Int), .slice p0 l0 c0, .int .i64 (f0 : Int), .int .i64 (t0 : Int)]) (by simp [results, Tryz.results206, go_sem, r0, r1, r2, r3, r4, r5]) rfl ⟨_, rfl, hT⟩
      · have hr := HP.out
        rw [if_pos hO, if_neg hx, if_neg hk] at hr
        have hK : (((tk L sz i).k : Int) == 2) = false := by simp; omega
        clear HP hx hk
        cases hC : isT L (i + 1) (bs1 40)
        · rw [hC] at hr
          simp only [Bool.false_eq_true, if_false] at hr
          subst hr
          go_wp2_with (first
            | (go_at_call 204; refine (opensR_any hp0).mono ?_; rintro e w1 ⟨rfl, hb1⟩; rw [hO])
            | (go_at_call 144; refine (is_any (hp0.below hb1) (bs1 40) (by decide)).mono ?_; rintro e w2 ⟨rfl, hb2⟩; rw [his])
            | (go_at_call 146; refine (peek_any ((hp0.below hb1).below hb2)).mono ?_; rintro e w3 ⟨rfl, hb3⟩; unfold tkV)
            | (go_at_call 210; refine (named_var (((hp0.below hb1).below hb2).below hb3) hil hC).mono ?_; rintro e w4 ⟨v, rfl, ht⟩; obtain ⟨k0, x0, m0, p0, l0, c0, f0, t0, rfl⟩ := ht.shape; obtain ⟨hsl, hT⟩ := ex_ret hp (((Stp.below hb1).trans (Stp.below hb2)).trans (Stp.below hb3)) ht; obtain ⟨r0, r1, r2, r3, r4, r5, rf⟩ := six_at hsl))
          exact bodyPost_ret (v := .agg #[.int .i64 (k0 : Int), .string x0, .int .i64 (m0 : Int), .slice p0 l0 c0, .int .i64 (f0 : Int), .int .i64 (t0 : Int)]) (by simp [results, Tryz.results206, go_sem, r0, r1, r2, r3, r4, r5]) rfl ⟨_, rfl, hT⟩
        · rw [hC] at hr
          simp only [if_true] at hr
          subst hr
          go_wp2_with (first
            | (go_at_call 204; refine (opensR_any hp0).mono ?_; rintro e w1 ⟨rfl, hb1⟩; rw [hO])
            | (go_at_call 144; refine (is_any (hp0.below hb1) (bs1 40) (by decide)).mono ?_; rintro e w2 ⟨rfl, hb2⟩; rw [his])
            | (go_at_call 146; refine (peek_any ((hp0.below hb1).below hb2)).mono ?_; rintro e w3 ⟨rfl, hb3⟩; unfold tkV)
            | (go_at_call 210; refine (named_call hEs (((hp0.below hb1).below hb2).below hb3) hd hil hC hf _ rfl hds).mono ?_; rintro e w4 ⟨v, rfl, ht⟩; obtain ⟨k0, x0, m0, p0, l0, c0, f0, t0, rfl⟩ := ht.shape; obtain ⟨hsl, hT⟩ := ex_ret hp (((Stp.below hb1).trans (Stp.below hb2)).trans (Stp.below hb3)) ht; obtain ⟨r0, r1, r2, r3, r4, r5, rf⟩ := six_at hsl))
          exact bodyPost_ret (v := .agg #[.int .i64 (k0 : Int), .string x0, .int .i64 (m0 : Int), .slice p0 l0 c0, .int .i64 (f0 : Int), .int .i64 (t0 : Int)]) (by simp [results, Tryz.results206, go_sem, r0, r1, r2, r3, r4, r5]) rfl ⟨_, rfl, hT⟩
end
end Go.Proofs.YtfioihehhlpgcaaGreatDoor
namespace Go.Proofs.YtfioihehhlpgcaaGreatDoor
open Go.RowKit
attribute [local go_sem ↓] Go.wp_at_zero Go.wp_at_succ
/-- What single is to answer, with so much fuel. -/
def CSi (f : Nat) : Prop := ∀ {gp : Nat} {w : World} {L : List Tok} {sz i dp : Nat} {ds : List Dg} {D : Option Nat}, PSt gp w L sz i dp ds D → dp < 12 → 6 * (L.length - i) + 1 ≤ f → ds.length + (pAtom L sz f dp i).d.length + 1 ≤ 1099511627776 →
  Calls Tryz.prog 206 #[.pointer (some ⟨gp, 0, none⟩)] w fun e w' => ∃ v, e = .returned v ∧ ToldE gp L sz dp D ds w w' (pAtom L sz f dp i) v
/-- What chain is to answer, with so much fuel. -/
def CCh (f : Nat) : Prop := ∀ {gp : Nat} {w : World} {L : List Tok} {sz i dp : Nat} {ds : List Dg} {D : Option Nat} (b : Nat), PSt gp w L sz i dp ds D → dp < 12 → 0 < b → b ≤ 4 → 6 * (L.length - i) + 6 - min b 4 ≤ f → ds.length + (pExpr L sz f dp i b).d.length + 1 ≤ 1099511627776 →
  Calls Tryz.prog 203 #[.pointer (some ⟨gp, 0, none⟩), .int .i64 (b : Int)] w fun e w' => ∃ v, e = .returned v ∧ ToldE gp L sz dp D ds w w' (pExpr L sz f dp i b) v
section
variable {gp : Nat} {w : World} {L : List Tok} {sz i dp : Nat} {ds : List Dg} {D : Option Nat}
set_option maxHeartbeats 1000000 in
set_option maxRecDepth 100000 in
theorem chain_top {f : Nat} (hS : CSi f) (hp : PSt gp w L sz i dp ds D) (hd : dp < 12) (hf : 6 * (L.length - i) + 1 ≤ f) (hds : ds.length + (pAtom L sz f dp i).d.length + 1 ≤ 1099511627776) :
    Calls Tryz.prog 203 #[.pointer (some ⟨gp, 0, none⟩), .int .i64 ((4 : Nat) : Int)] w fun e w' => ∃ v, e = .returned v ∧ ToldE gp L sz dp D ds w w' (pAtom L sz f dp i) v := by
  have hb0 := (Below.refl w.heap.size w).alloc (Nat.le_refl _) (.cells #[.int .i64 0, .string ⟨#[]⟩, .int .i64 0, .slice none 0 0, .int .i64 0, .int .i64 0] 91)
  have hp0 := hp.below hb0
  go_enter Tryz.func203, Tryz.ntmps203
  go_wp2_with (first
    | (go_at_call 206; refine (hS hp0 hd hf hds).mono ?_; rintro e w2 ⟨v, rfl, ht⟩; obtain ⟨k0, x0, m0, p0, l0, c0, f0, t0, rfl⟩ := ht.shape; obtain ⟨hsl, hT⟩ := ex_ret hp (Stp.refl _ _ _) ht; obtain ⟨r0, r1, r2, r3, r4, r5, rf⟩ := six_at hsl))
  exact bodyPost_ret (v := .agg #[.int .i64 (k0 : Int), .string x0, .int .i64 (m0 : Int), .slice p0 l0 c0, .int .i64 (f0 : Int), .int .i64 (t0 : Int)]) (by simp [results, Tryz.results203, go_sem, r0, r1, r2, r3, r4, r5]) rfl ⟨_, rfl, hT⟩
/-- Where the reading of signs stands: the left part lies at block lb. -/
def RelO (gp : Nat) (w : World) (L : List Tok) (sz dp b f : Nat) (ds : List Dg) (D : Option Nat) (lb : Nat) (r : R Tr) (wr : World) : Prop :=
  ∃ (g j : Nat) (e : Tr) (da : List Dg) (D1 : Option Nat) (n k0 : Nat) (x0 : ByteArray) (m0 : Nat) (p0 : Option Addr) (l0 c0 : Nat), PSt gp wr L sz j dp (ds ++ da) D1 ∧ Stp gp D D1 (w.alloc (.cells #[.int .i64 0, .string ⟨#[]⟩, .int .i64 0, .slice none 0 0, .int .i64 0, .int .i64 0] 91)) wr ∧
    wr.heap[lb]? = some (.cells #[.int .i64 (k0 : Int), .string x0, .int .i64 (m0 : Int), .slice p0 l0 c0, .int .i64 (exF e : Int), .int .i64 (exT e : Int)] 91 (0, 0)) ∧
    (w.heap.size < lb ∧ lb < wr.heap.size ∧ gp < lb ∧ some lb ≠ D1) ∧
    RdE n (fun k => okS (w.heap.size + 1) gp D1 wr k ∧ k ≠ lb) wr e (.agg #[.int .i64 (k0 : Int), .string x0, .int .i64 (m0 : Int), .slice p0 l0 c0, .int .i64 (exF e : Int), .int .i64 (exT e : Int)]) ∧
    6 * (L.length - j) + 1 ≤ g ∧ g ≤ f ∧ r = ⟨(pOps L sz g dp e j b).v, (pOps L sz g dp e j b).i, da ++ (pOps L sz g dp e j b).d⟩
/-- An expression that lies somewhere is handed back. -/
theorem ex_fin {w w3 : World} {q n : Nat} {D1 : Option Nat} {P : Nat → Prop} {e : Tr} {u0 u1 u2 u3 u4 u5 : Value} (hfr : gp < w.heap.size ∧ some w.heap.size ≠ D) (hp3 : PSt gp w3 L sz q dp ds D1) (hs : Stp gp D D1 (w.alloc (.cells #[.int .i64 0, .string ⟨#[]⟩, .int .i64 0, .slice none 0 0, .int .i64 0, .int .i64 0] 91)) w3)
    (hr : RdE n (fun k => okS (w.heap.size + 1) gp D1 w3 k ∧ P k) w3 e (.agg #[u0, u1, u2, u3, u4, u5])) :
    PSt gp ((((((w3.setCell ⟨w.heap.size, 0, none⟩ u0).setCell ⟨w.heap.size, 1, none⟩ u1).setCell ⟨w.heap.size, 2, none⟩ u2).setCell ⟨w.heap.size, 3, none⟩ u3).setCell ⟨w.heap.size, 4, none⟩ u4).setCell ⟨w.heap.size, 5, none⟩ u5) L sz q dp ds D1 ∧
    Stp gp D D1 w ((((((w3.setCell ⟨w.heap.size, 0, none⟩ u0).setCell ⟨w.heap.size, 1, none⟩ u1).setCell ⟨w.heap.size, 2, none⟩ u2).setCell ⟨w.heap.size, 3, none⟩ u3).setCell ⟨w.heap.size, 4, none⟩ u4).setCell ⟨w.heap.size, 5, none⟩ u5) ∧
    RdE n (okS w.heap.size gp D1 ((((((w3.setCell ⟨w.heap.size, 0, none⟩ u0).setCell ⟨w.heap.size, 1, none⟩ u1).setCell ⟨w.heap.size, 2, none⟩ u2).setCell ⟨w.heap.size, 3, none⟩ u3).setCell ⟨w.heap.size, 4, none⟩ u4).setCell ⟨w.heap.size, 5, none⟩ u5)) ((((((w3.setCell ⟨w.heap.size, 0, none⟩ u0).setCell ⟨w.heap.size, 1, none⟩ u1).setCell ⟨w.heap.size, 2, none⟩ u2).setCell ⟨w.heap.size, 3, none⟩ u3).setCell ⟨w.heap.size, 4, none⟩ u4).setCell ⟨w.heap.size, 5, none⟩ u5) e (.agg #[u0, u1, u2, u3, u4, u5]) := by
  have hb0 := (Below.refl w.heap.size w).alloc (Nat.le_refl _) (.cells #[.int .i64 0, .string ⟨#[]⟩, .int .i64 0, .slice none 0 0, .int .i64 0, .int .i64 0] 91)
  have hsx := six hp3 ((Stp.below hb0).trans hs) (Nat.le_refl _) hfr.1 (hs.fresh (by simp) hfr.2) u0 u1 u2 u3 u4 u5
  refine ⟨hsx.1, hsx.2, ?_⟩
  have e0 : RdE n (okS (w.heap.size + 1) gp D1 w3) w3 e (.agg #[u0, u1, u2, u3, u4, u5]) := RdE.kept n (fun _ _ => rfl) (fun k hk => hk.1) _ _ hr
  have e2 := ((((((e0.set (b := w.heap.size) (by omega) 0 u0).set (b := w.heap.size) (by omega) 1 u1).set (b := w.heap.size) (by omega) 2 u2).set (b := w.heap.size) (by omega) 3 u3).set (b := w.heap.size) (by omega) 4 u4).set (b := w.heap.size) (by omega) 5 u5)
  exact e2.base (by omega)
/-- Two expressions with a sign between are laid down; the whole lies where the left one lay. -/
theorem op_step {w w5 : World} {q n n5 lb : Nat} {D5 : Option Nat} {e y : Tr} {x : ByteArray} {k0 m0 l0 c0 k1 m1 l1 c1 : Nat} {x0 x1 : ByteArray} {p0 p1 : Option Addr} {z0 z1 z2 z3 z4 z5 : Value} (hp5 : PSt gp w5 L sz q dp ds D5) (hs : Stp gp D D5 (w.alloc (.cells #[.int .i64 0, .string ⟨#[]⟩, .int .i64 0, .slice none 0 0, .int .i64 0, .int .i64 0] 91)) w5)
    (hbk : w5.heap[lb]? = some (.cells #[z0, z1, z2, z3, z4, z5] 91 (0, 0))) (hn : w.heap.size < lb ∧ lb < w5.heap.size ∧ gp < lb ∧ some lb ≠ D5)
    (hl : RdE n (fun k => okS (w.heap.size + 1) gp D5 w5 k ∧ k ≠ lb) w5 e (.agg #[.int .i64 (k0 : Int), .string x0, .int .i64 (m0 : Int), .slice p0 l0 c0, .int .i64 (exF e : Int), .int .i64 (exT e : Int)]))
    (hy : RdE n5 (fun k => okS (w.heap.size + 1) gp D5 w5 k ∧ k ≠ lb) w5 y (.agg #[.int .i64 (k1 : Int), .string x1, .int .i64 (m1 : Int), .slice p1 l1 c1, .int .i64 (exF y : Int), .int .i64 (exT y : Int)])) {t : Int} (ht : t = (max (exT e) (exT y) : Nat)) {W8 : World} {o : Obj}
    (hW8 : W8 = ((((((((w5.setCell ⟨lb, 0, none⟩ (.int .i64 3)).setCell ⟨lb, 1, none⟩ (.string x)).setCell ⟨lb, 2, none⟩ (.int .i64 0)).setCell ⟨lb, 3, none⟩ (.slice (some ⟨w5.heap.size + 1, 0, none⟩) 2 2)).setCell ⟨lb, 4, none⟩ (.int .i64 (exF e : Int))).setCell ⟨lb, 5, none⟩ (.int .i64 t)).alloc o).alloc (.cells #[.int .i64 (k0 : Int), .string x0, .int .i64 (m0 : Int), .slice p0 l0 c0, .int .i64 (exF e : Int), .int .i64 (exT e : Int), .int .i64 (k1 : Int), .string x1, .int .i64 (m1 : Int), .slice p1 l1 c1, .int .i64 (exF y : Int), .int .i64 (exT y : Int)] 91))) :
    PSt gp W8 L sz q dp ds D5 ∧ Stp gp D D5 (w.alloc (.cells #[.int .i64 0, .string ⟨#[]⟩, .int .i64 0, .slice none 0 0, .int .i64 0, .int .i64 0] 91)) W8 ∧
    W8.heap[lb]? = some (.cells #[.int .i64 ((3 : Nat) : Int), .string x, .int .i64 ((0 : Nat) : Int), .slice (some ⟨w5.heap.size + 1, 0, none⟩) 2 2, .int .i64 (exF (exMk 3 x 0 [e, y] (exF e) (max (exT e) (exT y))) : Int), .int .i64 (exT (exMk 3 x 0 [e, y] (exF e) (max (exT e) (exT y))) : Int)] 91 (0, 0)) ∧
    (w.heap.size < lb ∧ lb < W8.heap.size ∧ gp < lb ∧ some lb ≠ D5) ∧
    RdE (max n n5 + 1) (fun k => okS (w.heap.size + 1) gp D5 W8 k ∧ k ≠ lb) W8 (exMk 3 x 0 [e, y] (exF e) (max (exT e) (exT y))) (.agg #[.int .i64 ((3 : Nat) : Int), .string x, .int .i64 ((0 : Nat) : Int), .slice (some ⟨w5.heap.size + 1, 0, none⟩) 2 2, .int .i64 (exF (exMk 3 x 0 [e, y] (exF e) (max (exT e) (exT y))) : Int), .int .i64 (exT (exMk 3 x 0 [e, y] (exF e) (max (exT e) (exT y))) : Int)]) := by
  subst ht
  rw [exF_mk, exT_mk]
  have hsx := six hp5 hs (b := lb) (by simp; omega) hn.2.2.1 hn.2.2.2 (.int .i64 3) (.string x) (.int .i64 0) (.slice (some ⟨w5.heap.size + 1, 0, none⟩) 2 2) (.int .i64 (exF e : Int)) (.int .i64 ((max (exT e) (exT y) : Nat) : Int))
  have hbb := six_blk hbk (.int .i64 3) (.string x) (.int .i64 0) (.slice (some ⟨w5.heap.size + 1, 0, none⟩) 2 2) (.int .i64 (exF e : Int)) (.int .i64 ((max (exT e) (exT y) : Nat) : Int))
  have hkk : ∀ k, k ≠ lb → ((((((w5.setCell ⟨lb, 0, none⟩ (.int .i64 3)).setCell ⟨lb, 1, none⟩ (.string x)).setCell ⟨lb, 2, none⟩ (.int .i64 0)).setCell ⟨lb, 3, none⟩ (.slice (some ⟨w5.heap.size + 1, 0, none⟩) 2 2)).setCell ⟨lb, 4, none⟩ (.int .i64 (exF e : Int))).setCell ⟨lb, 5, none⟩ (.int .i64 ((max (exT e) (exT y) : Nat) : Int))).heap[k]? = w5.heap[k]? := fun k hne =>
    (((((Below.heap_setCell _ _ _ k hne).trans (Below.heap_setCell _ _ _ k hne)).trans (Below.heap_setCell _ _ _ k hne)).trans (Below.heap_setCell _ _ _ k hne)).trans (Below.heap_setCell _ _ _ k hne)).trans (Below.heap_setCell _ _ _ k hne)
  have hsz : ((((((w5.setCell ⟨lb, 0, none⟩ (.int .i64 3)).setCell ⟨lb, 1, none⟩ (.string x)).setCell ⟨lb, 2, none⟩ (.int .i64 0)).setCell ⟨lb, 3, none⟩ (.slice (some ⟨w5.heap.size + 1, 0, none⟩) 2 2)).setCell ⟨lb, 4, none⟩ (.int .i64 (exF e : Int))).setCell ⟨lb, 5, none⟩ (.int .i64 ((max (exT e) (exT y) : Nat) : Int))).heap.size = w5.heap.size := by simp
  generalize ((((((w5.setCell ⟨lb, 0, none⟩ (.int .i64 3)).setCell ⟨lb, 1, none⟩ (.string x)).setCell ⟨lb, 2, none⟩ (.int .i64 0)).setCell ⟨lb, 3, none⟩ (.slice (some ⟨w5.heap.size + 1, 0, none⟩) 2 2)).setCell ⟨lb, 4, none⟩ (.int .i64 (exF e : Int))).setCell ⟨lb, 5, none⟩ (.int .i64 ((max (exT e) (exT y) : Nat) : Int))) = W6 at *
  have hb7 := (Below.refl W6.heap.size W6).alloc (Nat.le_refl _) o
  have hs7 : (W6.alloc o).heap.size = w5.heap.size + 1 := by rw [World.size_alloc, hsz]
  have hnew := heap_alloc_new (W6.alloc o) (.cells #[.int .i64 (k0 : Int), .string x0, .int .i64 (m0 : Int), .slice p0 l0 c0, .int .i64 (exF e : Int), .int .i64 (exT e : Int), .int .i64 (k1 : Int), .string x1, .int .i64 (m1 : Int), .slice p1 l1 c1, .int .i64 (exF y : Int), .int .i64 (exT y : Int)] 91)
  have hb8 := (Below.refl (W6.alloc o).heap.size (W6.alloc o)).alloc (Nat.le_refl _) (.cells #[.int .i64 (k0 : Int), .string x0, .int .i64 (m0 : Int), .slice p0 l0 c0, .int .i64 (exF e : Int), .int .i64 (exT e : Int), .int .i64 (k1 : Int), .string x1, .int .i64 (m1 : Int), .slice p1 l1 c1, .int .i64 (exF y : Int), .int .i64 (exT y : Int)] 91)
  have hs8 : W8.heap.size = w5.heap.size + 2 := by rw [hW8, World.size_alloc, hs7]
  rw [← hW8] at hb8 hnew
  rw [hs7] at hnew
  have hb68 : Below W6.heap.size W6 W8 := hb7.trans (hb8.mono hb7.size)
  have hok : ∀ k, (okS (w.heap.size + 1) gp D5 w5 k ∧ k ≠ lb) → W8.heap[k]? = w5.heap[k]? := fun k hk => (hb68.block k (by have := hk.1.2.1; omega)).trans (hkk k hk.2)
  have hok2 : ∀ k, (okS (w.heap.size + 1) gp D5 w5 k ∧ k ≠ lb) → (okS (w.heap.size + 1) gp D5 W8 k ∧ k ≠ lb) := fun k hk => ⟨⟨hk.1.1, by have := hk.1.2.1; omega, hk.1.2.2⟩, hk.2⟩
  have hD : some (w5.heap.size + 1) ≠ D5 := (hp5.fresh (Nat.le_add_right _ 1)).2
  have hgp5 := hp5.gp_lt
  refine ⟨hsx.1.below hb68, hsx.2.trans (Stp.below hb68), (hb68.block lb (by omega)).trans hbb, ⟨hn.1, by omega, hn.2.2⟩, ?_⟩
  refine ⟨3, x, 0, [e, y], exF e, max (exT e) (exT y), some ⟨w5.heap.size + 1, 0, none⟩, 2, rfl, rfl, by simp, fun _ => ⟨w5.heap.size + 1, rfl, ⟨⟨by omega, by omega, by omega, hD⟩, by omega⟩, fun j a hj => ?_⟩⟩
  match j, hj with
  | 0, hj =>
    simp at hj
    subst hj
    refine ⟨_, ⟨_, rfl, fun i u hi => ?_⟩, (RdE.kept n hok hok2 _ _ hl).le (Nat.le_max_left n n5)⟩
    rw [cell_of_row _ _ _ _ _ _ hnew]
    match i, hi with
    | 0, hi => exact hi
    | 1, hi => exact hi
    | 2, hi => exact hi
    | 3, hi => exact hi
    | 4, hi => exact hi
    | 5, hi => exact hi
    | i + 6, hi => simp at hi
  | 1, hj =>
    simp at hj
    subst hj
    refine ⟨_, ⟨_, rfl, fun i u hi => ?_⟩, (RdE.kept n5 hok hok2 _ _ hy).le (Nat.le_max_right n n5)⟩
    rw [cell_of_row _ _ _ _ _ _ hnew]
    match i, hi with
    | 0, hi => exact hi
    | 1, hi => exact hi
    | 2, hi => exact hi
    | 3, hi => exact hi
    | 4, hi => exact hi
    | 5, hi => exact hi
    | i + 6, hi => simp at hi
  | j + 2, hj => simp at hj
set_option maxHeartbeats 1000000 in
set_option maxRecDepth 100000 in
theorem chain_mid {f : Nat} (hC : ∀ g, g ≤ f → CCh g) (b : Nat) (hp : PSt gp w L sz i dp ds D) (hd : dp < 12) (hb1 : 0 < b) (hb3 : b < 4) (hf : 6 * (L.length - i) + 5 - b ≤ f)
    (hds : ds.length + (pExpr L sz (f + 1) dp i b).d.length + 1 ≤ 1099511627776) :
    Calls Tryz.prog 203 #[.pointer (some ⟨gp, 0, none⟩), .int .i64 (b : Int)] w fun e w' => ∃ v, e = .returned v ∧ ToldE gp L sz dp D ds w w' (pExpr L sz (f + 1) dp i b) v := by
  have hgp := hp.gp_lt
  have hfr := hp.fresh (Nat.le_refl w.heap.size)
  have hb0 := (Below.refl w.heap.size w).alloc (Nat.le_refl _) (.cells #[.int .i64 0, .string ⟨#[]⟩, .int .i64 0, .slice none 0 0, .int .i64 0, .int .i64 0] 91)
  have hp0 := hp.below hb0
  have HP : Hid (pExpr L sz (f + 1) dp i b = _) := pExpr_mid L sz f dp i b hb1 hb3
  have hIx : i ≤ (pExpr L sz f dp i (b + 1)).i := ((expr_ok (sz := sz) hp.okL f).2.2.1 dp i (b + 1) hp.at_).1.ge
  have hd1 : ds.length + (pExpr L sz f dp i (b + 1)).d.length + 1 ≤ 1099511627776 := by rw [HP.out] at hds; simp only [List.length_append] at hds; omega
  have gb : ¬ (3 : Int) < (b : Int) := by omega
  generalize pExpr L sz (f + 1) dp i b = r at *
  go_enter Tryz.func203, Tryz.ntmps203
  go_wp2_with (first
    | (go_at_call 203; refine (hC f (Nat.le_refl _) (b + 1) hp0 hd (by omega) (by omega) (by omega) hd1).mono ?_; rintro e w1 ⟨v, rfl, D1, n, hp1, hs1, hr1⟩; obtain ⟨k0, x0, m0, p0, l0, c0, hv⟩ := hr1.shape; subst hv))
  have hzz : w.heap.size + 1 ≤ w1.heap.size := by simpa using hs1.size
  have hbl := (Below.refl w1.heap.size w1).alloc (Nat.le_refl _) (.cells #[.int .i64 (k0 : Int), .string x0, .int .i64 (m0 : Int), .slice p0 l0 c0, .int .i64 (exF (pExpr L sz f dp i (b + 1)).v : Int), .int .i64 (exT (pExpr L sz f dp i (b + 1)).v : Int)] 91)
  have hO0 : RelO gp w L sz dp b f ds D w1.heap.size r (w1.alloc (.cells #[.int .i64 (k0 : Int), .string x0, .int .i64 (m0 : Int), .slice p0 l0 c0, .int .i64 (exF (pExpr L sz f dp i (b + 1)).v : Int), .int .i64 (exT (pExpr L sz f dp i (b + 1)).v : Int)] 91)) := by
    refine ⟨f, (pExpr L sz f dp i (b + 1)).i, (pExpr L sz f dp i (b + 1)).v, (pExpr L sz f dp i (b + 1)).d, D1, n, k0, x0, m0, p0, l0, c0, hp1.below hbl, hs1.trans (Stp.below hbl), heap_alloc_new w1 _, ⟨by omega, by simp, hp1.gp_lt, (hp1.fresh (Nat.le_refl _)).2⟩, ?_, by omega, Nat.le_refl _, HP.out⟩
    have e1 : ∀ k, okS (w.alloc (.cells #[.int .i64 0, .string ⟨#[]⟩, .int .i64 0, .slice none 0 0, .int .i64 0, .int .i64 0] 91)).heap.size gp D1 w1 k → _ = w1.heap[k]? := fun k hk => hbl.block k hk.2.1
    exact RdE.kept n e1 (fun k hk => ⟨⟨by have := hk.1; simp at this; omega, Nat.lt_of_lt_of_le hk.2.1 hbl.size, hk.2.2⟩, by have := hk.2.1; omega⟩) _ _ hr1
  clear hr1 hp1 hs1 HP hd1 hIx hf
  revert hO0
  generalize (w1.alloc (.cells #[.int .i64 (k0 : Int), .string x0, .int .i64 (m0 : Int), .slice p0 l0 c0, .int .i64 (exF (pExpr L sz f dp i (b + 1)).v : Int), .int .i64 (exT (pExpr L sz f dp i (b + 1)).v : Int)] 91)) = W1
  generalize w1.heap.size = lb
  intro hO0
  clear hbl hzz
  go_loopw [] (fun wr => RelO gp w L sz dp b f ds D lb r wr) (fun wr => msL L gp wr)
  case atStart => exact hO0
  case round =>
    obtain ⟨g, j, e, da, D1, n, k0, x0, m0, p0, l0, c0, hpr, hsr, hbr, hnr, hrr, hg1, hg2, hr⟩ := hrel
    obtain ⟨g, rfl⟩ : ∃ q, g = q + 1 := ⟨g - 1, by omega⟩
    have HR : Hid (r = _) := hr
    clear hr
    have hfd := fun w2 => (tkField (tk L sz j) w2).2.1
    have HQ : Hid (pOps L sz (g + 1) dp e j b = _) := pOps_succ L sz g dp e j b
    by_cases ht : tight (tk L sz j).x = b
    · have hjl : j < L.length := tight_lt (L := L) (sz := sz) (i := j) (by omega)
      have HT : Hid (tight (tk L sz j).x = b) := ht
      clear ht
      have hr2 : r = ⟨(pOps L sz g dp (exMk 3 (tk L sz j).x 0 [e, (pExpr L sz g dp (j + 1) (b + 1)).v] (exF e) (max (exT e) (exT (pExpr L sz g dp (j + 1) (b + 1)).v))) (pExpr L sz g dp (j + 1) (b + 1)).i b).v, (pOps L sz g dp (exMk 3 (tk L sz j).x 0 [e, (pExpr L sz g dp (j + 1) (b + 1)).v] (exF e) (max (exT e) (exT (pExpr L sz g dp (j + 1) (b + 1)).v))) (pExpr L sz g dp (j + 1) (b + 1)).i b).i, (da ++ (pExpr L sz g dp (j + 1) (b + 1)).d) ++ (pOps L sz g dp (exMk 3 (tk L sz j).x 0 [e, (pExpr L sz g dp (j + 1) (b + 1)).v] (exF e) (max (exT e) (exT (pExpr L sz g dp (j + 1) (b + 1)).v))) (pExpr L sz g dp (j + 1) (b + 1)).i b).d⟩ := by
        rw [HR.out, HQ.out, if_pos ⟨HT.out, hb1⟩, List.append_assoc]
      have HR2 : Hid (r = _) := hr2
      have hd2 : (ds ++ da).length + (pExpr L sz g dp (j + 1) (b + 1)).d.length + 1 ≤ 1099511627776 := by rw [HR2.out] at hds; simp only [List.length_append] at hds ⊢; omega
      have hI2 : j + 1 ≤ (pExpr L sz g dp (j + 1) (b + 1)).i := ((expr_ok (sz := sz) hp.okL g).2.2.1 dp (j + 1) (b + 1) hjl).1.ge
      clear hr2 HQ HR
      generalize hY : pExpr L sz g dp (j + 1) (b + 1) = y at *
      go_wp2_with (first
        | (go_at_call 146; refine (peek_any hpr).mono ?_; rintro e w2 ⟨rfl, hb2⟩; unfold tkV)
        | (go_at_call 207; refine (binds_any _ w2).mono ?_; rintro e w3 ⟨rfl, hb3⟩; rw [HT.out]; have hp3 := (hpr.below hb2).below hb3; have hs3 := (Stp.below (gp := gp) (D := D1) hb2).trans (Stp.below hb3))
        | (go_at_call 145; refine (pass_any hp3 hjl).mono ?_; rintro e w4 ⟨rfl, hp4, hs4⟩; unfold tkV)
        | (go_at_call 203; refine (hC g (by omega) (b + 1) hp4 hd (by omega) (by omega) (by omega) (by rw [hY]; exact hd2)).mono ?_; rintro e' w5 ⟨v, rfl, D5, n5, hp5, hs5, hr5⟩; rw [hY] at hp5 hr5; obtain ⟨k1, x1, m1, p1, l1, c1, hv⟩ := hr5.shape; subst hv; have h25 := (hs3.trans hs4).trans hs5; have hbk5 := (h25.block lb hnr.2.1 (by have := hnr.2.2.1; omega) hnr.2.2.2).trans hbr; obtain ⟨a0, a1, a2, a3, a4, a5, af⟩ := six_at hbk5; have b0 := cell_alloc a0; have b1 := cell_alloc a1; have b2 := cell_alloc a2; have b3 := cell_alloc a3; have b4 := cell_alloc a4; have b5 := cell_alloc a5; have hl5 : lb < w5.heap.size := Nat.lt_of_lt_of_le hnr.2.1 h25.size; have hn1 : ¬ lb = w5.heap.size := (by omega); have hn2 : ¬ w5.heap.size = lb := (by omega)))
      have hok5 : ∀ k, (okS (w.heap.size + 1) gp D1 wr k ∧ k ≠ lb) → w5.heap[k]? = wr.heap[k]? := fun k hk => (okS.step h25).1 k hk.1
      have hok6 : ∀ k, (okS (w.heap.size + 1) gp D1 wr k ∧ k ≠ lb) → (okS (w.heap.size + 1) gp D5 w5 k ∧ k ≠ lb) := fun k hk => ⟨(okS.step h25).2 k hk.1, hk.2⟩
      have hok7 : ∀ k, okS w4.heap.size gp D5 w5 k → (okS (w.heap.size + 1) gp D5 w5 k ∧ k ≠ lb) := fun k hk => by
        have h1 := hk.1
        have h2 := (hs3.trans hs4).size
        have h3 : w.heap.size + 1 ≤ wr.heap.size := by simpa using hsr.size
        exact ⟨⟨by omega, hk.2⟩, by have := hnr.2.1; omega⟩
      have hstep := op_step (x := (tk L sz j).x) (o := .cells #[.int .i64 (k1 : Int), .string x1, .int .i64 (m1 : Int), .slice p1 l1 c1, .int .i64 (exF y.v : Int), .int .i64 (exT y.v : Int)] 91) hp5 (hsr.trans h25) hbk5 ⟨hnr.1, by omega, hnr.2.2.1, h25.fresh hnr.2.1 hnr.2.2.2⟩ (RdE.kept n hok5 hok6 _ _ hrr) (RdE.kept n5 (fun _ _ => rfl) hok7 _ _ hr5) (t := max (exT e : Int) (exT y.v : Int)) (by omega) rfl
      obtain ⟨s1, s2, s3, s4, s5⟩ := hstep
      go_roundw
      case rel => exact ⟨g, y.i, _, da ++ y.d, D5, _, 3, (tk L sz j).x, 0, _, 2, 2, by simpa using s1, s2, s3, s4, s5, by omega, by omega, HR2.out⟩
      case measure => rw [msL_at s1, msL_at hpr]; omega
    · have hr2 : r = ⟨e, j, da⟩ := by rw [HR.out, HQ.out, if_neg (fun h => ht h.1)]; simp
      have hti : ¬ ((tight (tk L sz j).x : Nat) : Int) = (b : Int) := by omega
      clear HR HQ ht
      subst hr2
      have hsl := (slot (hsr.block w.heap.size (by simp) (by omega) hfr.2)).1
      obtain ⟨a0, a1, a2, a3, a4, a5, af⟩ := six_at hbr
      have hn1 : ¬ lb = w.heap.size := by have := hnr.1; omega
      have hn2 : ¬ w.heap.size = lb := by have := hnr.1; omega
      have hzr : w.heap.size + 1 ≤ wr.heap.size := by simpa using hsr.size
      go_wp2_with (first
        | (go_at_call 146; refine (peek_any hpr).mono ?_; rintro e w2 ⟨rfl, hb2⟩; unfold tkV)
        | (go_at_call 207; refine (binds_any _ w2).mono ?_; rintro e' w3 ⟨rfl, hb3⟩; have hB := hb2.trans (hb3.mono hb2.size); obtain ⟨r0, r1, r2, r3, r4, r5, rf⟩ := six_at ((hB.block w.heap.size (by omega)).trans hsl); obtain ⟨d0, d1, d2, d3, d4, d5, df⟩ := six_at ((hB.block lb hnr.2.1).trans hbr)))
      have hok5 : ∀ k, (okS (w.heap.size + 1) gp D1 wr k ∧ k ≠ lb) → w3.heap[k]? = wr.heap[k]? := fun k hk => hB.block k hk.1.2.1
      have hok6 : ∀ k, (okS (w.heap.size + 1) gp D1 wr k ∧ k ≠ lb) → (okS (w.heap.size + 1) gp D1 w3 k ∧ k ≠ lb) := fun k hk => ⟨⟨hk.1.1, Nat.lt_of_lt_of_le hk.1.2.1 hB.size, hk.1.2.2⟩, hk.2⟩
      obtain ⟨f1, f2, f3⟩ := ex_fin hfr (hpr.below hB) (hsr.trans (Stp.below hB)) (RdE.kept n hok5 hok6 _ _ hrr)
      exact bodyPost_ret (v := .agg #[.int .i64 (k0 : Int), .string x0, .int .i64 (m0 : Int), .slice p0 l0 c0, .int .i64 (exF e : Int), .int .i64 (exT e : Int)]) (by simp [results, Tryz.results203, go_sem, r0, r1, r2, r3, r4, r5]) rfl ⟨_, rfl, D1, n, f1, f2, f3⟩
set_option maxHeartbeats 1000000 in
set_option maxRecDepth 100000 in
theorem exprR_any {f : Nat} (hC : CCh f) (hp : PSt gp w L sz i dp ds D) (hf : 6 * (L.length - i) + 5 ≤ f)
    (hds : ds.length + (pExpr L sz (f + 1) dp i 0).d.length + 1 ≤ 1099511627776) :
    Calls Tryz.prog 201 #[.pointer (some ⟨gp, 0, none⟩)] w fun e w' => ∃ v, e = .returned v ∧ ToldE gp L sz dp D ds w w' (pExpr L sz (f + 1) dp i 0) v := by
  have hgp := hp.gp_lt
  have hdp := hp.dp1
  have hb0 := (Below.refl w.heap.size w).alloc (Nat.le_refl _) (.cells #[.int .i64 0, .string ⟨#[]⟩, .int .i64 0, .slice none 0 0, .int .i64 0, .int .i64 0] 91)
  have hp0 := hp.below hb0
  have hdl : ds.length + 1 ≤ 1099511627776 := by omega
  rw [pExpr_nul] at hds ⊢
  obtain ⟨p9, c9, v9, z0, z1, z2, z3, z4, z5, hf9, htok, hown, hD9⟩ := hp0.cells
  clear htok hown hD9
  go_enter Tryz.func201, Tryz.ntmps201
  by_cases h12 : 12 ≤ dp
  · rw [if_pos h12]
    have hlt : ¬ (dp : Int) < 12 := by omega
    clear h12 hds
    cases hO : opB (tk L sz i)
    · go_wp2_with (first
        | (go_at_call 204; refine (opensR_any hp0).mono ?_; rintro e w1 ⟨rfl, hb1⟩; rw [hO])
        | (go_at_call 205; refine (none_any (hp0.below hb1) 2 hdl).mono ?_; rintro e w2 ⟨v, rfl, ht⟩; obtain ⟨k0, x0, m0, p0, l0, c0, f0, t0, rfl⟩ := ht.shape; obtain ⟨hsl, hT⟩ := ex_ret hp (Stp.below hb1) ht; obtain ⟨r0, r1, r2, r3, r4, r5, rf⟩ := six_at hsl))
      exact bodyPost_ret (v := .agg #[.int .i64 (k0 : Int), .string x0, .int .i64 (m0 : Int), .slice p0 l0 c0, .int .i64 (f0 : Int), .int .i64 (t0 : Int)]) (by simp [results, Tryz.results201, go_sem, r0, r1, r2, r3, r4, r5]) rfl ⟨_, rfl, hT⟩
    · go_wp2_with (first
        | (go_at_call 204; refine (opensR_any hp0).mono ?_; rintro e w1 ⟨rfl, hb1⟩; rw [hO])
        | (go_at_call 205; refine (none_any (hp0.below hb1) 12 hdl).mono ?_; rintro e w2 ⟨v, rfl, ht⟩; obtain ⟨k0, x0, m0, p0, l0, c0, f0, t0, rfl⟩ := ht.shape; obtain ⟨hsl, hT⟩ := ex_ret hp (Stp.below hb1) ht; obtain ⟨r0, r1, r2, r3, r4, r5, rf⟩ := six_at hsl))
      exact bodyPost_ret (v := .agg #[.int .i64 (k0 : Int), .string x0, .int .i64 (m0 : Int), .slice p0 l0 c0, .int .i64 (f0 : Int), .int .i64 (t0 : Int)]) (by simp [results, Tryz.results201, go_sem, r0, r1, r2, r3, r4, r5]) rfl ⟨_, rfl, hT⟩
  · rw [if_neg h12] at hds ⊢
    have hlt : (dp : Int) < 12 := by omega
    have hd : dp < 12 := by omega
    clear h12
    go_wp2_with (first
      | (go_at_call 203; refine (hC 1 hp0 hd (by omega) (by omega) (by omega) hds).mono ?_; rintro e w2 ⟨v, rfl, ht⟩; obtain ⟨k0, x0, m0, p0, l0, c0, f0, t0, rfl⟩ := ht.shape; obtain ⟨hsl, hT⟩ := ex_ret hp (Stp.refl _ _ _) ht; obtain ⟨r0, r1, r2, r3, r4, r5, rf⟩ := six_at hsl))
    exact bodyPost_ret (v := .agg #[.int .i64 (k0 : Int), .string x0, .int .i64 (m0 : Int), .slice p0 l0 c0, .int .i64 (f0 : Int), .int .i64 (t0 : Int)]) (by simp [results, Tryz.results201, go_sem, r0, r1, r2, r3, r4, r5]) rfl ⟨_, rfl, hT⟩
end
/-- All of them, with whatever fuel. -/
theorem all_expr (f : Nat) : CEx f ∧ CCh f ∧ CSi f := by
  induction f using Nat.strongRecOn with
  | ind f ih =>
    cases f with
    | zero =>
      refine ⟨?_, ?_, ?_⟩
      · intro gp w L sz i dp ds D hp hf; omega
      · intro gp w L sz i dp ds D b hp hd h1 h2 hf; omega
      · intro gp w L sz i dp ds D hp hd hf; omega
    | succ f =>
      refine ⟨?_, ?_, ?_⟩
      · intro gp w L sz i dp ds D hp hf hds
        exact exprR_any (ih f (by omega)).2.1 hp (by omega) hds
      · intro gp w L sz i dp ds D b hp hd h1 h2 hf hds
        rcases Nat.lt_or_ge b 4 with h4 | h4
        · exact chain_mid (fun g hg => (ih g (by omega)).2.1) b hp hd h1 h4 (by omega) hds
        · obtain rfl : b = 4 := by omega
          rw [pExpr_top _ _ _ _ _ _ h4] at hds ⊢
          exact chain_top (ih f (by omega)).2.2 hp hd (by omega) hds
      · intro gp w L sz i dp ds D hp hd hf hds
        exact single_any (ih f (by omega)).1 (fun g hg => (ih g (by omega)).1) hp hd (by omega) hds
section
variable {gp : Nat} {w : World} {L : List Tok} {sz i dp : Nat} {ds : List Dg} {D : Option Nat}
/-- An expression is read. -/
theorem expr_any (hp : PSt gp w L sz i dp ds D) (hds : ds.length + (pE L sz dp i).d.length + 1 ≤ 1099511627776) :
    Calls Tryz.prog 201 #[.pointer (some ⟨gp, 0, none⟩)] w fun e w' => ∃ v, e = .returned v ∧ ToldE gp L sz dp D ds w w' (pE L sz dp i) v :=
  (all_expr (6 * L.length + 10)).1 hp (by omega) hds
end
end Go.Proofs.YtfioihehhlpgcaaGreatDoor
namespace Go.Proofs.YtfioihehhlpgcaaGreatDoor
open Go.RowKit
attribute [local go_sem ↓] Go.wp_at_zero Go.wp_at_succ
/-- An expression and what must stand behind it. -/
def pCl (L : List Tok) (sz d i : Nat) : R Tr := ⟨(pE L sz d i).v, (pNeed L sz (pE L sz d i).i (bs1 59)).i, (pE L sz d i).d ++ (pNeed L sz (pE L sz d i).i (bs1 59)).d⟩
section
variable {gp : Nat} {w : World} {L : List Tok} {sz i dp : Nat} {ds : List Dg} {D : Option Nat}
set_option maxHeartbeats 1000000 in
set_option maxRecDepth 100000 in
theorem closed_any (hp : PSt gp w L sz i dp ds D) (hds : ds.length + (pCl L sz dp i).d.length + 1 ≤ 1099511627776) :
    Calls Tryz.prog 195 #[.pointer (some ⟨gp, 0, none⟩)] w fun e w' => ∃ v, e = .returned v ∧ ToldE gp L sz dp D ds w w' (pCl L sz dp i) v := by
  have hgp := hp.gp_lt
  have hb0 := (Below.refl w.heap.size w).alloc (Nat.le_refl _) (.cells #[.int .i64 0, .string ⟨#[]⟩, .int .i64 0, .slice none 0 0, .int .i64 0, .int .i64 0] 91)
  have hp0 := hp.below hb0
  have hfr := hp.fresh (Nat.le_refl w.heap.size)
  unfold pCl at hds ⊢
  have hd1 : ds.length + (pE L sz dp i).d.length + 1 ≤ 1099511627776 := by simp only [List.length_append] at hds; omega
  have hd2 : (ds ++ (pE L sz dp i).d).length + 1 ≤ 1099511627776 := by simp only [List.length_append] at hds ⊢; omega
  generalize hX : pE L sz dp i = x at *
  go_enter Tryz.func195, Tryz.ntmps195
  go_wp2_with (first
    | (go_at_call 201; refine (expr_any hp0 (by rw [hX]; exact hd1)).mono ?_; rintro e w3 ⟨v, rfl, D3, n, hp3, hs3, hr3⟩; rw [hX] at hp3 hr3; obtain ⟨k0, x0, m0, p0, l0, c0, hv⟩ := hr3.shape; subst hv; have hfr3 := hp3.fresh (Nat.le_refl w3.heap.size); have hb3 := (Below.refl w3.heap.size w3).alloc (Nat.le_refl _) (.cells #[.int .i64 (k0 : Int), .string x0, .int .i64 (m0 : Int), .slice p0 l0 c0, .int .i64 (exF x.v : Int), .int .i64 (exT x.v : Int)] 91))
    | (go_at_call 148; refine (need_any (hp3.below hb3) (bs1 59) (by decide) hd2).mono ?_; rintro e w4 ⟨rfl, D4, hp4, hs4⟩; have h04 := hs3.trans ((Stp.below hb3).trans hs4); obtain ⟨a0, a1, a2, a3, a4, a5, af⟩ := six_at (slot (hs4.block w3.heap.size (by simp) (by omega) hfr3.2)).1; have hsl := (slot (h04.block w.heap.size (by simp) (by omega) hfr.2)).1; obtain ⟨r0, r1, r2, r3, r4, r5, rf⟩ := six_at hsl; have hz : w.heap.size + 1 ≤ w3.heap.size := (by simpa using hs3.size); have hn1 : ¬ w3.heap.size = w.heap.size := (by omega); have hn2 : ¬ w.heap.size = w3.heap.size := (by omega); have hn3 : ¬ w.heap.size = gp := (by omega); have hn4 : ¬ w3.heap.size = gp := (by omega)))
  have e1 := hr3.step ((Stp.below hb3).trans hs4)
  have e2 : RdE n (fun k => okS (w.heap.size + 1) gp D4 w4 k ∧ True) w4 x.v (.agg #[.int .i64 (k0 : Int), .string x0, .int .i64 (m0 : Int), .slice p0 l0 c0, .int .i64 (exF x.v : Int), .int .i64 (exT x.v : Int)]) := RdE.kept n (fun _ _ => rfl) (fun k hk => ⟨⟨by have := hk.1; simpa using this, hk.2⟩, trivial⟩) _ _ e1
  obtain ⟨f1, f2, f3⟩ := ex_fin hfr hp4 h04 e2
  exact bodyPost_ret (v := .agg #[.int .i64 (k0 : Int), .string x0, .int .i64 (m0 : Int), .slice p0 l0 c0, .int .i64 (exF x.v : Int), .int .i64 (exT x.v : Int)]) (by simp [results, Tryz.results195, go_sem, r0, r1, r2, r3, r4, r5]) rfl ⟨_, rfl, D4, n, by simpa using f1, f2, f3⟩
end
end Go.Proofs.YtfioihehhlpgcaaGreatDoor
namespace Go.Proofs.YtfioihehhlpgcaaGreatDoor
open Go.RowKit
theorem fif_at {w1 : World} {b : Nat} {u0 u1 u2 u3 u4 u5 u6 u7 u8 u9 u10 u11 u12 u13 u14 : Value} {t : TypeId} (h : w1.heap[b]? = some (.cells #[u0, u1, u2, u3, u4, u5, u6, u7, u8, u9, u10, u11, u12, u13, u14] t (0, 0))) :
    w1.cell? ⟨b, 0, none⟩ = some u0 ∧ w1.cell? ⟨b, 1, none⟩ = some u1 ∧ w1.cell? ⟨b, 2, none⟩ = some u2 ∧ w1.cell? ⟨b, 3, none⟩ = some u3 ∧ w1.cell? ⟨b, 4, none⟩ = some u4 ∧ w1.cell? ⟨b, 5, none⟩ = some u5 ∧ w1.cell? ⟨b, 6, none⟩ = some u6 ∧ w1.cell? ⟨b, 7, none⟩ = some u7 ∧ w1.cell? ⟨b, 8, none⟩ = some u8 ∧ w1.cell? ⟨b, 9, none⟩ = some u9 ∧ w1.cell? ⟨b, 10, none⟩ = some u10 ∧ w1.cell? ⟨b, 11, none⟩ = some u11 ∧ w1.cell? ⟨b, 12, none⟩ = some u12 ∧ w1.cell? ⟨b, 13, none⟩ = some u13 ∧ w1.cell? ⟨b, 14, none⟩ = some u14 ∧ ∀ o, w1.frozen? ⟨b, o, none⟩ = false :=
  ⟨cell_of_row _ _ _ _ _ _ h, cell_of_row _ _ _ _ _ _ h, cell_of_row _ _ _ _ _ _ h, cell_of_row _ _ _ _ _ _ h, cell_of_row _ _ _ _ _ _ h, cell_of_row _ _ _ _ _ _ h, cell_of_row _ _ _ _ _ _ h, cell_of_row _ _ _ _ _ _ h, cell_of_row _ _ _ _ _ _ h, cell_of_row _ _ _ _ _ _ h, cell_of_row _ _ _ _ _ _ h, cell_of_row _ _ _ _ _ _ h, cell_of_row _ _ _ _ _ _ h, cell_of_row _ _ _ _ _ _ h, cell_of_row _ _ _ _ _ _ h, fun o => by simp [World.frozen?, h]⟩
theorem fif_blk {w' : World} {b : Nat} {x0 x1 x2 x3 x4 x5 x6 x7 x8 x9 x10 x11 x12 x13 x14 : Value} {t : TypeId} (h : w'.heap[b]? = some (.cells #[x0, x1, x2, x3, x4, x5, x6, x7, x8, x9, x10, x11, x12, x13, x14] t (0, 0))) (u0 u1 u2 u3 u4 u5 u6 u7 u8 u9 u10 u11 u12 u13 u14 : Value) :
    (((((((((((((((w'.setCell ⟨b, 0, none⟩ u0).setCell ⟨b, 1, none⟩ u1).setCell ⟨b, 2, none⟩ u2).setCell ⟨b, 3, none⟩ u3).setCell ⟨b, 4, none⟩ u4).setCell ⟨b, 5, none⟩ u5).setCell ⟨b, 6, none⟩ u6).setCell ⟨b, 7, none⟩ u7).setCell ⟨b, 8, none⟩ u8).setCell ⟨b, 9, none⟩ u9).setCell ⟨b, 10, none⟩ u10).setCell ⟨b, 11, none⟩ u11).setCell ⟨b, 12, none⟩ u12).setCell ⟨b, 13, none⟩ u13).setCell ⟨b, 14, none⟩ u14).heap[b]? = some (.cells #[u0, u1, u2, u3, u4, u5, u6, u7, u8, u9, u10, u11, u12, u13, u14] t (0, 0)) := by
  simp [World.setCell, Array.getElem?_modify, h]
section
variable {gp : Nat} {w : World} {L : List Tok} {sz i dp : Nat} {ds : List Dg} {D : Option Nat}
/-- A statement is written into its place. -/
theorem fif {w' : World} {D' : Option Nat} {b : Nat} (h : PSt gp w' L sz i dp ds D') (hs : Stp gp D D' w w') (hb : w.heap.size ≤ b) (h1 : gp < b) (h2 : some b ≠ D') (u0 u1 u2 u3 u4 u5 u6 u7 u8 u9 u10 u11 u12 u13 u14 : Value) :
    PSt gp (((((((((((((((w'.setCell ⟨b, 0, none⟩ u0).setCell ⟨b, 1, none⟩ u1).setCell ⟨b, 2, none⟩ u2).setCell ⟨b, 3, none⟩ u3).setCell ⟨b, 4, none⟩ u4).setCell ⟨b, 5, none⟩ u5).setCell ⟨b, 6, none⟩ u6).setCell ⟨b, 7, none⟩ u7).setCell ⟨b, 8, none⟩ u8).setCell ⟨b, 9, none⟩ u9).setCell ⟨b, 10, none⟩ u10).setCell ⟨b, 11, none⟩ u11).setCell ⟨b, 12, none⟩ u12).setCell ⟨b, 13, none⟩ u13).setCell ⟨b, 14, none⟩ u14) L sz i dp ds D' ∧ Stp gp D D' w (((((((((((((((w'.setCell ⟨b, 0, none⟩ u0).setCell ⟨b, 1, none⟩ u1).setCell ⟨b, 2, none⟩ u2).setCell ⟨b, 3, none⟩ u3).setCell ⟨b, 4, none⟩ u4).setCell ⟨b, 5, none⟩ u5).setCell ⟨b, 6, none⟩ u6).setCell ⟨b, 7, none⟩ u7).setCell ⟨b, 8, none⟩ u8).setCell ⟨b, 9, none⟩ u9).setCell ⟨b, 10, none⟩ u10).setCell ⟨b, 11, none⟩ u11).setCell ⟨b, 12, none⟩ u12).setCell ⟨b, 13, none⟩ u13).setCell ⟨b, 14, none⟩ u14) :=
  ⟨(((((((((((((((h.set h1 h2 _ _).set h1 h2 _ _).set h1 h2 _ _).set h1 h2 _ _).set h1 h2 _ _).set h1 h2 _ _).set h1 h2 _ _).set h1 h2 _ _).set h1 h2 _ _).set h1 h2 _ _).set h1 h2 _ _).set h1 h2 _ _).set h1 h2 _ _).set h1 h2 _ _).set h1 h2 _ _), (((((((((((((((hs.set hb _ _).set hb _ _).set hb _ _).set hb _ _).set hb _ _).set hb _ _).set hb _ _).set hb _ _).set hb _ _).set hb _ _).set hb _ _).set hb _ _).set hb _ _).set hb _ _).set hb _ _)⟩
/-- A statement was read: what was wrong is told, the statement lies in memory. -/
def ToldS (gp : Nat) (L : List Tok) (sz dp : Nat) (D : Option Nat) (ds : List Dg) (w w' : World) (r : R Tr) (v : Value) : Prop := ∃ D' n, PSt gp w' L sz r.i dp (ds ++ r.d) D' ∧ Stp gp D D' w w' ∧ RdS n (okS w.heap.size gp D' w') w' r.v v
theorem RdS.step {n B : Nat} {D D' : Option Nat} {w w' : World} {e : Tr} {v : Value} (hr : RdS n (okS B gp D w) w e v) (h : Stp gp D D' w w') : RdS n (okS B gp D' w') w' e v := RdS.kept n (okS.step h).1 (okS.step h).2 e v hr
theorem RdS.base {n B B' : Nat} {D : Option Nat} {w : World} {e : Tr} {v : Value} (hr : RdS n (okS B gp D w) w e v) (h : B' ≤ B) : RdS n (okS B' gp D w) w e v := RdS.kept n (fun _ _ => rfl) (fun _ hk => ⟨Nat.le_trans h hk.1, hk.2⟩) e v hr
theorem sets_far {w' : World} {b k : Nat} (hne : k ≠ b) (u0 u1 u2 u3 u4 u5 u6 u7 u8 u9 u10 u11 u12 u13 u14 : Value) : (((((((((((((((w'.setCell ⟨b, 0, none⟩ u0).setCell ⟨b, 1, none⟩ u1).setCell ⟨b, 2, none⟩ u2).setCell ⟨b, 3, none⟩ u3).setCell ⟨b, 4, none⟩ u4).setCell ⟨b, 5, none⟩ u5).setCell ⟨b, 6, none⟩ u6).setCell ⟨b, 7, none⟩ u7).setCell ⟨b, 8, none⟩ u8).setCell ⟨b, 9, none⟩ u9).setCell ⟨b, 10, none⟩ u10).setCell ⟨b, 11, none⟩ u11).setCell ⟨b, 12, none⟩ u12).setCell ⟨b, 13, none⟩ u13).setCell ⟨b, 14, none⟩ u14).heap[k]? = w'.heap[k]? := ((((((((((((((Below.heap_setCell _ _ _ k hne).trans (Below.heap_setCell _ _ _ k hne)).trans (Below.heap_setCell _ _ _ k hne)).trans (Below.heap_setCell _ _ _ k hne)).trans (Below.heap_setCell _ _ _ k hne)).trans (Below.heap_setCell _ _ _ k hne)).trans (Below.heap_setCell _ _ _ k hne)).trans (Below.heap_setCell _ _ _ k hne)).trans (Below.heap_setCell _ _ _ k hne)).trans (Below.heap_setCell _ _ _ k hne)).trans (Below.heap_setCell _ _ _ k hne)).trans (Below.heap_setCell _ _ _ k hne)).trans (Below.heap_setCell _ _ _ k hne)).trans (Below.heap_setCell _ _ _ k hne)).trans (Below.heap_setCell _ _ _ k hne)
/-- A statement that lies somewhere is handed back. -/
theorem st_fin {w3 : World} {q n : Nat} {D1 : Option Nat} {P : Nat → Prop} {e : Tr} {u0 u1 u2 u3 u4 u5 u6 u7 u8 u9 u10 u11 u12 u13 u14 : Value} (hfr : gp < w.heap.size ∧ some w.heap.size ≠ D) (hp3 : PSt gp w3 L sz q dp ds D1) (hs : Stp gp D D1 (w.alloc (.cells #[.int .i64 0, .string ⟨#[]⟩, .int .i64 0, .int .i64 0, .bool false, .int .i64 0, .string ⟨#[]⟩, .int .i64 0, .slice none 0 0, .int .i64 0, .int .i64 0, .slice none 0 0, .slice none 0 0, .int .i64 0, .int .i64 0] 93)) w3)
    (hr : RdS n (fun k => okS (w.heap.size + 1) gp D1 w3 k ∧ P k) w3 e (.agg #[u0, u1, u2, u3, u4, u5, u6, u7, u8, u9, u10, u11, u12, u13, u14])) {W : World} (hW : W = (((((((((((((((w3.setCell ⟨w.heap.size, 0, none⟩ u0).setCell ⟨w.heap.size, 1, none⟩ u1).setCell ⟨w.heap.size, 2, none⟩ u2).setCell ⟨w.heap.size, 3, none⟩ u3).setCell ⟨w.heap.size, 4, none⟩ u4).setCell ⟨w.heap.size, 5, none⟩ u5).setCell ⟨w.heap.size, 6, none⟩ u6).setCell ⟨w.heap.size, 7, none⟩ u7).setCell ⟨w.heap.size, 8, none⟩ u8).setCell ⟨w.heap.size, 9, none⟩ u9).setCell ⟨w.heap.size, 10, none⟩ u10).setCell ⟨w.heap.size, 11, none⟩ u11).setCell ⟨w.heap.size, 12, none⟩ u12).setCell ⟨w.heap.size, 13, none⟩ u13).setCell ⟨w.heap.size, 14, none⟩ u14)) :
    PSt gp W L sz q dp ds D1 ∧ Stp gp D D1 w W ∧ RdS n (okS w.heap.size gp D1 W) W e (.agg #[u0, u1, u2, u3, u4, u5, u6, u7, u8, u9, u10, u11, u12, u13, u14]) := by
  have hb0 := (Below.refl w.heap.size w).alloc (Nat.le_refl _) (.cells #[.int .i64 0, .string ⟨#[]⟩, .int .i64 0, .int .i64 0, .bool false, .int .i64 0, .string ⟨#[]⟩, .int .i64 0, .slice none 0 0, .int .i64 0, .int .i64 0, .slice none 0 0, .slice none 0 0, .int .i64 0, .int .i64 0] 93)
  have hsx := fif hp3 ((Stp.below hb0).trans hs) (Nat.le_refl _) hfr.1 (hs.fresh (by simp) hfr.2) u0 u1 u2 u3 u4 u5 u6 u7 u8 u9 u10 u11 u12 u13 u14
  have hkk : ∀ k, k ≠ w.heap.size → W.heap[k]? = w3.heap[k]? := fun k hk => by rw [hW]; exact sets_far hk u0 u1 u2 u3 u4 u5 u6 u7 u8 u9 u10 u11 u12 u13 u14
  have hsz : W.heap.size = w3.heap.size := by rw [hW]; simp
  rw [← hW] at hsx
  refine ⟨hsx.1, hsx.2, RdS.kept n (fun k hk => hkk k (by have := hk.1.1; omega)) (fun k hk => ⟨by have := hk.1.1; omega, by rw [hsz]; exact hk.1.2.1, hk.1.2.2⟩) _ _ hr⟩
/-- What a statement looks like. -/
theorem RdS.shape {n : Nat} {ok : Nat → Prop} {w : World} {s : Tr} {v : Value} (h : RdS n ok w s v) : ∃ (k : Nat) (x : ByteArray) (a lb : Nat) (op : Bool) (ek : Nat) (ex : ByteArray) (en : Nat) (ep : Option Addr) (el ec ef et : Nat) (p1 : Option Addr) (l1 c1 : Nat) (p2 : Option Addr) (l2 c2 f t : Nat), v = .agg #[.int .i64 (k : Int), .string x, .int .i64 (a : Int), .int .i64 (lb : Int), .bool op, .int .i64 (ek : Int), .string ex, .int .i64 (en : Int), .slice ep el ec, .int .i64 (ef : Int), .int .i64 (et : Int), .slice p1 l1 c1, .slice p2 l2 c2, .int .i64 (f : Int), .int .i64 (t : Int)] := by
  cases n with
  | zero => exact h.elim
  | succ n =>
    obtain ⟨k, x, a, lb, op, e, th, el, f, t, d0, d1, d2, d3, d4, d5, p1, c1, p2, c2, _, rfl, ⟨m, hE⟩, _, _⟩ := h
    obtain ⟨k2, x2, m2, p3, l3, c3, hv⟩ := hE.shape
    injection hv with hv
    simp at hv
    obtain ⟨rfl, rfl, rfl, rfl, rfl, rfl⟩ := hv
    exact ⟨_, _, _, _, _, _, _, _, _, _, _, _, _, _, _, _, _, _, _, _, _, rfl⟩
end
end Go.Proofs.YtfioihehhlpgcaaGreatDoor

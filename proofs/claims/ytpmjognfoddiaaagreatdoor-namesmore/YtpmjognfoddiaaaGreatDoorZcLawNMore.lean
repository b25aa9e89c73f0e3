/- An item more at the end takes no name away: the law NamesMore. -/
import Derived.Test.YtpmjognfoddiaaaGreatDoorZcLawNUses
import Derived.Test.YtpmjognfoddiaaaGreatDoorZb20
namespace Go.Proofs.YtpmjognfoddiaaaGreatDoor
open Go.RowKit
attribute [local go_sem ↓] Go.wp_at_zero Go.wp_at_succ
/-- Two files in memory, each named by a variable. -/
structure Two (l l' : List (Int × It)) (b5 b7 : Nat) (p1 p2 : Option Addr) (c1 c2 : Nat) (W : World) : Prop where
  y5 : W.cell? ⟨b5, 0, none⟩ = some (.slice p1 l.length c1)
  y7 : W.cell? ⟨b7, 0, none⟩ = some (.slice p2 l'.length c2)
  r5 : RdF (fun k => k < W.heap.size) W l (.agg #[.slice p1 l.length c1])
  r7 : RdF (fun k => k < W.heap.size) W l' (.agg #[.slice p2 l'.length c2])
theorem Two.below {l l' : List (Int × It)} {b5 b7 : Nat} {p1 p2 : Option Addr} {c1 c2 : Nat} {W W' : World} (h : Two l l' b5 b7 p1 p2 c1 c2 W) (hb : Below W.heap.size W W') : Two l l' b5 b7 p1 p2 c1 c2 W' :=
  ⟨cell_on hb h.y5, cell_on hb h.y7, RdF.kept h.r5 (fun k hk => hb.block k hk) (fun _ hk => Nat.lt_of_lt_of_le hk hb.size), RdF.kept h.r7 (fun k hk => hb.block k hk) (fun _ hk => Nat.lt_of_lt_of_le hk hb.size)⟩
theorem RdF.item {ok : Nat → Prop} {w : World} {l : List (Int × It)} {p : Option Addr} {c : Nat} (h : RdF ok w l (.agg #[.slice p l.length c])) {k : Nat} {e : Int × It} (hk : l[k]? = some e) : ∃ g, p = some ⟨g, 0, none⟩ ∧ w.cell? ⟨g, k * 10, none⟩ = some (.int .i64 (e.2.k : Int)) ∧ w.cell? ⟨g, k * 10 + 7, none⟩ = some (.int .i64 (e.2.sz : Int)) := by
  obtain ⟨q, d, hv, _, hits⟩ := h
  injection hv with hv
  have hv : Value.slice p l.length c = Value.slice q l.length d := by simpa using hv
  injection hv with h1 _ _
  subst h1
  obtain ⟨g, rfl, _, hI⟩ := hits (by have := (List.getElem?_eq_some_iff.1 hk).1; omega)
  obtain ⟨v, hcv, hR⟩ := hI k e hk
  obtain ⟨_, _, _, _, _, _, _, _, rfl, _⟩ := hR
  have d0 := hcv.get 0 _ rfl
  have d7 := hcv.get 7 _ rfl
  rw [Nat.add_zero] at d0
  exact ⟨g, rfl, d0, d7⟩
def RelM1 (n : Nat) (Q : Nat → Prop) (W : World) (i : Value) (wr : World) : Prop := ∃ k : Nat, k ≤ n ∧ i = .int .i64 (k : Int) ∧ (∀ j, j < k → Q j) ∧ Below W.heap.size W wr
def RelM3 (us : List (Int × Ev)) (u : Int × Ev) (W : World) (th i : Value) (wr : World) : Prop := ∃ (k : Nat) (b : Bool), k ≤ us.length ∧ i = .int .i64 (k : Int) ∧ th = .bool b ∧ (∀ j, j < k → us[j]? = some u → b = true) ∧ Below W.heap.size W wr
theorem RdF.count {ok : Nat → Prop} {w : World} {l : List (Int × It)} {q : Option Addr} {n d : Nat} (h : RdF ok w l (.agg #[.slice q n d])) : n = l.length := by
  obtain ⟨q', d', hv, _⟩ := h
  injection hv with hv
  have hv : Value.slice q n d = Value.slice q' l.length d' := by simpa using hv
  injection hv
theorem fil_sz (s : ByteArray) (hs : s.size ≤ 4000) : ∀ (j : Nat) (e : Int × It), (fil s)[j]? = some e → e.2.sz ≤ 4000 := by
  intro j e he
  have hj : j < (cts s).length := by rw [← fil_len]; exact (List.getElem?_eq_some_iff.1 he).1
  have g1 := fil_get s j hj
  have g2 := (itI_sz s j).1
  have g3 := cn_le s (j + 1)
  generalize itI s j = a at *
  rw [g1] at he
  injection he with he
  subst he
  simp only
  omega
theorem jn_eq (s t : ByteArray) : s ++ ⟨#[10]⟩ ++ t = jn s t := rfl
end Go.Proofs.YtpmjognfoddiaaaGreatDoor

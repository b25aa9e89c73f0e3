/- What names mean, and what is wrong with them, is told as the document says: the law NamesTells. -/
import Derived.Test.YtdkpfnohdknldaaGreatDoorZg23
namespace Go.Proofs.YtdkpfnohdknldaaGreatDoor
open Go.RowKit
set_option linter.unusedVariables false
attribute [local go_sem ↓] Go.wp_at_zero Go.wp_at_succ
theorem fil_wf (s : ByteArray) (hs : s.size ≤ 4000) : ∀ (i : Nat) (p : Int) (it : It), (fil s)[i]? = some (p, it) → ∃ T, WfI T it ∧ T.length ≤ 1000000 := by
 intro i p it h
 obtain ⟨j, _, hj⟩ := fil_mem (List.mem_of_getElem? h)
 injection hj with _ h2
 rw [h2]
 exact ⟨_, itI_wf s j, by have := txI_len s j; omega⟩
theorem row_slat {α : Type} {c : α → List Value} {us : List α} {w w' : World} {base st : Nat} {TE : TypeId} {v : Value} (hc : ∀ a, (c a).length = st) (hl : us.length ≤ 1099511627776) (h : w.ownsRow base TE st v us.length (us.flatMap c)) (hb : Below w.heap.size w w') : ∃ p cap, v = .slice p us.length cap ∧ SlAt (fun k => k < w.heap.size) w' st c us p := by
 obtain ⟨p, cap, rfl, h2⟩ := row_read hc h
 refine ⟨p, cap, rfl, hl, fun h0 => ?_⟩
 obtain ⟨g, e1, e2, e3⟩ := h2 h0
 exact ⟨g, e1, e2.2, fun j t hj i u hi => (World.cell?_of_block (a := ⟨g, j * st + i, none⟩) (hb.block g e2.2)).trans (e3 j t hj i u hi)⟩
end Go.Proofs.YtdkpfnohdknldaaGreatDoor


/- By which row a packet goes, and what is made of it: table.Lookup; rows of up to 500 acts. -/
import Derived.Test.YtbcikkofbdfmaaaX3
set_option linter.unusedVariables false
set_option linter.unusedSimpArgs false
namespace Go.Proofs.Ytbcikkofbdfmaaa
open Go.RowKit Go.Joins Go.Sort

abbrev rob (x y : Value) : Obj := .cells #[x, y] 54
theorem ActsAt.form {w : World} {v : Value} {L : List Prs} (h : ActsAt w v L) : ∃ sa sc, v = .slice sa L.length sc := by
  obtain ⟨sa, sc, e, -⟩ := h
  exact ⟨sa, sc, e⟩
theorem row2 {w : World} {g : Nat} {x y : Value} {t : TypeId} (h : w.heap[g]? = some (.cells #[x, y] t)) : w.cell? ⟨g, 0, none⟩ = some x ∧ w.cell? ⟨g, 1, none⟩ = some y := by
  refine ⟨?_, ?_⟩ <;> (rw [cell_of_row _ _ _ _ _ _ h]; rfl)
theorem lookI_hit {q : P8} {L : List Rx} {k : Nat} (h : lookK q L = some k) : lookI q L = (k : Int) := by unfold lookI; rw [h]
theorem lookL_hit {q : P8} {L : List Rx} {k : Nat} (h : lookK q L = some k) (hk : k < L.length) : lookL q L = madeL q L[k].a := by
  unfold lookL; rw [h]; simp [hk]
theorem lookI_miss {q : P8} {L : List Rx} (h : lookK q L = none) : lookI q L = -1 := by unfold lookI; rw [h]
theorem lookL_miss {q : P8} {L : List Rx} (h : lookK q L = none) : lookL q L = [] := by unfold lookL; rw [h]

end Go.Proofs.Ytbcikkofbdfmaaa

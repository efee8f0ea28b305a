/- What joined and the reader's atom answer; no conditions but that the reader stands. -/
import Derived.Test.YtebpapmnkbehnaaDoorP2
set_option linter.unusedVariables false
set_option linter.unusedSimpArgs false
namespace Go.Proofs.YtebpapmnkbehnaaDoor
open Go.RowKit Go.Joins

theorem row4 {w : World} {g : Nat} {t : TypeId} {x0 x1 x2 x3 : Value} (hg : w.heap[g]? = some (.cells #[x0, x1, x2, x3] t)) :
    w.cell? ⟨g, 0, none⟩ = some x0 ∧ w.cell? ⟨g, 1, none⟩ = some x1 ∧ w.cell? ⟨g, 2, none⟩ = some x2 ∧ w.cell? ⟨g, 3, none⟩ = some x3 := by
  have c := fun j => cell_of_row w g j _ _ _ hg
  exact ⟨by simpa using c 0, by simpa using c 1, by simpa using c 2, by simpa using c 3⟩
theorem set4 {w : World} {g : Nat} {t : TypeId} {x0 x1 x2 x3 : Value} (y0 y1 y2 y3 : Value) (hg : w.heap[g]? = some (.cells #[x0, x1, x2, x3] t)) :
    ((((w.setCell ⟨g, 0, none⟩ y0).setCell ⟨g, 1, none⟩ y1).setCell ⟨g, 2, none⟩ y2).setCell ⟨g, 3, none⟩ y3).heap[g]? = some (.cells #[y0, y1, y2, y3] t) := by
  have h0 := heap_setCell_same w g 0 _ t y0 hg
  have h1 := heap_setCell_same _ g 1 _ t y1 h0
  have h2 := heap_setCell_same _ g 2 _ t y2 h1
  have h3 := heap_setCell_same _ g 3 _ t y3 h2
  simpa using h3
theorem frz4 {w : World} {g : Nat} {t : TypeId} {cs : Array Value} (hg : w.heap[g]? = some (.cells cs t)) : w.frozen? ⟨g, 0, none⟩ = false ∧ w.frozen? ⟨g, 1, none⟩ = false ∧ w.frozen? ⟨g, 2, none⟩ = false ∧ w.frozen? ⟨g, 3, none⟩ = false := by
  have f := fun j => frozen_of_row w g j _ _ hg
  exact ⟨f 0, f 1, f 2, f 3⟩
/-- A policy's cells, nothing in them. -/
abbrev nobj : Obj := .cells #[.int .i64 0, .int .i64 0, .int .u16 0, .slice none 0 0] 29
/-- A policy's cells. -/
abbrev pobj (x : Nd) : Obj := .cells #[.int .i64 x.op, .int .i64 x.f, .int .u16 x.n, x.kv] 29
theorem own_shape {w : World} {lo e size n : Nat} {v : Value} {xs : List Value} (h : w.ownsRow lo e size v n xs) : ∃ sa sc, v = .slice sa n sc := by
  rcases h.2 with ⟨hv, hn⟩ | ⟨g, cap, cur, hv, -⟩
  · exact ⟨none, 0, by rw [hn]; exact hv⟩
  · exact ⟨_, _, hv⟩

end Go.Proofs.YtebpapmnkbehnaaDoor

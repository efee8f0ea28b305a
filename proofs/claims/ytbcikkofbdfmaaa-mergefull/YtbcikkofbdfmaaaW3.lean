/- Rows of eight cells; no conditions. -/
import Derived.Test.YtbcikkofbdfmaaaW2
import Derived.Deep.QuietTactic
import Derived.BigQuiet
set_option linter.unusedVariables false
set_option linter.unusedSimpArgs false
namespace Go.Proofs.Ytbcikkofbdfmaaa
open Go.RowKit Go.Joins Go.Sort

/-- A row of eight cells, written whole. -/
theorem set8 {w : World} {g : Nat} {t : TypeId} {x0 x1 x2 x3 x4 x5 x6 x7 : Value} (y0 y1 y2 y3 y4 y5 y6 y7 : Value) (hg : w.heap[g]? = some (.cells #[x0, x1, x2, x3, x4, x5, x6, x7] t)) :
    ((((((((w.setCell ⟨g, 0, none⟩ y0).setCell ⟨g, 1, none⟩ y1).setCell ⟨g, 2, none⟩ y2).setCell ⟨g, 3, none⟩ y3).setCell ⟨g, 4, none⟩ y4).setCell ⟨g, 5, none⟩ y5).setCell ⟨g, 6, none⟩ y6).setCell ⟨g, 7, none⟩ y7).heap[g]? = some (.cells #[y0, y1, y2, y3, y4, y5, y6, y7] t) := by
  have h0 := heap_setCell_same w g 0 _ t y0 hg
  have h1 := heap_setCell_same _ g 1 _ t y1 h0
  have h2 := heap_setCell_same _ g 2 _ t y2 h1
  have h3 := heap_setCell_same _ g 3 _ t y3 h2
  have h4 := heap_setCell_same _ g 4 _ t y4 h3
  have h5 := heap_setCell_same _ g 5 _ t y5 h4
  have h6 := heap_setCell_same _ g 6 _ t y6 h5
  have h7 := heap_setCell_same _ g 7 _ t y7 h6
  simpa using h7
theorem other8 {w : World} {g k : Nat} (h : k ≠ g) (y0 y1 y2 y3 y4 y5 y6 y7 : Value) :
    ((((((((w.setCell ⟨g, 0, none⟩ y0).setCell ⟨g, 1, none⟩ y1).setCell ⟨g, 2, none⟩ y2).setCell ⟨g, 3, none⟩ y3).setCell ⟨g, 4, none⟩ y4).setCell ⟨g, 5, none⟩ y5).setCell ⟨g, 6, none⟩ y6).setCell ⟨g, 7, none⟩ y7).heap[k]? = w.heap[k]? := by
  rw [heap_setCell_other _ _ _ _ h, heap_setCell_other _ _ _ _ h, heap_setCell_other _ _ _ _ h, heap_setCell_other _ _ _ _ h, heap_setCell_other _ _ _ _ h, heap_setCell_other _ _ _ _ h, heap_setCell_other _ _ _ _ h, heap_setCell_other _ _ _ _ h]
theorem below8 {B : Nat} {a w : World} {g : Nat} (h : Below B a w) (hg : B ≤ g) (y0 y1 y2 y3 y4 y5 y6 y7 : Value) :
    Below B a ((((((((w.setCell ⟨g, 0, none⟩ y0).setCell ⟨g, 1, none⟩ y1).setCell ⟨g, 2, none⟩ y2).setCell ⟨g, 3, none⟩ y3).setCell ⟨g, 4, none⟩ y4).setCell ⟨g, 5, none⟩ y5).setCell ⟨g, 6, none⟩ y6).setCell ⟨g, 7, none⟩ y7) :=
  (((((((h.setCell hg y0).setCell hg y1).setCell hg y2).setCell hg y3).setCell hg y4).setCell hg y5).setCell hg y6).setCell hg y7
/-- The cells and marks of a row of eight. -/
theorem row8 {w : World} {g : Nat} {t : TypeId} {x0 x1 x2 x3 x4 x5 x6 x7 : Value} (hg : w.heap[g]? = some (.cells #[x0, x1, x2, x3, x4, x5, x6, x7] t)) :
    (w.cell? ⟨g, 0, none⟩ = some x0 ∧ w.cell? ⟨g, 1, none⟩ = some x1 ∧ w.cell? ⟨g, 2, none⟩ = some x2 ∧ w.cell? ⟨g, 3, none⟩ = some x3 ∧ w.cell? ⟨g, 4, none⟩ = some x4 ∧ w.cell? ⟨g, 5, none⟩ = some x5 ∧ w.cell? ⟨g, 6, none⟩ = some x6 ∧ w.cell? ⟨g, 7, none⟩ = some x7)
    ∧ (w.frozen? ⟨g, 0, none⟩ = false ∧ w.frozen? ⟨g, 1, none⟩ = false ∧ w.frozen? ⟨g, 2, none⟩ = false ∧ w.frozen? ⟨g, 3, none⟩ = false ∧ w.frozen? ⟨g, 4, none⟩ = false ∧ w.frozen? ⟨g, 5, none⟩ = false ∧ w.frozen? ⟨g, 6, none⟩ = false ∧ w.frozen? ⟨g, 7, none⟩ = false) ∧ g < w.heap.size := by
  have c := fun j => cell_of_row w g j _ _ _ hg
  have f := fun j => frozen_of_row w g j _ _ hg
  refine ⟨⟨by simpa using c 0, by simpa using c 1, by simpa using c 2, by simpa using c 3, by simpa using c 4, by simpa using c 5, by simpa using c 6, by simpa using c 7⟩, ⟨f 0, f 1, f 2, f 3, f 4, f 5, f 6, f 7⟩, ?_⟩
  have := block_lt_of_cell (show w.cell? ⟨g, 0, none⟩ = some x0 by simpa using c 0)
  simpa using this

abbrev cellsP (p : List Int) : Array Value := (p.map fun z => Value.int .u16 z).toArray
theorem cellsP_at {w : World} {g : Nat} {t : TypeId} {p : List Int} (hg : w.heap[g]? = some (.cells (cellsP p) t)) (f : Nat) (hf : f < p.length) : w.cell? ⟨g, f, none⟩ = some (.int .u16 (p.getD f 0)) := by
  rw [cell_of_row w g f _ _ _ hg]
  simp [cellsP, List.getD_eq_getElem?_getD, List.getElem?_eq_getElem hf]
theorem cellsP_set {w : World} {g : Nat} {t : TypeId} {p : List Int} (hg : w.heap[g]? = some (.cells (cellsP p) t)) (f : Nat) (x : Int) : (w.setCell ⟨g, f, none⟩ (.int .u16 x)).heap[g]? = some (.cells (cellsP (p.set f x)) t) := by
  rw [heap_setCell_same w g f _ t _ hg]
  simp [cellsP, List.map_set]
theorem heap_alloc3_new (w : World) (A B C : Obj) : (((w.alloc A).alloc B).alloc C).heap[w.heap.size + 1 + 1]? = some C := by
  have := heap_alloc_new ((w.alloc A).alloc B) C
  rw [World.size_alloc, World.size_alloc] at this
  exact this
theorem getD8 {w : World} {g : Nat} {t : TypeId} {b0 b1 b2 b3 b4 b5 b6 b7 : Int} (hg : w.heap[g]? = some (.cells #[.int .u16 b0, .int .u16 b1, .int .u16 b2, .int .u16 b3, .int .u16 b4, .int .u16 b5, .int .u16 b6, .int .u16 b7] t)) (f : Int) (h0 : 0 ≤ f) (h8 : f < 8) :
    w.cell? ⟨g, f.toNat, none⟩ = some (.int .u16 ([b0, b1, b2, b3, b4, b5, b6, b7].getD f.toNat 0)) := by
  obtain ⟨⟨q0, q1, q2, q3, q4, q5, q6, q7⟩, _, _⟩ := row8 hg
  have hc : f = 0 ∨ f = 1 ∨ f = 2 ∨ f = 3 ∨ f = 4 ∨ f = 5 ∨ f = 6 ∨ f = 7 := by omega
  rcases hc with rfl | rfl | rfl | rfl | rfl | rfl | rfl | rfl
  · exact q0
  · exact q1
  · exact q2
  · exact q3
  · exact q4
  · exact q5
  · exact q6
  · exact q7

theorem below_grown {w : World} (k : Nat) (os : Array Obj) : Below w.heap.size w (grow (w.drewN k) os) :=
  ⟨rfl, rfl, rfl, by simp [grow], fun j hj => by simp [grow, Array.getElem?_append_left hj]⟩
end Go.Proofs.Ytbcikkofbdfmaaa

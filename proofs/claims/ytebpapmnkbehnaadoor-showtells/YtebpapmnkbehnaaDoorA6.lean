/- What lex.word answers of a row of code points that begins with a letter; texts of up to 100000 bytes. -/
import Derived.Test.YtebpapmnkbehnaaDoorA5
set_option linter.unusedVariables false
set_option linter.unusedSimpArgs false
namespace Go.Proofs.YtebpapmnkbehnaaDoor
open Go.RowKit Go.Joins Go.Lib

/-- What is answered of the token that begins here. -/
def fv (x : R) (t : List R) : Except Nat (Tk × Nat) → Value
  | .error e => .tuple #[tv tkEnd, .int .i64 0, .int .i64 (e : Int)]
  | .ok (tk, n) => .tuple #[tv tk, .int .i64 ((fl (x :: t.take n)).length : Int), .int .i64 0]

theorem span_cons (p : Nat → Bool) (x : R) (t : List R) (h : p x.1 = true) : span p (x :: t) = x :: span p t := by
  simp [span, List.takeWhile_cons, h]
theorem lt_iw {r : Nat} (h : lt r = true) : iw r = true := by unfold iw; rw [h]; rfl
theorem fl_split (x : R) (t : List R) (k : Nat) : fl (x :: t) = fl (x :: t.take k) ++ fl (t.drop k) := by
  rw [← fl_append, List.cons_append, List.take_append_drop]

theorem row3 {w : World} {g : Nat} {t : TypeId} {x0 x1 x2 : Value} (hg : w.heap[g]? = some (.cells #[x0, x1, x2] t)) :
    (w.cell? ⟨g, 0, none⟩ = some x0 ∧ w.cell? ⟨g, 1, none⟩ = some x1 ∧ w.cell? ⟨g, 2, none⟩ = some x2) ∧ g < w.heap.size := by
  have c := fun j => cell_of_row w g j _ _ _ hg
  exact ⟨⟨by simpa using c 0, by simpa using c 1, by simpa using c 2⟩, heap_lt hg⟩
theorem set3 {w : World} {g : Nat} {t : TypeId} {x0 x1 x2 : Value} (y0 y1 y2 : Value) (hg : w.heap[g]? = some (.cells #[x0, x1, x2] t)) :
    (((w.setCell ⟨g, 0, none⟩ y0).setCell ⟨g, 1, none⟩ y1).setCell ⟨g, 2, none⟩ y2).heap[g]? = some (.cells #[y0, y1, y2] t) := by
  have h0 := heap_setCell_same w g 0 _ t y0 hg
  have h1 := heap_setCell_same _ g 1 _ t y1 h0
  have h2 := heap_setCell_same _ g 2 _ t y2 h1
  simpa using h2
theorem below3 {B : Nat} {a w : World} {g : Nat} (h : Below B a w) (hg : B ≤ g) (y0 y1 y2 : Value) : Below B a (((w.setCell ⟨g, 0, none⟩ y0).setCell ⟨g, 1, none⟩ y1).setCell ⟨g, 2, none⟩ y2) :=
  ((h.setCell hg y0).setCell hg y1).setCell hg y2
theorem frz3 {w : World} {g : Nat} {t : TypeId} {cs : Array Value} (hg : w.heap[g]? = some (.cells cs t)) : w.frozen? ⟨g, 0, none⟩ = false ∧ w.frozen? ⟨g, 1, none⟩ = false ∧ w.frozen? ⟨g, 2, none⟩ = false := by
  have f := fun j => frozen_of_row w g j _ _ hg
  exact ⟨f 0, f 1, f 2⟩
/-- The token's block stays through a call. -/
theorem row_kept {w w1 : World} {o : Obj} (hb : Below (w.alloc o).heap.size (w.alloc o) w1) : w1.heap[w.heap.size]? = some o :=
  (hb.block w.heap.size (by simp)).trans (heap_alloc_new w o)

theorem row6 {w : World} {g : Nat} {t : TypeId} {x0 x1 x2 x3 x4 x5 : Value} (hg : w.heap[g]? = some (.cells #[x0, x1, x2, x3, x4, x5] t)) :
    w.cell? ⟨g, 0, none⟩ = some x0 ∧ w.cell? ⟨g, 1, none⟩ = some x1 ∧ w.cell? ⟨g, 2, none⟩ = some x2 ∧ w.cell? ⟨g, 3, none⟩ = some x3 ∧ w.cell? ⟨g, 4, none⟩ = some x4 ∧ w.cell? ⟨g, 5, none⟩ = some x5 := by
  have c := fun j => cell_of_row w g j _ _ _ hg
  exact ⟨by simpa using c 0, by simpa using c 1, by simpa using c 2, by simpa using c 3, by simpa using c 4, by simpa using c 5⟩
end Go.Proofs.YtebpapmnkbehnaaDoor

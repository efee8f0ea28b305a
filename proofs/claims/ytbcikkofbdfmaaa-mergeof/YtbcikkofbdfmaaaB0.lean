/- Plain facts on rows of cells; no conditions. -/
import Derived.Test.YtbcikkofbdfmaaaProg
import Derived.WalkKit
import Derived.WalkSpells
import Derived.WalkLawsBesides
import Derived.Lib.OthersKept
import Derived.Lib.SmallJoins
import Derived.Lib.QuietBelow
import Derived.Deep.RegionWith
import Derived.Deep.QuietTactic
import Derived.BigQuiet
import Derived.Maps.AppendAt
set_option linter.unusedVariables false
set_option linter.unusedSimpArgs false
namespace Go.Proofs.Ytbcikkofbdfmaaa
open Go.RowKit Go.Joins

theorem heap_lt {w : World} {g : Nat} {o : Obj} (h : w.heap[g]? = some o) : g < w.heap.size := (Array.getElem?_eq_some_iff.1 h).1
theorem below_drewN {B : Nat} {a w : World} (h : Below B a w) (n : Nat) : Below B a (w.drewN n) := h.trans ⟨rfl, rfl, rfl, Nat.le_refl _, fun _ _ => rfl⟩
theorem own_below {w w' : World} {B e size n : Nat} {v : Value} {xs : List Value} (h : w.ownsRow B e size v n xs) (hb : Below w.heap.size w w') : w'.ownsRow B e size v n xs := by
  refine ⟨h.1, ?_⟩
  rcases h.2 with hn | ⟨g, cap, cur, rfl, hg, hgg, rest⟩
  · exact .inl hn
  · exact .inr ⟨g, cap, cur, rfl, hg, by rw [hb.block g (Array.getElem?_eq_some_iff.1 hgg).1]; exact hgg, rest⟩

theorem cell_new3 (w : World) (vs : List Value) (t : TypeId) : ∀ j u, vs[j]? = some u → (w.alloc (.cells vs.toArray t)).cell? ((⟨w.heap.size, 0, none⟩ : Addr).add j) = some u := by
  intro j u hj
  rw [show (⟨w.heap.size, 0, none⟩ : Addr).add j = ⟨w.heap.size, j, none⟩ by unfold Addr.add; split <;> simp_all, cell_of_row _ _ _ _ _ _ (heap_alloc_new w (.cells vs.toArray t))]
  simpa using hj
theorem wr64 (z : Int) (h0 : 0 ≤ z) (h1 : z ≤ 9223372036854775807) : IntKind.i64.wrap z = z := by
  simp [IntKind.wrap, IntKind.signed, IntKind.bits]; omega
theorem wr8 (z : Int) (h0 : 0 ≤ z) (h1 : z ≤ 255) : IntKind.u8.wrap z = z := by
  simp [IntKind.wrap, IntKind.signed, IntKind.bits]; omega
theorem lt_alloc (w : World) (o : Obj) : w.heap.size < ((w.alloc o).drew).heap.size := by simp
theorem heap_new2 (w : World) (a b : Obj) : ((w.alloc a).alloc b).heap[w.heap.size + 1]? = some b := by
  have := heap_alloc_new (w.alloc a) b
  rw [show (w.alloc a).heap.size = w.heap.size + 1 by simp] at this
  exact this
theorem row3 {w : World} {g : Nat} {t : TypeId} {x0 x1 x2 : Value} (hg : w.heap[g]? = some (.cells #[x0, x1, x2] t)) :
    (w.cell? ⟨g, 0, none⟩ = some x0 ∧ w.cell? ⟨g, 1, none⟩ = some x1 ∧ w.cell? ⟨g, 2, none⟩ = some x2) ∧ g < w.heap.size := by
  have c := fun j => cell_of_row w g j _ _ _ hg
  exact ⟨⟨by simpa using c 0, by simpa using c 1, by simpa using c 2⟩, heap_lt hg⟩
theorem set3 {w : World} {g : Nat} {t : TypeId} {x0 x1 x2 : Value} (y0 y1 y2 : Value) (hg : w.heap[g]? = some (.cells #[x0, x1, x2] t)) :
    (((w.setCell ⟨g, 0, none⟩ y0).setCell ⟨g, 1, none⟩ y1).setCell ⟨g, 2, none⟩ y2).heap[g]? = some (.cells #[y0, y1, y2] t) := by
  have h0 := heap_setCell_same w g 0 _ t y0 hg
  have h1 := heap_setCell_same _ g 1 _ t y1 h0
  have h2 := heap_setCell_same _ g 2 _ t y2 h1
  simpa using h2
theorem below3 {B : Nat} {a w : World} {g : Nat} (h : Below B a w) (hg : B ≤ g) (y0 y1 y2 : Value) : Below B a (((w.setCell ⟨g, 0, none⟩ y0).setCell ⟨g, 1, none⟩ y1).setCell ⟨g, 2, none⟩ y2) :=
  ((h.setCell hg y0).setCell hg y1).setCell hg y2
theorem frz3 {w : World} {g : Nat} {t : TypeId} {cs : Array Value} (hg : w.heap[g]? = some (.cells cs t)) : w.frozen? ⟨g, 0, none⟩ = false ∧ w.frozen? ⟨g, 1, none⟩ = false ∧ w.frozen? ⟨g, 2, none⟩ = false := by
  have f := fun j => frozen_of_row w g j _ _ hg
  exact ⟨f 0, f 1, f 2⟩
/-- The token's block stays through a call. -/
theorem row_kept {w w1 : World} {o : Obj} (hb : Below (w.alloc o).heap.size (w.alloc o) w1) : w1.heap[w.heap.size]? = some o :=
  (hb.block w.heap.size (by simp)).trans (heap_alloc_new w o)

theorem row6 {w : World} {g : Nat} {t : TypeId} {x0 x1 x2 x3 x4 x5 : Value} (hg : w.heap[g]? = some (.cells #[x0, x1, x2, x3, x4, x5] t)) :
    w.cell? ⟨g, 0, none⟩ = some x0 ∧ w.cell? ⟨g, 1, none⟩ = some x1 ∧ w.cell? ⟨g, 2, none⟩ = some x2 ∧ w.cell? ⟨g, 3, none⟩ = some x3 ∧ w.cell? ⟨g, 4, none⟩ = some x4 ∧ w.cell? ⟨g, 5, none⟩ = some x5 := by
  have c := fun j => cell_of_row w g j _ _ _ hg
  exact ⟨by simpa using c 0, by simpa using c 1, by simpa using c 2, by simpa using c 3, by simpa using c 4, by simpa using c 5⟩
theorem row4 {w : World} {g : Nat} {t : TypeId} {x0 x1 x2 x3 : Value} (hg : w.heap[g]? = some (.cells #[x0, x1, x2, x3] t)) :
    w.cell? ⟨g, 0, none⟩ = some x0 ∧ w.cell? ⟨g, 1, none⟩ = some x1 ∧ w.cell? ⟨g, 2, none⟩ = some x2 ∧ w.cell? ⟨g, 3, none⟩ = some x3 := by
  have c := fun j => cell_of_row w g j _ _ _ hg
  exact ⟨by simpa using c 0, by simpa using c 1, by simpa using c 2, by simpa using c 3⟩
theorem set4 {w : World} {g : Nat} {t : TypeId} {x0 x1 x2 x3 : Value} (y0 y1 y2 y3 : Value) (hg : w.heap[g]? = some (.cells #[x0, x1, x2, x3] t)) :
    ((((w.setCell ⟨g, 0, none⟩ y0).setCell ⟨g, 1, none⟩ y1).setCell ⟨g, 2, none⟩ y2).setCell ⟨g, 3, none⟩ y3).heap[g]? = some (.cells #[y0, y1, y2, y3] t) := by
  have h0 := heap_setCell_same w g 0 _ t y0 hg
  have h1 := heap_setCell_same _ g 1 _ t y1 h0
  have h2 := heap_setCell_same _ g 2 _ t y2 h1
  have h3 := heap_setCell_same _ g 3 _ t y3 h2
  simpa using h3
theorem frz4 {w : World} {g : Nat} {t : TypeId} {cs : Array Value} (hg : w.heap[g]? = some (.cells cs t)) : w.frozen? ⟨g, 0, none⟩ = false ∧ w.frozen? ⟨g, 1, none⟩ = false ∧ w.frozen? ⟨g, 2, none⟩ = false ∧ w.frozen? ⟨g, 3, none⟩ = false := by
  have f := fun j => frozen_of_row w g j _ _ hg
  exact ⟨f 0, f 1, f 2, f 3⟩
theorem own_shape {w : World} {lo e size n : Nat} {v : Value} {xs : List Value} (h : w.ownsRow lo e size v n xs) : ∃ sa sc, v = .slice sa n sc := by
  rcases h.2 with ⟨hv, hn⟩ | ⟨g, cap, cur, hv, -⟩
  · exact ⟨none, 0, by rw [hn]; exact hv⟩
  · exact ⟨_, _, hv⟩

end Go.Proofs.Ytbcikkofbdfmaaa

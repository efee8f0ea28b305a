/- Walks over the functions of package packet; no conditions of mine. -/
import Derived.Test.YtcfploigpnjmoaaDoorA1
set_option linter.unusedVariables false
set_option linter.unusedSimpArgs false
namespace Go.Proofs.YtcfploigpnjmoaaDoor
open Go.RowKit

/-- A row of eight cells, written whole. -/
theorem set8 {w : World} {g : Nat} {t : TypeId} {x0 x1 x2 x3 x4 x5 x6 x7 : Value} (y0 y1 y2 y3 y4 y5 y6 y7 : Value) (hg : w.heap[g]? = some (.cells #[x0, x1, x2, x3, x4, x5, x6, x7] t)) :
    ((((((((w.setCell ⟨g, 0, none⟩ y0).setCell ⟨g, 1, none⟩ y1).setCell ⟨g, 2, none⟩ y2).setCell ⟨g, 3, none⟩ y3).setCell ⟨g, 4, none⟩ y4).setCell ⟨g, 5, none⟩ y5).setCell ⟨g, 6, none⟩ y6).setCell ⟨g, 7, none⟩ y7).heap[g]? = some (.cells #[y0, y1, y2, y3, y4, y5, y6, y7] t) := by
  have h0 := heap_setCell_same w g 0 _ t y0 hg
  have h1 := heap_setCell_same _ g 1 _ t y1 h0
  have h2 := heap_setCell_same _ g 2 _ t y2 h1
  have h3 := heap_setCell_same _ g 3 _ t y3 h2
  have h4 := heap_setCell_same _ g 4 _ t y4 h3
  have h5 := heap_setCell_same _ g 5 _ t y5 h4
  have h6 := heap_setCell_same _ g 6 _ t y6 h5
  have h7 := heap_setCell_same _ g 7 _ t y7 h6
  simpa using h7
theorem other8 {w : World} {g k : Nat} (h : k ≠ g) (y0 y1 y2 y3 y4 y5 y6 y7 : Value) :
    ((((((((w.setCell ⟨g, 0, none⟩ y0).setCell ⟨g, 1, none⟩ y1).setCell ⟨g, 2, none⟩ y2).setCell ⟨g, 3, none⟩ y3).setCell ⟨g, 4, none⟩ y4).setCell ⟨g, 5, none⟩ y5).setCell ⟨g, 6, none⟩ y6).setCell ⟨g, 7, none⟩ y7).heap[k]? = w.heap[k]? := by
  rw [heap_setCell_other _ _ _ _ h, heap_setCell_other _ _ _ _ h, heap_setCell_other _ _ _ _ h, heap_setCell_other _ _ _ _ h, heap_setCell_other _ _ _ _ h, heap_setCell_other _ _ _ _ h, heap_setCell_other _ _ _ _ h, heap_setCell_other _ _ _ _ h]
theorem below8 {B : Nat} {a w : World} {g : Nat} (h : Below B a w) (hg : B ≤ g) (y0 y1 y2 y3 y4 y5 y6 y7 : Value) :
    Below B a ((((((((w.setCell ⟨g, 0, none⟩ y0).setCell ⟨g, 1, none⟩ y1).setCell ⟨g, 2, none⟩ y2).setCell ⟨g, 3, none⟩ y3).setCell ⟨g, 4, none⟩ y4).setCell ⟨g, 5, none⟩ y5).setCell ⟨g, 6, none⟩ y6).setCell ⟨g, 7, none⟩ y7) :=
  (((((((h.setCell hg y0).setCell hg y1).setCell hg y2).setCell hg y3).setCell hg y4).setCell hg y5).setCell hg y6).setCell hg y7
/-- The cells and marks of a row of eight. -/
theorem row8 {w : World} {g : Nat} {t : TypeId} {x0 x1 x2 x3 x4 x5 x6 x7 : Value} (hg : w.heap[g]? = some (.cells #[x0, x1, x2, x3, x4, x5, x6, x7] t)) :
    (w.cell? ⟨g, 0, none⟩ = some x0 ∧ w.cell? ⟨g, 1, none⟩ = some x1 ∧ w.cell? ⟨g, 2, none⟩ = some x2 ∧ w.cell? ⟨g, 3, none⟩ = some x3 ∧ w.cell? ⟨g, 4, none⟩ = some x4 ∧ w.cell? ⟨g, 5, none⟩ = some x5 ∧ w.cell? ⟨g, 6, none⟩ = some x6 ∧ w.cell? ⟨g, 7, none⟩ = some x7)
    ∧ (w.frozen? ⟨g, 0, none⟩ = false ∧ w.frozen? ⟨g, 1, none⟩ = false ∧ w.frozen? ⟨g, 2, none⟩ = false ∧ w.frozen? ⟨g, 3, none⟩ = false ∧ w.frozen? ⟨g, 4, none⟩ = false ∧ w.frozen? ⟨g, 5, none⟩ = false ∧ w.frozen? ⟨g, 6, none⟩ = false ∧ w.frozen? ⟨g, 7, none⟩ = false) ∧ g < w.heap.size := by
  have c := fun j => cell_of_row w g j _ _ _ hg
  have f := fun j => frozen_of_row w g j _ _ hg
  refine ⟨⟨by simpa using c 0, by simpa using c 1, by simpa using c 2, by simpa using c 3, by simpa using c 4, by simpa using c 5, by simpa using c 6, by simpa using c 7⟩, ⟨f 0, f 1, f 2, f 3, f 4, f 5, f 6, f 7⟩, ?_⟩
  have := block_lt_of_cell (show w.cell? ⟨g, 0, none⟩ = some x0 by simpa using c 0)
  simpa using this

/-- All of a put, one behind the other. -/
def puts (l : List Int) (L : List (Int × Int)) : List Int := L.foldl (fun q c => put q c.1 c.2) l

theorem puts_snoc (l : List Int) (L : List (Int × Int)) (k : Nat) (h : k < L.length) : puts l (L.take (k + 1)) = put (puts l (L.take k)) L[k].1 L[k].2 := by
  unfold puts; rw [List.take_succ_eq_append_getElem h, List.foldl_append]; rfl

set_option maxHeartbeats 400000 in
theorem do_some (a0 a1 a2 a3 a4 a5 a6 a7 : Int) (b off cap : Nat) (L : List (Int × Int)) (w : World) (hL : L.length ≤ 9223372036854775807) (hb : b < w.heap.size)
    (hc : ∀ i (h : i < L.length), w.cell? ⟨b, off + i * 2, none⟩ = some (.int .i64 L[i].1) ∧ w.cell? ⟨b, off + i * 2 + 1, none⟩ = some (.int .u16 L[i].2)) :
    Calls Tryd.prog 17 #[pk a0 a1 a2 a3 a4 a5 a6 a7, .slice (some ⟨b, off, none⟩) L.length cap] w fun e w' => ∃ b0 b1 b2 b3 b4 b5 b6 b7, e = .returned (pk b0 b1 b2 b3 b4 b5 b6 b7) ∧ puts [a0, a1, a2, a3, a4, a5, a6, a7] L = [b0, b1, b2, b3, b4, b5, b6, b7] ∧ Below w.heap.size w w' := by
  unfold pk
  go_enter Tryd.func17, Tryd.ntmps17
  go_wp2
  go_loopw [9] (fun i wr => ∃ k b0 b1 b2 b3 b4 b5 b6 b7, k ≤ L.length ∧ i = .int .i64 k ∧ Hid (puts [a0, a1, a2, a3, a4, a5, a6, a7] (L.take k) = [b0, b1, b2, b3, b4, b5, b6, b7]) ∧ wr.heap[w.heap.size]? = some (.cells #[.int .u16 b0, .int .u16 b1, .int .u16 b2, .int .u16 b3, .int .u16 b4, .int .u16 b5, .int .u16 b6, .int .u16 b7] 24) ∧ wr.heap[w.heap.size + 1]? = some (.cells #[.int .u16 0, .int .u16 0, .int .u16 0, .int .u16 0, .int .u16 0, .int .u16 0, .int .u16 0, .int .u16 0] 24) ∧ Below w.heap.size w wr) (fun i _ => L.length - (intOf i).toNat)
  case atStart => exact ⟨0, a0, a1, a2, a3, a4, a5, a6, a7, Nat.zero_le _, rfl, rfl, heap_alloc2_old _ _ _, heap_alloc2_new _ _ _, ((Below.refl _ _).alloc (Nat.le_refl _) _).alloc (by simp) _⟩
  case round =>
    obtain ⟨k, b0, b1, b2, b3, b4, b5, b6, b7, hk, rfl, hp, hbox, hres, hbw⟩ := hrel
    have hsz2 := (row8 hres).2.2
    by_cases hlt : k < L.length
    · obtain ⟨c1, c2⟩ := hc k hlt
      rw [← hbw.cell (p := ⟨b, _, none⟩) hb] at c1 c2
      obtain ⟨⟨q0, q1, q2, q3, q4, q5, q6, q7⟩, _, hsz⟩ := row8 hbox
      go_wp2_with fail
      refine (with_any _ _ _ _ _ _ _ _ _ _ _).mono ?_
      rintro e w1 ⟨d0, d1, d2, d3, d4, d5, d6, d7, rfl, hput, hb1⟩
      have hbox1 : w1.heap[w.heap.size]? = some (.cells #[.int .u16 b0, .int .u16 b1, .int .u16 b2, .int .u16 b3, .int .u16 b4, .int .u16 b5, .int .u16 b6, .int .u16 b7] 24) := by
        rw [hb1.block _ (by simp; omega), Below.heap_alloc _ _ _ hsz]; exact hbox
      obtain ⟨⟨g0, g1, g2, g3, g4, g5, g6, g7⟩, ⟨f0, f1, f2, f3, f4, f5, f6, f7⟩, hsz1⟩ := row8 hbox1
      have HP : Hid (put [b0, b1, b2, b3, b4, b5, b6, b7] L[k].1 L[k].2 = [d0, d1, d2, d3, d4, d5, d6, d7]) := hput
      clear hput
      go_wp2
      refine ⟨⟨k + 1, d0, d1, d2, d3, d4, d5, d6, d7, by omega, by go_num, ?_, set8 _ _ _ _ _ _ _ _ hbox1, ?_, below8 ?_ (Nat.le_refl _) _ _ _ _ _ _ _ _⟩, by simp [intOf]; omega⟩
      · show puts _ (L.take (k + 1)) = _
        rw [puts_snoc _ _ _ hlt, hp.out]; exact HP.out
      · rw [other8 (by omega), hb1.block _ (by simp; omega), Below.heap_alloc _ _ _ hsz2]; exact hres
      · exact (hbw.alloc (by omega) _).trans (hb1.mono (by simp; omega))
    · have hkl : k = L.length := by omega
      obtain ⟨⟨q0, q1, q2, q3, q4, q5, q6, q7⟩, _, hsz⟩ := row8 hbox
      obtain ⟨⟨g0, g1, g2, g3, g4, g5, g6, g7⟩, ⟨f0, f1, f2, f3, f4, f5, f6, f7⟩, _⟩ := row8 hres
      subst hkl
      go_wp2
      refine bodyPost_ret (v := pk b0 b1 b2 b3 b4 b5 b6 b7) ?_ rfl ⟨b0, b1, b2, b3, b4, b5, b6, b7, rfl, ?_, below8 hbw (by omega) _ _ _ _ _ _ _ _⟩
      · obtain ⟨⟨h0, h1, h2, h3, h4, h5, h6, h7⟩, _, _⟩ := row8 (set8 (.int .u16 b0) (.int .u16 b1) (.int .u16 b2) (.int .u16 b3) (.int .u16 b4) (.int .u16 b5) (.int .u16 b6) (.int .u16 b7) hres)
        simp [results, Tryd.results17, go_sem, h0, h1, h2, h3, h4, h5, h6, h7]
      · have := hp.out; simpa using this

set_option maxHeartbeats 400000 in
theorem do_none (a0 a1 a2 a3 a4 a5 a6 a7 : Int) (a : Option Addr) (cap : Nat) (w : World) :
    Calls Tryd.prog 17 #[pk a0 a1 a2 a3 a4 a5 a6 a7, .slice a 0 cap] w fun e w' => e = .returned (pk a0 a1 a2 a3 a4 a5 a6 a7) ∧ Below w.heap.size w w' := by
  unfold pk
  go_enter Tryd.func17, Tryd.ntmps17
  go_wp2
  refine wp_loop_rounds 1 ?_
  rw [rounds_succ]
  go_wp2
  refine bodyPost_ret (v := pk a0 a1 a2 a3 a4 a5 a6 a7) (by simp [results, Tryd.results17, go_sem]) rfl ⟨rfl, ?_⟩
  exact ((Below.refl _ _).alloc (Nat.le_refl _) _).alloc (by simp) _
end Go.Proofs.YtcfploigpnjmoaaDoor

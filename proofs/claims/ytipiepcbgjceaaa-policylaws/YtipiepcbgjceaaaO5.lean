/- How a pivot is chosen; no conditions but the row's length. -/
import Derived.Test.YtipiepcbgjceaaaO1
set_option linter.unusedVariables false
set_option linter.unusedSimpArgs false
namespace Go.Proofs.Ytipiepcbgjceaaa
open Go.RowKit Go.Joins Go.Sort

/-- A row, and a counter in a block of its own. -/
structure Ct (w : World) (b off : Nat) (d0 d : Array Int) (sb s : Nat) (wr : World) : Prop where
  sd : Sd w b off d0 d wr
  new : w.heap.size ≤ sb
  cell : wr.cell? ⟨sb, 0, none⟩ = some (.int .i64 (s : Int))
  frz : wr.frozen? ⟨sb, 0, none⟩ = false
theorem Ct.drewN {w : World} {b off : Nat} {d0 d : Array Int} {sb s : Nat} {wr : World} (h : Ct w b off d0 d sb s wr) (q : Nat) : Ct w b off d0 d sb s (wr.drewN q) := ⟨h.sd.drewN q, h.new, h.cell, h.frz⟩
theorem Ct.put {w : World} {b off : Nat} {d0 d : Array Int} {sb s : Nat} {wr : World} (h : Ct w b off d0 d sb s wr) (t : Nat) : Ct w b off d0 d sb t (wr.setCell ⟨sb, 0, none⟩ (.int .i64 (t : Int))) :=
  ⟨h.sd.new h.new rfl _, h.new, by
    obtain ⟨c, e, fr, hg, hc⟩ := cells_of_cell? h.cell
    have h0 : 0 < c.size := (Array.getElem?_eq_some_iff.1 hc).1
    rw [setCell_eq, cell?_mapBlock _ _ _ _ hg]
    simp [h0], by rw [setCell_eq, frozen?_mapBlock]; exact h.frz⟩
set_option maxRecDepth 100000 in
set_option maxHeartbeats 2000000 in
theorem order_any (b off cap a c sb s N : Nat) (d0 d : Array Int) (w0 w : World) (h : Ct w0 b off d0 d sb s w) (ha : a < N) (hc : c < N) (hd : d0.size = N) (hs : s ≤ 1000) (hN : N ≤ 100000) :
    Calls Try.prog 106 #[.slice (some ⟨b, off, none⟩) N cap, .int .i64 a, .int .i64 c, .pointer (some ⟨sb, 0, none⟩)] w fun e w' =>
      ∃ x y t : Nat, e = .returned (.tuple #[.int .i64 x, .int .i64 y]) ∧ ((x = a ∧ y = c) ∨ (x = c ∧ y = a)) ∧ t ≤ s + 1 ∧ Ct w0 b off d0 d sb t w' := by
  obtain ⟨G, HG, hcw, hfw⟩ := h.sd.cells hd
  have HC := hid h
  have hcell := h.cell
  have hfrz := h.frz
  clear h
  go_enter Try.func106, Try.ntmps106
  go_wp2
  go_quiet ((go_at_call 87; exact Calls.quiet_of_same (less_lt _ _ _)))
  go_wp2
  · go_ret2
    exact ⟨c, a, s + 1, rfl, .inr ⟨rfl, rfl⟩, Nat.le_refl _, by simpa using (HC.out.drewN nq).put (s + 1)⟩
  · go_ret2
    exact ⟨a, c, s, rfl, .inl ⟨rfl, rfl⟩, by omega, HC.out.drewN nq⟩
set_option maxRecDepth 100000 in
set_option maxHeartbeats 2000000 in
theorem median_any (b off cap a c m sb s N : Nat) (d0 d : Array Int) (w0 w : World) (h : Ct w0 b off d0 d sb s w) (ha : a < N) (hc : c < N) (hm : m < N) (hd : d0.size = N) (hs : s ≤ 900) (hN : N ≤ 100000) :
    Calls Try.prog 105 #[.slice (some ⟨b, off, none⟩) N cap, .int .i64 a, .int .i64 c, .int .i64 m, .pointer (some ⟨sb, 0, none⟩)] w fun e w' =>
      ∃ x t : Nat, e = .returned (.int .i64 x) ∧ (x = a ∨ x = c ∨ x = m) ∧ t ≤ s + 3 ∧ Ct w0 b off d0 d sb t w' := by
  have c1 := order_any b off cap a c sb s N d0 d w0 w h ha hc hd (by omega) hN
  clear h
  go_enter Try.func105, Try.ntmps105
  go_wp2_with fail
  refine c1.mono ?_
  rintro e w1 ⟨x1, y1, t1, rfl, hx1, ht1, hC1⟩
  have c2 := order_any b off cap y1 m sb t1 N d0 d w0 w1 hC1 (by omega) hm hd (by omega) hN
  clear c1 hC1
  go_wp2_with fail
  refine c2.mono ?_
  rintro e w2 ⟨x2, y2, t2, rfl, hx2, ht2, hC2⟩
  have c3 := order_any b off cap x1 x2 sb t2 N d0 d w0 w2 hC2 (by omega) (by omega) hd (by omega) hN
  clear c2 hC2
  go_wp2_with fail
  refine c3.mono ?_
  rintro e w3 ⟨x3, y3, t3, rfl, hx3, ht3, hC3⟩
  have HC3 := hid hC3
  clear c3 hC3
  go_wp2
  go_ret
  exact ⟨y3, t3, rfl, by omega, by omega, HC3.out⟩
set_option maxRecDepth 100000 in
set_option maxHeartbeats 2000000 in
theorem medianAdj_any (b off cap a sb s N : Nat) (d0 d : Array Int) (w0 w : World) (h : Ct w0 b off d0 d sb s w) (ha : 1 ≤ a) (ha2 : a + 1 < N) (hd : d0.size = N) (hs : s ≤ 900) (hN : N ≤ 100000) :
    Calls Try.prog 104 #[.slice (some ⟨b, off, none⟩) N cap, .int .i64 a, .pointer (some ⟨sb, 0, none⟩)] w fun e w' =>
      ∃ x t : Nat, e = .returned (.int .i64 x) ∧ (a - 1 ≤ x ∧ x ≤ a + 1) ∧ t ≤ s + 3 ∧ Ct w0 b off d0 d sb t w' := by
  obtain ⟨p, hp⟩ : ∃ p, a - 1 = p := ⟨_, rfl⟩
  obtain ⟨q, hq⟩ : ∃ q, a + 1 = q := ⟨_, rfl⟩
  have c1 := median_any b off cap p a q sb s N d0 d w0 w h (by omega) (by omega) (by omega) hd (by omega) hN
  have e1 : (a : Int) - 1 = (p : Int) := by omega
  have e2 : (a : Int) + 1 = (q : Int) := by omega
  have hpq : Hid (a - 1 = p ∧ a + 1 = q) := ⟨hp, hq⟩
  clear h hp hq
  go_enter Try.func104, Try.ntmps104
  go_wp2_with fail
  refine c1.mono ?_
  rintro e w3 ⟨x3, t3, rfl, hx3, ht3, hC3⟩
  have HC3 := hid hC3
  clear c1 hC3
  go_wp2
  go_ret
  exact ⟨x3, t3, rfl, by have := hpq.out; omega, by omega, HC3.out⟩
end Go.Proofs.Ytipiepcbgjceaaa
/- How a pivot is chosen, at last; no conditions but the row's length. -/
set_option linter.unusedVariables false
set_option linter.unusedSimpArgs false
namespace Go.Proofs.Ytipiepcbgjceaaa
open Go.RowKit Go.Joins Go.Sort

set_option maxRecDepth 100000 in
set_option maxHeartbeats 4000000 in
theorem choose_any (b off cap a z N : Nat) (d : Array Int) (w : World) (hH : Holds (Value.int .u16) w b off d) (hb : b < w.heap.size) (haz : a + 12 < z) (hz : z ≤ N) (hd : d.size = N) (hN : N ≤ 100000) :
    Calls Try.prog 97 #[.slice (some ⟨b, off, none⟩) N cap, .int .i64 a, .int .i64 z] w fun e w' =>
      ∃ (p : Nat) (hint : Int), e = .returned (.tuple #[.int .i64 p, .int .i64 hint]) ∧ a ≤ p ∧ p < z ∧ (hint = 0 ∨ hint = 1 ∨ hint = 2) ∧ Sd w b off d d w' := by
  have hC0 : Ct w b off d d w.heap.size 0 (w.alloc (.cells #[.int .i64 0] 3)) :=
    ⟨(Sd.start hH hb).alloc _, Nat.le_refl _, by rw [cell_of_row _ _ _ _ _ _ (heap_alloc_new w _)]; rfl, frozen_of_row _ _ _ _ _ (heap_alloc_new w _)⟩
  obtain ⟨l, hl⟩ : ∃ l, z - a = l := ⟨_, rfl⟩
  obtain ⟨q, hq⟩ : ∃ q, l / 4 = q := ⟨_, rfl⟩
  obtain ⟨i, hi⟩ : ∃ i, a + q = i := ⟨_, rfl⟩
  obtain ⟨j, hj⟩ : ∃ j, a + q * 2 = j := ⟨_, rfl⟩
  obtain ⟨k, hk⟩ : ∃ k, a + q * 3 = k := ⟨_, rfl⟩
  have el : (z : Int) - (a : Int) = (l : Int) := by omega
  have eq1 : (l : Int) / 4 = (q : Int) := by omega
  have ei : (a : Int) + (q : Int) = (i : Int) := by omega
  have ej : (a : Int) + (q : Int) * 2 = (j : Int) := by omega
  have ek : (a : Int) + (q : Int) * 3 = (k : Int) := by omega
  have HF : Hid (z - a = l ∧ l / 4 = q ∧ a + q = i ∧ a + q * 2 = j ∧ a + q * 3 = k) := ⟨hl, hq, hi, hj, hk⟩
  have hl8 : 12 < l := by omega
  have hqb : q ≤ 25000 := by omega
  have hb1 : a + 3 ≤ i ∧ i + 1 < j ∧ j + 1 < k ∧ k + 1 < z := by omega
  have HC0 := hid hC0
  clear hH hl hq hi hj hk hC0
  have d8 : decide ((8 : Int) ≤ (l : Int)) = true := by simp; omega
  by_cases h50 : 50 ≤ l
  · have d50 : decide ((50 : Int) ≤ (l : Int)) = true := by simp; omega
    go_enter Try.func97, Try.ntmps97
    go_wp2_with fail
    refine (medianAdj_any b off cap i w.heap.size 0 N d d w _ HC0.out (by omega) (by omega) hd (by omega) hN).mono ?_
    rintro e w1 ⟨x1, t1, rfl, hx1, ht1, hC1⟩
    have c2 := medianAdj_any b off cap j w.heap.size t1 N d d w w1 hC1 (by omega) (by omega) hd (by omega) hN
    clear HC0 hC1
    go_wp2_with fail
    refine c2.mono ?_
    rintro e w2 ⟨x2, t2, rfl, hx2, ht2, hC2⟩
    have c3 := medianAdj_any b off cap k w.heap.size t2 N d d w w2 hC2 (by omega) (by omega) hd (by omega) hN
    clear c2 hC2
    go_wp2_with fail
    refine c3.mono ?_
    rintro e w3 ⟨x3, t3, rfl, hx3, ht3, hC3⟩
    have c4 := median_any b off cap x1 x2 x3 w.heap.size t3 N d d w w3 hC3 (by omega) (by omega) (by omega) hd (by omega) hN
    clear c3 hC3
    go_wp2_with fail
    refine c4.mono ?_
    rintro e w4 ⟨x, t, rfl, hx, ht, hC⟩
    have HC := hid hC
    have HX : Hid (a ≤ x ∧ x < z) := by unfold Hid; omega
    clear c4 hC hx ht
    have ht0 : t = 0 ∨ t = 12 ∨ (t ≠ 0 ∧ t ≠ 12) := by omega
    rcases ht0 with rfl | rfl | ⟨h0, h12⟩
    · have hcell := HC.out.cell
      go_wp2
      go_ret2
      exact ⟨x, 1, rfl, by have := HX.out; omega, by have := HX.out; omega, by omega, HC.out.sd⟩
    · have hcell := HC.out.cell
      go_wp2
      go_ret2
      exact ⟨x, 2, rfl, by have := HX.out; omega, by have := HX.out; omega, by omega, HC.out.sd⟩
    · have hcell := HC.out.cell
      have d0 : ((t : Int) == 0) = false := by simp; omega
      have d12 : ((t : Int) == 12) = false := by simp; omega
      go_wp2
      go_ret2
      exact ⟨x, 0, rfl, by have := HX.out; omega, by have := HX.out; omega, by omega, HC.out.sd⟩
  · have d50 : decide ((50 : Int) ≤ (l : Int)) = false := by simp; omega
    go_enter Try.func97, Try.ntmps97
    go_wp2_with fail
    refine (median_any b off cap i j k w.heap.size 0 N d d w _ HC0.out (by omega) (by omega) (by omega) hd (by omega) hN).mono ?_
    rintro e w4 ⟨x, t, rfl, hx, ht, hC⟩
    have HC := hid hC
    have HX : Hid (a ≤ x ∧ x < z) := by unfold Hid; omega
    clear HC0 hC hx ht
    have ht0 : t = 0 ∨ t = 12 ∨ (t ≠ 0 ∧ t ≠ 12) := by omega
    rcases ht0 with rfl | rfl | ⟨h0, h12⟩
    · have hcell := HC.out.cell
      go_wp2
      go_ret2
      exact ⟨x, 1, rfl, by have := HX.out; omega, by have := HX.out; omega, by omega, HC.out.sd⟩
    · have hcell := HC.out.cell
      go_wp2
      go_ret2
      exact ⟨x, 2, rfl, by have := HX.out; omega, by have := HX.out; omega, by omega, HC.out.sd⟩
    · have hcell := HC.out.cell
      have d0 : ((t : Int) == 0) = false := by simp; omega
      have d12 : ((t : Int) == 12) = false := by simp; omega
      go_wp2
      go_ret2
      exact ⟨x, 0, rfl, by have := HX.out; omega, by have := HX.out; omega, by omega, HC.out.sd⟩
end Go.Proofs.Ytipiepcbgjceaaa

/- What the law PacketFields answers: true, for every packet, field and list of pairs, wherever the listed variables hold what the row lists. -/
import Derived.Test.YtcfploigpnjmoaaDoorF3
set_option linter.unusedVariables false
set_option linter.unusedSimpArgs false
namespace Go.Proofs.YtcfploigpnjmoaaDoor
open Go.RowKit Go.Joins Go.Sort

set_option maxRecDepth 100000 in
set_option maxHeartbeats 1000000 in
theorem fields_long (a0 a1 a2 a3 a4 a5 a6 a7 f : Int) (sa : Option Addr) (n sc : Nat) (w : World) (h : Env w) (hn : 20 < n) (hn63 : n ≤ 9223372036854775807) :
    Calls Tryd.prog 3 #[pk a0 a1 a2 a3 a4 a5 a6 a7, .int .i64 f, .slice sa n sc] w fun e w' => e = .returned (.bool true) ∧ Below w.heap.size w w' := by
  have hd : decide ((20 : Int) < (n : Int)) = true := by simp; omega
  unfold pk
  go_enter Tryd.func3, Tryd.ntmps3
  go_wp2_with fail
  have hB0 : Below w.heap.size w (w.alloc (.cells #[.int .u16 a0, .int .u16 a1, .int .u16 a2, .int .u16 a3, .int .u16 a4, .int .u16 a5, .int .u16 a6, .int .u16 a7] 24)) := (Below.refl _ _).alloc (Nat.le_refl _) _
  refine (awake_any _ (h.below hB0)).mono ?_
  rintro e w1 ⟨rfl, hb1⟩
  clear h
  go_wp2
  go_ret
  exact ⟨rfl, hB0.trans (hb1.mono (by simp))⟩

theorem puts_length (l : List Int) (L : List (Int × Int)) : (puts l L).length = l.length := by
  unfold puts
  induction L generalizing l with
  | nil => rfl
  | cons c r ih => rw [List.foldl_cons, ih, put_length]

set_option maxRecDepth 100000 in
set_option maxHeartbeats 400000 in
theorem fields_in (a0 a1 a2 a3 a4 a5 a6 a7 : Int) (k : Nat) (hk8 : k < 8) (sa : Option Addr) (sc : Nat) (L : List (Int × Int)) (w : World) (h : Env w) (hP : PairsAny w (.slice sa L.length sc) L) (hn : L.length ≤ 20) :
    Calls Tryd.prog 3 #[pk a0 a1 a2 a3 a4 a5 a6 a7, .int .i64 k, .slice sa L.length sc] w fun e w' => e = .returned (.bool true) ∧ Below w.heap.size w w' := by
  have hd : decide ((20 : Int) < (L.length : Int)) = false := by simp; omega
  have hd0 : decide ((0 : Int) ≤ (k : Int)) = true := by simp
  have hd8 : decide ((k : Int) < 8) = true := by simp; omega
  have hn' : (L.length : Int) ≤ 20 := by omega
  have hn0 : (0 : Int) ≤ (L.length : Int) := by omega
  have hP0 : Hid (PairsAny w (.slice sa L.length sc) L) := hP
  clear hP
  unfold pk
  go_enter Tryd.func3, Tryd.ntmps3
  go_wp2_with fail
  have hB0 : Below w.heap.size w (w.alloc (.cells #[.int .u16 a0, .int .u16 a1, .int .u16 a2, .int .u16 a3, .int .u16 a4, .int .u16 a5, .int .u16 a6, .int .u16 a7] 24)) := (Below.refl _ _).alloc (Nat.le_refl _) _
  refine (awake_any _ (h.below hB0)).mono ?_
  rintro e w1 ⟨rfl, hb1⟩
  have hbp : w1.heap[w.heap.size]? = some (.cells #[.int .u16 a0, .int .u16 a1, .int .u16 a2, .int .u16 a3, .int .u16 a4, .int .u16 a5, .int .u16 a6, .int .u16 a7] 24) := by rw [hb1.block _ (by simp)]; exact heap_alloc_new _ _
  have hB1 : Below w.heap.size w w1 := hB0.trans (hb1.mono (by simp))
  clear hb1 hB0
  have hE1 := h.below hB1
  go_wp2_with fail
  refine (rnames_any _).mono ?_
  rintro e w2 ⟨rfl, rfl⟩
  have hcell : (w1.alloc (.cells nmCells 9)).cell? ⟨w1.heap.size, k, none⟩ = some (.string ⟨(nm8.getD k []).toArray⟩) := by
    rw [cell_of_row _ _ _ _ _ _ (heap_alloc_new w1 (.cells nmCells 9))]; exact nmCells_at k hk8
  have hfl : fldI (nm8.getD k []) = k ∧ fldB (nm8.getD k []) = true := by
    match k, hk8 with
    | 0, _ => decide +kernel
    | 1, _ => decide +kernel
    | 2, _ => decide +kernel
    | 3, _ => decide +kernel
    | 4, _ => decide +kernel
    | 5, _ => decide +kernel
    | 6, _ => decide +kernel
    | 7, _ => decide +kernel
  have hnm := name_in k hk8
  have HFL : Hid (fldI (nm8.getD k []) = k ∧ fldB (nm8.getD k []) = true) := hfl
  clear hfl
  generalize nm8.getD k [] = nmk at *
  have HNM : Hid (∀ w : World, NamesIs w → Calls Tryd.prog 12 #[.int .i64 k] w fun e w' => e = .returned (.string ⟨nmk.toArray⟩) ∧ w' = w) := hnm
  clear hnm
  go_wp2_with fail
  have hB2 : Below w.heap.size w (w1.alloc (.cells nmCells 9)) := hB1.alloc hB1.size _
  refine (field_list nmk _ (h.below hB2)).mono ?_
  rintro e w3 ⟨rfl, rfl⟩
  rw [HFL.out.1, HFL.out.2]
  have hbp2 : (w1.alloc (.cells nmCells 9)).heap[w.heap.size]? = some (.cells #[.int .u16 a0, .int .u16 a1, .int .u16 a2, .int .u16 a3, .int .u16 a4, .int .u16 a5, .int .u16 a6, .int .u16 a7] 24) := by
    rw [Below.heap_alloc _ _ _ (heap_lt hbp)]; exact hbp
  clear hcell hE1 hbp
  generalize (w1.alloc (.cells nmCells 9)) = w2 at *
  clear hB1
  obtain ⟨⟨q0, q1, q2, q3, q4, q5, q6, q7⟩, -, hsz2⟩ := row8 hbp2
  go_wp2_with fail
  refine (at_any _ _ _ _ _ _ _ _ _).mono ?_
  rintro e w4 ⟨rfl, hb4⟩
  have hbp4 : w4.heap[w.heap.size]? = some (.cells #[.int .u16 a0, .int .u16 a1, .int .u16 a2, .int .u16 a3, .int .u16 a4, .int .u16 a5, .int .u16 a6, .int .u16 a7] 24) := by rw [hb4.block _ hsz2]; exact hbp2
  have hB4 : Below w.heap.size w w4 := hB2.trans (hb4.mono (by omega))
  clear q0 q1 q2 q3 q4 q5 q6 q7 hbp2 hB2 hb4
  obtain ⟨⟨q0, q1, q2, q3, q4, q5, q6, q7⟩, -, hsz4⟩ := row8 hbp4
  go_wp2_with fail
  refine (to_any _ _ _ _ _ _ _ _ _ _ _).mono ?_
  rintro e w5 ⟨rfl, hb5⟩
  have hbp5 : w5.heap[w.heap.size]? = some (.cells #[.int .u16 a0, .int .u16 a1, .int .u16 a2, .int .u16 a3, .int .u16 a4, .int .u16 a5, .int .u16 a6, .int .u16 a7] 24) := by rw [hb5.block _ (by simp; omega), Below.heap_alloc _ _ _ hsz4]; exact hbp4
  have hat5 : w5.heap[w4.heap.size]? = some (.cells #[.int .u16 a0, .int .u16 a1] 32) := by rw [hb5.block _ (by simp)]; exact heap_alloc_new _ _
  have hB5 : Below w.heap.size w w5 := (hB4.alloc (by omega) _).trans (hb5.mono (by simp; omega))
  have hsz5 := heap_lt hbp5
  have hsa5 := heap_lt hat5
  clear q0 q1 q2 q3 q4 q5 q6 q7 hbp4 hB4 hb5
  unfold pk
  go_wp2
  have hbW : Below w.heap.size w (w5.alloc (.cells #[.int .u16 ((L.length : Int) * 7), .int .u16 ((L.length : Int) * 7 + 1), .int .u16 a2, .int .u16 a3, .int .u16 a4, .int .u16 a5, .int .u16 a6, .int .u16 a7] 24)) := hB5.alloc (by omega) _
  have hpW : (w5.alloc (.cells #[.int .u16 ((L.length : Int) * 7), .int .u16 ((L.length : Int) * 7 + 1), .int .u16 a2, .int .u16 a3, .int .u16 a4, .int .u16 a5, .int .u16 a6, .int .u16 a7] 24)).heap[w.heap.size]? = some (.cells #[.int .u16 a0, .int .u16 a1, .int .u16 a2, .int .u16 a3, .int .u16 a4, .int .u16 a5, .int .u16 a6, .int .u16 a7] 24) := by rw [Below.heap_alloc _ _ _ hsz5]; exact hbp5
  have haW : (w5.alloc (.cells #[.int .u16 ((L.length : Int) * 7), .int .u16 ((L.length : Int) * 7 + 1), .int .u16 a2, .int .u16 a3, .int .u16 a4, .int .u16 a5, .int .u16 a6, .int .u16 a7] 24)).heap[w4.heap.size]? = some (.cells #[.int .u16 a0, .int .u16 a1] 32) := by rw [Below.heap_alloc _ _ _ hsa5]; exact hat5
  have hqW := heap_alloc_new w5 (.cells #[.int .u16 ((L.length : Int) * 7), .int .u16 ((L.length : Int) * 7 + 1), .int .u16 a2, .int .u16 a3, .int .u16 a4, .int .u16 a5, .int .u16 a6, .int .u16 a7] 24)
  clear hbp5 hat5 hB5
  generalize (w5.alloc (.cells #[.int .u16 ((L.length : Int) * 7), .int .u16 ((L.length : Int) * 7 + 1), .int .u16 a2, .int .u16 a3, .int .u16 a4, .int .u16 a5, .int .u16 a6, .int .u16 a7] 24)) = W at *
  have hEW : Hid (Env W) := h.below hbW
  have hPW : Hid (PairsAny W (.slice sa L.length sc) L) := hP0.out.below hbW
  obtain ⟨⟨q0, q1, q2, q3, q4, q5, q6, q7⟩, -, -⟩ := row8 hpW
  obtain ⟨⟨y0, y1, y2, y3, y4, y5, y6, y7⟩, -, -⟩ := row8 hqW
  have z0 : W.cell? ⟨w4.heap.size, 0, none⟩ = some (.int .u16 a0) := by rw [cell_of_row _ _ _ _ _ _ haW]; rfl
  have z1 : W.cell? ⟨w4.heap.size, 1, none⟩ = some (.int .u16 a1) := by rw [cell_of_row _ _ _ _ _ _ haW]; rfl
  have r0 := cell_regrown q0
  have r1 := cell_regrown q1
  have r2 := cell_regrown q2
  have r3 := cell_regrown q3
  have r4 := cell_regrown q4
  have r5 := cell_regrown q5
  have r6 := cell_regrown q6
  have r7 := cell_regrown q7
  have s0 := cell_regrown y0
  have s1 := cell_regrown y1
  have s2 := cell_regrown y2
  have s3 := cell_regrown y3
  have s4 := cell_regrown y4
  have s5 := cell_regrown y5
  have s6 := cell_regrown y6
  have s7 := cell_regrown y7
  have t0 := cell_regrown z0
  have t1 := cell_regrown z1
  obtain ⟨b0, b1, b2, b3, b4, b5, b6, b7, hput⟩ := eight (l := put [a0, a1, a2, a3, a4, a5, a6, a7] k ((L.length : Int) * 7)) (by rw [put_length]; rfl)
  obtain ⟨c0, c1, c2, c3, c4, c5, c6, c7, hputs⟩ := eight (l := puts [a0, a1, a2, a3, a4, a5, a6, a7] L) (by rw [puts_length]; rfl)
  have cN : Hid (∀ d os, Calls Tryd.prog 12 #[.int .i64 k] (grow (redrawn W d) os) fun e w'' => e = .returned (.string ⟨nmk.toArray⟩) ∧ ∃ p : Regrown, w'' = grow (redrawn W p.d) p.os) := fun d os => Calls.regrown_of ((HNM.out _ (hEW.out.below (below_regrown W d os)).names).mono fun e w' ⟨he, hw⟩ => ⟨he, hw ▸ Below.refl _ _⟩)
  have cW : Hid (∀ d os, Calls Tryd.prog 13 #[pk a0 a1 a2 a3 a4 a5 a6 a7, .int .i64 k, .int .u16 ((L.length : Int) * 7)] (grow (redrawn W d) os) fun e w'' => e = .returned (pk b0 b1 b2 b3 b4 b5 b6 b7) ∧ ∃ p : Regrown, w'' = grow (redrawn W p.d) p.os) := fun d os => Calls.regrown_of (with_every _ _ _ _ _ _ _ _ _ _ _ _ _ _ _ _ _ _ _ hput)
  have cR : Hid (∀ d os, Calls Tryd.prog 14 #[pk a0 a1 a2 a3 a4 a5 a6 a7, .int .i64 k, .int .u16 ((L.length : Int) * 7)] (grow (redrawn W d) os) fun e w'' => e = .returned (pk b0 b1 b2 b3 b4 b5 b6 b7) ∧ ∃ p : Regrown, w'' = grow (redrawn W p.d) p.os) := fun d os => Calls.regrown_of (rwith_every _ _ _ _ _ _ _ _ _ _ _ _ _ _ _ _ _ _ _ hput)
  have cR0 : Hid (∀ d os, Calls Tryd.prog 14 #[pk a0 a1 a2 a3 a4 a5 a6 a7, .int .i64 0, .int .u16 ((L.length : Int) * 7)] (grow (redrawn W d) os) fun e w'' => e = .returned (pk ((L.length : Int) * 7) a1 a2 a3 a4 a5 a6 a7) ∧ ∃ p : Regrown, w'' = grow (redrawn W p.d) p.os) := fun d os => Calls.regrown_of (rwith_every _ _ _ _ _ _ _ _ _ _ _ _ _ _ _ _ _ _ _ rfl)
  have cR1 : Hid (∀ d os, Calls Tryd.prog 14 #[pk ((L.length : Int) * 7) a1 a2 a3 a4 a5 a6 a7, .int .i64 1, .int .u16 ((L.length : Int) * 7 + 1)] (grow (redrawn W d) os) fun e w'' => e = .returned (pk ((L.length : Int) * 7) ((L.length : Int) * 7 + 1) a2 a3 a4 a5 a6 a7) ∧ ∃ p : Regrown, w'' = grow (redrawn W p.d) p.os) := fun d os => Calls.regrown_of (rwith_every _ _ _ _ _ _ _ _ _ _ _ _ _ _ _ _ _ _ _ rfl)
  have cH : Hid (∀ d os, Calls Tryd.prog 15 #[pk a0 a1 a2 a3 a4 a5 a6 a7, .slice sa L.length sc] (grow (redrawn W d) os) fun e w'' => e = .returned (.bool (hasAll [a0, a1, a2, a3, a4, a5, a6, a7] L)) ∧ ∃ p : Regrown, w'' = grow (redrawn W p.d) p.os) := fun d os => Calls.regrown_of (has_every _ _ _ _ _ _ _ _ _ _ L (hPW.out.below (below_regrown W d os)))
  have cG : Hid (∀ d os, Calls Tryd.prog 16 #[pk a0 a1 a2 a3 a4 a5 a6 a7, .slice sa L.length sc] (grow (redrawn W d) os) fun e w'' => e = .returned (.bool (hasAll [a0, a1, a2, a3, a4, a5, a6, a7] L)) ∧ ∃ p : Regrown, w'' = grow (redrawn W p.d) p.os) := fun d os => Calls.regrown_of (rhas_every _ _ _ _ _ _ _ _ _ _ L (hPW.out.below (below_regrown W d os)))
  have cD : Hid (∀ d os, Calls Tryd.prog 17 #[pk a0 a1 a2 a3 a4 a5 a6 a7, .slice sa L.length sc] (grow (redrawn W d) os) fun e w'' => e = .returned (pk c0 c1 c2 c3 c4 c5 c6 c7) ∧ ∃ p : Regrown, w'' = grow (redrawn W p.d) p.os) := fun d os => Calls.regrown_of (do_every _ _ _ _ _ _ _ _ _ _ _ _ _ _ _ _ _ _ L (hPW.out.below (below_regrown W d os)) hputs)
  have cE : Hid (∀ d os, Calls Tryd.prog 18 #[pk a0 a1 a2 a3 a4 a5 a6 a7, .slice sa L.length sc] (grow (redrawn W d) os) fun e w'' => e = .returned (pk c0 c1 c2 c3 c4 c5 c6 c7) ∧ ∃ p : Regrown, w'' = grow (redrawn W p.d) p.os) := fun d os => Calls.regrown_of (rdo_every _ _ _ _ _ _ _ _ _ _ _ _ _ _ _ _ _ _ L (hPW.out.below (below_regrown W d os)) hputs)
  have e1 := eql8 b0 b1 b2 b3 b4 b5 b6 b7 b0 b1 b2 b3 b4 b5 b6 b7
  have e2 := eql8 c0 c1 c2 c3 c4 c5 c6 c7 c0 c1 c2 c3 c4 c5 c6 c7
  have e3 := eql8 ((L.length : Int) * 7) ((L.length : Int) * 7 + 1) a2 a3 a4 a5 a6 a7 ((L.length : Int) * 7) ((L.length : Int) * 7 + 1) a2 a3 a4 a5 a6 a7
  have u1 := same8_self [b0, b1, b2, b3, b4, b5, b6, b7]
  have u2 := same8_self [c0, c1, c2, c3, c4, c5, c6, c7]
  have u3 := same8_self [((L.length : Int) * 7), ((L.length : Int) * 7 + 1), a2, a3, a4, a5, a6, a7]
  generalize hasAll [a0, a1, a2, a3, a4, a5, a6, a7] L = hr at *
  clear h hput hputs q0 q1 q2 q3 q4 q5 q6 q7 y0 y1 y2 y3 y4 y5 y6 y7 z0 z1 hqW haW hpW
  refine wp_region_quiet_below (by kernel_rfl) (by kernel_rfl) ?_
  repeat (go_big_quiet_step (first
    | (go_at_call 12; exact cN.out _ _)
    | (go_at_call 13; exact cW.out _ _)
    | (go_at_call_of 14 (Value.int IntKind.i64 0); exact cR0.out _ _)
    | (go_at_call_of 14 (Value.int IntKind.i64 1); exact cR1.out _ _)
    | (go_at_call 14; exact cR.out _ _)
    | (go_at_call 15; exact cH.out _ _)
    | (go_at_call 16; exact cG.out _ _)
    | (go_at_call 17; exact cD.out _ _)
    | (go_at_call 18; exact cE.out _ _)))
  refine wpQuiet_nil ?_
  intro _ hw'
  obtain ⟨⟨dq, osq⟩, hw''⟩ := hw'
  subst hw''
  go_wp2
  go_ret
  exact ⟨rfl, hbW.trans ((below_regrown W dq osq).mono hbW.size)⟩

set_option maxRecDepth 100000 in
set_option maxHeartbeats 400000 in
theorem fields_low (a0 a1 a2 a3 a4 a5 a6 a7 : Int) (f : Int) (hlo : f < 0) (sa : Option Addr) (sc : Nat) (L : List (Int × Int)) (w : World) (h : Env w) (hP : PairsAny w (.slice sa L.length sc) L) (hn : L.length ≤ 20) :
    Calls Tryd.prog 3 #[pk a0 a1 a2 a3 a4 a5 a6 a7, .int .i64 f, .slice sa L.length sc] w fun e w' => e = .returned (.bool true) ∧ Below w.heap.size w w' := by
  have hd : decide ((20 : Int) < (L.length : Int)) = false := by simp; omega
  have hf : f < 0 ∨ 8 ≤ f := by omega
  have hd0 : decide ((0 : Int) ≤ f) = false := by simp; omega
  have hn' : (L.length : Int) ≤ 20 := by omega
  have hn0 : (0 : Int) ≤ (L.length : Int) := by omega
  have hP0 : Hid (PairsAny w (.slice sa L.length sc) L) := hP
  clear hP
  unfold pk
  go_enter Tryd.func3, Tryd.ntmps3
  go_wp2_with fail
  have hB0 : Below w.heap.size w (w.alloc (.cells #[.int .u16 a0, .int .u16 a1, .int .u16 a2, .int .u16 a3, .int .u16 a4, .int .u16 a5, .int .u16 a6, .int .u16 a7] 24)) := (Below.refl _ _).alloc (Nat.le_refl _) _
  refine (awake_any _ (h.below hB0)).mono ?_
  rintro e w1 ⟨rfl, hb1⟩
  have hbp : w1.heap[w.heap.size]? = some (.cells #[.int .u16 a0, .int .u16 a1, .int .u16 a2, .int .u16 a3, .int .u16 a4, .int .u16 a5, .int .u16 a6, .int .u16 a7] 24) := by rw [hb1.block _ (by simp)]; exact heap_alloc_new _ _
  have hB1 : Below w.heap.size w w1 := hB0.trans (hb1.mono (by simp))
  clear hb1 hB0
  have HNO : Hid (∀ w : World, Calls Tryd.prog 12 #[.int .i64 f] w fun e w' => e = .returned (.string ⟨#[]⟩) ∧ w' = w) := fun w => name_out f hf w
  have hbp2 := hbp
  have hB2 := hB1
  clear hbp hB1
  generalize hww : w1 = w2 at *
  clear hww
  obtain ⟨⟨q0, q1, q2, q3, q4, q5, q6, q7⟩, -, hsz2⟩ := row8 hbp2
  clear hf
  go_wp2_with fail
  refine (at_any _ _ _ _ _ _ _ _ _).mono ?_
  rintro e w4 ⟨rfl, hb4⟩
  have hbp4 : w4.heap[w.heap.size]? = some (.cells #[.int .u16 a0, .int .u16 a1, .int .u16 a2, .int .u16 a3, .int .u16 a4, .int .u16 a5, .int .u16 a6, .int .u16 a7] 24) := by rw [hb4.block _ hsz2]; exact hbp2
  have hB4 : Below w.heap.size w w4 := hB2.trans (hb4.mono (by omega))
  clear q0 q1 q2 q3 q4 q5 q6 q7 hbp2 hB2 hb4
  obtain ⟨⟨q0, q1, q2, q3, q4, q5, q6, q7⟩, -, hsz4⟩ := row8 hbp4
  go_wp2_with fail
  refine (to_any _ _ _ _ _ _ _ _ _ _ _).mono ?_
  rintro e w5 ⟨rfl, hb5⟩
  have hbp5 : w5.heap[w.heap.size]? = some (.cells #[.int .u16 a0, .int .u16 a1, .int .u16 a2, .int .u16 a3, .int .u16 a4, .int .u16 a5, .int .u16 a6, .int .u16 a7] 24) := by rw [hb5.block _ (by simp; omega), Below.heap_alloc _ _ _ hsz4]; exact hbp4
  have hat5 : w5.heap[w4.heap.size]? = some (.cells #[.int .u16 a0, .int .u16 a1] 32) := by rw [hb5.block _ (by simp)]; exact heap_alloc_new _ _
  have hB5 : Below w.heap.size w w5 := (hB4.alloc (by omega) _).trans (hb5.mono (by simp; omega))
  have hsz5 := heap_lt hbp5
  have hsa5 := heap_lt hat5
  clear q0 q1 q2 q3 q4 q5 q6 q7 hbp4 hB4 hb5
  unfold pk
  go_wp2
  have hbW : Below w.heap.size w (w5.alloc (.cells #[.int .u16 ((L.length : Int) * 7), .int .u16 ((L.length : Int) * 7 + 1), .int .u16 a2, .int .u16 a3, .int .u16 a4, .int .u16 a5, .int .u16 a6, .int .u16 a7] 24)) := hB5.alloc (by omega) _
  have hpW : (w5.alloc (.cells #[.int .u16 ((L.length : Int) * 7), .int .u16 ((L.length : Int) * 7 + 1), .int .u16 a2, .int .u16 a3, .int .u16 a4, .int .u16 a5, .int .u16 a6, .int .u16 a7] 24)).heap[w.heap.size]? = some (.cells #[.int .u16 a0, .int .u16 a1, .int .u16 a2, .int .u16 a3, .int .u16 a4, .int .u16 a5, .int .u16 a6, .int .u16 a7] 24) := by rw [Below.heap_alloc _ _ _ hsz5]; exact hbp5
  have haW : (w5.alloc (.cells #[.int .u16 ((L.length : Int) * 7), .int .u16 ((L.length : Int) * 7 + 1), .int .u16 a2, .int .u16 a3, .int .u16 a4, .int .u16 a5, .int .u16 a6, .int .u16 a7] 24)).heap[w4.heap.size]? = some (.cells #[.int .u16 a0, .int .u16 a1] 32) := by rw [Below.heap_alloc _ _ _ hsa5]; exact hat5
  have hqW := heap_alloc_new w5 (.cells #[.int .u16 ((L.length : Int) * 7), .int .u16 ((L.length : Int) * 7 + 1), .int .u16 a2, .int .u16 a3, .int .u16 a4, .int .u16 a5, .int .u16 a6, .int .u16 a7] 24)
  clear hbp5 hat5 hB5
  generalize (w5.alloc (.cells #[.int .u16 ((L.length : Int) * 7), .int .u16 ((L.length : Int) * 7 + 1), .int .u16 a2, .int .u16 a3, .int .u16 a4, .int .u16 a5, .int .u16 a6, .int .u16 a7] 24)) = W at *
  have hEW : Hid (Env W) := h.below hbW
  have hPW : Hid (PairsAny W (.slice sa L.length sc) L) := hP0.out.below hbW
  obtain ⟨⟨q0, q1, q2, q3, q4, q5, q6, q7⟩, -, -⟩ := row8 hpW
  obtain ⟨⟨y0, y1, y2, y3, y4, y5, y6, y7⟩, -, -⟩ := row8 hqW
  have z0 : W.cell? ⟨w4.heap.size, 0, none⟩ = some (.int .u16 a0) := by rw [cell_of_row _ _ _ _ _ _ haW]; rfl
  have z1 : W.cell? ⟨w4.heap.size, 1, none⟩ = some (.int .u16 a1) := by rw [cell_of_row _ _ _ _ _ _ haW]; rfl
  have r0 := cell_regrown q0
  have r1 := cell_regrown q1
  have r2 := cell_regrown q2
  have r3 := cell_regrown q3
  have r4 := cell_regrown q4
  have r5 := cell_regrown q5
  have r6 := cell_regrown q6
  have r7 := cell_regrown q7
  have s0 := cell_regrown y0
  have s1 := cell_regrown y1
  have s2 := cell_regrown y2
  have s3 := cell_regrown y3
  have s4 := cell_regrown y4
  have s5 := cell_regrown y5
  have s6 := cell_regrown y6
  have s7 := cell_regrown y7
  have t0 := cell_regrown z0
  have t1 := cell_regrown z1
  obtain ⟨b0, b1, b2, b3, b4, b5, b6, b7, hput⟩ := eight (l := put [a0, a1, a2, a3, a4, a5, a6, a7] f ((L.length : Int) * 7)) (by rw [put_length]; rfl)
  obtain ⟨c0, c1, c2, c3, c4, c5, c6, c7, hputs⟩ := eight (l := puts [a0, a1, a2, a3, a4, a5, a6, a7] L) (by rw [puts_length]; rfl)
  have cN : Hid (∀ d os, Calls Tryd.prog 12 #[.int .i64 f] (grow (redrawn W d) os) fun e w'' => e = .returned (.string ⟨#[]⟩) ∧ ∃ p : Regrown, w'' = grow (redrawn W p.d) p.os) := fun d os => Calls.regrown_of ((HNO.out _).mono fun e w' ⟨he, hw⟩ => ⟨he, hw ▸ Below.refl _ _⟩)
  have cW : Hid (∀ d os, Calls Tryd.prog 13 #[pk a0 a1 a2 a3 a4 a5 a6 a7, .int .i64 f, .int .u16 ((L.length : Int) * 7)] (grow (redrawn W d) os) fun e w'' => e = .returned (pk b0 b1 b2 b3 b4 b5 b6 b7) ∧ ∃ p : Regrown, w'' = grow (redrawn W p.d) p.os) := fun d os => Calls.regrown_of (with_every _ _ _ _ _ _ _ _ _ _ _ _ _ _ _ _ _ _ _ hput)
  have cR : Hid (∀ d os, Calls Tryd.prog 14 #[pk a0 a1 a2 a3 a4 a5 a6 a7, .int .i64 f, .int .u16 ((L.length : Int) * 7)] (grow (redrawn W d) os) fun e w'' => e = .returned (pk b0 b1 b2 b3 b4 b5 b6 b7) ∧ ∃ p : Regrown, w'' = grow (redrawn W p.d) p.os) := fun d os => Calls.regrown_of (rwith_every _ _ _ _ _ _ _ _ _ _ _ _ _ _ _ _ _ _ _ hput)
  have cR0 : Hid (∀ d os, Calls Tryd.prog 14 #[pk a0 a1 a2 a3 a4 a5 a6 a7, .int .i64 0, .int .u16 ((L.length : Int) * 7)] (grow (redrawn W d) os) fun e w'' => e = .returned (pk ((L.length : Int) * 7) a1 a2 a3 a4 a5 a6 a7) ∧ ∃ p : Regrown, w'' = grow (redrawn W p.d) p.os) := fun d os => Calls.regrown_of (rwith_every _ _ _ _ _ _ _ _ _ _ _ _ _ _ _ _ _ _ _ rfl)
  have cR1 : Hid (∀ d os, Calls Tryd.prog 14 #[pk ((L.length : Int) * 7) a1 a2 a3 a4 a5 a6 a7, .int .i64 1, .int .u16 ((L.length : Int) * 7 + 1)] (grow (redrawn W d) os) fun e w'' => e = .returned (pk ((L.length : Int) * 7) ((L.length : Int) * 7 + 1) a2 a3 a4 a5 a6 a7) ∧ ∃ p : Regrown, w'' = grow (redrawn W p.d) p.os) := fun d os => Calls.regrown_of (rwith_every _ _ _ _ _ _ _ _ _ _ _ _ _ _ _ _ _ _ _ rfl)
  have cH : Hid (∀ d os, Calls Tryd.prog 15 #[pk a0 a1 a2 a3 a4 a5 a6 a7, .slice sa L.length sc] (grow (redrawn W d) os) fun e w'' => e = .returned (.bool (hasAll [a0, a1, a2, a3, a4, a5, a6, a7] L)) ∧ ∃ p : Regrown, w'' = grow (redrawn W p.d) p.os) := fun d os => Calls.regrown_of (has_every _ _ _ _ _ _ _ _ _ _ L (hPW.out.below (below_regrown W d os)))
  have cG : Hid (∀ d os, Calls Tryd.prog 16 #[pk a0 a1 a2 a3 a4 a5 a6 a7, .slice sa L.length sc] (grow (redrawn W d) os) fun e w'' => e = .returned (.bool (hasAll [a0, a1, a2, a3, a4, a5, a6, a7] L)) ∧ ∃ p : Regrown, w'' = grow (redrawn W p.d) p.os) := fun d os => Calls.regrown_of (rhas_every _ _ _ _ _ _ _ _ _ _ L (hPW.out.below (below_regrown W d os)))
  have cD : Hid (∀ d os, Calls Tryd.prog 17 #[pk a0 a1 a2 a3 a4 a5 a6 a7, .slice sa L.length sc] (grow (redrawn W d) os) fun e w'' => e = .returned (pk c0 c1 c2 c3 c4 c5 c6 c7) ∧ ∃ p : Regrown, w'' = grow (redrawn W p.d) p.os) := fun d os => Calls.regrown_of (do_every _ _ _ _ _ _ _ _ _ _ _ _ _ _ _ _ _ _ L (hPW.out.below (below_regrown W d os)) hputs)
  have cE : Hid (∀ d os, Calls Tryd.prog 18 #[pk a0 a1 a2 a3 a4 a5 a6 a7, .slice sa L.length sc] (grow (redrawn W d) os) fun e w'' => e = .returned (pk c0 c1 c2 c3 c4 c5 c6 c7) ∧ ∃ p : Regrown, w'' = grow (redrawn W p.d) p.os) := fun d os => Calls.regrown_of (rdo_every _ _ _ _ _ _ _ _ _ _ _ _ _ _ _ _ _ _ L (hPW.out.below (below_regrown W d os)) hputs)
  have e1 := eql8 b0 b1 b2 b3 b4 b5 b6 b7 b0 b1 b2 b3 b4 b5 b6 b7
  have e2 := eql8 c0 c1 c2 c3 c4 c5 c6 c7 c0 c1 c2 c3 c4 c5 c6 c7
  have e3 := eql8 ((L.length : Int) * 7) ((L.length : Int) * 7 + 1) a2 a3 a4 a5 a6 a7 ((L.length : Int) * 7) ((L.length : Int) * 7 + 1) a2 a3 a4 a5 a6 a7
  have u1 := same8_self [b0, b1, b2, b3, b4, b5, b6, b7]
  have u2 := same8_self [c0, c1, c2, c3, c4, c5, c6, c7]
  have u3 := same8_self [((L.length : Int) * 7), ((L.length : Int) * 7 + 1), a2, a3, a4, a5, a6, a7]
  generalize hasAll [a0, a1, a2, a3, a4, a5, a6, a7] L = hr at *
  clear h hput hputs q0 q1 q2 q3 q4 q5 q6 q7 y0 y1 y2 y3 y4 y5 y6 y7 z0 z1 hqW haW hpW
  refine wp_region_quiet_below (by kernel_rfl) (by kernel_rfl) ?_
  repeat (go_big_quiet_step (first
    | (go_at_call 12; exact cN.out _ _)
    | (go_at_call 13; exact cW.out _ _)
    | (go_at_call_of 14 (Value.int IntKind.i64 0); exact cR0.out _ _)
    | (go_at_call_of 14 (Value.int IntKind.i64 1); exact cR1.out _ _)
    | (go_at_call 14; exact cR.out _ _)
    | (go_at_call 15; exact cH.out _ _)
    | (go_at_call 16; exact cG.out _ _)
    | (go_at_call 17; exact cD.out _ _)
    | (go_at_call 18; exact cE.out _ _)))
  refine wpQuiet_nil ?_
  intro _ hw'
  obtain ⟨⟨dq, osq⟩, hw''⟩ := hw'
  subst hw''
  go_wp2
  go_ret
  exact ⟨rfl, hbW.trans ((below_regrown W dq osq).mono hbW.size)⟩

set_option maxRecDepth 100000 in
set_option maxHeartbeats 400000 in
theorem fields_high (a0 a1 a2 a3 a4 a5 a6 a7 : Int) (f : Int) (hhi : 8 ≤ f) (sa : Option Addr) (sc : Nat) (L : List (Int × Int)) (w : World) (h : Env w) (hP : PairsAny w (.slice sa L.length sc) L) (hn : L.length ≤ 20) :
    Calls Tryd.prog 3 #[pk a0 a1 a2 a3 a4 a5 a6 a7, .int .i64 f, .slice sa L.length sc] w fun e w' => e = .returned (.bool true) ∧ Below w.heap.size w w' := by
  have hd : decide ((20 : Int) < (L.length : Int)) = false := by simp; omega
  have hf : f < 0 ∨ 8 ≤ f := by omega
  have hd0 : decide ((0 : Int) ≤ f) = true := by simp; omega
  have hd8 : decide (f < 8) = false := by simp; omega
  have hn' : (L.length : Int) ≤ 20 := by omega
  have hn0 : (0 : Int) ≤ (L.length : Int) := by omega
  have hP0 : Hid (PairsAny w (.slice sa L.length sc) L) := hP
  clear hP
  unfold pk
  go_enter Tryd.func3, Tryd.ntmps3
  go_wp2_with fail
  have hB0 : Below w.heap.size w (w.alloc (.cells #[.int .u16 a0, .int .u16 a1, .int .u16 a2, .int .u16 a3, .int .u16 a4, .int .u16 a5, .int .u16 a6, .int .u16 a7] 24)) := (Below.refl _ _).alloc (Nat.le_refl _) _
  refine (awake_any _ (h.below hB0)).mono ?_
  rintro e w1 ⟨rfl, hb1⟩
  have hbp : w1.heap[w.heap.size]? = some (.cells #[.int .u16 a0, .int .u16 a1, .int .u16 a2, .int .u16 a3, .int .u16 a4, .int .u16 a5, .int .u16 a6, .int .u16 a7] 24) := by rw [hb1.block _ (by simp)]; exact heap_alloc_new _ _
  have hB1 : Below w.heap.size w w1 := hB0.trans (hb1.mono (by simp))
  clear hb1 hB0
  have HNO : Hid (∀ w : World, Calls Tryd.prog 12 #[.int .i64 f] w fun e w' => e = .returned (.string ⟨#[]⟩) ∧ w' = w) := fun w => name_out f hf w
  have hbp2 := hbp
  have hB2 := hB1
  clear hbp hB1
  generalize hww : w1 = w2 at *
  clear hww
  obtain ⟨⟨q0, q1, q2, q3, q4, q5, q6, q7⟩, -, hsz2⟩ := row8 hbp2
  clear hf
  go_wp2_with fail
  refine (at_any _ _ _ _ _ _ _ _ _).mono ?_
  rintro e w4 ⟨rfl, hb4⟩
  have hbp4 : w4.heap[w.heap.size]? = some (.cells #[.int .u16 a0, .int .u16 a1, .int .u16 a2, .int .u16 a3, .int .u16 a4, .int .u16 a5, .int .u16 a6, .int .u16 a7] 24) := by rw [hb4.block _ hsz2]; exact hbp2
  have hB4 : Below w.heap.size w w4 := hB2.trans (hb4.mono (by omega))
  clear q0 q1 q2 q3 q4 q5 q6 q7 hbp2 hB2 hb4
  obtain ⟨⟨q0, q1, q2, q3, q4, q5, q6, q7⟩, -, hsz4⟩ := row8 hbp4
  go_wp2_with fail
  refine (to_any _ _ _ _ _ _ _ _ _ _ _).mono ?_
  rintro e w5 ⟨rfl, hb5⟩
  have hbp5 : w5.heap[w.heap.size]? = some (.cells #[.int .u16 a0, .int .u16 a1, .int .u16 a2, .int .u16 a3, .int .u16 a4, .int .u16 a5, .int .u16 a6, .int .u16 a7] 24) := by rw [hb5.block _ (by simp; omega), Below.heap_alloc _ _ _ hsz4]; exact hbp4
  have hat5 : w5.heap[w4.heap.size]? = some (.cells #[.int .u16 a0, .int .u16 a1] 32) := by rw [hb5.block _ (by simp)]; exact heap_alloc_new _ _
  have hB5 : Below w.heap.size w w5 := (hB4.alloc (by omega) _).trans (hb5.mono (by simp; omega))
  have hsz5 := heap_lt hbp5
  have hsa5 := heap_lt hat5
  clear q0 q1 q2 q3 q4 q5 q6 q7 hbp4 hB4 hb5
  unfold pk
  go_wp2
  have hbW : Below w.heap.size w (w5.alloc (.cells #[.int .u16 ((L.length : Int) * 7), .int .u16 ((L.length : Int) * 7 + 1), .int .u16 a2, .int .u16 a3, .int .u16 a4, .int .u16 a5, .int .u16 a6, .int .u16 a7] 24)) := hB5.alloc (by omega) _
  have hpW : (w5.alloc (.cells #[.int .u16 ((L.length : Int) * 7), .int .u16 ((L.length : Int) * 7 + 1), .int .u16 a2, .int .u16 a3, .int .u16 a4, .int .u16 a5, .int .u16 a6, .int .u16 a7] 24)).heap[w.heap.size]? = some (.cells #[.int .u16 a0, .int .u16 a1, .int .u16 a2, .int .u16 a3, .int .u16 a4, .int .u16 a5, .int .u16 a6, .int .u16 a7] 24) := by rw [Below.heap_alloc _ _ _ hsz5]; exact hbp5
  have haW : (w5.alloc (.cells #[.int .u16 ((L.length : Int) * 7), .int .u16 ((L.length : Int) * 7 + 1), .int .u16 a2, .int .u16 a3, .int .u16 a4, .int .u16 a5, .int .u16 a6, .int .u16 a7] 24)).heap[w4.heap.size]? = some (.cells #[.int .u16 a0, .int .u16 a1] 32) := by rw [Below.heap_alloc _ _ _ hsa5]; exact hat5
  have hqW := heap_alloc_new w5 (.cells #[.int .u16 ((L.length : Int) * 7), .int .u16 ((L.length : Int) * 7 + 1), .int .u16 a2, .int .u16 a3, .int .u16 a4, .int .u16 a5, .int .u16 a6, .int .u16 a7] 24)
  clear hbp5 hat5 hB5
  generalize (w5.alloc (.cells #[.int .u16 ((L.length : Int) * 7), .int .u16 ((L.length : Int) * 7 + 1), .int .u16 a2, .int .u16 a3, .int .u16 a4, .int .u16 a5, .int .u16 a6, .int .u16 a7] 24)) = W at *
  have hEW : Hid (Env W) := h.below hbW
  have hPW : Hid (PairsAny W (.slice sa L.length sc) L) := hP0.out.below hbW
  obtain ⟨⟨q0, q1, q2, q3, q4, q5, q6, q7⟩, -, -⟩ := row8 hpW
  obtain ⟨⟨y0, y1, y2, y3, y4, y5, y6, y7⟩, -, -⟩ := row8 hqW
  have z0 : W.cell? ⟨w4.heap.size, 0, none⟩ = some (.int .u16 a0) := by rw [cell_of_row _ _ _ _ _ _ haW]; rfl
  have z1 : W.cell? ⟨w4.heap.size, 1, none⟩ = some (.int .u16 a1) := by rw [cell_of_row _ _ _ _ _ _ haW]; rfl
  have r0 := cell_regrown q0
  have r1 := cell_regrown q1
  have r2 := cell_regrown q2
  have r3 := cell_regrown q3
  have r4 := cell_regrown q4
  have r5 := cell_regrown q5
  have r6 := cell_regrown q6
  have r7 := cell_regrown q7
  have s0 := cell_regrown y0
  have s1 := cell_regrown y1
  have s2 := cell_regrown y2
  have s3 := cell_regrown y3
  have s4 := cell_regrown y4
  have s5 := cell_regrown y5
  have s6 := cell_regrown y6
  have s7 := cell_regrown y7
  have t0 := cell_regrown z0
  have t1 := cell_regrown z1
  obtain ⟨b0, b1, b2, b3, b4, b5, b6, b7, hput⟩ := eight (l := put [a0, a1, a2, a3, a4, a5, a6, a7] f ((L.length : Int) * 7)) (by rw [put_length]; rfl)
  obtain ⟨c0, c1, c2, c3, c4, c5, c6, c7, hputs⟩ := eight (l := puts [a0, a1, a2, a3, a4, a5, a6, a7] L) (by rw [puts_length]; rfl)
  have cN : Hid (∀ d os, Calls Tryd.prog 12 #[.int .i64 f] (grow (redrawn W d) os) fun e w'' => e = .returned (.string ⟨#[]⟩) ∧ ∃ p : Regrown, w'' = grow (redrawn W p.d) p.os) := fun d os => Calls.regrown_of ((HNO.out _).mono fun e w' ⟨he, hw⟩ => ⟨he, hw ▸ Below.refl _ _⟩)
  have cW : Hid (∀ d os, Calls Tryd.prog 13 #[pk a0 a1 a2 a3 a4 a5 a6 a7, .int .i64 f, .int .u16 ((L.length : Int) * 7)] (grow (redrawn W d) os) fun e w'' => e = .returned (pk b0 b1 b2 b3 b4 b5 b6 b7) ∧ ∃ p : Regrown, w'' = grow (redrawn W p.d) p.os) := fun d os => Calls.regrown_of (with_every _ _ _ _ _ _ _ _ _ _ _ _ _ _ _ _ _ _ _ hput)
  have cR : Hid (∀ d os, Calls Tryd.prog 14 #[pk a0 a1 a2 a3 a4 a5 a6 a7, .int .i64 f, .int .u16 ((L.length : Int) * 7)] (grow (redrawn W d) os) fun e w'' => e = .returned (pk b0 b1 b2 b3 b4 b5 b6 b7) ∧ ∃ p : Regrown, w'' = grow (redrawn W p.d) p.os) := fun d os => Calls.regrown_of (rwith_every _ _ _ _ _ _ _ _ _ _ _ _ _ _ _ _ _ _ _ hput)
  have cR0 : Hid (∀ d os, Calls Tryd.prog 14 #[pk a0 a1 a2 a3 a4 a5 a6 a7, .int .i64 0, .int .u16 ((L.length : Int) * 7)] (grow (redrawn W d) os) fun e w'' => e = .returned (pk ((L.length : Int) * 7) a1 a2 a3 a4 a5 a6 a7) ∧ ∃ p : Regrown, w'' = grow (redrawn W p.d) p.os) := fun d os => Calls.regrown_of (rwith_every _ _ _ _ _ _ _ _ _ _ _ _ _ _ _ _ _ _ _ rfl)
  have cR1 : Hid (∀ d os, Calls Tryd.prog 14 #[pk ((L.length : Int) * 7) a1 a2 a3 a4 a5 a6 a7, .int .i64 1, .int .u16 ((L.length : Int) * 7 + 1)] (grow (redrawn W d) os) fun e w'' => e = .returned (pk ((L.length : Int) * 7) ((L.length : Int) * 7 + 1) a2 a3 a4 a5 a6 a7) ∧ ∃ p : Regrown, w'' = grow (redrawn W p.d) p.os) := fun d os => Calls.regrown_of (rwith_every _ _ _ _ _ _ _ _ _ _ _ _ _ _ _ _ _ _ _ rfl)
  have cH : Hid (∀ d os, Calls Tryd.prog 15 #[pk a0 a1 a2 a3 a4 a5 a6 a7, .slice sa L.length sc] (grow (redrawn W d) os) fun e w'' => e = .returned (.bool (hasAll [a0, a1, a2, a3, a4, a5, a6, a7] L)) ∧ ∃ p : Regrown, w'' = grow (redrawn W p.d) p.os) := fun d os => Calls.regrown_of (has_every _ _ _ _ _ _ _ _ _ _ L (hPW.out.below (below_regrown W d os)))
  have cG : Hid (∀ d os, Calls Tryd.prog 16 #[pk a0 a1 a2 a3 a4 a5 a6 a7, .slice sa L.length sc] (grow (redrawn W d) os) fun e w'' => e = .returned (.bool (hasAll [a0, a1, a2, a3, a4, a5, a6, a7] L)) ∧ ∃ p : Regrown, w'' = grow (redrawn W p.d) p.os) := fun d os => Calls.regrown_of (rhas_every _ _ _ _ _ _ _ _ _ _ L (hPW.out.below (below_regrown W d os)))
  have cD : Hid (∀ d os, Calls Tryd.prog 17 #[pk a0 a1 a2 a3 a4 a5 a6 a7, .slice sa L.length sc] (grow (redrawn W d) os) fun e w'' => e = .returned (pk c0 c1 c2 c3 c4 c5 c6 c7) ∧ ∃ p : Regrown, w'' = grow (redrawn W p.d) p.os) := fun d os => Calls.regrown_of (do_every _ _ _ _ _ _ _ _ _ _ _ _ _ _ _ _ _ _ L (hPW.out.below (below_regrown W d os)) hputs)
  have cE : Hid (∀ d os, Calls Tryd.prog 18 #[pk a0 a1 a2 a3 a4 a5 a6 a7, .slice sa L.length sc] (grow (redrawn W d) os) fun e w'' => e = .returned (pk c0 c1 c2 c3 c4 c5 c6 c7) ∧ ∃ p : Regrown, w'' = grow (redrawn W p.d) p.os) := fun d os => Calls.regrown_of (rdo_every _ _ _ _ _ _ _ _ _ _ _ _ _ _ _ _ _ _ L (hPW.out.below (below_regrown W d os)) hputs)
  have e1 := eql8 b0 b1 b2 b3 b4 b5 b6 b7 b0 b1 b2 b3 b4 b5 b6 b7
  have e2 := eql8 c0 c1 c2 c3 c4 c5 c6 c7 c0 c1 c2 c3 c4 c5 c6 c7
  have e3 := eql8 ((L.length : Int) * 7) ((L.length : Int) * 7 + 1) a2 a3 a4 a5 a6 a7 ((L.length : Int) * 7) ((L.length : Int) * 7 + 1) a2 a3 a4 a5 a6 a7
  have u1 := same8_self [b0, b1, b2, b3, b4, b5, b6, b7]
  have u2 := same8_self [c0, c1, c2, c3, c4, c5, c6, c7]
  have u3 := same8_self [((L.length : Int) * 7), ((L.length : Int) * 7 + 1), a2, a3, a4, a5, a6, a7]
  generalize hasAll [a0, a1, a2, a3, a4, a5, a6, a7] L = hr at *
  clear h hput hputs q0 q1 q2 q3 q4 q5 q6 q7 y0 y1 y2 y3 y4 y5 y6 y7 z0 z1 hqW haW hpW
  refine wp_region_quiet_below (by kernel_rfl) (by kernel_rfl) ?_
  repeat (go_big_quiet_step (first
    | (go_at_call 12; exact cN.out _ _)
    | (go_at_call 13; exact cW.out _ _)
    | (go_at_call_of 14 (Value.int IntKind.i64 0); exact cR0.out _ _)
    | (go_at_call_of 14 (Value.int IntKind.i64 1); exact cR1.out _ _)
    | (go_at_call 14; exact cR.out _ _)
    | (go_at_call 15; exact cH.out _ _)
    | (go_at_call 16; exact cG.out _ _)
    | (go_at_call 17; exact cD.out _ _)
    | (go_at_call 18; exact cE.out _ _)))
  refine wpQuiet_nil ?_
  intro _ hw'
  obtain ⟨⟨dq, osq⟩, hw''⟩ := hw'
  subst hw''
  go_wp2
  go_ret
  exact ⟨rfl, hbW.trans ((below_regrown W dq osq).mono hbW.size)⟩
end Go.Proofs.YtcfploigpnjmoaaDoor

/- Whether a list of rows is right: table.Right; any rows. -/
import Derived.Test.YtbcikkofbdfmaaaX9
set_option linter.unusedVariables false
set_option linter.unusedSimpArgs false
namespace Go.Proofs.Ytbcikkofbdfmaaa
open Go.RowKit Go.Joins Go.Sort

set_option maxHeartbeats 1000000 in
theorem conA_any (v : Value) (L : List Prs) (w : World) (h : ActsAt w v L) : Calls Try.prog 60 #[v, .func (.func 57) #[] #[]] w fun e w' => e = .returned (.bool (L.any (fun c => !rises c))) ∧ Below w.heap.size w w' := by
  have cI := hid (idxA_any v L w h)
  go_enter Try.func60, Try.ntmps60
  go_wp2_with fail
  refine cI.out.mono ?_
  rintro e w' ⟨z, rfl, hz, hb⟩
  go_wp2
  go_ret
  exact ⟨by rw [← hz]; rfl, hb⟩
set_option maxHeartbeats 1000000 in
theorem over_any (x y : Value) (r : Rx) (w : World) (h : RowAt w x y r) : Calls Try.prog 59 #[.agg #[x, y]] w fun e w' => e = .returned (.bool (decide (32 < (r.a.length : Int)))) ∧ Below w.heap.size w w' := by
  obtain ⟨xa, xc, rfl, -⟩ := h.1.form
  obtain ⟨ya, yc, rfl⟩ := h.2.form
  generalize r.a.length = yn at *
  obtain ⟨c0, c1⟩ := row2 (heap_alloc_new w (rob (.slice xa r.m.length xc) (.slice ya yn yc)))
  clear h
  generalize r.m.length = xn at *
  go_enter Try.func59, Try.ntmps59
  go_wp2
  go_ret
  exact ⟨rfl, (Below.refl _ _).alloc (Nat.le_refl _) _⟩

set_option maxRecDepth 100000 in
set_option maxHeartbeats 4000000 in
theorem wrong_any (x y : Value) (r : Rx) (w : World) (h : RowAt w x y r) : Calls Try.prog 46 #[.agg #[x, y]] w fun e w' => e = .returned (.bool (!rowOK r)) ∧ Below w.heap.size w w' := by
  have HW : Hid (∀ W, Below w.heap.size w W → RowAt W x y r) := fun W hW => h.below hW
  obtain ⟨xa, xc, hxe, -⟩ := h.1.form
  obtain ⟨ya, yc, hye⟩ := h.2.form
  generalize hyn : r.a.length = yn at *
  generalize hxn : r.m.length = xn at *
  have HYN := hid hyn
  subst hxe hye
  have hb0 : Below w.heap.size w (w.alloc (rob (.slice xa xn xc) (.slice ya yn yc))) := (Below.refl _ _).alloc (Nat.le_refl _) _
  have HB0 := hid hb0
  have HX0 := hid (heap_alloc_new w (rob (.slice xa xn xc) (.slice ya yn yc)))
  obtain ⟨c0, c1⟩ := row2 HX0.out
  have cO := hid (over_any _ _ r _ (HW.out _ hb0))
  clear h hyn hxn hb0
  go_enter Try.func46, Try.ntmps46
  go_wp2_with fail
  refine cO.out.mono ?_
  rintro e w1 ⟨rfl, hb1⟩
  have HB1 := hid (HB0.out.trans (hb1.mono HB0.out.size))
  have HX1 := hid ((hb1.block _ (heap_lt HX0.out)).trans HX0.out)
  rw [HYN.out]
  clear hb1 c0 c1 cO HX0
  obtain ⟨c0, c1⟩ := row2 HX1.out
  by_cases h1 : 32 < yn
  · have d1 : decide ((32 : Int) < (yn : Int)) = true := by rw [decide_eq_true_eq]; omega
    have HE : Hid (rowOK r = false) := by show _ = _; unfold rowOK; rw [HYN.out, decide_eq_false (show ¬ yn ≤ 32 by omega), Bool.false_and, Bool.and_false]
    rw [d1]
    go_wp2
    go_ret
    exact ⟨by rw [HE.out]; rfl, HB1.out⟩
  · have d1 : decide ((32 : Int) < (yn : Int)) = false := by rw [decide_eq_false_iff_not]; omega
    rw [d1]
    have cR := hid (rise_any _ r.m w1 (HW.out w1 HB1.out).1)
    cases hr : rises r.m with
    | false =>
      have HE : Hid (rowOK r = false) := by show _ = _; unfold rowOK; rw [hr, Bool.false_and]
      rw [hr] at cR
      clear hr
      go_wp2_with fail
      refine cR.out.mono ?_
      rintro e w2 ⟨rfl, hb2⟩
      have HB2 := hid (HB1.out.trans (hb2.mono HB1.out.size))
      clear hb2 cR
      go_wp2
      go_ret
      exact ⟨by rw [HE.out]; rfl, HB2.out⟩
    | true =>
      have HE : Hid (rowOK r = !(r.a.any fun c => !rises c)) := by
        show _ = _
        unfold rowOK
        rw [hr, HYN.out, decide_eq_true (show yn ≤ 32 by omega), Bool.true_and, Bool.true_and]
        simp [List.not_any_eq_all_not]
      rw [hr] at cR
      clear hr
      go_wp2_with fail
      refine cR.out.mono ?_
      rintro e w2 ⟨rfl, hb2⟩
      have HB2 := hid (HB1.out.trans (hb2.mono HB1.out.size))
      have HX2 := hid ((hb2.block _ (heap_lt HX1.out)).trans HX1.out)
      clear hb2 cR c0 c1 HX1
      obtain ⟨c0, c1⟩ := row2 HX2.out
      have cA := hid (conA_any _ r.a w2 (HW.out w2 HB2.out).2)
      go_wp2_with fail
      refine cA.out.mono ?_
      rintro e w3 ⟨rfl, hb3⟩
      have HB3 := hid (HB2.out.trans (hb3.mono HB2.out.size))
      clear hb3 cA
      go_wp2
      go_ret
      exact ⟨by rw [HE.out, Bool.not_not]; rfl, HB3.out⟩
end Go.Proofs.Ytbcikkofbdfmaaa

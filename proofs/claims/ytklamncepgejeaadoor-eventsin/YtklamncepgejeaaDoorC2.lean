/- What the law EventsIn answers: true, of any two sets, wherever the listed variables hold what the row lists. -/
import Derived.Test.YtklamncepgejeaaDoorC1
set_option linter.unusedVariables false
set_option linter.unusedSimpArgs false
namespace Go.Proofs.YtklamncepgejeaaDoor
open Go.RowKit Go.Joins Go.Sort

set_option maxRecDepth 100000 in
set_option maxHeartbeats 2000000 in
theorem in_law (a b : Nat) (ha : a < 18446744073709551616) (hb : b < 18446744073709551616) (w : World) (h : Env w) :
    Calls Tryd.prog 4 #[sv a, sv b] w fun e w' => e = .returned (.bool true) ∧ Below w.heap.size w w' := by
  have haw := awake_any w h
  have h1 := in_any a b ha hb
  have h2 := in_any b a hb ha
  have h3 := rin_any a b ha hb
  have hXY : ((a : Int) == (b : Int)) = (decide (diff a b = 0) && decide (diff b a = 0)) := by
    rw [Bool.eq_iff_iff, beq_iff_eq, Bool.and_eq_true, decide_eq_true_iff, decide_eq_true_iff, same_iff]; omega
  have hand := bits_and_u64_nat a b ha hb
  have hor := bits_or_u64_nat a b ha hb
  have h4 := in_any (a &&& b) a (and_lt a b ha) ha
  rw [and_in a b] at h4
  have h5 := in_any a (a ||| b) ha (or_lt a b ha hb)
  rw [in_or a b] at h5
  have h6 := in_any 0 a (by decide) ha
  rw [zero_diff a] at h6
  have l1 := len_any a ha
  have l2 := len_any b hb
  have l3 := len_any (a ||| b) (or_lt a b ha hb)
  have l4 := len_any (a &&& b) (and_lt a b ha)
  have hsum := evs_or_and a b
  have q1 := evs_len a
  have q2 := evs_len b
  have q3 := evs_len (a ||| b)
  have q4 := evs_len (a &&& b)
  generalize (evs a).length = n1 at *
  generalize (evs b).length = n2 at *
  generalize (evs (a ||| b)).length = n3 at *
  generalize (evs (a &&& b)).length = n4 at *
  generalize a ||| b = U at *
  generalize a &&& b = V at *
  generalize decide (diff a b = 0) = X at *
  generalize decide (diff b a = 0) = Y at *
  have hs1 : IntKind.i64.wrap ((n1 : Int) + (n2 : Int)) = (n1 : Int) + (n2 : Int) := by rw [IntKind.wrap_i64]; omega
  have hs2 : IntKind.i64.wrap ((n3 : Int) + (n4 : Int)) = (n3 : Int) + (n4 : Int) := by rw [IntKind.wrap_i64]; omega
  have hs3 : (((n1 : Int) + (n2 : Int)) == ((n3 : Int) + (n4 : Int))) = true := by rw [beq_iff_eq]; omega
  simp only [decide_true] at h4 h5 h6
  go_enter Tryd.func4, Tryd.ntmps4
  go_wp2_with fail
  refine haw.mono ?_
  rintro e w1 ⟨rfl, hb1⟩
  clear haw
  go_wp2_with fail
  refine (h1 _).mono ?_
  rintro r wX ⟨rfl, hwX⟩
  subst wX
  go_wp2_with fail
  refine (h2 _).mono ?_
  rintro r wX ⟨rfl, hwX⟩
  subst wX
  cases X
  all_goals
    cases Y
    all_goals
      go_wp2_with fail
      refine (h3 _).mono ?_
      rintro r w2 ⟨rfl, hb2⟩
      go_wp2_with fail
      refine (h4 _).mono ?_
      rintro r wX ⟨rfl, hwX⟩
      subst wX
      go_wp2_with fail
      refine (h5 _).mono ?_
      rintro r wX ⟨rfl, hwX⟩
      subst wX
      go_wp2_with fail
      refine (h6 _).mono ?_
      rintro r wX ⟨rfl, hwX⟩
      subst wX
      go_wp2_with fail
      refine (l1 _).mono ?_
      rintro r wX ⟨rfl, hwX⟩
      subst wX
      go_wp2_with fail
      refine (l2 _).mono ?_
      rintro r wX ⟨rfl, hwX⟩
      subst wX
      go_wp2_with fail
      refine (l3 _).mono ?_
      rintro r wX ⟨rfl, hwX⟩
      subst wX
      go_wp2_with fail
      refine (l4 _).mono ?_
      rintro r wX ⟨rfl, hwX⟩
      subst wX
      go_wp2
      go_ret
      exact ⟨rfl, hb1.trans (hb2.mono hb1.size)⟩
end Go.Proofs.YtklamncepgejeaaDoor

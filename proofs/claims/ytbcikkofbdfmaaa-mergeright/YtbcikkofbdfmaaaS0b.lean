/- The order of packets as the sort asks for it; no conditions. -/
import Derived.Test.YtbcikkofbdfmaaaS0
import Derived.Shelf.SlSortCmp.Insertion
set_option linter.unusedVariables false
set_option linter.unusedSimpArgs false
namespace Go.Proofs.Ytbcikkofbdfmaaa
open Go.Sort Go.Lib Go.Shelf

theorem ltOf_cf (x y : P8) : ltOf cf x y = decide (cf x y < 0) := rfl
theorem swo_cf : SWO (ltOf cf) where
  irrefl x := by rw [ltOf_cf, cf_self]; rfl
  trans x y z h1 h2 := by
    rw [ltOf_cf] at *
    exact decide_eq_true (cf_trans (of_decide_eq_true h1) (of_decide_eq_true h2))
  ntrans x y z h1 h2 := by
    rw [ltOf_cf] at *
    have h1' := of_decide_eq_false h1
    have h2' := of_decide_eq_false h2
    apply decide_eq_false
    intro h
    rcases Int.lt_or_eq_of_le (show cf y x ≤ 0 by rw [cf_neg]; omega) with k1 | k1
    · exact h2' (by
        have := cf_trans k1 h
        omega)
    · rw [cf_eq k1] at h2'
      exact h2' h
theorem tot_cf (x y : P8) (h1 : ltOf cf x y = false) (h2 : ltOf cf y x = false) : x = y := by
  rw [ltOf_cf] at *
  have h1' := of_decide_eq_false h1
  have h2' := of_decide_eq_false h2
  rw [cf_neg y x] at h2'
  exact cf_eq (by omega)


end Go.Proofs.Ytbcikkofbdfmaaa

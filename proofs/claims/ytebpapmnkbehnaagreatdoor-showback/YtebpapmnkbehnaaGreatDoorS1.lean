/- A program of few nodes, rules and pairs is short by a test that can be reckoned; what a policy in memory has as its kind; no condition. -/
import Derived.Test.YtebpapmnkbehnaaGreatDoorP16
import Derived.KernelRfl
set_option linter.unusedVariables false
set_option linter.unusedSimpArgs false
namespace Go.Proofs.YtebpapmnkbehnaaGreatDoor
open Go.RowKit Go.Joins Go.Lib

/-- Short enough, as a test. -/
def shortB (p : Pg) : Bool := decide (p.init.length ≤ 1000) && decide (sizeP p.pol ≤ 1000) && decide (p.rules.length ≤ 1000) && p.rules.all fun r => decide (r.when.length ≤ 1000) && decide (r.guard.length ≤ 1000) && decide (r.thn.length ≤ 1000)
theorem short_of {p : Pg} (h : shortB p = true) : PgShort p := by
  unfold shortB at h
  simp only [Bool.and_eq_true, decide_eq_true_eq, List.all_eq_true] at h
  obtain ⟨⟨⟨h1, h2⟩, h3⟩, h4⟩ := h
  exact ⟨by omega, by omega, by omega, fun r hr => by
    have := h4 r hr
    exact ⟨by omega, by omega, by omega⟩⟩
/-- All that awake looks at. -/
theorem Pl.kv_op {P : Nat → Prop} {w : World} {T : Pl} {x : Nd} (h : PolAt P w T x) : x.op = T.op := h.shape.1

end Go.Proofs.YtebpapmnkbehnaaGreatDoor

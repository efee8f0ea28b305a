/- One operation of a region at a time: a call by its contract, an operation that makes something, and classes of worlds within one another; no condition. -/
import Derived.Test.YtebpapmnkbehnaaDoorQB
set_option linter.unusedVariables false
set_option linter.unusedSimpArgs false
namespace Go.Proofs.YtebpapmnkbehnaaDoor
open Go Go.RowKit Go.Sort

section
variable {P : Program} {ops : Array Oper} {md : Region.Mode} {Q : Exit → Act → World → Prop} {B : World → Prop}
theorem anyB_mono {B' : World → Prop} (hB : ∀ w, B w → B' w) : ∀ (f : Nat) (listed : Array Bool) (a : Act) (w : World), anyB P md ops Q B f listed a w → anyB P md ops Q B' f listed a w
  | 0, _, _, _, h => ⟨hB _ h.1, h.2⟩
  | f + 1, _, _, _, h => ⟨hB _ h.1, h.2.1, fun i hi => wpOp_mono (fun a' w' h' => anyB_mono hB f _ a' w' h') (h.2.2 i hi)⟩
theorem op_call {i f : Nat} {o : Oper} {a : Act} {w : World} {args : Array Value} {K : Act → World → Prop} (hi : ops[i]? = some o) (hw : Region.wanted o (yielded ops a.tmps) = true)
    (hrun : (execOp a.eval o).run P w = .ok (.enter f args) w) (hc : Calls P f args w fun e w'' => ∃ v, e = .returned v ∧ K (a.put o.dst v) w'') : wpOp P ops Q i K a w := by
  unfold wpOp
  simp only [hi, hw, if_true]
  refine .inl ?_
  unfold Oper.wp
  rw [hrun]
  refine Calls.mono hc ?_
  rintro e w'' ⟨v, rfl, h⟩
  exact h
theorem op_value {i : Nat} {o : Oper} {a : Act} {w w' : World} {v : Value} {K : Act → World → Prop} (hi : ops[i]? = some o) (hw : Region.wanted o (yielded ops a.tmps) = true)
    (hrun : (execOp a.eval o).run P w = .ok (.value v) w') (h : K (a.put o.dst v) w') : wpOp P ops Q i K a w := by
  unfold wpOp
  simp only [hi, hw, if_true]
  refine .inl ?_
  unfold Oper.wp
  rw [hrun]
  exact h
theorem op_if {i : Nat} {o : Oper} {a : Act} {w : World} {K : Act → World → Prop} (hi : ops[i]? = some o) (h : if Region.wanted o (yielded ops a.tmps) = true then Oper.wp P o a w K Q else K (a.put o.dst undef) w) : wpOp P ops Q i K a w := by
  unfold wpOp
  simp only [hi]
  split
  · rename_i hw
    rw [if_pos hw] at h
    exact .inl h
  · rename_i hw
    rw [if_neg hw] at h
    exact h
/-- The one operation that may come next. -/
theorem anyB_one {i : Nat} {fuel : Nat} {listed : Array Bool} {a : Act} {w : World} (hB : B w) (hr : Region.ready md ops listed = [i]) (h : wpOp P ops Q i (anyB P md ops Q B fuel (listed.setIfInBounds i true)) a w) : anyB P md ops Q B (fuel + 1) listed a w :=
  anyB_all hB hr (by simp) fun j hj => by
    obtain rfl : j = i := by simpa using hj
    exact h
end
end Go.Proofs.YtebpapmnkbehnaaDoor

import Derived.Test.YtipiepcbgjceaaaQB
/-! Two operations that may both come next: both orders, and where they meet again. -/
open Go
namespace Go.Proofs.Ytipiepcbgjceaaa
section
variable {P : Program} {md : Region.Mode} {ops : Array Oper} {Q : Exit → Act → World → Prop} {B : World → Prop}
theorem anyB_fork {i j : Nat} {fuel : Nat} {listed : Array Bool} {a : Act} {w : World} (hB : B w) (hr : Region.ready md ops listed = [i, j]) (h : wpOp P ops Q i (anyB P md ops Q B fuel (listed.setIfInBounds i true)) a w)
    (h' : wpOp P ops Q j (anyB P md ops Q B fuel (listed.setIfInBounds j true)) a w) : anyB P md ops Q B (fuel + 1) listed a w :=
  anyB_all hB hr (by simp) fun k hk => by
    simp only [List.mem_cons, List.not_mem_nil, or_false] at hk
    rcases hk with rfl | rfl
    · exact h
    · exact h'
theorem anyB_join {α : Type} {fuel fuel' : Nat} {listed listed' : Array Bool} {a : Act} {w : World} (af : α → Act) (S : α → World → Prop)
    (go : (∀ x z, S x z → anyB P md ops Q B fuel' listed' (af x) z) → anyB P md ops Q B fuel listed a w)
    (rest : ∀ x z, S x z → anyB P md ops Q B fuel' listed' (af x) z) : anyB P md ops Q B fuel listed a w := go rest
theorem anyB_cast {fuel : Nat} {listed listed' : Array Bool} {a : Act} {w : World} (h : listed' = listed) (hk : anyB P md ops Q B fuel listed' a w) : anyB P md ops Q B fuel listed a w := h ▸ hk
end
end Go.Proofs.Ytipiepcbgjceaaa

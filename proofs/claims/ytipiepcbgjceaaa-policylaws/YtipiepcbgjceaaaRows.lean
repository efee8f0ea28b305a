/-
  No cell of these rows narrows 'for every input' (looked for: loops, veiled, ifaces, maps, wideKeys, modest, calm, conditions, laid).
  DERIVED. THE GIVEN ROWS OF THIS SEAT. 4 by the template 'for every input the law returns true; each argument reads behind the call as it read before'; 0 by the template 'total and deterministic' (their statements: YtipiepcbgjceaaaTotals.lean).
  GIVEN WITH THE SEED: the statements are not yours to turn. If you find one false, say at which input.
  Laid BY PROGRAM, IN A SANDBOX (cutbox-rows.mjs): the forced cells as the released guide's own fill.sh prints them over the translation bc970d3466eeb4b2… (all of the seat's roots in one cut). By AI agents, Wed Nov 11 2026. No macro, syntax, notation, axiom, sorry.
-/
import Derived.Test.YtipiepcbgjceaaaChecked
import GoSem.Claim
import GoSem.ClaimJoined
import GoSem.ClaimMapViews
import Derived.JoinedTies
import Derived.KernelRfl
namespace Go.Proofs.Ytipiepcbgjceaaa
/- THE CELL 'sum', in the pinned program and in every row, IS THE sha256 OF THE DUMP (.gsa) THAT YtipiepcbgjceaaaProg.lean LOADS. Nothing in Lean hashes anything: it is a label: what it is worth is what the hold of that sum in a sandbox is worth. -/
noncomputable def Try.pinned : Pinned := { name := "ytipiepcbgjceaaa", sum := "bc970d3466eeb4b2d40784178455e7b14620f1b5e7a3d05fd2d02e90f0554e19", checked := Try.checked }
namespace Rows
def none {H : Type} : Left H := { results := [], args := [] }

/-- 'pointsmanlaw07.PolicyMakes': WHATEVER THE INPUT: true; the input reads as it did. -/
def policyMakesSpec : ChangeSpec := { name := "policyMakes", fn := fun _ => fun
  | [d1, d2, d3] => { results := [.lit (.bool true)], args := [d1, d2, d3] }
  | _ => none }
def policyMakesRow : OpenClaim := { program := "ytipiepcbgjceaaa", sum := "bc970d3466eeb4b2d40784178455e7b14620f1b5e7a3d05fd2d02e90f0554e19", func := "pointsman/pointsmanlaw07.PolicyMakes", spec := "policyMakes", unfollowed := true, recurses := true, plainKeys := false, apart := false }
def PolicyMakesSaid : Prop := policyMakesRow.holds Try.pinned (OpenSpec.ofChange policyMakesSpec)

/-- ITS FALSE NEIGHBOUR: 'it returns false'. Refute it at one input. -/
def policyMakesWrong : ChangeSpec := { name := "policyMakes", fn := fun _ => fun
  | [d1, d2, d3] => { results := [.lit (.bool false)], args := [d1, d2, d3] }
  | _ => none }
def PolicyMakesWrongFalsely : Prop := policyMakesRow.holds Try.pinned (OpenSpec.ofChange policyMakesWrong)

/-- 'pointsmanlaw07.PolicyAt': WHATEVER THE INPUT: true; the input reads as it did. -/
def policyAtSpec : ChangeSpec := { name := "policyAt", fn := fun _ => fun
  | [d1, d2, d3] => { results := [.lit (.bool true)], args := [d1, d2, d3] }
  | _ => none }
def policyAtRow : OpenClaim := { program := "ytipiepcbgjceaaa", sum := "bc970d3466eeb4b2d40784178455e7b14620f1b5e7a3d05fd2d02e90f0554e19", func := "pointsman/pointsmanlaw07.PolicyAt", spec := "policyAt", unfollowed := true, recurses := true, plainKeys := false, apart := false }
def PolicyAtSaid : Prop := policyAtRow.holds Try.pinned (OpenSpec.ofChange policyAtSpec)

/-- ITS FALSE NEIGHBOUR: 'it returns false'. Refute it at one input. -/
def policyAtWrong : ChangeSpec := { name := "policyAt", fn := fun _ => fun
  | [d1, d2, d3] => { results := [.lit (.bool false)], args := [d1, d2, d3] }
  | _ => none }
def PolicyAtWrongFalsely : Prop := policyAtRow.holds Try.pinned (OpenSpec.ofChange policyAtWrong)

/-- 'pointsmanlaw07.PolicyLaws': WHATEVER THE INPUT: true; the input reads as it did. -/
def policyLawsSpec : ChangeSpec := { name := "policyLaws", fn := fun _ => fun
  | [d1, d2, d3] => { results := [.lit (.bool true)], args := [d1, d2, d3] }
  | _ => none }
def policyLawsRow : OpenClaim := { program := "ytipiepcbgjceaaa", sum := "bc970d3466eeb4b2d40784178455e7b14620f1b5e7a3d05fd2d02e90f0554e19", func := "pointsman/pointsmanlaw07.PolicyLaws", spec := "policyLaws", unfollowed := true, recurses := true, plainKeys := false, apart := false }
def PolicyLawsSaid : Prop := policyLawsRow.holds Try.pinned (OpenSpec.ofChange policyLawsSpec)

/-- ITS FALSE NEIGHBOUR: 'it returns false'. Refute it at one input. -/
def policyLawsWrong : ChangeSpec := { name := "policyLaws", fn := fun _ => fun
  | [d1, d2, d3] => { results := [.lit (.bool false)], args := [d1, d2, d3] }
  | _ => none }
def PolicyLawsWrongFalsely : Prop := policyLawsRow.holds Try.pinned (OpenSpec.ofChange policyLawsWrong)

/-- 'pointsmanlaw07.PolicyNots': WHATEVER THE INPUT: true; the input reads as it did. -/
def policyNotsSpec : ChangeSpec := { name := "policyNots", fn := fun _ => fun
  | [d1, d2, d3] => { results := [.lit (.bool true)], args := [d1, d2, d3] }
  | _ => none }
def policyNotsRow : OpenClaim := { program := "ytipiepcbgjceaaa", sum := "bc970d3466eeb4b2d40784178455e7b14620f1b5e7a3d05fd2d02e90f0554e19", func := "pointsman/pointsmanlaw07.PolicyNots", spec := "policyNots", unfollowed := true, recurses := true, plainKeys := false, apart := false }
def PolicyNotsSaid : Prop := policyNotsRow.holds Try.pinned (OpenSpec.ofChange policyNotsSpec)

/-- ITS FALSE NEIGHBOUR: 'it returns false'. Refute it at one input. -/
def policyNotsWrong : ChangeSpec := { name := "policyNots", fn := fun _ => fun
  | [d1, d2, d3] => { results := [.lit (.bool false)], args := [d1, d2, d3] }
  | _ => none }
def PolicyNotsWrongFalsely : Prop := policyNotsRow.holds Try.pinned (OpenSpec.ofChange policyNotsWrong)

/- THE SECOND FORM. 'bulk': how many values and letters a reading holds, each counted each time it is reached (what is shared counts as often as it is met; a slice's spare places count too). A statement '..UptoSaid' is the law's where the arguments, and the package variables that the reading takes, are together of bulk at most 1048576: NARROWER than '..Said'. Prove '..Said' where nothing that the law and all that it calls make is longer than what came in: it says more and counts as full. Else prove '..UptoSaid'. A law counts once. -/
mutual
def uptoBulk {H : Type} : DataW H → Nat
  | .lit (.string bytes) => bytes.length + 1
  | .lit _ => 1
  | .nil => 1
  | .ptr d => uptoBulk d + 1
  | .slice elems spare => uptoBulkAll elems + uptoBulkAll spare + 1
  | .agg parts => uptoBulkAll parts + 1
  | .iface _ d => uptoBulk d + 1
  | .map entries => uptoBulkEntries entries + 1
  | .held _ => 1
def uptoBulkAll {H : Type} : List (DataW H) → Nat
  | [] => 0
  | d :: r => uptoBulk d + uptoBulkAll r
def uptoBulkEntries {H : Type} : List (Lit × DataW H) → Nat
  | [] => 0
  | x :: r => uptoBulkEntry x + uptoBulkEntries r
def uptoBulkEntry {H : Type} : Lit × DataW H → Nat
  | (.string bytes, d) => bytes.length + uptoBulk d + 1
  | (_, d) => uptoBulk d + 1
 end
def uptoSmall : (H : Type) → List (DataW H) → Bool := fun _ ds => decide (uptoBulkAll ds ≤ 1048576)
def OpenSpec.upto (s : _root_.Go.ChangeSpec) : _root_.Go.OpenSpec := { _root_.Go.OpenSpec.ofChange s with cond := some uptoSmall }

/-- 'pointsmanlaw07.PolicyMakes', WHERE WHAT IT READS IS OF BULK AT MOST 1048576: true; the input reads as it did. -/
def policyMakesUptoRow : OpenClaim := { program := "ytipiepcbgjceaaa", sum := "bc970d3466eeb4b2d40784178455e7b14620f1b5e7a3d05fd2d02e90f0554e19", func := "pointsman/pointsmanlaw07.PolicyMakes", spec := "policyMakes", unfollowed := true, recurses := true, plainKeys := false, apart := false, narrowed := true }
def PolicyMakesUptoSaid : Prop := policyMakesUptoRow.holds Try.pinned (OpenSpec.upto policyMakesSpec)

/-- 'pointsmanlaw07.PolicyAt', WHERE WHAT IT READS IS OF BULK AT MOST 1048576: true; the input reads as it did. -/
def policyAtUptoRow : OpenClaim := { program := "ytipiepcbgjceaaa", sum := "bc970d3466eeb4b2d40784178455e7b14620f1b5e7a3d05fd2d02e90f0554e19", func := "pointsman/pointsmanlaw07.PolicyAt", spec := "policyAt", unfollowed := true, recurses := true, plainKeys := false, apart := false, narrowed := true }
def PolicyAtUptoSaid : Prop := policyAtUptoRow.holds Try.pinned (OpenSpec.upto policyAtSpec)

/-- 'pointsmanlaw07.PolicyLaws', WHERE WHAT IT READS IS OF BULK AT MOST 1048576: true; the input reads as it did. -/
def policyLawsUptoRow : OpenClaim := { program := "ytipiepcbgjceaaa", sum := "bc970d3466eeb4b2d40784178455e7b14620f1b5e7a3d05fd2d02e90f0554e19", func := "pointsman/pointsmanlaw07.PolicyLaws", spec := "policyLaws", unfollowed := true, recurses := true, plainKeys := false, apart := false, narrowed := true }
def PolicyLawsUptoSaid : Prop := policyLawsUptoRow.holds Try.pinned (OpenSpec.upto policyLawsSpec)

/-- 'pointsmanlaw07.PolicyNots', WHERE WHAT IT READS IS OF BULK AT MOST 1048576: true; the input reads as it did. -/
def policyNotsUptoRow : OpenClaim := { program := "ytipiepcbgjceaaa", sum := "bc970d3466eeb4b2d40784178455e7b14620f1b5e7a3d05fd2d02e90f0554e19", func := "pointsman/pointsmanlaw07.PolicyNots", spec := "policyNots", unfollowed := true, recurses := true, plainKeys := false, apart := false, narrowed := true }
def PolicyNotsUptoSaid : Prop := policyNotsUptoRow.holds Try.pinned (OpenSpec.upto policyNotsSpec)

end Rows
end Go.Proofs.Ytipiepcbgjceaaa

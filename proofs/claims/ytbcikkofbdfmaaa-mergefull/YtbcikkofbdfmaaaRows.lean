/-
  No cell of these rows narrows 'for every input' (looked for: loops, veiled, ifaces, maps, wideKeys, modest, calm, conditions, laid).
  DERIVED. THE GIVEN ROWS OF THIS SEAT. 3 by the template 'for every input the law returns true; each argument reads behind the call as it read before'; 0 by the template 'total and deterministic' (their statements: YtbcikkofbdfmaaaTotals.lean).
  GIVEN WITH THE SEED: the statements are not yours to turn. If you find one false, say at which input.
  Laid BY PROGRAM, IN A SANDBOX (cutbox-rows.mjs): the forced cells as the released guide's own fill.sh prints them over the translation c25ff79f3a640b96… (all of the seat's roots in one cut). By AI agents, Wed Nov 11 2026. No macro, syntax, notation, axiom, sorry.
-/
import Derived.Test.YtbcikkofbdfmaaaChecked
import GoSem.Claim
import GoSem.ClaimJoined
import GoSem.ClaimMapViews
import Derived.JoinedTies
import Derived.KernelRfl
namespace Go.Proofs.Ytbcikkofbdfmaaa
/- THE CELL 'sum', in the pinned program and in every row, IS THE sha256 OF THE DUMP (.gsa) THAT YtbcikkofbdfmaaaProg.lean LOADS. Nothing in Lean hashes anything: it is a label: what it is worth is what the hold of that sum in a sandbox is worth. -/
noncomputable def Try.pinned : Pinned := { name := "ytbcikkofbdfmaaa", sum := "c25ff79f3a640b96f65017fe80eba6e7a146881b4e128f3a7344642527a6a20c", checked := Try.checked }
namespace Rows
def none {H : Type} : Left H := { results := [], args := [] }

/-- 'pointsmanlaw10.MergeOf': WHATEVER THE INPUT: true; the input reads as it did. -/
def mergeOfSpec : ChangeSpec := { name := "mergeOf", fn := fun _ => fun
  | [d1, d2, d3] => { results := [.lit (.bool true)], args := [d1, d2, d3] }
  | _ => none }
def mergeOfRow : OpenClaim := { program := "ytbcikkofbdfmaaa", sum := "c25ff79f3a640b96f65017fe80eba6e7a146881b4e128f3a7344642527a6a20c", func := "pointsman/pointsmanlaw10.MergeOf", spec := "mergeOf", unfollowed := true, recurses := true, apart := false }
def MergeOfSaid : Prop := mergeOfRow.holds Try.pinned (OpenSpec.ofChange mergeOfSpec)

/-- ITS FALSE NEIGHBOUR: 'it returns false'. Refute it at one input. -/
def mergeOfWrong : ChangeSpec := { name := "mergeOf", fn := fun _ => fun
  | [d1, d2, d3] => { results := [.lit (.bool false)], args := [d1, d2, d3] }
  | _ => none }
def MergeOfWrongFalsely : Prop := mergeOfRow.holds Try.pinned (OpenSpec.ofChange mergeOfWrong)

/-- 'pointsmanlaw10.MergeRight': WHATEVER THE INPUT: true; the input reads as it did. -/
def mergeRightSpec : ChangeSpec := { name := "mergeRight", fn := fun _ => fun
  | [d1, d2, d3] => { results := [.lit (.bool true)], args := [d1, d2, d3] }
  | _ => none }
def mergeRightRow : OpenClaim := { program := "ytbcikkofbdfmaaa", sum := "c25ff79f3a640b96f65017fe80eba6e7a146881b4e128f3a7344642527a6a20c", func := "pointsman/pointsmanlaw10.MergeRight", spec := "mergeRight", unfollowed := true, recurses := true, apart := false }
def MergeRightSaid : Prop := mergeRightRow.holds Try.pinned (OpenSpec.ofChange mergeRightSpec)

/-- ITS FALSE NEIGHBOUR: 'it returns false'. Refute it at one input. -/
def mergeRightWrong : ChangeSpec := { name := "mergeRight", fn := fun _ => fun
  | [d1, d2, d3] => { results := [.lit (.bool false)], args := [d1, d2, d3] }
  | _ => none }
def MergeRightWrongFalsely : Prop := mergeRightRow.holds Try.pinned (OpenSpec.ofChange mergeRightWrong)

/-- 'pointsmanlaw10.MergeFull': WHATEVER THE INPUT: true; the input reads as it did. -/
def mergeFullSpec : ChangeSpec := { name := "mergeFull", fn := fun _ => fun
  | [d1, d2] => { results := [.lit (.bool true)], args := [d1, d2] }
  | _ => none }
def mergeFullRow : OpenClaim := { program := "ytbcikkofbdfmaaa", sum := "c25ff79f3a640b96f65017fe80eba6e7a146881b4e128f3a7344642527a6a20c", func := "pointsman/pointsmanlaw10.MergeFull", spec := "mergeFull", unfollowed := true, recurses := true, apart := false }
def MergeFullSaid : Prop := mergeFullRow.holds Try.pinned (OpenSpec.ofChange mergeFullSpec)

/-- ITS FALSE NEIGHBOUR: 'it returns false'. Refute it at one input. -/
def mergeFullWrong : ChangeSpec := { name := "mergeFull", fn := fun _ => fun
  | [d1, d2] => { results := [.lit (.bool false)], args := [d1, d2] }
  | _ => none }
def MergeFullWrongFalsely : Prop := mergeFullRow.holds Try.pinned (OpenSpec.ofChange mergeFullWrong)

/- THE SECOND FORM. 'bulk': how many values and letters a reading holds, each counted each time it is reached (what is shared counts as often as it is met; a slice's spare places count too). A statement '..UptoSaid' is the law's where the arguments, and the package variables that the reading takes, are together of bulk at most 1048576: NARROWER than '..Said'. Prove '..Said' where nothing that the law and all that it calls make is longer than what came in: it says more and counts as full. Else prove '..UptoSaid'. A law counts once. -/
mutual
def uptoBulk {H : Type} : DataW H → Nat
  | .lit (.string bytes) => bytes.length + 1
  | .lit _ => 1
  | .nil => 1
  | .ptr d => uptoBulk d + 1
  | .slice elems spare => uptoBulkAll elems + uptoBulkAll spare + 1
  | .agg parts => uptoBulkAll parts + 1
  | .iface _ d => uptoBulk d + 1
  | .map entries => uptoBulkEntries entries + 1
  | .held _ => 1
def uptoBulkAll {H : Type} : List (DataW H) → Nat
  | [] => 0
  | d :: r => uptoBulk d + uptoBulkAll r
def uptoBulkEntries {H : Type} : List (Lit × DataW H) → Nat
  | [] => 0
  | x :: r => uptoBulkEntry x + uptoBulkEntries r
def uptoBulkEntry {H : Type} : Lit × DataW H → Nat
  | (.string bytes, d) => bytes.length + uptoBulk d + 1
  | (_, d) => uptoBulk d + 1
 end
def uptoSmall : (H : Type) → List (DataW H) → Bool := fun _ ds => decide (uptoBulkAll ds ≤ 1048576)
def OpenSpec.upto (s : _root_.Go.ChangeSpec) : _root_.Go.OpenSpec := { _root_.Go.OpenSpec.ofChange s with cond := some uptoSmall }

/-- 'pointsmanlaw10.MergeOf', WHERE WHAT IT READS IS OF BULK AT MOST 1048576: true; the input reads as it did. -/
def mergeOfUptoRow : OpenClaim := { program := "ytbcikkofbdfmaaa", sum := "c25ff79f3a640b96f65017fe80eba6e7a146881b4e128f3a7344642527a6a20c", func := "pointsman/pointsmanlaw10.MergeOf", spec := "mergeOf", unfollowed := true, recurses := true, apart := false, narrowed := true }
def MergeOfUptoSaid : Prop := mergeOfUptoRow.holds Try.pinned (OpenSpec.upto mergeOfSpec)

/-- 'pointsmanlaw10.MergeRight', WHERE WHAT IT READS IS OF BULK AT MOST 1048576: true; the input reads as it did. -/
def mergeRightUptoRow : OpenClaim := { program := "ytbcikkofbdfmaaa", sum := "c25ff79f3a640b96f65017fe80eba6e7a146881b4e128f3a7344642527a6a20c", func := "pointsman/pointsmanlaw10.MergeRight", spec := "mergeRight", unfollowed := true, recurses := true, apart := false, narrowed := true }
def MergeRightUptoSaid : Prop := mergeRightUptoRow.holds Try.pinned (OpenSpec.upto mergeRightSpec)

/-- 'pointsmanlaw10.MergeFull', WHERE WHAT IT READS IS OF BULK AT MOST 1048576: true; the input reads as it did. -/
def mergeFullUptoRow : OpenClaim := { program := "ytbcikkofbdfmaaa", sum := "c25ff79f3a640b96f65017fe80eba6e7a146881b4e128f3a7344642527a6a20c", func := "pointsman/pointsmanlaw10.MergeFull", spec := "mergeFull", unfollowed := true, recurses := true, apart := false, narrowed := true }
def MergeFullUptoSaid : Prop := mergeFullUptoRow.holds Try.pinned (OpenSpec.upto mergeFullSpec)

end Rows
end Go.Proofs.Ytbcikkofbdfmaaa

/- Policies, rules and programs as trees; no conditions. -/
import Derived.Test.YtipiepcbgjceaaaB0
set_option linter.unusedVariables false
set_option linter.unusedSimpArgs false
namespace Go.Proofs.Ytipiepcbgjceaaa
open Go.RowKit Go.Joins

/-- A policy. -/
structure Pl where
  mk ::
  op : Int
  f : Int
  n : Int
  kids : List Pl

/-- A pair: a field or part, and a number. -/
abbrev Pr := Int × Nat
/-- A rule. -/
structure Rl where
  when : List Pr
  guard : List Pr
  thn : List Pr
/-- A program. -/
structure Pg where
  init : List Nat
  pol : Pl
  rules : List Rl

end Go.Proofs.Ytipiepcbgjceaaa

/- The number of the listed variable that strconv reads; no conditions. -/
import Derived.Test.YtebpapmnkbehnaaDoorA1
import Derived.Test.YtebpapmnkbehnaaDoorShelf
import Derived.Deep.DeepFit
import Derived.Lib.SmallJoins
set_option linter.unusedVariables false
set_option linter.unusedSimpArgs false
namespace Go.Proofs.YtebpapmnkbehnaaDoor
open Go.RowKit Go.Joins Go.Lib

theorem gPow : Tryd.prog.globalNamed "internal/strconv.uint64pow10" = some 1 := by kernel_rfl
end Go.Proofs.YtebpapmnkbehnaaDoor

/- What the row's list of variables gives the walks: unicode's properties and letters, utf8's two tables, the table of powers of ten and the error of what is out of range hold what the row lists; the condition is the row's own. -/
import Derived.Test.YtajdhpdbekigkaaDoorRows
import Derived.Test.YtajdhpdbekigkaaDoorA5
import Derived.MakeChecks
import Derived.Stop.LaidErr
import Derived.Lib.LaidTab
import Derived.Lib.LaidU8T
import Derived.Lib.LaidRTab
import Derived.PinnedBridge
import Derived.OpenShut
import Derived.ProofKit
set_option linter.unusedVariables false
set_option linter.unusedSimpArgs false
namespace Go.Proofs.YtajdhpdbekigkaaDoor
open Go.ChangeShapes Go.WideShapes Go.ChangeAt Go.RowKit Go.Lib

theorem tPow : (Tryd.prog.globals[4]?).map (·.type) = some 91 := by kernel_rfl
theorem tRng : (Tryd.prog.globals[6]?).map (·.type) = some 39 := by kernel_rfl
theorem tPro : (Tryd.prog.globals[2]?).map (·.type) = some 52 := by kernel_rfl
theorem cells5 : Tryd.prog.cellsOf 5 = 1 := by kernel_rfl
theorem cells9 : Tryd.prog.cellsOf 9 = 1 := by kernel_rfl
theorem cells52 : Tryd.prog.cellsOf 52 = 256 := by kernel_rfl
theorem cells61 : Tryd.prog.cellsOf 61 = 1 := by kernel_rfl
theorem cells91 : Tryd.prog.cellsOf 91 = 20 := by kernel_rfl
theorem star : "*" ++ "errors.errorString" = "*errors.errorString" := by decide
theorem comp110 : ∀ u, Tryd.prog.typeName? 3 u = some "*errors.errorString" → u = 110 := fun u h =>
  typeName_ptr_named (nm := "errors.errorString") (by rw [star]; kernel_rfl) (by kernel_rfl) (by decide) u (by rw [star]; exact h)
theorem xL : RExtra Tryd.prog Tryd.lays200_ren := ⟨by kernel_rfl, by kernel_rfl, by kernel_rfl, by kernel_rfl, by kernel_rfl, by kernel_rfl, by kernel_rfl, by kernel_rfl⟩
theorem xU : U8Extra Tryd.prog Tryd.lays196_ren := ⟨by kernel_rfl, by kernel_rfl, by kernel_rfl, by kernel_rfl, by kernel_rfl, by kernel_rfl, by kernel_rfl⟩

/-- The list of every row of this seat. -/
def laidList : List (String × DataW Unit) := [("math/bits.deBruijn32tab", Rows.laid_math_bits_deBruijn32tab), ("math/bits.deBruijn64tab", Rows.laid_math_bits_deBruijn64tab), ("internal/strconv.uint64pow10", Rows.laid_internal_strconv_uint64pow10), ("unicode/utf8.acceptRanges", Rows.laid_unicode_utf8_acceptRanges), ("strconv.ErrRange", Rows.laid_strconv_ErrRange), ("strconv.ErrSyntax", Rows.laid_strconv_ErrSyntax), ("unicode.properties", Rows.laid_unicode_properties), ("unicode.Letter", Rows.laid_unicode_Letter), ("unicode/utf8.first", Rows.laid_unicode_utf8_first)]
theorem letter_reads {W : World} (h : VarReads Tryd.prog W "unicode.Letter" Go.Pinned.letter) : VarReads Tryd.prog W "unicode.Letter" (rtabData letterT) := Pinned.letter_eq ▸ h
theorem first_reads {W : World} (h : VarReads Tryd.prog W "unicode/utf8.first" Go.Pinned.utf8First) : VarReads Tryd.prog W "unicode/utf8.first" firstData := Pinned.utf8First_eq ▸ h
set_option maxRecDepth 100000 in
theorem env_of {W : World} (h : laidMetH Tryd.prog laidList W) : Env W := by
  rw [MakeChecks.laidMetH_plain _ _ _ (by kernel_rfl)] at h
  have h2 := h.tail.tail
  have h3 := h2.tail
  have h4 := h3.tail
  have h6 := h4.tail.tail
  have h7 := h6.tail
  have h8 := h7.tail
  refine ⟨Lib.tabIs_of_head (zs := Lib.propertiesTab) gPro tPro Tryd.underlying52 Tryd.underlying5 cells5 cells52 h6,
    rvar_of_reads { Tryd.lays200 with } xL (by kernel_rfl) (by kernel_rfl) (letter_reads (Lib.laidMet.reads h7 (.head _))),
    utf8Tabs_of_readsT (U8Types.of196 Tryd.lays196) xU (first_reads (Lib.laidMet.reads h8 (.head _))) (Lib.laidMet.reads h3 (.head _)),
    Lib.tabIs_of_head (zs := Lib.pow10Tab) gPow tPow Tryd.underlying91 Tryd.underlying61 cells61 cells91 h2, ?_⟩
  obtain ⟨a, s, hv, _⟩ := laid_sentinel h4 gRng tRng Tryd.underlying39 comp110 Tryd.underlying110 Tryd.underlying112 rfl rfl Tryd.underlying9 (by kernel_rfl) cells9
  exact ⟨_, _, hv⟩
end Go.Proofs.YtajdhpdbekigkaaDoor

/- What the row's list of variables gives the walks: unicode's properties and letters, utf8's two tables, the table of powers of ten and the error of what is out of range hold what the row lists; the condition is the row's own. -/
import Derived.Test.YtebpapmnkbehnaaGreatDoorRows
import Derived.Test.YtebpapmnkbehnaaGreatDoorA5
import Derived.MakeChecks
import Derived.Stop.LaidErr
import Derived.Lib.LaidTab
import Derived.Lib.LaidU8T
import Derived.Lib.LaidRTab
import Derived.PinnedBridge
import Derived.OpenShut
import Derived.ProofKit
set_option linter.unusedVariables false
set_option linter.unusedSimpArgs false
namespace Go.Proofs.YtebpapmnkbehnaaGreatDoor
open Go.ChangeShapes Go.WideShapes Go.ChangeAt Go.RowKit Go.Lib

theorem gNames : Tryz.prog.globalNamed "pointsman/packet.names" = some 2 := by kernel_rfl
theorem tNames : (Tryz.prog.globals[2]?).map (·.type) = some 116 := by kernel_rfl
theorem tPow : (Tryz.prog.globals[5]?).map (·.type) = some 158 := by kernel_rfl
theorem tRng : (Tryz.prog.globals[8]?).map (·.type) = some 55 := by kernel_rfl
theorem tPro : (Tryz.prog.globals[3]?).map (·.type) = some 101 := by kernel_rfl
theorem cells5 : Tryz.prog.cellsOf 5 = 1 := by kernel_rfl
theorem cells9 : Tryz.prog.cellsOf 9 = 1 := by kernel_rfl
theorem cells84 : Tryz.prog.cellsOf 101 = 256 := by kernel_rfl
theorem cells97 : Tryz.prog.cellsOf 117 = 1 := by kernel_rfl
theorem cells160 : Tryz.prog.cellsOf 158 = 20 := by kernel_rfl
theorem cells139 : Tryz.prog.cellsOf 116 = 8 := by kernel_rfl

set_option maxRecDepth 100000 in
theorem names_of {L : List (String × DataW Unit)} {W : World} (h : laidMet Tryz.prog (("pointsman/packet.names", Rows.laid_pointsman_packet_names) :: L) W) : NamesIs W := by
  obtain ⟨ps, ⟨g0, t0, cs0, f0, p0, q0, hg0, ht0, hv0, hd0, _, _⟩, _, _⟩ := h
  obtain rfl := Option.some.inj (gNames.symm.trans hg0)
  obtain rfl := Option.some.inj (tNames.symm.trans ht0)
  obtain ⟨xs, m1, rfl, hx1, hlen, hn, hel⟩ := DataW.trod_array Tryz.underlying116 hd0
  simp only [Prod.mk.injEq, Rows.laid_pointsman_packet_names, DataW.agg.injEq] at hx1
  match xs, hn, hx1, hel with
  | [x0, x1, x2, x3, x4, x5, x6, x7], _, hx1, hel =>
    simp only [List.map_cons, List.map_nil, List.cons.injEq, and_true] at hx1
    obtain ⟨⟨e0, e1, e2, e3, e4, e5, e6, e7⟩, _⟩ := hx1
    rw [cells139] at hlen
    rw [cells9] at hel
    obtain ⟨l0⟩ := cs0
    have hc := World.var?_cell hg0 hv0
    match l0, hlen with
    | [y0, y1, y2, y3, y4, y5, y6, y7], _ =>
      have key : ∀ (x : DataW Unit × List MemPlace) (y : Value) (b : List UInt8), DataW.trod (fun _ => ()) Tryz.prog W 0 (fun _ => true) false m1 9 [y] = some x → DataW.lit (.string b) = x.1 → y = .string ⟨b.toArray⟩ := by
        intro x y b hx hb
        obtain ⟨s, hs, rfl, _⟩ := DataW.trod_string Tryz.underlying9 hx
        simp only [List.cons.injEq, and_true] at hs
        simp only [DataW.lit.injEq, Lit.string.injEq] at hb
        rw [hs, hb, Lib.mk_data]
      exact ⟨by rw [hc 0]; exact congrArg some (key x0 y0 _ (hel 0 (by decide)) e0), by rw [hc 1]; exact congrArg some (key x1 y1 _ (hel 1 (by decide)) e1), by rw [hc 2]; exact congrArg some (key x2 y2 _ (hel 2 (by decide)) e2), by rw [hc 3]; exact congrArg some (key x3 y3 _ (hel 3 (by decide)) e3), by rw [hc 4]; exact congrArg some (key x4 y4 _ (hel 4 (by decide)) e4), by rw [hc 5]; exact congrArg some (key x5 y5 _ (hel 5 (by decide)) e5), by rw [hc 6]; exact congrArg some (key x6 y6 _ (hel 6 (by decide)) e6), by rw [hc 7]; exact congrArg some (key x7 y7 _ (hel 7 (by decide)) e7)⟩

theorem star : "*" ++ "errors.errorString" = "*errors.errorString" := by decide
theorem comp149 : ∀ u, Tryz.prog.typeName? 3 u = some "*errors.errorString" → u = 178 := fun u h =>
  typeName_ptr_named (nm := "errors.errorString") (by rw [star]; kernel_rfl) (by kernel_rfl) (by decide) u (by rw [star]; exact h)
theorem xL : RExtra Tryz.prog Tryz.lays200_ren := ⟨by kernel_rfl, by kernel_rfl, by kernel_rfl, by kernel_rfl, by kernel_rfl, by kernel_rfl, by kernel_rfl, by kernel_rfl⟩
theorem xU : U8Extra Tryz.prog Tryz.lays196_ren := ⟨by kernel_rfl, by kernel_rfl, by kernel_rfl, by kernel_rfl, by kernel_rfl, by kernel_rfl, by kernel_rfl⟩

/-- The list of every row of this seat. -/
def laidList : List (String × DataW Unit) := [("math/bits.deBruijn32tab", Rows.laid_math_bits_deBruijn32tab), ("math/bits.deBruijn64tab", Rows.laid_math_bits_deBruijn64tab), ("internal/strconv.uint64pow10", Rows.laid_internal_strconv_uint64pow10), ("unicode/utf8.acceptRanges", Rows.laid_unicode_utf8_acceptRanges), ("strconv.ErrRange", Rows.laid_strconv_ErrRange), ("strconv.ErrSyntax", Rows.laid_strconv_ErrSyntax), ("unicode.properties", Rows.laid_unicode_properties), ("pointsman/packet.names", Rows.laid_pointsman_packet_names), ("unicode.Letter", Rows.laid_unicode_Letter), ("unicode/utf8.first", Rows.laid_unicode_utf8_first)]
theorem letter_reads {W : World} (h : VarReads Tryz.prog W "unicode.Letter" Go.Pinned.letter) : VarReads Tryz.prog W "unicode.Letter" (rtabData letterT) := Pinned.letter_eq ▸ h
theorem first_reads {W : World} (h : VarReads Tryz.prog W "unicode/utf8.first" Go.Pinned.utf8First) : VarReads Tryz.prog W "unicode/utf8.first" firstData := Pinned.utf8First_eq ▸ h
set_option maxRecDepth 100000 in
theorem env_of {W : World} (h : laidMetH Tryz.prog laidList W) : Env W := by
  rw [MakeChecks.laidMetH_plain _ _ _ (by kernel_rfl)] at h
  have h2 := h.tail.tail
  have h3 := h2.tail
  have h4 := h3.tail
  have h6 := h4.tail.tail
  have h7 := h6.tail
  have h8 := h7.tail
  have h9 := h8.tail
  refine ⟨Lib.tabIs_of_head (zs := Lib.propertiesTab) gPro tPro Tryz.underlying101 Tryz.underlying5 cells5 cells84 h6,
    rvar_of_reads { Tryz.lays200 with } xL (by kernel_rfl) (by kernel_rfl) (letter_reads (Lib.laidMet.reads h8 (.head _))),
    utf8Tabs_of_readsT (U8Types.of196 Tryz.lays196) xU (first_reads (Lib.laidMet.reads h9 (.head _))) (Lib.laidMet.reads h3 (.head _)),
    Lib.tabIs_of_head (zs := Lib.pow10Tab) gPow tPow Tryz.underlying158 Tryz.underlying117 cells97 cells160 h2, names_of h7, ?_⟩
  obtain ⟨a, s, hv, _⟩ := laid_sentinel h4 gRng tRng Tryz.underlying55 comp149 Tryz.underlying178 Tryz.underlying180 rfl rfl Tryz.underlying9 (by kernel_rfl) cells9
  exact ⟨_, _, hv⟩
end Go.Proofs.YtebpapmnkbehnaaGreatDoor

/- What the row's list of variables gives the walks: the fields' names and the table of powers of ten hold what the row lists; the condition is the row's own. -/
import Derived.Test.YtebpapmnkbehnaaDoorRows
import Derived.Test.YtebpapmnkbehnaaDoorV1
import Derived.MakeChecks
import Derived.Stop.LaidErr
import Derived.Lib.LaidTab
import Derived.OpenShut
import Derived.ProofKit
set_option linter.unusedVariables false
set_option linter.unusedSimpArgs false
namespace Go.Proofs.YtebpapmnkbehnaaDoor
open Go.ChangeShapes Go.WideShapes Go.ChangeAt Go.RowKit Go.Lib

theorem gNames : Tryd.prog.globalNamed "pointsman/packet.names" = some 0 := by kernel_rfl
theorem tNames : (Tryd.prog.globals[0]?).map (·.type) = some 83 := by kernel_rfl
theorem tPow : (Tryd.prog.globals[1]?).map (·.type) = some 96 := by kernel_rfl
theorem cells5 : Tryd.prog.cellsOf 5 = 1 := by kernel_rfl
theorem cells9 : Tryd.prog.cellsOf 9 = 1 := by kernel_rfl
theorem cells97 : Tryd.prog.cellsOf 87 = 1 := by kernel_rfl
theorem cells160 : Tryd.prog.cellsOf 96 = 20 := by kernel_rfl
theorem cells139 : Tryd.prog.cellsOf 83 = 8 := by kernel_rfl

set_option maxRecDepth 100000 in
theorem names_of {L : List (String × DataW Unit)} {W : World} (h : laidMet Tryd.prog (("pointsman/packet.names", Rows.laid_pointsman_packet_names) :: L) W) : NamesIs W := by
  obtain ⟨ps, ⟨g0, t0, cs0, f0, p0, q0, hg0, ht0, hv0, hd0, _, _⟩, _, _⟩ := h
  obtain rfl := Option.some.inj (gNames.symm.trans hg0)
  obtain rfl := Option.some.inj (tNames.symm.trans ht0)
  obtain ⟨xs, m1, rfl, hx1, hlen, hn, hel⟩ := DataW.trod_array Tryd.underlying83 hd0
  simp only [Prod.mk.injEq, Rows.laid_pointsman_packet_names, DataW.agg.injEq] at hx1
  match xs, hn, hx1, hel with
  | [x0, x1, x2, x3, x4, x5, x6, x7], _, hx1, hel =>
    simp only [List.map_cons, List.map_nil, List.cons.injEq, and_true] at hx1
    obtain ⟨⟨e0, e1, e2, e3, e4, e5, e6, e7⟩, _⟩ := hx1
    rw [cells139] at hlen
    rw [cells9] at hel
    obtain ⟨l0⟩ := cs0
    have hc := World.var?_cell hg0 hv0
    match l0, hlen with
    | [y0, y1, y2, y3, y4, y5, y6, y7], _ =>
      have key : ∀ (x : DataW Unit × List MemPlace) (y : Value) (b : List UInt8), DataW.trod (fun _ => ()) Tryd.prog W 0 (fun _ => true) false m1 9 [y] = some x → DataW.lit (.string b) = x.1 → y = .string ⟨b.toArray⟩ := by
        intro x y b hx hb
        obtain ⟨s, hs, rfl, _⟩ := DataW.trod_string Tryd.underlying9 hx
        simp only [List.cons.injEq, and_true] at hs
        simp only [DataW.lit.injEq, Lit.string.injEq] at hb
        rw [hs, hb, Lib.mk_data]
      exact ⟨by rw [hc 0]; exact congrArg some (key x0 y0 _ (hel 0 (by decide)) e0), by rw [hc 1]; exact congrArg some (key x1 y1 _ (hel 1 (by decide)) e1), by rw [hc 2]; exact congrArg some (key x2 y2 _ (hel 2 (by decide)) e2), by rw [hc 3]; exact congrArg some (key x3 y3 _ (hel 3 (by decide)) e3), by rw [hc 4]; exact congrArg some (key x4 y4 _ (hel 4 (by decide)) e4), by rw [hc 5]; exact congrArg some (key x5 y5 _ (hel 5 (by decide)) e5), by rw [hc 6]; exact congrArg some (key x6 y6 _ (hel 6 (by decide)) e6), by rw [hc 7]; exact congrArg some (key x7 y7 _ (hel 7 (by decide)) e7)⟩

/-- The list of every row of this seat. -/
def laidList : List (String × DataW Unit) := [("math/bits.deBruijn32tab", Rows.laid_math_bits_deBruijn32tab), ("math/bits.deBruijn64tab", Rows.laid_math_bits_deBruijn64tab), ("internal/strconv.uint64pow10", Rows.laid_internal_strconv_uint64pow10), ("pointsman/packet.names", Rows.laid_pointsman_packet_names)]
set_option maxRecDepth 100000 in
theorem env_of {W : World} (h : laidMetH Tryd.prog laidList W) : Es W := by
  rw [MakeChecks.laidMetH_plain _ _ _ (by kernel_rfl)] at h
  have h2 := h.tail.tail
  have h3 := h2.tail
  exact ⟨Lib.tabIs_of_head (zs := Lib.pow10Tab) gPow tPow Tryd.underlying96 Tryd.underlying87 cells97 cells160 h2, names_of h3⟩
end Go.Proofs.YtebpapmnkbehnaaDoor

/- How a packet, a list of packets and a list of pairs are read as arguments; no conditions. -/
import Derived.Test.YtcfploigpnjmoaaDoorLaid
set_option linter.unusedVariables false
set_option linter.unusedSimpArgs false
namespace Go.Proofs.YtcfploigpnjmoaaDoor
open Go.ChangeShapes Go.WideShapes Go.ChangeAt Go.RowKit

theorem cells24 : Tryd.prog.cellsOf 24 = 8 := by kernel_rfl
theorem cells22' : Tryd.prog.cellsOf 22 = 1 := by kernel_rfl
theorem cells51 : Tryd.prog.cellsOf 51 = 2 := by kernel_rfl

section
variable {H : Type} {enc : TypeId × Value → H} {w : World} {base : Nat} {sp : Nat → Bool} {held : Bool}
set_option maxRecDepth 100000 in
/-- A packet's cells, read. -/
theorem packet_of_trod {fuel : Nat} {cs : List Value} {x : DataW H × List MemPlace} (h : DataW.trod enc Tryd.prog w base sp held fuel 24 cs = some x) :
    ∃ a0 a1 a2 a3 a4 a5 a6 a7 : Int, cs = [.int .u16 a0, .int .u16 a1, .int .u16 a2, .int .u16 a3, .int .u16 a4, .int .u16 a5, .int .u16 a6, .int .u16 a7] ∧ (∀ z ∈ [a0, a1, a2, a3, a4, a5, a6, a7], 0 ≤ z ∧ z ≤ 65535) := by
  obtain ⟨xs, m1, rfl, hx1, hlen, hn, hel⟩ := DataW.trod_array Tryd.underlying24 h
  rw [cells24] at hlen
  rw [cells22'] at hel
  match cs, hlen with
  | [y0, y1, y2, y3, y4, y5, y6, y7], _ =>
    have key : ∀ (y : Value) (x : Option (DataW H × List MemPlace)), x.isSome = true → DataW.trod enc Tryd.prog w base sp held m1 22 [y] = x → ∃ a : Int, y = .int .u16 a ∧ 0 ≤ a ∧ a ≤ 65535 := by
      intro y x hx hy
      obtain ⟨x', rfl⟩ := Option.isSome_iff_exists.1 hx
      obtain ⟨a, e1, _, wa⟩ := DataW.trod_int Tryd.underlying22 hy
      simp only [List.cons.injEq, and_true] at e1
      have hb := bounds_u16 wa
      exact ⟨a, e1, by omega, by omega⟩
    have hs : ∀ i, i < 8 → xs[i]?.isSome = true := fun i hi => by rw [List.getElem?_eq_getElem (by omega)]; rfl
    obtain ⟨a0, rfl, b0⟩ := key y0 _ (hs 0 (by decide)) (hel 0 (by decide))
    obtain ⟨a1, rfl, b1⟩ := key y1 _ (hs 1 (by decide)) (hel 1 (by decide))
    obtain ⟨a2, rfl, b2⟩ := key y2 _ (hs 2 (by decide)) (hel 2 (by decide))
    obtain ⟨a3, rfl, b3⟩ := key y3 _ (hs 3 (by decide)) (hel 3 (by decide))
    obtain ⟨a4, rfl, b4⟩ := key y4 _ (hs 4 (by decide)) (hel 4 (by decide))
    obtain ⟨a5, rfl, b5⟩ := key y5 _ (hs 5 (by decide)) (hel 5 (by decide))
    obtain ⟨a6, rfl, b6⟩ := key y6 _ (hs 6 (by decide)) (hel 6 (by decide))
    obtain ⟨a7, rfl, b7⟩ := key y7 _ (hs 7 (by decide)) (hel 7 (by decide))
    refine ⟨a0, a1, a2, a3, a4, a5, a6, a7, rfl, ?_⟩
    intro z hz
    simp only [List.mem_cons, List.not_mem_nil, or_false] at hz
    rcases hz with rfl | rfl | rfl | rfl | rfl | rfl | rfl | rfl <;> assumption
set_option maxRecDepth 100000 in
/-- Two numbers' cells, read. -/
theorem two_of_trod {fuel : Nat} {cs : List Value} {x : DataW H × List MemPlace} (h : DataW.trod enc Tryd.prog w base sp held fuel 51 cs = some x) :
    ∃ a0 a1 : Int, cs = [.int .u16 a0, .int .u16 a1] := by
  obtain ⟨xs, m1, rfl, hx1, hlen, hn, hel⟩ := DataW.trod_array Tryd.underlying51 h
  rw [cells51] at hlen
  rw [cells22'] at hel
  match cs, hlen with
  | [y0, y1], _ =>
    have key : ∀ (y : Value) (x : Option (DataW H × List MemPlace)), x.isSome = true → DataW.trod enc Tryd.prog w base sp held m1 22 [y] = x → ∃ a : Int, y = .int .u16 a := by
      intro y x hx hy
      obtain ⟨x', rfl⟩ := Option.isSome_iff_exists.1 hx
      obtain ⟨a, e1, _, wa⟩ := DataW.trod_int Tryd.underlying22 hy
      simp only [List.cons.injEq, and_true] at e1
      exact ⟨a, e1⟩
    have hs : ∀ i, i < 2 → xs[i]?.isSome = true := fun i hi => by rw [List.getElem?_eq_getElem (by omega)]; rfl
    obtain ⟨a0, rfl⟩ := key y0 _ (hs 0 (by decide)) (hel 0 (by decide))
    obtain ⟨a1, rfl⟩ := key y1 _ (hs 1 (by decide)) (hel 1 (by decide))
    exact ⟨a0, a1, rfl⟩
end
end Go.Proofs.YtcfploigpnjmoaaDoor

/- What the law PacketFields answers: true, for every packet, field and list of pairs, wherever the listed variables hold what the row lists. -/
import Derived.Test.YtcfploigpnjmoaaDoorF2
import Derived.Test.YtcfploigpnjmoaaDoorH1
import Derived.Lib.QuietBelow
set_option linter.unusedVariables false
set_option linter.unusedSimpArgs false
namespace Go.Proofs.YtcfploigpnjmoaaDoor
open Go.RowKit Go.Joins Go.Sort

/-- Pairs lie behind a slice, or there are none. -/
def PairsAny (w : World) (v : Value) (L : List (Int × Int)) : Prop := PairsAt w v L ∨ (L = [] ∧ ∃ a cap, v = .slice a 0 cap)
theorem PairsAny.below {w w' : World} {v : Value} {L : List (Int × Int)} (h : PairsAny w v L) (hb : Below w.heap.size w w') : PairsAny w' v L := by
  rcases h with h | h
  · exact .inl (h.below hb)
  · exact .inr h
theorem has_every (a0 a1 a2 a3 a4 a5 a6 a7 : Int) (w : World) (v : Value) (L : List (Int × Int)) (hP : PairsAny w v L) :
    Calls Tryd.prog 15 #[pk a0 a1 a2 a3 a4 a5 a6 a7, v] w fun e w' => e = .returned (.bool (hasAll [a0, a1, a2, a3, a4, a5, a6, a7] L)) ∧ Below w.heap.size w w' := by
  rcases hP with hP | ⟨rfl, a, cap, rfl⟩
  · obtain ⟨b, off, cap, rfl, hb, hL, hc⟩ := hP
    exact has_some a0 a1 a2 a3 a4 a5 a6 a7 b off cap L w hL hb hc
  · exact has_none a0 a1 a2 a3 a4 a5 a6 a7 a cap w
theorem rhas_every (a0 a1 a2 a3 a4 a5 a6 a7 : Int) (w : World) (v : Value) (L : List (Int × Int)) (hP : PairsAny w v L) :
    Calls Tryd.prog 16 #[pk a0 a1 a2 a3 a4 a5 a6 a7, v] w fun e w' => e = .returned (.bool (hasAll [a0, a1, a2, a3, a4, a5, a6, a7] L)) ∧ Below w.heap.size w w' := by
  rcases hP with hP | ⟨rfl, a, cap, rfl⟩
  · obtain ⟨b, off, cap, rfl, hb, hL, hc⟩ := hP
    exact rhas_some a0 a1 a2 a3 a4 a5 a6 a7 b off cap L w hL hb hc
  · exact rhas_none a0 a1 a2 a3 a4 a5 a6 a7 a cap w
theorem do_every (a0 a1 a2 a3 a4 a5 a6 a7 b0 b1 b2 b3 b4 b5 b6 b7 : Int) (w : World) (v : Value) (L : List (Int × Int)) (hP : PairsAny w v L) (hr : puts [a0, a1, a2, a3, a4, a5, a6, a7] L = [b0, b1, b2, b3, b4, b5, b6, b7]) :
    Calls Tryd.prog 17 #[pk a0 a1 a2 a3 a4 a5 a6 a7, v] w fun e w' => e = .returned (pk b0 b1 b2 b3 b4 b5 b6 b7) ∧ Below w.heap.size w w' := by
  rcases hP with hP | ⟨rfl, a, cap, rfl⟩
  · obtain ⟨b, off, cap, rfl, hb, hL, hc⟩ := hP
    refine (do_some a0 a1 a2 a3 a4 a5 a6 a7 b off cap L w hL hb hc).mono fun e w' ⟨c0, c1, c2, c3, c4, c5, c6, c7, he, hp, hw⟩ => ⟨?_, hw⟩
    rw [hr] at hp
    simp only [List.cons.injEq, and_true] at hp
    obtain ⟨rfl, rfl, rfl, rfl, rfl, rfl, rfl, rfl⟩ := hp
    exact he
  · simp only [puts, List.foldl_nil, List.cons.injEq, and_true] at hr
    obtain ⟨rfl, rfl, rfl, rfl, rfl, rfl, rfl, rfl⟩ := hr
    exact do_none _ _ _ _ _ _ _ _ a cap w
theorem rdo_every (a0 a1 a2 a3 a4 a5 a6 a7 b0 b1 b2 b3 b4 b5 b6 b7 : Int) (w : World) (v : Value) (L : List (Int × Int)) (hP : PairsAny w v L) (hr : puts [a0, a1, a2, a3, a4, a5, a6, a7] L = [b0, b1, b2, b3, b4, b5, b6, b7]) :
    Calls Tryd.prog 18 #[pk a0 a1 a2 a3 a4 a5 a6 a7, v] w fun e w' => e = .returned (pk b0 b1 b2 b3 b4 b5 b6 b7) ∧ Below w.heap.size w w' := by
  rcases hP with hP | ⟨rfl, a, cap, rfl⟩
  · obtain ⟨b, off, cap, rfl, hb, hL, hc⟩ := hP
    refine (rdo_some a0 a1 a2 a3 a4 a5 a6 a7 b off cap L w hL hb hc).mono fun e w' ⟨c0, c1, c2, c3, c4, c5, c6, c7, he, hp, hw⟩ => ⟨?_, hw⟩
    rw [hr] at hp
    simp only [List.cons.injEq, and_true] at hp
    obtain ⟨rfl, rfl, rfl, rfl, rfl, rfl, rfl, rfl⟩ := hp
    exact he
  · simp only [puts, List.foldl_nil, List.cons.injEq, and_true] at hr
    obtain ⟨rfl, rfl, rfl, rfl, rfl, rfl, rfl, rfl⟩ := hr
    exact rdo_none _ _ _ _ _ _ _ _ a cap w
theorem with_every (a0 a1 a2 a3 a4 a5 a6 a7 b0 b1 b2 b3 b4 b5 b6 b7 f n : Int) (w : World) (hr : put [a0, a1, a2, a3, a4, a5, a6, a7] f n = [b0, b1, b2, b3, b4, b5, b6, b7]) :
    Calls Tryd.prog 13 #[pk a0 a1 a2 a3 a4 a5 a6 a7, .int .i64 f, .int .u16 n] w fun e w' => e = .returned (pk b0 b1 b2 b3 b4 b5 b6 b7) ∧ Below w.heap.size w w' := by
  refine (with_any a0 a1 a2 a3 a4 a5 a6 a7 f n w).mono fun e w' ⟨c0, c1, c2, c3, c4, c5, c6, c7, he, hp, hw⟩ => ⟨?_, hw⟩
  rw [hr] at hp
  simp only [List.cons.injEq, and_true] at hp
  obtain ⟨rfl, rfl, rfl, rfl, rfl, rfl, rfl, rfl⟩ := hp
  exact he
theorem rwith_every (a0 a1 a2 a3 a4 a5 a6 a7 b0 b1 b2 b3 b4 b5 b6 b7 f n : Int) (w : World) (hr : put [a0, a1, a2, a3, a4, a5, a6, a7] f n = [b0, b1, b2, b3, b4, b5, b6, b7]) :
    Calls Tryd.prog 14 #[pk a0 a1 a2 a3 a4 a5 a6 a7, .int .i64 f, .int .u16 n] w fun e w' => e = .returned (pk b0 b1 b2 b3 b4 b5 b6 b7) ∧ Below w.heap.size w w' := by
  refine (rwith_any a0 a1 a2 a3 a4 a5 a6 a7 f n w).mono fun e w' ⟨c0, c1, c2, c3, c4, c5, c6, c7, he, hp, hw⟩ => ⟨?_, hw⟩
  rw [hr] at hp
  simp only [List.cons.injEq, and_true] at hp
  obtain ⟨rfl, rfl, rfl, rfl, rfl, rfl, rfl, rfl⟩ := hp
  exact he
end Go.Proofs.YtcfploigpnjmoaaDoor

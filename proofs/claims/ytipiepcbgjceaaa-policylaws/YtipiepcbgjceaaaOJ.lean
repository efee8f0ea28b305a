/- The way back, of whatever row; no conditions but the row's length. -/
import Derived.Test.YtipiepcbgjceaaaM5
set_option linter.unusedVariables false
set_option linter.unusedSimpArgs false
namespace Go.Proofs.Ytipiepcbgjceaaa
open Go.RowKit Go.Joins Go.Sort

set_option maxRecDepth 100000 in
set_option maxHeartbeats 2000000 in
theorem back_nil (g : Nat) (q : P8) (w : World) : Calls Try.prog 64 #[.pointer (some ⟨g, 0, none⟩), .slice none 0 0, q.v] w fun e w' => e = .returned (.slice none 0 0) ∧ Below w.heap.size w w' := by
  have cC := clone39_nil 0 0 (w.alloc (pobj8 q))
  have hb0 : Below w.heap.size w (w.alloc (pobj8 q)) := (Below.refl _ w).alloc (Nat.le_refl _) _
  go_enter Try.func64, Try.ntmps64
  go_wp2_with fail
  refine cC.mono ?_
  rintro e w1 ⟨rfl, hw⟩
  subst hw
  clear cC
  go_wp2
  go_loopw [15] (fun i wr => i = .int .i64 0 ∧ Hid (Below w.heap.size w wr)) (fun i _ => 0)
  case atStart => exact ⟨rfl, hb0⟩
  case round =>
    obtain ⟨rfl, hB⟩ := hrel
    go_wp2
    go_ret
    exact ⟨rfl, hB.out⟩
theorem back_both (g M : Nat) (sv : Nat → Value) (oc : Nat → Nat) (q : P8) (v : Value) (L : List P8) (w : World) (hrow : w.heap[g]? = some (.cells (bcells sv oc M) 101)) (hlen : L.length ≤ 64) (hv : Pv w v L) :
    Calls Try.prog 64 #[.pointer (some ⟨g, 0, none⟩), v, q.v] w fun e w' => ∃ v', e = .returned v' ∧ Below w.heap.size w w' ∧ NewV w.heap.size v' ∧ Pv w' v' (L.map (backP oc q)) := by
  rcases hv with ⟨rfl, rfl⟩ | ⟨h1, b, off, cap, rfl, h3, h4, h5⟩
  · refine (back_nil g q w).mono ?_
    rintro e w' ⟨rfl, hb⟩
    exact ⟨_, rfl, hb, NewV.nil _, Pv.nil _⟩
  · refine (back_one g M sv oc q ⟨b, off, none⟩ cap L w hrow hlen (List.length_pos_iff.2 h1) (flat_cells h5)).mono ?_
    rintro e w' ⟨b', c, rfl, hb', ⟨sz, hR⟩, hbel⟩
    refine ⟨_, rfl, hbel, fun b2 o n c' e => ?_, .inr ⟨by simpa using h1, b', 0, c, by rw [List.length_map], ?_, ?_, fun i hi => hR.at i hi⟩⟩
    · simp only [Value.slice.injEq, Option.some.injEq, Addr.mk.injEq] at e
      obtain ⟨⟨rfl, -⟩, -⟩ := e
      exact hb'
    · obtain ⟨cur, hg, -⟩ := hR
      exact heap_lt hg
    · obtain ⟨cur, hg, -⟩ := hR
      exact calm_cells hg (by decide)
end Go.Proofs.Ytipiepcbgjceaaa

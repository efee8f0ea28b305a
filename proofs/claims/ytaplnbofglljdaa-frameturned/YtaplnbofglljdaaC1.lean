/- What awake answers: true; no conditions. -/
import Derived.Test.YtaplnbofglljdaaB5
set_option linter.unusedVariables false
set_option linter.unusedSimpArgs false
namespace Go.Proofs.Ytaplnbofglljdaa
open Go.RowKit Go.Joins

def f0 : Fr := ⟨0, 0, 3, 4, 0, 0, 0, 0, true, 7, 9⟩
theorem f0_ok : f0.ok := ⟨by decide, by decide, by decide, by decide, by decide, by decide, by decide, by decide, by decide, by decide⟩
theorem encode_fr (f : Fr) (h : f.ok) (w : World) :
    Calls Try.prog 7 #[f.v] w fun e w' => e = .returned (.string ⟨(encOf f).toArray⟩) ∧ Below w.heap.size w w' :=
  encode_any f.a0 f.a1 f.a2 f.a3 f.a4 f.a5 f.a6 f.a7 f.tg f.tag f.dg w h
set_option maxRecDepth 100000 in
set_option maxHeartbeats 1000000 in
theorem awake_any (w : World) : Calls Try.prog 6 #[] w fun e w' => e = .returned (.bool true) ∧ Below w.heap.size w w' := by
  have hq : ∀ w, (Op.equalIn 9999 24 (.agg #[.int .u16 0, .int .u16 0, .int .u16 3, .int .u16 4, .int .u16 0, .int .u16 0, .int .u16 0, .int .u16 0]) (.agg #[.int .u16 0, .int .u16 0, .int .u16 3, .int .u16 4, .int .u16 0, .int .u16 0, .int .u16 0, .int .u16 0])).run Try.prog w = .ok true w := fun w => eql8 0 0 3 4 0 0 0 0 9997 w
  go_enter Try.func6, Try.ntmps6
  go_wp2_with fail
  refine (tagged_any 1 2 3 4 0 0 0 0 7 9 _).mono ?_
  rintro e w1 ⟨rfl, hb1⟩
  go_wp2_with fail
  have hrow : (w1.alloc (.cells (frc 0 0 3 4 0 0 0 0 true 7 9) 28)).heap[w1.heap.size]? = some (.cells (frc 0 0 3 4 0 0 0 0 true 7 9) 28) := heap_alloc_new _ _
  have hB1 : Below w.heap.size w (w1.alloc (.cells (frc 0 0 3 4 0 0 0 0 true 7 9) 28)) := hb1.alloc hb1.size _
  refine (encode_fr f0 f0_ok _).mono ?_
  rintro e w2 ⟨rfl, hb2⟩
  have hrow2 : w2.heap[w1.heap.size]? = some (.cells (frc 0 0 3 4 0 0 0 0 true 7 9) 28) := by
    have h := heap_lt hrow
    rw [hb2.block _ h]; exact hrow
  have hB2 : Below w.heap.size w w2 := hB1.trans (hb2.mono hB1.size)
  clear hrow hb2 hB1 hb1
  go_wp2_with fail
  refine (decode_enc f0 f0_ok _).mono ?_
  rintro e w3 ⟨rfl, hb3⟩
  have hrow3 : w3.heap[w1.heap.size]? = some (.cells (frc 0 0 3 4 0 0 0 0 true 7 9) 28) := by
    rw [hb3.block _ (heap_lt hrow2)]; exact hrow2
  have hB3 : Hid (Below w.heap.size w w3) := hB2.trans (hb3.mono hB2.size)
  clear hrow2 hb3 hB2
  obtain ⟨⟨q0, q1, q2, q3, q4, q5, q6, q7, q8, q9, q10⟩, hsz⟩ := row11 hrow3
  clear hrow3
  rw [show (cleanOf f0).v = .agg #[.int .u16 0, .int .u16 0, .int .u16 3, .int .u16 4, .int .u16 0, .int .u16 0, .int .u16 0, .int .u16 0, .bool true, .int .u16 7, .int .u64 9] from rfl]
  go_wp2_with fail
  go_ret
  exact ⟨rfl, hB3.out.alloc hB3.out.size _⟩
end Go.Proofs.Ytaplnbofglljdaa

/- What awake answers: true, wherever the listed variables hold what the row lists. -/
import Derived.Test.YtcfploigpnjmoaaDoorA7
import Derived.Test.YtcfploigpnjmoaaDoorE8
set_option linter.unusedVariables false
set_option linter.unusedSimpArgs false
namespace Go.Proofs.YtcfploigpnjmoaaDoor
open Go.RowKit Go.Joins Go.Sort

theorem awake_read : readOf [100, 115, 116, 61, 55, 32, 32, 115, 119, 61, 49] = some [1, 0, 0, 7, 0, 0, 0, 0] := by decide +kernel
theorem awake_text : textTo [1, 0, 0, 7, 0, 0, 0, 0] 8 = [115, 119, 61, 49, 32, 112, 116, 61, 48, 32, 100, 115, 116, 61, 55] := by decide +kernel
theorem awake_field : fldI [100, 115, 116] = 3 ∧ fldB [100, 115, 116] = true := by decide +kernel

theorem read_awake (w : World) (h : Env w) : Calls Tryd.prog 20 #[.string ⟨#[100, 115, 116, 61, 55, 32, 32, 115, 119, 61, 49]⟩] w fun e w' => e = .returned (.tuple #[pk 1 0 0 7 0 0 0 0, .bool true]) ∧ Below w.heap.size w w' := by
  refine (read_any _ w h (by decide)).mono fun e w' ⟨he, hb⟩ => ⟨?_, hb⟩
  rw [he, show (⟨#[100, 115, 116, 61, 55, 32, 32, 115, 119, 61, 49]⟩ : ByteArray).data.toList = [100, 115, 116, 61, 55, 32, 32, 115, 119, 61, 49] from rfl, awake_read]
  rfl
theorem field_awake (w : World) (h : Env w) : Calls Tryd.prog 9 #[.string ⟨#[100, 115, 116]⟩] w fun e w' => e = .returned (.tuple #[.int .i64 3, .bool true]) ∧ w' = w := by
  refine (field_list [100, 115, 116] w h).mono fun e w' ⟨he, hw⟩ => ⟨?_, hw⟩
  rw [he, awake_field.1, awake_field.2]
theorem text_awake (w : World) (h : Env w) : Calls Tryd.prog 19 #[pk 1 0 0 7 0 0 0 0] w fun e w' => e = .returned (.string ⟨#[115, 119, 61, 49, 32, 112, 116, 61, 48, 32, 100, 115, 116, 61, 55]⟩) ∧ Below w.heap.size w w' := by
  refine (text_any 1 0 0 7 0 0 0 0 w h ?_).mono fun e w' ⟨he, hb⟩ => ⟨?_, hb⟩
  · intro k
    by_cases hk : k < 8
    · have hc : k = 0 ∨ k = 1 ∨ k = 2 ∨ k = 3 ∨ k = 4 ∨ k = 5 ∨ k = 6 ∨ k = 7 := by omega
      rcases hc with rfl | rfl | rfl | rfl | rfl | rfl | rfl | rfl <;> decide
    · rw [List.getD_eq_getElem?_getD, List.getElem?_eq_none (by simp; omega)]; decide
  · rw [he, awake_text]
theorem with_exact (a0 a1 a2 a3 a4 a5 a6 a7 f n : Int) (h0 : 0 ≤ f) (h8 : f < 8) (w : World) :
    Calls Tryd.prog 13 #[pk a0 a1 a2 a3 a4 a5 a6 a7, .int .i64 f, .int .u16 n] w fun e w' => e = .returned (pkl (put [a0, a1, a2, a3, a4, a5, a6, a7] f n)) ∧ Below w.heap.size w w' :=
  with_in a0 a1 a2 a3 a4 a5 a6 a7 f n w h0 h8

set_option maxRecDepth 100000 in
set_option maxHeartbeats 1000000 in
theorem awake_any (w : World) (h : Env w) : Calls Tryd.prog 7 #[] w fun e w' => e = .returned (.bool true) ∧ Below w.heap.size w w' := by
  go_enter Tryd.func7, Tryd.ntmps7
  go_wp2_with fail
  refine (with_exact 0 0 0 0 0 0 0 0 0 1 (by decide) (by decide) _).mono ?_
  rintro e w1 ⟨rfl, hb1⟩
  rw [show pkl (put [0, 0, 0, 0, 0, 0, 0, 0] 0 1) = pk 1 0 0 0 0 0 0 0 from rfl]
  unfold pk
  go_wp2_with fail
  refine (with_exact 1 0 0 0 0 0 0 0 3 7 (by decide) (by decide) _).mono ?_
  rintro e w2 ⟨rfl, hb2⟩
  rw [show pkl (put [1, 0, 0, 0, 0, 0, 0, 0] 3 7) = pk 1 0 0 7 0 0 0 0 from rfl]
  unfold pk
  go_wp2_with fail
  have hB2 : Below w.heap.size w (w2.alloc (.cells #[.int .u16 1, .int .u16 0, .int .u16 0, .int .u16 7, .int .u16 0, .int .u16 0, .int .u16 0, .int .u16 0] 24)) := (hb1.trans (hb2.mono hb1.size)).alloc (Nat.le_trans hb1.size hb2.size) _
  have hE2 := h.below hB2
  refine (read_awake _ hE2).mono ?_
  rintro e w3 ⟨rfl, hb3⟩
  have hbox : w3.heap[w2.heap.size]? = some (.cells #[.int .u16 1, .int .u16 0, .int .u16 0, .int .u16 7, .int .u16 0, .int .u16 0, .int .u16 0, .int .u16 0] 24) := by
    rw [hb3.block _ (by simp)]; exact heap_alloc_new _ _
  have hB3 : Below w.heap.size w w3 := hB2.trans (hb3.mono hB2.size)
  have hsz : w2.heap.size < w3.heap.size := heap_lt hbox
  have hsz0 : w.heap.size ≤ w3.heap.size := hB3.size
  obtain ⟨⟨q0, q1, q2, q3, q4, q5, q6, q7⟩, _, _⟩ := row8 hbox
  unfold pk
  clear hE2 hb1 hb2 hb3 hB2 hbox
  go_wp2_with fail
  have hB4 : Below w.heap.size w (w3.alloc (.cells #[.int .u16 1, .int .u16 0, .int .u16 0, .int .u16 7, .int .u16 0, .int .u16 0, .int .u16 0, .int .u16 0] 24)) := hB3.alloc hsz0 _
  have hE4 := h.below hB4
  refine (field_awake _ hE4).mono ?_
  rintro e w4 ⟨rfl, rfl⟩
  have heq := eql8 1 0 0 7 0 0 0 0 1 0 0 7 0 0 0 0
  have hs8 := same8_self [1, 0, 0, 7, 0, 0, 0, 0]
  go_wp2_with fail
  refine (name_3 _ hE4.names).mono ?_
  rintro e w5 ⟨rfl, rfl⟩
  go_wp2_with fail
  refine (text_awake _ hE4).mono ?_
  rintro e w6 ⟨rfl, hb6⟩
  clear hE4 h
  go_wp2
  go_ret
  exact ⟨rfl, hB4.trans (hb6.mono hB4.size)⟩
end Go.Proofs.YtcfploigpnjmoaaDoor

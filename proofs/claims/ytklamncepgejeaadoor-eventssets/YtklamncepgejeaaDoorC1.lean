/- What awake answers: true, wherever the listed variables hold what the row lists. -/
import Derived.Test.YtklamncepgejeaaDoorA5
import Derived.Test.YtklamncepgejeaaDoorB3
import Derived.Test.YtklamncepgejeaaDoorB5
set_option linter.unusedVariables false
set_option linter.unusedSimpArgs false
namespace Go.Proofs.YtklamncepgejeaaDoor
open Go.RowKit Go.Joins Go.Sort

theorem awake_of : ofL [3, 0, 63] = 9223372036854775817 := by decide +kernel
theorem awake_evs : evs 9223372036854775817 = [0, 3, 63] := by decide +kernel
theorem awake_text : textOf 9223372036854775817 = [123, 48, 44, 51, 44, 54, 51, 125] := by decide +kernel
theorem awake_read : readOf [123, 48, 44, 51, 44, 54, 51, 125] = some 9223372036854775817 := by
  rw [← awake_text]; exact read_text _ (by decide)
theorem awake_has : (decide ((0 : Int) ≤ 3) && (9223372036854775817 : Nat).testBit (3 : Int).toNat) = true := by decide +kernel
abbrev N3 : Value := .int .u64 9223372036854775817

theorem of_awake (w : World) (b : Nat) (hb : w.heap[b]? = some (.cells #[.int .i64 3, .int .i64 0, .int .i64 63] 3)) : Calls Tryd.prog 10 #[.slice (some ⟨b, 0, none⟩) 3 3] w fun r w' => r = .returned N3 ∧ w' = w := by
  have h := of_some ⟨b, 0, none⟩ 3 [3, 0, 63] w (by decide) (fun i hi => by
    have e : (⟨b, 0, none⟩ : Addr).add i = ⟨b, i, none⟩ := by
      unfold Addr.add; split
      · rename_i h0; rw [h0]
      · simp
    rw [e, cell_of_row _ _ _ _ _ _ hb]
    match i, hi with
    | 0, _ => rfl
    | 1, _ => rfl
    | 2, _ => rfl)
  rw [awake_of] at h
  exact h
theorem read_awake (w : World) (h : Env w) : Calls Tryd.prog 22 #[.string ⟨#[123, 48, 44, 51, 44, 54, 51, 125]⟩] w fun e w' => e = .returned (.tuple #[N3, .bool true]) ∧ Below w.heap.size w w' := by
  refine (read_any [123, 48, 44, 51, 44, 54, 51, 125] (by decide) w h).mono fun e w' ⟨he, hb⟩ => ⟨?_, hb⟩
  rw [he, rdN, rdB, awake_read]; rfl
theorem len_awake (w : World) : Calls Tryd.prog 9 #[N3] w fun r w' => r = .returned (.int .i64 3) ∧ w' = w := by
  have h := len_any 9223372036854775817 (by decide) w
  rw [awake_evs] at h
  exact h
theorem has_awake (w : World) : Calls Tryd.prog 12 #[N3, .int .i64 3] w fun r w' => r = .returned (.bool true) ∧ w' = w := by
  have h := has_any 9223372036854775817 3 (by decide) w
  rw [awake_has] at h
  exact h
theorem text_awake (w : World) (h : Env w) : Calls Tryd.prog 21 #[N3] w fun e w' => e = .returned (.string ⟨#[123, 48, 44, 51, 44, 54, 51, 125]⟩) ∧ Below w.heap.size w w' := by
  have h := text_any 9223372036854775817 (by decide) w h
  rw [awake_text] at h
  exact h
set_option maxRecDepth 100000 in
set_option maxHeartbeats 1000000 in
theorem awake_any (w : World) (h : Env w) : Calls Tryd.prog 6 #[] w fun e w' => e = .returned (.bool true) ∧ Below w.heap.size w w' := by
  have hB0 : Below w.heap.size w (w.alloc (.cells #[.int .i64 3, .int .i64 0, .int .i64 63] 3)) := (Below.refl _ _).alloc (Nat.le_refl _) _
  have hof := of_awake (w.alloc (.cells #[.int .i64 3, .int .i64 0, .int .i64 63] 3)) w.heap.size (heap_alloc_new _ _)
  have hE0 := h.below hB0
  go_enter Tryd.func6, Tryd.ntmps6
  go_wp2_with (go_at_call 10; refine hof.mono ?_; rintro r wX ⟨rfl, hwX⟩; subst wX)
  refine (read_awake _ hE0).mono ?_
  rintro e w1 ⟨rfl, hb1⟩
  have hB1 := hB0.trans (hb1.mono hB0.size)
  have hE1 := h.below hB1
  clear hb1 hE0 hof hB0
  have hl := len_awake
  have hh := has_awake
  have ht := text_awake w1 hE1
  go_wp2_with (first
    | (go_at_call 9; refine (hl _).mono ?_; rintro r wX ⟨rfl, hwX⟩; subst wX)
    | (go_at_call 12; refine (hh _).mono ?_; rintro r wX ⟨rfl, hwX⟩; subst wX)
    | (go_at_call 21; refine ht.mono ?_; rintro r w2 ⟨rfl, hb2⟩))
  go_ret
  exact ⟨rfl, hB1.trans (hb2.mono hB1.size)⟩
end Go.Proofs.YtklamncepgejeaaDoor

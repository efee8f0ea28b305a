/- What packet.isField, packet.With and the document's With do: the packet with one number put, whatever the field's number; no conditions but eight numbers. -/
import Derived.Test.YtbcikkofbdfmaaaB0
set_option linter.unusedVariables false
set_option linter.unusedSimpArgs false
namespace Go.Proofs.Ytbcikkofbdfmaaa
open Go.RowKit

abbrev pk (a0 a1 a2 a3 a4 a5 a6 a7 : Int) : Value := .agg #[.int .u16 a0, .int .u16 a1, .int .u16 a2, .int .u16 a3, .int .u16 a4, .int .u16 a5, .int .u16 a6, .int .u16 a7]
def pkl (l : List Int) : Value := .agg (l.map fun z => Value.int .u16 z).toArray
/-- The packet (eight numbers) with the field f being n; itself, of no field. -/
def put (l : List Int) (f n : Int) : List Int := if 0 ≤ f ∧ f < 8 then l.set f.toNat n else l
theorem put_length (l : List Int) (f n : Int) : (put l f n).length = l.length := by unfold put; split <;> simp

theorem eight {l : List Int} (h : l.length = 8) : ∃ a0 a1 a2 a3 a4 a5 a6 a7, l = [a0, a1, a2, a3, a4, a5, a6, a7] := by
  match l, h with
  | [a0, a1, a2, a3, a4, a5, a6, a7], _ => exact ⟨a0, a1, a2, a3, a4, a5, a6, a7, rfl⟩

set_option maxHeartbeats 400000 in
theorem isField_any (f : Int) (w : World) :
    Calls Try.prog 47 #[.int .i64 f] w fun e w' => e = .returned (.bool (decide (0 ≤ f) && decide (f < 8))) ∧ w' = w := by
  by_cases h0 : 0 ≤ f
  · by_cases h8 : f < 8
    · go_enter Try.func47, Try.ntmps47
      go_wp2
      go_ret
      exact ⟨by simp [h0, h8], rfl⟩
    · go_enter Try.func47, Try.ntmps47
      go_wp2
      go_ret
      exact ⟨by simp [h0, h8], rfl⟩
  · go_enter Try.func47, Try.ntmps47
    go_wp2
    go_ret
    exact ⟨by simp; omega, rfl⟩

theorem isField_yes (f : Int) (w : World) (h0 : 0 ≤ f) (h8 : f < 8) :
    Calls Try.prog 47 #[.int .i64 f] w fun e w' => e = .returned (.bool true) ∧ w' = w :=
  (isField_any f w).mono fun e w' ⟨he, hw⟩ => ⟨by rw [he]; simp [h0, h8], hw⟩
theorem isField_no (f : Int) (w : World) (h : f < 0 ∨ 8 ≤ f) :
    Calls Try.prog 47 #[.int .i64 f] w fun e w' => e = .returned (.bool false) ∧ w' = w :=
  (isField_any f w).mono fun e w' ⟨he, hw⟩ => ⟨by rw [he]; rcases h with h | h <;> simp <;> omega, hw⟩

set_option maxHeartbeats 400000 in
theorem with_out (a0 a1 a2 a3 a4 a5 a6 a7 f n : Int) (w : World) (h : f < 0 ∨ 8 ≤ f) :
    Calls Try.prog 61 #[pk a0 a1 a2 a3 a4 a5 a6 a7, .int .i64 f, .int .u16 n] w fun e w' => e = .returned (pk a0 a1 a2 a3 a4 a5 a6 a7) ∧ Below w.heap.size w w' := by
  unfold pk
  go_enter Try.func61, Try.ntmps61
  go_wp2_with (go_at_call 47; refine (isField_no _ _ h).mono ?_; rintro e w' ⟨rfl, rfl⟩)
  refine bodyPost_ret (v := pk a0 a1 a2 a3 a4 a5 a6 a7) (by simp [results, Try.results61, go_sem]) rfl ⟨rfl, ?_⟩
  exact ((Below.refl _ _).alloc (Nat.le_refl _) _).alloc (by simp) _

set_option maxHeartbeats 1000000 in
theorem with_in (a0 a1 a2 a3 a4 a5 a6 a7 f n : Int) (w : World) (h0 : 0 ≤ f) (h8 : f < 8) :
    Calls Try.prog 61 #[pk a0 a1 a2 a3 a4 a5 a6 a7, .int .i64 f, .int .u16 n] w fun e w' => e = .returned (pkl (put [a0, a1, a2, a3, a4, a5, a6, a7] f n)) ∧ Below w.heap.size w w' := by
  have hc : f = 0 ∨ f = 1 ∨ f = 2 ∨ f = 3 ∨ f = 4 ∨ f = 5 ∨ f = 6 ∨ f = 7 := by omega
  unfold pk
  rcases hc with rfl | rfl | rfl | rfl | rfl | rfl | rfl | rfl
  all_goals
    go_enter Try.func61, Try.ntmps61
    go_wp2_with (go_at_call 47; refine (isField_yes _ _ (by omega) (by omega)).mono ?_; rintro e w' ⟨rfl, rfl⟩)
    refine bodyPost_ret (by simp [results, Try.results61, go_sem]; rfl) rfl ⟨by simp [pkl, put], ?_⟩
    exact ((Below.refl _ _).alloc (Nat.le_refl _) _).alloc (by simp) _

theorem with_any (a0 a1 a2 a3 a4 a5 a6 a7 f n : Int) (w : World) :
    Calls Try.prog 61 #[pk a0 a1 a2 a3 a4 a5 a6 a7, .int .i64 f, .int .u16 n] w fun e w' => ∃ b0 b1 b2 b3 b4 b5 b6 b7, e = .returned (pk b0 b1 b2 b3 b4 b5 b6 b7) ∧ put [a0, a1, a2, a3, a4, a5, a6, a7] f n = [b0, b1, b2, b3, b4, b5, b6, b7] ∧ Below w.heap.size w w' := by
  by_cases h : 0 ≤ f ∧ f < 8
  · refine (with_in a0 a1 a2 a3 a4 a5 a6 a7 f n w h.1 h.2).mono fun e w' ⟨he, hb⟩ => ?_
    obtain ⟨b0, b1, b2, b3, b4, b5, b6, b7, hp⟩ := eight (l := put [a0, a1, a2, a3, a4, a5, a6, a7] f n) (by rw [put_length]; rfl)
    rw [hp] at he
    exact ⟨b0, b1, b2, b3, b4, b5, b6, b7, he, hp, hb⟩
  · refine (with_out a0 a1 a2 a3 a4 a5 a6 a7 f n w (by omega)).mono fun e w' ⟨he, hb⟩ => ?_
    exact ⟨a0, a1, a2, a3, a4, a5, a6, a7, he, by simp [put, h], hb⟩

/-- The document's With. -/
theorem rwith_any (a0 a1 a2 a3 a4 a5 a6 a7 f n : Int) (w : World) :
    Calls Try.prog 51 #[pk a0 a1 a2 a3 a4 a5 a6 a7, .int .i64 f, .int .u16 n] w fun e w' => ∃ b0 b1 b2 b3 b4 b5 b6 b7, e = .returned (pk b0 b1 b2 b3 b4 b5 b6 b7) ∧ put [a0, a1, a2, a3, a4, a5, a6, a7] f n = [b0, b1, b2, b3, b4, b5, b6, b7] ∧ Below w.heap.size w w' := by
  unfold pk
  by_cases h : 0 ≤ f ∧ f < 8
  · have hc : f = 0 ∨ f = 1 ∨ f = 2 ∨ f = 3 ∨ f = 4 ∨ f = 5 ∨ f = 6 ∨ f = 7 := by omega
    clear h
    rcases hc with rfl | rfl | rfl | rfl | rfl | rfl | rfl | rfl
    all_goals
      go_enter Try.func51, Try.ntmps51
      go_wp2
      refine bodyPost_ret (by simp [results, Try.results51, go_sem]; rfl) rfl ?_
      refine ⟨_, _, _, _, _, _, _, _, rfl, rfl, ?_⟩
      exact ((Below.refl _ _).alloc (Nat.le_refl _) _).alloc (by simp) _
  · by_cases h0 : 0 ≤ f
    · have h8 : ¬ f < 8 := by omega
      go_enter Try.func51, Try.ntmps51
      go_wp2
      refine bodyPost_ret (v := pk a0 a1 a2 a3 a4 a5 a6 a7) (by simp [results, Try.results51, go_sem]) rfl ⟨_, _, _, _, _, _, _, _, rfl, by simp [put, h], ?_⟩
      exact ((Below.refl _ _).alloc (Nat.le_refl _) _).alloc (by simp) _
    · go_enter Try.func51, Try.ntmps51
      go_wp2
      refine bodyPost_ret (v := pk a0 a1 a2 a3 a4 a5 a6 a7) (by simp [results, Try.results51, go_sem]) rfl ⟨_, _, _, _, _, _, _, _, rfl, by simp [put, h], ?_⟩
      exact ((Below.refl _ _).alloc (Nat.le_refl _) _).alloc (by simp) _
end Go.Proofs.Ytbcikkofbdfmaaa

/- What events.Of and the document's Of do of a list of whole numbers: the set of these events; no conditions but the list's length. -/
import Derived.Test.YtklamncepgejeaaDoorA2
set_option linter.unusedVariables false
set_option linter.unusedSimpArgs false
namespace Go.Proofs.YtklamncepgejeaaDoor
open Go.RowKit

/-- A slice value that reads as this list. -/
def IntsAt (w : World) (v : Value) (L : List Int) : Prop :=
  ∃ p cap, v = .slice p L.length cap ∧ L.length ≤ 9223372036854775807 ∧ (L = [] ∨ ∃ a : Addr, p = some a ∧ a.block < w.heap.size ∧ ∀ i (h : i < L.length), w.cell? (a.add i) = some (.int .i64 L[i]))
theorem IntsAt.below {w w' : World} {v : Value} {L : List Int} (h : IntsAt w v L) (hb : Below w.heap.size w w') : IntsAt w' v L := by
  obtain ⟨p, cap, hv, hl, hc⟩ := h
  refine ⟨p, cap, hv, hl, ?_⟩
  rcases hc with h0 | ⟨a, hp, hlt, hc⟩
  · exact Or.inl h0
  · exact Or.inr ⟨a, hp, Nat.lt_of_lt_of_le hlt hb.size, fun i hi => by rw [hb.cell (p := a.add i) (by unfold Addr.add; split <;> exact hlt)]; exact hc i hi⟩

set_option maxHeartbeats 400000 in
theorem of_nil (p : Option Addr) (cap : Nat) (w : World) : Calls Tryd.prog 10 #[.slice p 0 cap] w fun r w' => r = .returned (sv 0) ∧ w' = w := by
  go_enter Tryd.func10, Tryd.ntmps10
  go_wp2
  refine wp_loop_rounds 1 ?_
  rw [rounds_succ]
  go_wp2
  go_ret
  exact ⟨rfl, rfl⟩
set_option maxHeartbeats 400000 in
theorem of_some (a : Addr) (cap : Nat) (L : List Int) (w : World) (hL : L.length ≤ 9223372036854775807) (hc : ∀ i (h : i < L.length), w.cell? (a.add i) = some (.int .i64 L[i])) :
    Calls Tryd.prog 10 #[.slice (some a) L.length cap] w fun r w' => r = .returned (sv (ofL L)) ∧ w' = w := by
  go_enter Tryd.func10, Tryd.ntmps10
  go_wp2
  go_loopw [3, 8] (fun s i wr => ∃ k : Nat, k ≤ L.length ∧ i = .int .i64 k ∧ s = sv (ofL (L.take k)) ∧ wr = w) (fun _ i _ => L.length - (intOf i).toNat)
  case atStart => exact ⟨0, Nat.zero_le _, rfl, rfl, rfl⟩
  case round =>
    obtain ⟨k, hk, rfl, rfl, rfl⟩ := hrel
    by_cases hlt : k < L.length
    · have hck := hc k hlt
      clear hc
      have hsn := ofL_snoc L k hlt
      have hS : ofL (L.take k) < 18446744073709551616 := ofL_lt (L.take k)
      generalize ofL (L.take k) = S at *
      generalize L[k] = X at *
      have hw : ∀ w, Calls Tryd.prog 14 #[sv S, .int .i64 X] w fun r w' => r = .returned (sv (S ||| bitOf X)) ∧ w' = w := with_any S X hS
      clear hS
      go_wp2_with (go_at_call 14; refine (hw _).mono ?_; rintro r w' ⟨rfl, rfl⟩)
      exact ⟨⟨k + 1, by omega, by go_num, by rw [hsn], trivial⟩, by simp [intOf]; omega⟩
    · have hkn : k = L.length := by omega
      subst hkn
      rw [List.take_length]
      go_wp2
      go_ret
      exact ⟨rfl, rfl⟩
theorem of_any (v : Value) (L : List Int) (w : World) (h : IntsAt w v L) : Calls Tryd.prog 10 #[v] w fun r w' => r = .returned (sv (ofL L)) ∧ w' = w := by
  obtain ⟨p, cap, rfl, hl, hc⟩ := h
  rcases hc with rfl | ⟨a, rfl, _, hc⟩
  · exact of_nil p cap w
  · exact of_some a cap L w hl hc

set_option maxHeartbeats 400000 in
theorem rof_nil (p : Option Addr) (cap : Nat) (w : World) : Calls Tryd.prog 18 #[.slice p 0 cap] w fun r w' => r = .returned (sv 0) ∧ w' = w := by
  go_enter Tryd.func18, Tryd.ntmps18
  go_wp2
  refine wp_loop_rounds 1 ?_
  rw [rounds_succ]
  go_wp2
  go_ret
  exact ⟨rfl, rfl⟩
set_option maxHeartbeats 400000 in
theorem rof_some (a : Addr) (cap : Nat) (L : List Int) (w : World) (hL : L.length ≤ 9223372036854775807) (hc : ∀ i (h : i < L.length), w.cell? (a.add i) = some (.int .i64 L[i])) :
    Calls Tryd.prog 18 #[.slice (some a) L.length cap] w fun r w' => r = .returned (sv (ofL L)) ∧ w' = w := by
  go_enter Tryd.func18, Tryd.ntmps18
  go_wp2
  go_loopw [3, 4] (fun s i wr => ∃ k : Nat, k ≤ L.length ∧ i = .int .i64 k ∧ s = sv (ofL (L.take k)) ∧ wr = w) (fun _ i _ => L.length - (intOf i).toNat)
  case atStart => exact ⟨0, Nat.zero_le _, rfl, rfl, rfl⟩
  case round =>
    obtain ⟨k, hk, rfl, rfl, rfl⟩ := hrel
    by_cases hlt : k < L.length
    · have hck := hc k hlt
      clear hc
      have hsn := ofL_snoc L k hlt
      have hS : ofL (L.take k) < 18446744073709551616 := ofL_lt (L.take k)
      generalize ofL (L.take k) = S at *
      generalize L[k] = X at *
      have hw : ∀ w, Calls Tryd.prog 15 #[sv S, .int .i64 X] w fun r w' => r = .returned (sv (S ||| bitOf X)) ∧ w' = w := rwith_any S X hS
      clear hS
      go_wp2_with (go_at_call 15; refine (hw _).mono ?_; rintro r w' ⟨rfl, rfl⟩)
      exact ⟨⟨k + 1, by omega, by go_num, by rw [hsn], trivial⟩, by simp [intOf]; omega⟩
    · have hkn : k = L.length := by omega
      subst hkn
      rw [List.take_length]
      go_wp2
      go_ret
      exact ⟨rfl, rfl⟩
theorem rof_any (v : Value) (L : List Int) (w : World) (h : IntsAt w v L) : Calls Tryd.prog 18 #[v] w fun r w' => r = .returned (sv (ofL L)) ∧ w' = w := by
  obtain ⟨p, cap, rfl, hl, hc⟩ := h
  rcases hc with rfl | ⟨a, rfl, _, hc⟩
  · exact rof_nil p cap w
  · exact rof_some a cap L w hl hc
end Go.Proofs.YtklamncepgejeaaDoor

/- What the document's formed answers; policies of up to 100000 nodes. -/
import Derived.Test.YtipiepcbgjceaaaR2
import Derived.Test.YtipiepcbgjceaaaR1
import Derived.Test.YtipiepcbgjceaaaK6
set_option linter.unusedVariables false
set_option linter.unusedSimpArgs false
namespace Go.Proofs.Ytipiepcbgjceaaa
open Go.RowKit Go.Joins

theorem formP_is (parts op f n : Int) (kids : List Pl) : formP parts (.mk op f n kids) = (nodeB parts op f n kids && formP.formL parts kids) := by rw [formP]
theorem formL_0 (parts : Int) (kids : List Pl) (X : Bool) : (decide (kids.length = 0) && X && formP.formL parts kids) = (decide (kids.length = 0) && X) := by
  cases kids with
  | nil => simp [formP.formL]
  | cons p r => simp
set_option maxRecDepth 100000 in
set_option maxHeartbeats 4000000 in
theorem rf_0 (parts f n : Int) (kn : Nat) (hl : kn ≤ 100000) (sa : Option Addr) (sc : Nat) (w : World) : Calls Try.prog 41 #[nv ⟨0, f, n, .slice sa kn sc⟩, .int .i64 parts] w fun e w' => e = .returned (.bool (decide (kn = 0) && (decide (f = 0) && decide (n = 0)))) ∧ Below w.heap.size w w' := by
  have h0 := nat_int0 kn
  rcases plain_cases f n with ⟨p1, p2, p3⟩ | ⟨p1, p2, p3⟩ | ⟨p1, p3⟩
  all_goals
    rw [p3]
    clear p3
    rcases h0 with ⟨k1, k2⟩ | ⟨k1, k2⟩
    all_goals
      rw [k2]
      clear k2
      go_enter Try.func41, Try.ntmps41
      go_wp2
      go_ret
      exact ⟨rfl, (Below.refl _ w).alloc (Nat.le_refl _) _⟩
set_option maxRecDepth 100000 in
set_option maxHeartbeats 4000000 in
theorem rf_1 (parts f n : Int) (kn : Nat) (hl : kn ≤ 100000) (sa : Option Addr) (sc : Nat) (w : World) : Calls Try.prog 41 #[nv ⟨1, f, n, .slice sa kn sc⟩, .int .i64 parts] w fun e w' => e = .returned (.bool (decide (kn = 0) && (decide (f = 0) && decide (n = 0)))) ∧ Below w.heap.size w w' := by
  have h0 := nat_int0 kn
  rcases plain_cases f n with ⟨p1, p2, p3⟩ | ⟨p1, p2, p3⟩ | ⟨p1, p3⟩
  all_goals
    rw [p3]
    clear p3
    rcases h0 with ⟨k1, k2⟩ | ⟨k1, k2⟩
    all_goals
      rw [k2]
      clear k2
      go_enter Try.func41, Try.ntmps41
      go_wp2
      go_ret
      exact ⟨rfl, (Below.refl _ w).alloc (Nat.le_refl _) _⟩
set_option maxRecDepth 100000 in
set_option maxHeartbeats 4000000 in
theorem rf_2 (parts f n : Int) (kn : Nat) (hl : kn ≤ 100000) (sa : Option Addr) (sc : Nat) (w : World) : Calls Try.prog 41 #[nv ⟨2, f, n, .slice sa kn sc⟩, .int .i64 parts] w fun e w' => e = .returned (.bool (decide (kn = 0) && (decide (0 ≤ f) && decide (f < 8)))) ∧ Below w.heap.size w w' := by
  have h0 := nat_int0 kn
  cases h1 : decide (0 ≤ f)
  all_goals
    cases h2 : decide (f < 8)
    all_goals
      rcases h0 with ⟨k1, k2⟩ | ⟨k1, k2⟩
      all_goals
        rw [k2]
        clear k2
        go_enter Try.func41, Try.ntmps41
        go_wp2
        go_ret
        exact ⟨rfl, (Below.refl _ w).alloc (Nat.le_refl _) _⟩
set_option maxRecDepth 100000 in
set_option maxHeartbeats 4000000 in
theorem rf_3 (parts f n : Int) (kn : Nat) (hl : kn ≤ 100000) (sa : Option Addr) (sc : Nat) (w : World) : Calls Try.prog 41 #[nv ⟨3, f, n, .slice sa kn sc⟩, .int .i64 parts] w fun e w' => e = .returned (.bool (decide (kn = 0) && (decide (0 ≤ f) && decide (f < parts)))) ∧ Below w.heap.size w w' := by
  have h0 := nat_int0 kn
  cases h1 : decide (0 ≤ f)
  all_goals
    cases h2 : decide (f < parts)
    all_goals
      rcases h0 with ⟨k1, k2⟩ | ⟨k1, k2⟩
      all_goals
        rw [k2]
        clear k2
        go_enter Try.func41, Try.ntmps41
        go_wp2
        go_ret
        exact ⟨rfl, (Below.refl _ w).alloc (Nat.le_refl _) _⟩
set_option maxRecDepth 100000 in
set_option maxHeartbeats 4000000 in
theorem rf_5 (parts f n : Int) (kn : Nat) (hl : kn ≤ 100000) (sa : Option Addr) (sc : Nat) (w : World) : Calls Try.prog 41 #[nv ⟨5, f, n, .slice sa kn sc⟩, .int .i64 parts] w fun e w' => e = .returned (.bool (decide (kn = 0) && (decide (1 ≤ f) && decide (f < 8)))) ∧ Below w.heap.size w w' := by
  have h0 := nat_int0 kn
  cases h1 : decide (1 ≤ f)
  all_goals
    cases h2 : decide (f < 8)
    all_goals
      rcases h0 with ⟨k1, k2⟩ | ⟨k1, k2⟩
      all_goals
        rw [k2]
        clear k2
        go_enter Try.func41, Try.ntmps41
        go_wp2
        go_ret
        exact ⟨rfl, (Below.refl _ w).alloc (Nat.le_refl _) _⟩
set_option maxRecDepth 100000 in
set_option maxHeartbeats 4000000 in
theorem rf_else (parts f n : Int) (kn : Nat) (hl : kn ≤ 100000) (sa : Option Addr) (sc : Nat) (w : World) (op : Int) (h0 : op ≠ 0) (h1 : op ≠ 1) (h2 : op ≠ 2) (h3 : op ≠ 3) (h4 : op ≠ 4) (h5 : op ≠ 5) (h6 : op ≠ 6) (h7 : op ≠ 7) : Calls Try.prog 41 #[nv ⟨op, f, n, .slice sa kn sc⟩, .int .i64 parts] w fun e w' => e = .returned (.bool (false)) ∧ Below w.heap.size w w' := by
  have d0 : (op == 0) = false := by simpa using h0
  have d1 : (op == 1) = false := by simpa using h1
  have d2 : (op == 2) = false := by simpa using h2
  have d3 : (op == 3) = false := by simpa using h3
  have d4 : (op == 4) = false := by simpa using h4
  have d5 : (op == 5) = false := by simpa using h5
  have d6 : (op == 6) = false := by simpa using h6
  have d7 : (op == 7) = false := by simpa using h7
  clear h0 h1 h2 h3 h4 h5 h6 h7
  go_enter Try.func41, Try.ntmps41
  go_wp2
  go_ret
  exact ⟨rfl, (Below.refl _ w).alloc (Nat.le_refl _) _⟩
set_option maxRecDepth 100000 in
set_option maxHeartbeats 4000000 in
theorem rf_4no (parts f n : Int) (kn : Nat) (hl : kn ≤ 100000) (sa : Option Addr) (sc : Nat) (w : World) (hn : (decide (kn = 1) && (decide (f = 0) && decide (n = 0))) = false) : Calls Try.prog 41 #[nv ⟨4, f, n, .slice sa kn sc⟩, .int .i64 parts] w fun e w' => e = .returned (.bool (false)) ∧ Below w.heap.size w w' := by
  rcases nat_int1 kn with ⟨k1, k2⟩ | ⟨k1, k2⟩
  · rcases plain_cases f n with ⟨p1, p2, p3⟩ | ⟨p1, p2, p3⟩ | ⟨p1, p3⟩
    · rw [k2, p3] at hn; cases hn
    all_goals
      clear hn p3 k2
      go_enter Try.func41, Try.ntmps41
      go_wp2
      go_ret
      exact ⟨rfl, (Below.refl _ w).alloc (Nat.le_refl _) _⟩
  · clear hn k2
    go_enter Try.func41, Try.ntmps41
    go_wp2
    go_ret
    exact ⟨rfl, (Below.refl _ w).alloc (Nat.le_refl _) _⟩
set_option maxRecDepth 100000 in
set_option maxHeartbeats 4000000 in
theorem rf_no6 (parts f n : Int) (kn : Nat) (hl : kn ≤ 100000) (sa : Option Addr) (sc : Nat) (w : World) (hn : (decide (2 ≤ kn) && (decide (f = 0) && decide (n = 0))) = false) : Calls Try.prog 41 #[nv ⟨6, f, n, .slice sa kn sc⟩, .int .i64 parts] w fun e w' => e = .returned (.bool (false)) ∧ Below w.heap.size w w' := by
  rcases nat_int2 kn with ⟨k1, k2⟩ | ⟨k1, k2⟩
  · have k3 : decide ((kn : Int) < 2) = false := by simp at k1 ⊢; omega
    rcases plain_cases f n with ⟨p1, p2, p3⟩ | ⟨p1, p2, p3⟩ | ⟨p1, p3⟩
    · rw [k2, p3] at hn; cases hn
    · have q1 : (f != 0) = false := by rw [bne, p1]; rfl
      have q2 : (n != 0) = true := by rw [bne, p2]; rfl
      clear hn p1 p2 p3 k1 k2
      go_enter Try.func41, Try.ntmps41
      go_wp2
      go_ret
      exact ⟨rfl, (Below.refl _ w).alloc (Nat.le_refl _) _⟩
    · have q1 : (f != 0) = true := by rw [bne, p1]; rfl
      clear hn p1 p3 k1 k2
      go_enter Try.func41, Try.ntmps41
      go_wp2
      go_ret
      exact ⟨rfl, (Below.refl _ w).alloc (Nat.le_refl _) _⟩
  · have k3 : decide ((kn : Int) < 2) = true := by simp at k1 ⊢; omega
    clear hn k1 k2
    go_enter Try.func41, Try.ntmps41
    go_wp2
    go_ret
    exact ⟨rfl, (Below.refl _ w).alloc (Nat.le_refl _) _⟩
set_option maxRecDepth 100000 in
set_option maxHeartbeats 4000000 in
theorem rf_no7 (parts f n : Int) (kn : Nat) (hl : kn ≤ 100000) (sa : Option Addr) (sc : Nat) (w : World) (hn : (decide (2 ≤ kn) && (decide (f = 0) && decide (n = 0))) = false) : Calls Try.prog 41 #[nv ⟨7, f, n, .slice sa kn sc⟩, .int .i64 parts] w fun e w' => e = .returned (.bool (false)) ∧ Below w.heap.size w w' := by
  rcases nat_int2 kn with ⟨k1, k2⟩ | ⟨k1, k2⟩
  · have k3 : decide ((kn : Int) < 2) = false := by simp at k1 ⊢; omega
    rcases plain_cases f n with ⟨p1, p2, p3⟩ | ⟨p1, p2, p3⟩ | ⟨p1, p3⟩
    · rw [k2, p3] at hn; cases hn
    · have q1 : (f != 0) = false := by rw [bne, p1]; rfl
      have q2 : (n != 0) = true := by rw [bne, p2]; rfl
      clear hn p1 p2 p3 k1 k2
      go_enter Try.func41, Try.ntmps41
      go_wp2
      go_ret
      exact ⟨rfl, (Below.refl _ w).alloc (Nat.le_refl _) _⟩
    · have q1 : (f != 0) = true := by rw [bne, p1]; rfl
      clear hn p1 p3 k1 k2
      go_enter Try.func41, Try.ntmps41
      go_wp2
      go_ret
      exact ⟨rfl, (Below.refl _ w).alloc (Nat.le_refl _) _⟩
  · have k3 : decide ((kn : Int) < 2) = true := by simp at k1 ⊢; omega
    clear hn k1 k2
    go_enter Try.func41, Try.ntmps41
    go_wp2
    go_ret
    exact ⟨rfl, (Below.refl _ w).alloc (Nat.le_refl _) _⟩
end Go.Proofs.Ytipiepcbgjceaaa

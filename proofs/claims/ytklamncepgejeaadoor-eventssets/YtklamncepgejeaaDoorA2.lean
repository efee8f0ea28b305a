/- What Len and First of package events do, and the document's pow, Has, With and Without: sets are numbers below 2^64; no conditions but the argument's own range and the table that TrailingZeros64 reads. -/
import Derived.Test.YtklamncepgejeaaDoorA1
import Derived.Deep.QuietTactic
import Derived.BigQuiet
set_option linter.unusedVariables false
set_option linter.unusedSimpArgs false
namespace Go.Proofs.YtklamncepgejeaaDoor
open Go.RowKit

theorem len_any (s : Nat) (hs : s < 18446744073709551616) (w : World) : Calls Tryd.prog 9 #[sv s] w fun r w' => r = .returned (.int .i64 (evs s).length) ∧ w' = w := by
  rw [← cnt_evs]
  go_enter Tryd.func9, Tryd.ntmps9
  go_wp2_with (go_at_call 25; refine (ones_any s hs _).mono ?_; rintro r w' ⟨rfl, rfl⟩)
  go_ret
  exact ⟨rfl, rfl⟩
theorem first_none (w : World) : Calls Tryd.prog 11 #[sv 0] w fun r w' => r = .returned (.tuple #[.int .i64 0, .bool false]) ∧ w' = w := by
  go_enter Tryd.func11, Tryd.ntmps11
  go_wp2
  exact bodyPost_ret (v := .tuple #[.int .i64 0, .bool false]) (by simp [results, Tryd.results11, go_sem]) rfl ⟨rfl, rfl⟩
theorem first_some (s : Nat) (hs : s < 18446744073709551616) (h0 : s ≠ 0) (w : World) (hT : TabAt 0 Lib.deBruijn64tab w) : Calls Tryd.prog 11 #[sv s] w fun r w' => r = .returned (.tuple #[.int .i64 (Lib.ctz 64 s), .bool true]) ∧ w' = w := by
  have hz : (((s : Int)) == 0) = false := by rw [nat_eq0]; simp [h0]
  go_enter Tryd.func11, Tryd.ntmps11
  go_wp2_with (go_at_call 26; refine (Tryd.bits_TrailingZeros64 s hs _ (fun _ => hT)).mono ?_; rintro r w' ⟨rfl, rfl⟩)
  exact bodyPost_ret (v := .tuple #[.int .i64 (Lib.ctz 64 s), .bool true]) (by simp [results, Tryd.results11, go_sem]) rfl ⟨rfl, rfl⟩
theorem pow_lt (k : Nat) (h : k < 64) : 2 ^ k < 18446744073709551616 := by
  have : (2 : Nat) ^ k < 2 ^ 64 := Nat.pow_lt_pow_right (by decide) h
  omega
set_option maxHeartbeats 400000 in
theorem pow_any (n : Nat) (hn : n < 64) (w : World) : Calls Tryd.prog 24 #[.int .i64 n] w fun r w' => r = .returned (sv (2 ^ n)) ∧ w' = w := by
  go_enter Tryd.func24, Tryd.ntmps24
  go_wp2
  go_loopw [3, 4] (fun p i wr => ∃ k : Nat, k ≤ n ∧ i = .int .i64 k ∧ p = sv (2 ^ k) ∧ wr = w) (fun _ i _ => n - (intOf i).toNat)
  case atStart => exact ⟨0, Nat.zero_le _, rfl, rfl, rfl⟩
  case round =>
    obtain ⟨k, hk, rfl, rfl, rfl⟩ := hrel
    by_cases hlt : k < n
    · have hw : IntKind.u64.wrap (2 * ((2 ^ k : Nat) : Int)) = ((2 ^ (k + 1) : Nat) : Int) := by
        have h1 := pow_lt (k + 1) (by omega)
        have e : 2 * ((2 ^ k : Nat) : Int) = ((2 ^ (k + 1) : Nat) : Int) := by rw [Nat.pow_succ]; omega
        rw [e, wrap_nat _ h1]
      generalize hX : 2 ^ k = X at *
      go_wp2
      exact ⟨⟨k + 1, by omega, by go_num, by simp [sv], trivial⟩, by simp [intOf]; omega⟩
    · have hkn : k = n := by omega
      subst hkn
      go_wp2
      go_ret
      exact ⟨rfl, rfl⟩
theorem quo_bit (s n : Nat) (hs : s < 18446744073709551616) : ((IntKind.u64.wrap ((s : Int) / ((2 ^ n : Nat) : Int))).tmod 2 == 1) = s.testBit n := by
  have e : ((s : Int) / ((2 ^ n : Nat) : Int)) = ((s / 2 ^ n : Nat) : Int) := by simp
  have hl : s / 2 ^ n < 18446744073709551616 := Nat.lt_of_le_of_lt (Nat.div_le_self _ _) hs
  rw [e, wrap_nat _ hl, Nat.testBit_eq_decide_div_mod_eq, Int.tmod_eq_emod_of_nonneg (Int.natCast_nonneg _)]
  generalize s / 2 ^ n = m
  rw [Bool.eq_iff_iff, beq_iff_eq, decide_eq_true_iff]
  omega
set_option maxHeartbeats 400000 in
theorem rhas_in (s : Nat) (n : Nat) (hn : n < 64) (hs : s < 18446744073709551616) (w : World) : Calls Tryd.prog 13 #[sv s, .int .i64 n] w fun r w' => r = .returned (.bool (s.testBit n)) ∧ w' = w := by
  have hp := pow_lt n hn
  have hq := quo_bit s n hs
  have hpow := pow_any n hn
  have hpos : 0 < 2 ^ n := Nat.two_pow_pos n
  generalize 2 ^ n = X at *
  go_enter Tryd.func13, Tryd.ntmps13
  go_wp2_with (go_at_call 24; refine (hpow _).mono ?_; rintro r w' ⟨rfl, rfl⟩)
  go_ret
  exact ⟨rfl, rfl⟩
set_option maxHeartbeats 400000 in
theorem rhas_out (s : Nat) (e : Int) (he : e < 0 ∨ 64 ≤ e) (w : World) : Calls Tryd.prog 13 #[sv s, .int .i64 e] w fun r w' => r = .returned (.bool false) ∧ w' = w := by
  by_cases h0 : 0 ≤ e
  · have h1 : ¬ e < 64 := by omega
    go_enter Tryd.func13, Tryd.ntmps13
    go_wp2
    go_ret
    exact ⟨rfl, rfl⟩
  · go_enter Tryd.func13, Tryd.ntmps13
    go_wp2
    go_ret
    exact ⟨rfl, rfl⟩
theorem rhas_any (s : Nat) (e : Int) (hs : s < 18446744073709551616) (w : World) : Calls Tryd.prog 13 #[sv s, .int .i64 e] w fun r w' => r = .returned (.bool (decide (0 ≤ e) && s.testBit e.toNat)) ∧ w' = w := by
  by_cases h : 0 ≤ e ∧ e < 64
  · obtain ⟨n, rfl⟩ : ∃ n : Nat, e = (n : Int) := ⟨e.toNat, by omega⟩
    refine (rhas_in s n (by omega) hs w).mono fun r w' ⟨hr, hw⟩ => ⟨?_, hw⟩
    rw [hr]; simp
  · refine (rhas_out s e (by omega) w).mono fun r w' ⟨hr, hw⟩ => ⟨?_, hw⟩
    rw [hr]
    by_cases h0 : 0 ≤ e
    · rw [high s e.toNat hs (by omega)]; simp
    · simp [h0]
set_option maxHeartbeats 400000 in
theorem rwith_any (s : Nat) (e : Int) (hs : s < 18446744073709551616) (w : World) : Calls Tryd.prog 15 #[sv s, .int .i64 e] w fun r w' => r = .returned (sv (s ||| bitOf e)) ∧ w' = w := by
  by_cases h0 : e < 0
  · rw [bitOf_out e (Or.inl h0), Nat.or_zero]
    go_enter Tryd.func15, Tryd.ntmps15
    go_wp2
    go_ret
    exact ⟨rfl, rfl⟩
  · by_cases h1 : 63 < e
    · rw [bitOf_out e (Or.inr (by omega)), Nat.or_zero]
      go_enter Tryd.func15, Tryd.ntmps15
      go_wp2
      go_ret
      exact ⟨rfl, rfl⟩
    · obtain ⟨n, rfl⟩ : ∃ n : Nat, e = (n : Int) := ⟨e.toNat, by omega⟩
      have hn : n < 64 := by omega
      have hpow := pow_any n hn
      have hb : bitOf (n : Int) = 2 ^ n := by rw [bitOf_in _ (by omega) (by omega)]; simp
      have hlt := pow_lt n hn
      rw [hb]
      cases ht : s.testBit n
      · have hsum : IntKind.u64.wrap ((s : Int) + ((2 ^ n : Nat) : Int)) = ((s ||| 2 ^ n : Nat) : Int) := by
          have h2 := or_lt s _ hs hlt
          rw [← plus_bit s n ht] at h2 ⊢
          rw [← Int.natCast_add, wrap_nat _ h2]
        have hhas : ∀ w, Calls Tryd.prog 13 #[sv s, .int .i64 n] w fun r w' => r = .returned (.bool false) ∧ w' = w := by
          have := rhas_in s n hn hs; rwa [ht] at this
        clear ht hb h0 
        generalize s ||| 2 ^ n = Z at *
        generalize 2 ^ n = X at *
        go_enter Tryd.func15, Tryd.ntmps15
        go_wp2_with (first
          | (go_at_call 13; refine (hhas _).mono ?_; rintro r w' ⟨rfl, rfl⟩)
          | (go_at_call 24; refine (hpow _).mono ?_; rintro r w' ⟨rfl, rfl⟩))
        go_ret
        exact ⟨rfl, rfl⟩
      · rw [or_bit_self s n ht]
        have hhas : ∀ w, Calls Tryd.prog 13 #[sv s, .int .i64 n] w fun r w' => r = .returned (.bool true) ∧ w' = w := by
          have := rhas_in s n hn hs; rwa [ht] at this
        clear ht hb h0 hlt hpow
        go_enter Tryd.func15, Tryd.ntmps15
        go_wp2_with (go_at_call 13; refine (hhas _).mono ?_; rintro r w' ⟨rfl, rfl⟩)
        go_ret
        exact ⟨rfl, rfl⟩
set_option maxHeartbeats 400000 in
theorem rwithout_any (s : Nat) (e : Int) (hs : s < 18446744073709551616) (w : World) : Calls Tryd.prog 17 #[sv s, .int .i64 e] w fun r w' => r = .returned (sv (diff s (bitOf e))) ∧ w' = w := by
  cases ht : (decide (0 ≤ e) && s.testBit e.toNat)
  · have hhas : ∀ w, Calls Tryd.prog 13 #[sv s, .int .i64 e] w fun r w' => r = .returned (.bool false) ∧ w' = w := by
      have := rhas_any s e hs; rwa [ht] at this
    have hd : diff s (bitOf e) = s := by
      by_cases h : 0 ≤ e ∧ e < 64
      · rw [bitOf_in e h.1 h.2]
        apply diff_none
        simpa [h.1] using ht
      · rw [bitOf_out e (by omega), diff_self]
    rw [hd]
    clear ht hd
    go_enter Tryd.func17, Tryd.ntmps17
    go_wp2_with (go_at_call 13; refine (hhas _).mono ?_; rintro r w' ⟨rfl, rfl⟩)
    go_ret
    exact ⟨rfl, rfl⟩
  · have hhas : ∀ w, Calls Tryd.prog 13 #[sv s, .int .i64 e] w fun r w' => r = .returned (.bool true) ∧ w' = w := by
      have := rhas_any s e hs; rwa [ht] at this
    simp only [Bool.and_eq_true, decide_eq_true_eq] at ht
    obtain ⟨h0, ht⟩ := ht
    have h64 : e < 64 := by
      apply Int.lt_of_not_ge
      intro hge
      rw [high s e.toNat hs (by omega)] at ht; cases ht
    obtain ⟨n, rfl⟩ : ∃ n : Nat, e = (n : Int) := ⟨e.toNat, by omega⟩
    have ht' : s.testBit n = true := ht
    have hpow := pow_any n (by omega)
    have hb : bitOf (n : Int) = 2 ^ n := by rw [bitOf_in _ (by omega) (by omega)]; simp
    have hsub : IntKind.u64.wrap ((s : Int) - ((2 ^ n : Nat) : Int)) = ((diff s (2 ^ n) : Nat) : Int) := by
      have hle := Nat.ge_two_pow_of_testBit ht'
      rw [← minus_bit s n ht', IntKind.wrap_u64]
      generalize 2 ^ n = X at *
      omega
    rw [hb]
    clear ht ht' hb
    generalize diff s (2 ^ n) = Z at *
    generalize 2 ^ n = X at *
    go_enter Tryd.func17, Tryd.ntmps17
    go_wp2_with (first
      | (go_at_call 13; refine (hhas _).mono ?_; rintro r w' ⟨rfl, rfl⟩)
      | (go_at_call 24; refine (hpow _).mono ?_; rintro r w' ⟨rfl, rfl⟩))
    go_ret
    exact ⟨rfl, rfl⟩
end Go.Proofs.YtklamncepgejeaaDoor

/- What bit, With, Without, Has, In, Len and First of package events do, and the document's pow, Has, With and Without: sets are numbers below 2^64; no conditions but the argument's own range and the table that TrailingZeros64 reads. -/
import Derived.Test.YtklamncepgejeaaDoorShelf
import Derived.Test.YtklamncepgejeaaDoorM1b
import Derived.WalkKit
import Derived.WalkSpells
import Derived.WalkLawsBesides
import Derived.Laws.Bits64b
import Derived.Laws.Bits128
set_option linter.unusedVariables false
set_option linter.unusedSimpArgs false
namespace Go.Proofs.YtklamncepgejeaaDoor
open Go.RowKit

/-- The value of a set. -/
abbrev sv (s : Nat) : Value := .int .u64 (s : Int)

theorem bits_andNot_u64 (a b : Nat) (ha : a < 18446744073709551616) (hb : b < 18446744073709551616) :
    bits .andNot .u64 (a : Int) (b : Int) = ((diff a b : Nat) : Int) := by
  have h1 : (BitVec.ofInt 64 (a : Int)).toNat = a := by
    rw [BitVec.ofInt_natCast, BitVec.toNat_ofNat]; exact Nat.mod_eq_of_lt (by omega)
  have h2 : (BitVec.ofInt 64 (b : Int)).toNat = b := by
    rw [BitVec.ofInt_natCast, BitVec.toNat_ofNat]; exact Nat.mod_eq_of_lt (by omega)
  have e : (BitVec.ofInt 64 (a : Int) &&& ~~~ BitVec.ofInt 64 (b : Int)).toNat = diff a b := by
    rw [BitVec.toNat_and, BitVec.toNat_not, h1, h2]
    apply Nat.eq_of_testBit_eq
    intro i
    have : 2 ^ 64 - 1 - b = 2 ^ 64 - (b + 1) := by omega
    rw [Nat.testBit_and, testBit_diff, this, Nat.testBit_two_pow_sub_succ (by omega)]
    by_cases hi : i < 64
    · simp [hi]
    · rw [high a i ha (by omega)]; simp
  show IntKind.u64.wrap ((BitVec.ofInt 64 (a : Int) &&& ~~~ BitVec.ofInt 64 (b : Int)).toNat : Int) = _
  have hl := diff_lt a b ha
  rw [e, IntKind.wrap_u64]
  omega
theorem wrap_nat (n : Nat) (h : n < 18446744073709551616) : IntKind.u64.wrap (n : Int) = (n : Int) := by rw [IntKind.wrap_u64]; omega

theorem shl_at : ∀ n, n < 64 → IntKind.u64.wrap ((2 : Int) ^ n) = ((2 ^ n : Nat) : Int) := by
  intro n hn
  have : (2 : Nat) ^ n < 2 ^ 64 := Nat.pow_lt_pow_right (by decide) hn
  have e : ((2 : Int) ^ n) = ((2 ^ n : Nat) : Int) := by simp
  rw [e, wrap_nat _ (by omega)]

set_option maxHeartbeats 400000 in
theorem bit_any (e : Int) (w : World) : Calls Tryd.prog 27 #[.int .i64 e] w fun r w' => r = .returned (sv (bitOf e)) ∧ w' = w := by
  by_cases h0 : e < 0
  · go_enter Tryd.func27, Tryd.ntmps27
    go_wp2
    go_ret
    exact ⟨by rw [bitOf_out e (Or.inl h0)]; rfl, rfl⟩
  · by_cases h1 : 64 ≤ e
    · go_enter Tryd.func27, Tryd.ntmps27
      go_wp2
      go_ret
      exact ⟨by rw [bitOf_out e (Or.inr h1)]; rfl, rfl⟩
    · go_enter Tryd.func27, Tryd.ntmps27
      go_wp2
      go_ret
      exact ⟨by rw [bitOf_in e (by omega) (by omega), shl_at _ (by omega)]; rfl, rfl⟩

set_option maxHeartbeats 400000 in
theorem with_any (s : Nat) (e : Int) (hs : s < 18446744073709551616) (w : World) : Calls Tryd.prog 14 #[sv s, .int .i64 e] w fun r w' => r = .returned (sv (s ||| bitOf e)) ∧ w' = w := by
  have hb := bits_or_u64_nat s (bitOf e) hs (bitOf_lt e)
  go_enter Tryd.func14, Tryd.ntmps14
  go_wp2_with (go_at_call 27; refine (bit_any _ _).mono ?_; rintro r w' ⟨rfl, rfl⟩)
  go_ret
  exact ⟨rfl, rfl⟩
set_option maxHeartbeats 400000 in
theorem without_any (s : Nat) (e : Int) (hs : s < 18446744073709551616) (w : World) : Calls Tryd.prog 16 #[sv s, .int .i64 e] w fun r w' => r = .returned (sv (diff s (bitOf e))) ∧ w' = w := by
  have hb := bits_andNot_u64 s (bitOf e) hs (bitOf_lt e)
  go_enter Tryd.func16, Tryd.ntmps16
  go_wp2_with (go_at_call 27; refine (bit_any _ _).mono ?_; rintro r w' ⟨rfl, rfl⟩)
  go_ret
  exact ⟨rfl, rfl⟩
theorem nat_ne (n : Nat) : (((n : Int)) != 0) = (n != 0) := by
  rw [Bool.eq_iff_iff]; simp
theorem nat_eq0 (n : Nat) : (((n : Int)) == 0) = decide (n = 0) := by
  rw [Bool.eq_iff_iff]; simp
theorem has_bit (s : Nat) (e : Int) (hs : s < 18446744073709551616) : (s &&& bitOf e != 0) = (decide (0 ≤ e) && s.testBit e.toNat) := by
  by_cases h : 0 ≤ e ∧ e < 64
  · rw [bitOf_in e h.1 h.2, Bool.eq_iff_iff]
    have := and_bit s e.toNat
    simp [h.1]
    rw [this]; simp
  · rw [bitOf_out e (by omega)]
    by_cases h0 : 0 ≤ e
    · rw [high s e.toNat hs (by omega)]; simp
    · simp [h0]
set_option maxHeartbeats 400000 in
theorem has_any (s : Nat) (e : Int) (hs : s < 18446744073709551616) (w : World) : Calls Tryd.prog 12 #[sv s, .int .i64 e] w fun r w' => r = .returned (.bool (decide (0 ≤ e) && s.testBit e.toNat)) ∧ w' = w := by
  have hb := bits_and_u64_nat s (bitOf e) hs (bitOf_lt e)
  go_enter Tryd.func12, Tryd.ntmps12
  go_wp2_with (go_at_call 27; refine (bit_any _ _).mono ?_; rintro r w' ⟨rfl, rfl⟩)
  go_ret
  exact ⟨by rw [← has_bit s e hs, ← nat_ne]; rfl, rfl⟩
set_option maxHeartbeats 400000 in
theorem in_any (a b : Nat) (ha : a < 18446744073709551616) (hb : b < 18446744073709551616) (w : World) : Calls Tryd.prog 19 #[sv a, sv b] w fun r w' => r = .returned (.bool (decide (diff a b = 0))) ∧ w' = w := by
  have hb := bits_andNot_u64 a b ha hb
  go_enter Tryd.func19, Tryd.ntmps19
  go_wp2
  go_ret
  exact ⟨by rw [← nat_eq0]; rfl, rfl⟩

theorem and_c (a m : Nat) (z : Int) (hm : m < 18446744073709551616) (ha : a < 18446744073709551616) (hz : z = (a : Int)) : bits .and .u64 z (m : Int) = ((a &&& m : Nat) : Int) := by
  rw [hz]; exact bits_and_u64_nat a m ha hm
theorem step12 (x m d : Nat) (hm : 2 * m < 18446744073709551616) (hx : x < 18446744073709551616) (z : Int) (hz : z = ((x / d : Nat) : Int)) : IntKind.u64.wrap (bits .and .u64 z (m : Int) + bits .and .u64 (x : Int) (m : Int)) = (((x / d &&& m) + (x &&& m) : Nat) : Int) := by
  have h1 : x / d &&& m ≤ m := Nat.and_le_right
  have h2 : x &&& m ≤ m := Nat.and_le_right
  have h3 : x / d ≤ x := Nat.div_le_self _ _
  rw [and_c (x / d) m z (by omega) (by omega) hz, and_c x m x (by omega) hx rfl, IntKind.wrap_u64]
  omega
theorem step3 (x m : Nat) (hx : 17 * x / 16 < 18446744073709551616) (hm : m < 18446744073709551616) : bits .and .u64 (IntKind.u64.wrap ((x : Int) / 16 + (x : Int))) (m : Int) = (((x / 16 + x) &&& m : Nat) : Int) := by
  refine and_c (x / 16 + x) m _ hm (by omega) ?_
  rw [IntKind.wrap_u64]; omega
theorem S1_lt (x : Nat) : S1 6148914691236517205 x < 18446744073709551616 := by
  have h1 : x / 2 &&& 6148914691236517205 ≤ 6148914691236517205 := Nat.and_le_right
  have h2 : x &&& 6148914691236517205 ≤ 6148914691236517205 := Nat.and_le_right
  unfold S1; omega
theorem S2_lt (x : Nat) : S2 3689348814741910323 x ≤ 7378697629483820646 := by
  have h1 : x / 4 &&& 3689348814741910323 ≤ 3689348814741910323 := Nat.and_le_right
  have h2 : x &&& 3689348814741910323 ≤ 3689348814741910323 := Nat.and_le_right
  unfold S2; omega
theorem S3_lt (x : Nat) : S3 1085102592571150095 x ≤ 1085102592571150095 := by unfold S3; exact Nat.and_le_right
theorem masks : mask 85 8 = 6148914691236517205 ∧ mask 51 8 = 3689348814741910323 ∧ mask 15 8 = 1085102592571150095 := by decide

theorem last7 (y c : Nat) (h : y % 128 = c) : bits .and .i64 (wrap64 (y : Int)) 127 = (c : Int) := by
  rw [i64_and127]; unfold wrap64; omega

set_option maxHeartbeats 1000000 in
theorem ones_any (x : Nat) (hx : x < 18446744073709551616) (w : World) : Calls Tryd.prog 25 #[sv x] w fun r w' => r = .returned (.int .i64 (cnt 64 x)) ∧ w' = w := by
  have hones := ones x
  have hl := (lanes 8 x).2
  obtain ⟨m1, m2, m3⟩ := masks
  rw [m1, m2, m3] at hl
  rw [← hl] at hones
  have k1 : IntKind.u64.wrap (bits .and .u64 ((x : Int) / 2) 6148914691236517205 + bits .and .u64 (x : Int) 6148914691236517205) = ((S1 6148914691236517205 x : Nat) : Int) := step12 x 6148914691236517205 2 (by decide) hx _ (by omega)
  have l1 := S1_lt x
  generalize S1 6148914691236517205 x = y1 at *
  have k2 : IntKind.u64.wrap (bits .and .u64 ((y1 : Int) / 4) 3689348814741910323 + bits .and .u64 (y1 : Int) 3689348814741910323) = ((S2 3689348814741910323 y1 : Nat) : Int) := step12 y1 3689348814741910323 4 (by decide) l1 _ (by omega)
  have l2 := S2_lt y1
  generalize S2 3689348814741910323 y1 = y2 at *
  have k3 : bits .and .u64 (IntKind.u64.wrap ((y2 : Int) / 16 + (y2 : Int))) 1085102592571150095 = ((S3 1085102592571150095 y2 : Nat) : Int) := step3 y2 1085102592571150095 (by omega) (by decide)
  have l3 := S3_lt y2
  generalize S3 1085102592571150095 y2 = y3 at *
  unfold fin at hones
  have k4 : IntKind.u64.wrap ((y3 : Int) + (y3 : Int) / 256) = (((y3 + y3 / 256) % 18446744073709551616 : Nat) : Int) := by rw [IntKind.wrap_u64]; omega
  generalize (y3 + y3 / 256) % 18446744073709551616 = y4 at *
  have k5 : IntKind.u64.wrap ((y4 : Int) + (y4 : Int) / 65536) = (((y4 + y4 / 65536) % 18446744073709551616 : Nat) : Int) := by rw [IntKind.wrap_u64]; omega
  generalize (y4 + y4 / 65536) % 18446744073709551616 = y5 at *
  have k6 : IntKind.u64.wrap ((y5 : Int) + (y5 : Int) / 4294967296) = (((y5 + y5 / 4294967296) % 18446744073709551616 : Nat) : Int) := by rw [IntKind.wrap_u64]; omega
  generalize (y5 + y5 / 4294967296) % 18446744073709551616 = y6 at *
  have k7 : bits .and .i64 (wrap64 (y6 : Int)) 127 = ((cnt 64 x : Nat) : Int) := last7 y6 _ hones
  clear hones hl l1 l2 l3 m1 m2 m3
  go_enter Tryd.func25, Tryd.ntmps25
  go_wp2
  go_ret
  exact ⟨rfl, rfl⟩
end Go.Proofs.YtklamncepgejeaaDoor

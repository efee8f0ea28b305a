/- Numbers as sets of events: which events a number below 2^64 holds, how many, and what and, or and without make of them; no program, no conditions. -/
import Derived.Lib.TrailingZeros
set_option linter.unusedVariables false
set_option linter.unusedSimpArgs false
namespace Go.Proofs.YtklamncepgejeaaDoor

/-- The events of a set, rising. -/
def evs (s : Nat) : List Nat := (List.range 64).filter fun i => s.testBit i
/-- What is in a and not in b. -/
def diff (a b : Nat) : Nat := a ^^^ (a &&& b)
/-- The set of one event; of no event, none. -/
def bitOf (e : Int) : Nat := if 0 ≤ e ∧ e < 64 then 2 ^ e.toNat else 0
/-- The set of these events. -/
def ofL (L : List Int) : Nat := L.foldl (fun a e => a ||| bitOf e) 0

theorem testBit_diff (a b i : Nat) : (diff a b).testBit i = (a.testBit i && !b.testBit i) := by
  simp only [diff, Nat.testBit_xor, Nat.testBit_and]
  cases a.testBit i <;> cases b.testBit i <;> rfl
theorem diff_lt (a b : Nat) (h : a < 18446744073709551616) : diff a b < 18446744073709551616 := by
  have : diff a b < 2 ^ 64 := Nat.lt_pow_two_of_testBit _ fun i hi => by
    rw [testBit_diff, Nat.testBit_lt_two_pow (Nat.lt_of_lt_of_le (show a < 2 ^ 64 by omega) (Nat.pow_le_pow_right (by decide) hi))]; rfl
  omega
theorem high (s i : Nat) (h : s < 18446744073709551616) (hi : 64 ≤ i) : s.testBit i = false :=
  Nat.testBit_lt_two_pow (Nat.lt_of_lt_of_le (show s < 2 ^ 64 by omega) (Nat.pow_le_pow_right (by decide) hi))
theorem bitOf_lt (e : Int) : bitOf e < 18446744073709551616 := by
  unfold bitOf; split
  · have : 2 ^ e.toNat < 2 ^ 64 := Nat.pow_lt_pow_right (by decide) (by omega)
    omega
  · omega
theorem testBit_bitOf (e : Int) (i : Nat) : (bitOf e).testBit i = decide (e = (i : Int) ∧ i < 64) := by
  unfold bitOf; split
  · rw [Nat.testBit_two_pow]; congr 1; apply propext; omega
  · rw [Nat.zero_testBit]; symm; rw [decide_eq_false_iff_not]; omega
theorem and_lt (a b : Nat) (h : a < 18446744073709551616) : a &&& b < 18446744073709551616 := Nat.lt_of_le_of_lt Nat.and_le_left h
theorem or_lt (a b : Nat) (h : a < 18446744073709551616) (h' : b < 18446744073709551616) : a ||| b < 18446744073709551616 := by
  have := Nat.or_lt_two_pow (n := 64) (show a < 2 ^ 64 by omega) (show b < 2 ^ 64 by omega)
  omega

theorem add_or (a : Nat) : ∀ b, a &&& b = 0 → a + b = a ||| b := by
  induction a using Nat.strongRecOn with
  | _ a ih =>
    intro b h
    by_cases h0 : a = 0
    · subst h0; simp
    · have h2 : a / 2 &&& b / 2 = 0 := by rw [← Nat.and_div_two, h]
      have hr := ih (a / 2) (by omega) (b / 2) h2
      have hd : (a ||| b) / 2 = a / 2 ||| b / 2 := Nat.or_div_two
      have hm := @Nat.or_mod_two_eq_one a b
      have hn := @Nat.and_mod_two_eq_one a b
      rw [h] at hn
      rw [← hd] at hr
      clear hd h2 ih h
      generalize a ||| b = c at *
      have hm1 : c % 2 = 1 → (a % 2 = 1 ∨ b % 2 = 1) := hm.1
      have hm2 : (a % 2 = 1 ∨ b % 2 = 1) → c % 2 = 1 := hm.2
      have hn2 : ¬ (a % 2 = 1 ∧ b % 2 = 1) := fun x => by have := hn.2 x; omega
      clear hm hn
      omega
theorem bitOf_in (e : Int) (h0 : 0 ≤ e) (h1 : e < 64) : bitOf e = 2 ^ e.toNat := by unfold bitOf; rw [if_pos ⟨h0, h1⟩]
theorem bitOf_out (e : Int) (h : e < 0 ∨ 64 ≤ e) : bitOf e = 0 := by unfold bitOf; rw [if_neg (by omega)]
theorem plus_bit (s n : Nat) (h : s.testBit n = false) : s + 2 ^ n = s ||| 2 ^ n := by
  apply add_or
  apply Nat.eq_of_testBit_eq
  intro i
  rw [Nat.testBit_and, Nat.testBit_two_pow, Nat.zero_testBit]
  by_cases hi : n = i
  · subst hi; rw [h]; rfl
  · simp [hi]
theorem or_bit_self (s n : Nat) (h : s.testBit n = true) : s ||| 2 ^ n = s := by
  apply Nat.eq_of_testBit_eq
  intro i
  rw [Nat.testBit_or, Nat.testBit_two_pow]
  by_cases hi : n = i
  · subst hi; rw [h]; rfl
  · simp [hi]
theorem minus_bit (s n : Nat) (h : s.testBit n = true) : s - 2 ^ n = diff s (2 ^ n) := by
  have e : diff s (2 ^ n) ||| 2 ^ n = s := by
    apply Nat.eq_of_testBit_eq
    intro i
    rw [Nat.testBit_or, testBit_diff, Nat.testBit_two_pow]
    by_cases hi : n = i
    · subst hi; rw [h]; simp
    · simp [hi]
  have e2 : (diff s (2 ^ n)).testBit n = false := by rw [testBit_diff, Nat.testBit_two_pow]; simp
  have := plus_bit _ _ e2
  omega
theorem diff_none (s n : Nat) (h : s.testBit n = false) : diff s (2 ^ n) = s := by
  apply Nat.eq_of_testBit_eq
  intro i
  rw [testBit_diff, Nat.testBit_two_pow]
  by_cases hi : n = i
  · subst hi; rw [h]; rfl
  · simp [hi]
theorem and_bit (s n : Nat) : (s &&& 2 ^ n = 0) ↔ s.testBit n = false := by
  constructor
  · intro h
    have := congrArg (fun x => x.testBit n) h
    simpa [Nat.testBit_two_pow] using this
  · intro h
    apply Nat.eq_of_testBit_eq
    intro i
    rw [Nat.testBit_and, Nat.testBit_two_pow, Nat.zero_testBit]
    by_cases hi : n = i
    · subst hi; rw [h]; rfl
    · simp [hi]
theorem diff_self (a : Nat) : diff a 0 = a := by simp [diff]
theorem zero_diff (a : Nat) : diff 0 a = 0 := by simp [diff]
theorem diff_zero (a b : Nat) : diff a b = 0 ↔ ∀ i, a.testBit i = true → b.testBit i = true := by
  constructor
  · intro h i hi
    have := congrArg (fun x => x.testBit i) h
    simp only [testBit_diff, Nat.zero_testBit, hi] at this
    simpa using this
  · intro h
    apply Nat.eq_of_testBit_eq
    intro i
    rw [testBit_diff, Nat.zero_testBit]
    cases ha : a.testBit i
    · rfl
    · rw [h i ha]; rfl

theorem mem_evs (s i : Nat) : i ∈ evs s ↔ i < 64 ∧ s.testBit i = true := by simp [evs]
theorem evs_lt (s : Nat) : ∀ i ∈ evs s, i < 64 := fun i h => ((mem_evs s i).1 h).1
theorem evs_len (s : Nat) : (evs s).length ≤ 64 := by
  have := List.length_filter_le (fun i => s.testBit i) (List.range 64)
  simpa [evs] using this
theorem evs_zero : evs 0 = [] := by simp [evs]
theorem evs_ne (s : Nat) (h : s < 18446744073709551616) (h0 : s ≠ 0) : evs s ≠ [] := by
  obtain ⟨i, hi⟩ := Nat.exists_testBit_of_ne_zero h0
  intro e
  have h64 : i < 64 := by
    apply Nat.lt_of_not_le
    intro hle
    rw [high s i h hle] at hi; cases hi
  have := (mem_evs s i).2 ⟨h64, hi⟩
  rw [e] at this; cases this

/-- The least event, and the rest. -/
theorem evs_first (s : Nat) (h : s < 18446744073709551616) (h0 : s ≠ 0) : evs s = Go.Lib.ctz 64 s :: evs (diff s (2 ^ Go.Lib.ctz 64 s)) ∧ Go.Lib.ctz 64 s < 64 := by
  have hc : Go.Lib.ctz 64 s = Go.Lib.ctzFrom 64 s := by unfold Go.Lib.ctz; rw [if_neg h0]
  obtain ⟨m, hm, hk⟩ := Go.Lib.ctzFrom_spec 64 s (by omega) (by omega)
  rw [hc]
  generalize Go.Lib.ctzFrom 64 s = c at *
  refine ⟨?_, hk⟩
  have hlow : ∀ i, i < c → s.testBit i = false := by
    intro i hi
    rw [hm, Nat.mul_comm, Nat.testBit_mul_two_pow]
    simp; omega
  have hat : s.testBit c = true := by
    rw [hm, Nat.mul_comm, Nat.testBit_mul_two_pow]
    simp
  have hr : List.range 64 = List.range c ++ c :: (List.range' (c + 1) (63 - c)) := by
    have e1 : List.range 64 = List.range (c + (64 - c)) := by congr 1; omega
    rw [e1, List.range_eq_range', List.range_eq_range', ← List.range'_append_1]
    congr 1
    have e2 : 64 - c = (63 - c) + 1 := by omega
    rw [Nat.zero_add, e2, List.range'_succ]
  unfold evs
  rw [hr, List.filter_append, List.filter_append, List.filter_cons, List.filter_cons, if_pos hat]
  have n1 : (List.range c).filter (fun i => s.testBit i) = [] := by
    rw [List.filter_eq_nil_iff]; intro i hi; rw [List.mem_range] at hi; rw [hlow i hi]; simp
  have n2 : (List.range c).filter (fun i => (diff s (2 ^ c)).testBit i) = [] := by
    rw [List.filter_eq_nil_iff]; intro i hi; rw [List.mem_range] at hi; rw [testBit_diff, hlow i hi]; simp
  have n3 : (diff s (2 ^ c)).testBit c = false := by rw [testBit_diff, Nat.testBit_two_pow]; simp
  have n4 : (List.range' (c + 1) (63 - c)).filter (fun i => (diff s (2 ^ c)).testBit i) = (List.range' (c + 1) (63 - c)).filter (fun i => s.testBit i) := by
    apply List.filter_congr
    intro i hi
    rw [List.mem_range'_1] at hi
    rw [testBit_diff, Nat.testBit_two_pow]
    have : ¬ c = i := by omega
    simp [this]
  rw [n1, n2, n3, n4]
  simp

theorem testBit_fold (L : List Int) (a i : Nat) : (L.foldl (fun a e => a ||| bitOf e) a).testBit i = (a.testBit i || (L.any fun e => (bitOf e).testBit i)) := by
  induction L generalizing a with
  | nil => simp
  | cons x L ih => rw [List.foldl_cons, ih, Nat.testBit_or, List.any_cons, Bool.or_assoc]
theorem testBit_ofL (L : List Int) (i : Nat) : (ofL L).testBit i = (L.any fun e => (bitOf e).testBit i) := by
  unfold ofL; rw [testBit_fold]; simp
theorem fold_lt (L : List Int) : ∀ a, a < 18446744073709551616 → L.foldl (fun a e => a ||| bitOf e) a < 18446744073709551616 := by
  induction L with
  | nil => exact fun a h => h
  | cons x L ih => exact fun a h => ih _ (or_lt _ _ h (bitOf_lt _))
theorem ofL_lt (L : List Int) : ofL L < 18446744073709551616 := fold_lt L 0 (by decide)
theorem ofL_snoc (L : List Int) (k : Nat) (h : k < L.length) : ofL (L.take (k + 1)) = ofL (L.take k) ||| bitOf L[k] := by
  unfold ofL; rw [List.take_succ_eq_append_getElem h, List.foldl_append]; rfl
theorem ofL_evs (s : Nat) (h : s < 18446744073709551616) : ofL ((evs s).map fun i : Nat => (i : Int)) = s := by
  apply Nat.eq_of_testBit_eq
  intro i
  rw [testBit_ofL, List.any_map]
  by_cases hi : s.testBit i = true
  · rw [hi, List.any_eq_true]
    have h64 : i < 64 := by
      apply Nat.lt_of_not_le
      intro hle
      rw [high s i h hle] at hi; cases hi
    exact ⟨i, (mem_evs s i).2 ⟨h64, hi⟩, by simp [testBit_bitOf, h64]⟩
  · have hf : s.testBit i = false := by simpa using hi
    rw [hf, List.any_eq_false]
    intro x hx
    simp only [Function.comp, testBit_bitOf, decide_eq_true_eq]
    rintro ⟨h1, _⟩
    have : x = i := by omega
    subst this
    rw [((mem_evs s x).1 hx).2] at hf; cases hf

theorem evs_in (a b : Nat) (h : a < 18446744073709551616) : (evs a).all (fun i => b.testBit i) = decide (diff a b = 0) := by
  rw [Bool.eq_iff_iff, List.all_eq_true, decide_eq_true_iff, diff_zero]
  constructor
  · intro hh i hi
    have h64 : i < 64 := by
      apply Nat.lt_of_not_le
      intro hle
      rw [high a i h hle] at hi; cases hi
    exact hh i ((mem_evs a i).2 ⟨h64, hi⟩)
  · intro hh i hi
    exact hh i ((mem_evs a i).1 hi).2
theorem same_iff (a b : Nat) : (diff a b = 0 ∧ diff b a = 0) ↔ a = b := by
  constructor
  · rintro ⟨h1, h2⟩
    rw [diff_zero] at h1 h2
    apply Nat.eq_of_testBit_eq
    intro i
    rw [Bool.eq_iff_iff]
    exact ⟨h1 i, h2 i⟩
  · rintro rfl
    simp [diff]
theorem and_in (a b : Nat) : diff (a &&& b) a = 0 := by
  rw [diff_zero]; intro i hi; rw [Nat.testBit_and] at hi; simp at hi; exact hi.1
theorem in_or (a b : Nat) : diff a (a ||| b) = 0 := by
  rw [diff_zero]; intro i hi; rw [Nat.testBit_or, hi]; rfl

theorem count_or_and (a b n : Nat) : ((List.range n).filter fun i => a.testBit i).length + ((List.range n).filter fun i => b.testBit i).length = ((List.range n).filter fun i => (a ||| b).testBit i).length + ((List.range n).filter fun i => (a &&& b).testBit i).length := by
  induction n with
  | zero => rfl
  | succ n ih =>
    simp only [List.range_succ, List.filter_append, List.length_append, List.filter_cons, List.filter_nil, Nat.testBit_or, Nat.testBit_and] at ih ⊢
    cases a.testBit n <;> cases b.testBit n <;> simp <;> omega
theorem evs_or_and (a b : Nat) : (evs a).length + (evs b).length = (evs (a ||| b)).length + (evs (a &&& b)).length := count_or_and a b 64

/-- How many of the lowest n bits are set. -/
def cnt : Nat → Nat → Nat
  | 0, _ => 0
  | n + 1, s => s % 2 + cnt n (s / 2)
theorem cnt_filter (n : Nat) : ∀ s, cnt n s = ((List.range n).filter fun i => s.testBit i).length := by
  induction n with
  | zero => intro s; rfl
  | succ n ih =>
    intro s
    rw [cnt, ih, List.range_succ_eq_map, List.filter_cons, List.filter_map]
    have : ((fun i => s.testBit i) ∘ Nat.succ) = fun i => (s / 2).testBit i := by
      funext i; simp [Function.comp, Nat.testBit_succ]
    rw [this, Nat.testBit_zero]
    by_cases h : s % 2 = 1
    · simp [h]; omega
    · have : s % 2 = 0 := by omega
      simp [this]
theorem cnt_evs (s : Nat) : cnt 64 s = (evs s).length := cnt_filter 64 s
theorem cnt_add (m n : Nat) : ∀ s, cnt (m + n) s = cnt m s + cnt n (s / 2 ^ m) := by
  induction m with
  | zero => intro s; simp [cnt]
  | succ m ih =>
    intro s
    rw [Nat.succ_add, cnt, cnt, ih, Nat.div_div_eq_div_mul, Nat.pow_succ, Nat.mul_comm 2]
    omega
theorem cnt_mod (m : Nat) : ∀ s, cnt m (s % 2 ^ m) = cnt m s := by
  induction m with
  | zero => intro s; rfl
  | succ m ih =>
    intro s
    rw [cnt, cnt, ← ih (s / 2)]
    have e1 : s % 2 ^ (m + 1) % 2 = s % 2 := by
      rw [Nat.pow_succ, Nat.mul_comm]; exact Nat.mod_mul_right_mod _ _ _
    have e2 : s % 2 ^ (m + 1) / 2 = s / 2 % 2 ^ m := by
      rw [Nat.pow_succ, Nat.mul_comm]; exact Nat.mod_mul_right_div_self _ _ _
    rw [e1, e2]

/-- The counts of k bytes, each in its byte. -/
def lane : Nat → Nat → Nat
  | 0, _ => 0
  | k + 1, s => cnt 8 (s % 256) + 256 * lane k (s / 256)
def mask (c : Nat) : Nat → Nat
  | 0 => 0
  | k + 1 => 256 * mask c k + c
def S1 (m x : Nat) : Nat := (x / 2 &&& m) + (x &&& m)
def S2 (m x : Nat) : Nat := (x / 4 &&& m) + (x &&& m)
def S3 (m x : Nat) : Nat := (x / 16 + x) &&& m
theorem and_byte (x m : Nat) : x &&& m = 256 * (x / 256 &&& m / 256) + (x % 256 &&& m % 256) := by
  have h1 : (x &&& m) / 2 ^ 8 = x / 2 ^ 8 &&& m / 2 ^ 8 := Nat.and_div_two_pow
  have h2 : (x &&& m) % 2 ^ 8 = x % 2 ^ 8 &&& m % 2 ^ 8 := Nat.and_mod_two_pow
  have e : (2 : Nat) ^ 8 = 256 := rfl
  rw [e] at h1 h2
  rw [← h1, ← h2]; omega
theorem mask_div (c k : Nat) (h : c < 256) : mask c (k + 1) / 256 = mask c k := by rw [mask]; omega
theorem mask_mod (c k : Nat) (h : c < 256) : mask c (k + 1) % 256 = c := by rw [mask]; omega
theorem half_low : ∀ b < 2, ∀ r < 256, (128 * b + r / 2) &&& 85 = (r / 2 &&& 85) := by decide +kernel
theorem quar_low : ∀ b < 4, ∀ r < 256, (64 * b + r / 4) &&& 51 = (r / 4 &&& 51) := by decide +kernel
theorem byte1 : ∀ r < 256, (r / 2 &&& 85) + (r &&& 85) < 256 := by decide +kernel
theorem byte2 : ∀ r < 256, S2 51 (S1 85 r) % 16 ≤ 4 ∧ S2 51 (S1 85 r) / 16 ≤ 4 ∧ S2 51 (S1 85 r) % 16 + S2 51 (S1 85 r) / 16 = cnt 8 r := by decide +kernel
theorem nib : ∀ a < 256, a &&& 15 = a % 16 := by decide +kernel
theorem S1_step (k x : Nat) : S1 (mask 85 (k + 1)) x = 256 * S1 (mask 85 k) (x / 256) + S1 85 (x % 256) := by
  unfold S1
  rw [and_byte (x / 2), and_byte x, mask_div _ _ (by decide), mask_mod _ _ (by decide)]
  have e1 : x / 2 / 256 = x / 256 / 2 := by omega
  have e2 : x / 2 % 256 = 128 * (x / 256 % 2) + x % 256 / 2 := by omega
  rw [e1, e2, half_low _ (by omega) _ (by omega)]
  omega
theorem S2_step (k x : Nat) : S2 (mask 51 (k + 1)) x = 256 * S2 (mask 51 k) (x / 256) + S2 51 (x % 256) := by
  unfold S2
  rw [and_byte (x / 4), and_byte x, mask_div _ _ (by decide), mask_mod _ _ (by decide)]
  have e1 : x / 4 / 256 = x / 256 / 4 := by omega
  have e2 : x / 4 % 256 = 64 * (x / 256 % 4) + x % 256 / 4 := by omega
  rw [e1, e2, quar_low _ (by omega) _ (by omega)]
  omega
theorem S3_step (k x : Nat) (h0 : x % 16 ≤ 4) (h1 : x / 16 % 16 ≤ 4) (h2 : x / 256 % 16 ≤ 4) : S3 (mask 15 (k + 1)) x = 256 * S3 (mask 15 k) (x / 256) + (x % 16 + x / 16 % 16) := by
  unfold S3
  rw [and_byte, mask_div _ _ (by decide), mask_mod _ _ (by decide), nib _ (by omega)]
  have a1 : x / 16 = 16 * (x / 256) + x / 16 % 16 := by omega
  have a2 : x / 256 = 16 * (x / 256 / 16) + x / 256 % 16 := by omega
  have a3 : x = 256 * (x / 256) + 16 * (x / 16 % 16) + x % 16 := by omega
  have e0 : x / 16 + x = 256 * (x / 256 / 16 + x / 256) + (16 * (x / 256 % 16 + x / 16 % 16) + (x % 16 + x / 16 % 16)) := by
    generalize x / 256 / 16 = t at *
    generalize x / 256 % 16 = u at *
    generalize x / 16 % 16 = v at *
    generalize x % 16 = z at *
    generalize x / 256 = q at *
    generalize x / 16 = y at *
    omega
  rw [e0]
  generalize x / 256 / 16 = t at *
  generalize x / 256 % 16 = u at *
  generalize x / 16 % 16 = v at *
  generalize x % 16 = z at *
  have e1 : (256 * (t + x / 256) + (16 * (u + v) + (z + v))) / 256 = t + x / 256 := by
    generalize t + x / 256 = k
    omega
  have e2 : (256 * (t + x / 256) + (16 * (u + v) + (z + v))) % 256 % 16 = z + v := by
    generalize t + x / 256 = k
    omega
  rw [e1, e2]
theorem lanes (k : Nat) : ∀ x, S2 (mask 51 k) (S1 (mask 85 k) x) % 16 ≤ 4 ∧ S3 (mask 15 k) (S2 (mask 51 k) (S1 (mask 85 k) x)) = lane k x := by
  induction k with
  | zero => intro x; simp [S1, S2, S3, mask, lane]
  | succ k ih =>
    intro x
    obtain ⟨ih1, ih2⟩ := ih (x / 256)
    have b1 : S1 85 (x % 256) < 256 := byte1 _ (by omega)
    obtain ⟨c1, c2, c3⟩ := byte2 (x % 256) (by omega)
    have d1 : S1 (mask 85 (k + 1)) x / 256 = S1 (mask 85 k) (x / 256) := by rw [S1_step]; omega
    have d2 : S1 (mask 85 (k + 1)) x % 256 = S1 85 (x % 256) := by rw [S1_step]; omega
    have s2 : S2 (mask 51 (k + 1)) (S1 (mask 85 (k + 1)) x) = 256 * S2 (mask 51 k) (S1 (mask 85 k) (x / 256)) + S2 51 (S1 85 (x % 256)) := by
      rw [S2_step, d1, d2]
    rw [s2]
    generalize S2 (mask 51 k) (S1 (mask 85 k) (x / 256)) = q at *
    generalize S2 51 (S1 85 (x % 256)) = r at *
    refine ⟨by omega, ?_⟩
    rw [S3_step k _ (by omega) (by omega) (by omega)]
    have e : (256 * q + r) / 256 = q := by omega
    rw [e, ih2, lane]
    omega
theorem cnt8_le : ∀ r < 256, cnt 8 r ≤ 8 := by decide +kernel
theorem lane_cnt (k : Nat) (s : Nat) : cnt (8 * (k + 1)) s = cnt 8 (s % 256) + cnt (8 * k) (s / 256) := by
  have : 8 * (k + 1) = 8 + 8 * k := by omega
  rw [this, cnt_add, ← cnt_mod 8 s]
end Go.Proofs.YtklamncepgejeaaDoor

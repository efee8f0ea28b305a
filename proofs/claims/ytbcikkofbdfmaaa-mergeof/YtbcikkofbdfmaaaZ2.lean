/- slices.Clone of pairs and of an act, of up to 1000 pairs. -/
import Derived.Test.YtbcikkofbdfmaaaZ1
set_option linter.unusedVariables false
set_option linter.unusedSimpArgs false
namespace Go.Proofs.Ytbcikkofbdfmaaa
open Go.RowKit Go.Joins Go.Sort

set_option maxRecDepth 100000 in
set_option maxHeartbeats 4000000 in
theorem clone36_at (b off cap : Nat) (L : Prs) (w : World) (hlen : L.length ≤ 1000) (hc : ∀ j u, (flat2 L)[j]? = some u → w.cell? ((⟨b, off, none⟩ : Addr).add j) = some u) :
    Calls Try.prog 36 #[.slice (some ⟨b, off, none⟩) L.length cap] w fun e w' => ∃ v', e = .returned v' ∧ w'.ownsRow w.heap.size 50 2 v' L.length (flat2 L) ∧ Below w.heap.size w w' := by
  obtain ⟨i0, hi, hz0, hz1, hz2⟩ := info_parts info50i
  have q46 : ∀ (w : World) (a : Option Addr) (n c n' c' : Nat), (binOp .eql 56 (.slice a n c) (.slice none n' c')).run Try.prog w = .ok (.bool a.isNone) w := fun w a n c n' c' => Lib.run_eql_slice_nil w _ _ a n c n' c' Try.underlying56
  have hlf := flat2_len L
  have hone := flat2_one L
  generalize flat2 L = news at *
  have HC : Hid (∀ j u, news[j]? = some u → w.cell? ((⟨b, off, none⟩ : Addr).add j) = some u) := hc
  clear hc
  go_enter Try.func36, Try.ntmps36
  go_wp2_with (at_builtin; refine wpList_append_own _ rfl _ _ 56 rfl w.heap.size 50 i0 (.agg #[.int .i64 0, .int .u16 0]) 2 16 Try.underlying56 hi hz0 hz1 hz2 rfl (by decide) _ _ _ rfl (World.ownsRow_made w #[] 0 (Nat.le_refl _) (Nat.zero_le _) (by simp)) ⟨b, off, none⟩ L.length cap news rfl ?qc1 ?qc2 ?qc3 ?qc4 ?qc5 ?qc6 ?_)
  case qc1 => exact hlf
  case qc2 =>
    intro j u hj
    exact Lib.cell?_alloc_some _ (HC.out j u hj)
  case qc3 => exact hone
  case qc4 => unfold maxLen; omega
  case qc5 => omega
  case qc6 => simp
  intro v' w1 hown hgrow hnil
  go_wp2
  go_ret
  refine ⟨v', rfl, by simpa using hown, ?_⟩
  exact ((Below.refl _ w).alloc (Nat.le_refl _) _).grown hgrow (by simp) (by intro k hk; simp [Value.ownBlock] at hk; omega)
theorem clone36_nil (n c : Nat) (w : World) : Calls Try.prog 36 #[.slice none n c] w fun e w' => e = .returned (.slice none 0 0) ∧ w' = w := by
  have q46 : ∀ (w : World) (a : Option Addr) (n c n' c' : Nat), (binOp .eql 56 (.slice a n c) (.slice none n' c')).run Try.prog w = .ok (.bool a.isNone) w := fun w a n c n' c' => Lib.run_eql_slice_nil w _ _ a n c n' c' Try.underlying56
  go_enter Try.func36, Try.ntmps36
  go_wp2
  go_ret
  exact ⟨rfl, rfl⟩

set_option maxRecDepth 100000 in
set_option maxHeartbeats 4000000 in
theorem clone35_ptr (ad : Addr) (cap : Nat) (w : World) :
    Calls Try.prog 35 #[.slice (some ad) 0 cap] w fun e w' => ∃ v', e = .returned v' ∧ w'.ownsRow w.heap.size 50 2 v' ([] : Prs).length (flat2 []) ∧ Below w.heap.size w w' := by
  obtain ⟨i0, hi, hz0, hz1, hz2⟩ := info_parts info50i
  have q46 : ∀ (w : World) (a : Option Addr) (n c n' c' : Nat), (binOp .eql 51 (.slice a n c) (.slice none n' c')).run Try.prog w = .ok (.bool a.isNone) w := fun w a n c n' c' => Lib.run_eql_slice_nil w _ _ a n c n' c' Try.underlying51
  go_enter Try.func35, Try.ntmps35
  go_wp2_with (at_builtin; refine wpList_append_own _ rfl _ _ 51 rfl w.heap.size 50 i0 (.agg #[.int .i64 0, .int .u16 0]) 2 16 Try.underlying51 hi hz0 hz1 hz2 rfl (by decide) _ _ _ rfl (World.ownsRow_made w #[] 0 (Nat.le_refl _) (Nat.zero_le _) (by simp)) ad 0 cap [] rfl ?qc1 ?qc2 ?qc3 ?qc4 ?qc5 ?qc6 ?_)
  case qc1 => rfl
  case qc2 =>
    intro j u hj
    simp at hj
  case qc3 => simp
  case qc4 => unfold maxLen; omega
  case qc5 => omega
  case qc6 => simp
  intro v' w1 hown hgrow hnil
  go_wp2
  go_ret
  refine ⟨v', rfl, by rw [show flat2 [] = [] from rfl]; simpa using hown, ?_⟩
  exact ((Below.refl _ w).alloc (Nat.le_refl _) _).grown hgrow (by simp) (by intro k hk; simp [Value.ownBlock] at hk; omega)

set_option maxRecDepth 100000 in
set_option maxHeartbeats 4000000 in
theorem clone36_ptr (ad : Addr) (cap : Nat) (w : World) :
    Calls Try.prog 36 #[.slice (some ad) 0 cap] w fun e w' => ∃ v', e = .returned v' ∧ w'.ownsRow w.heap.size 50 2 v' ([] : Prs).length (flat2 []) ∧ Below w.heap.size w w' := by
  obtain ⟨i0, hi, hz0, hz1, hz2⟩ := info_parts info50i
  have q46 : ∀ (w : World) (a : Option Addr) (n c n' c' : Nat), (binOp .eql 56 (.slice a n c) (.slice none n' c')).run Try.prog w = .ok (.bool a.isNone) w := fun w a n c n' c' => Lib.run_eql_slice_nil w _ _ a n c n' c' Try.underlying56
  go_enter Try.func36, Try.ntmps36
  go_wp2_with (at_builtin; refine wpList_append_own _ rfl _ _ 56 rfl w.heap.size 50 i0 (.agg #[.int .i64 0, .int .u16 0]) 2 16 Try.underlying56 hi hz0 hz1 hz2 rfl (by decide) _ _ _ rfl (World.ownsRow_made w #[] 0 (Nat.le_refl _) (Nat.zero_le _) (by simp)) ad 0 cap [] rfl ?qc1 ?qc2 ?qc3 ?qc4 ?qc5 ?qc6 ?_)
  case qc1 => rfl
  case qc2 =>
    intro j u hj
    simp at hj
  case qc3 => simp
  case qc4 => unfold maxLen; omega
  case qc5 => omega
  case qc6 => simp
  intro v' w1 hown hgrow hnil
  go_wp2
  go_ret
  refine ⟨v', rfl, by rw [show flat2 [] = [] from rfl]; simpa using hown, ?_⟩
  exact ((Below.refl _ w).alloc (Nat.le_refl _) _).grown hgrow (by simp) (by intro k hk; simp [Value.ownBlock] at hk; omega)

theorem clone35_any (v : Value) (L : Prs) (hlen : L.length ≤ 1000) (w : World) (h : PairsAny w v L) : Calls Try.prog 35 #[v] w fun e w' => ∃ v', e = .returned v' ∧ In (w.heap.size ≤ ·) w' (fun W => PairsAny W v' L) ∧ Below w.heap.size w w' := by
  rcases h with ⟨b, off, cap, rfl, hb, hL, hc⟩ | ⟨rfl, a, cap, rfl⟩
  · refine (clone35_at b off cap L w hlen (pairs_cells fun k hk => hc k hk)).mono ?_
    rintro e w' ⟨v', rfl, ho, hbl⟩
    exact ⟨v', rfl, own_pairs ho, hbl⟩
  · cases a with
    | none =>
      refine (clone35_nil 0 cap w).mono ?_
      rintro e w' ⟨rfl, rfl⟩
      exact ⟨_, rfl, fun W _ => .inr ⟨rfl, none, 0, rfl⟩, Below.refl _ _⟩
    | some ad =>
      refine (clone35_ptr ad cap w).mono ?_
      rintro e w' ⟨v', rfl, ho, hbl⟩
      exact ⟨v', rfl, own_pairs ho, hbl⟩

theorem clone36_any (v : Value) (L : Prs) (hlen : L.length ≤ 1000) (w : World) (h : PairsAny w v L) : Calls Try.prog 36 #[v] w fun e w' => ∃ v', e = .returned v' ∧ In (w.heap.size ≤ ·) w' (fun W => PairsAny W v' L) ∧ Below w.heap.size w w' := by
  rcases h with ⟨b, off, cap, rfl, hb, hL, hc⟩ | ⟨rfl, a, cap, rfl⟩
  · refine (clone36_at b off cap L w hlen (pairs_cells fun k hk => hc k hk)).mono ?_
    rintro e w' ⟨v', rfl, ho, hbl⟩
    exact ⟨v', rfl, own_pairs ho, hbl⟩
  · cases a with
    | none =>
      refine (clone36_nil 0 cap w).mono ?_
      rintro e w' ⟨rfl, rfl⟩
      exact ⟨_, rfl, fun W _ => .inr ⟨rfl, none, 0, rfl⟩, Below.refl _ _⟩
    | some ad =>
      refine (clone36_ptr ad cap w).mono ?_
      rintro e w' ⟨v', rfl, ho, hbl⟩
      exact ⟨v', rfl, own_pairs ho, hbl⟩
end Go.Proofs.Ytbcikkofbdfmaaa

/- What the law EventsSets answers: true, of any set, any number and any list, wherever the listed variables hold what the row lists. -/
import Derived.Test.YtklamncepgejeaaDoorC1
import Derived.Deep.QuietTactic
import Derived.BigQuiet
set_option linter.unusedVariables false
set_option linter.unusedSimpArgs false
namespace Go.Proofs.YtklamncepgejeaaDoor
open Go.RowKit Go.Joins Go.Sort

set_option maxRecDepth 100000 in
set_option maxHeartbeats 1000000 in
theorem sets_long (s : Nat) (e : Int) (p : Option Addr) (n cap : Nat) (hn : 40 < n) (hmax : n ≤ 9223372036854775807) (w : World) (h : Env w) :
    Calls Tryd.prog 3 #[sv s, .int .i64 e, .slice p n cap] w fun e w' => e = .returned (.bool true) ∧ Below w.heap.size w w' := by
  have haw := awake_any w h
  have hd : decide ((40 : Int) < (n : Int)) = true := by simp; omega
  go_enter Tryd.func3, Tryd.ntmps3
  go_wp2_with fail
  refine haw.mono ?_
  rintro e w1 ⟨rfl, hb1⟩
  clear haw
  go_wp2
  go_ret
  exact ⟨rfl, hb1⟩
theorem zl_of (s : Nat) (h : s < 18446744073709551616) : ofL (zl (evs s)) = s := ofL_evs s h
set_option maxRecDepth 100000 in
set_option maxHeartbeats 2000000 in
theorem sets_short (s : Nat) (hs : s < 18446744073709551616) (e : Int) (v : Value) (L : List Int) (hL : L.length ≤ 40) (w : World) (h : Env w) (hv : IntsAt w v L) :
    Calls Tryd.prog 3 #[sv s, .int .i64 e, v] w fun e w' => e = .returned (.bool true) ∧ Below w.heap.size w w' := by
  have haw := awake_any w h
  have hv0 := hv
  obtain ⟨p, cap, hve, _, _⟩ := hv
  have hd : decide ((40 : Int) < (L.length : Int)) = false := by simp; omega
  have hnl : ¬ ((40 : Int) < (L.length : Int)) := by omega
  subst hve
  have hli := list_any s hs
  have hrl := rlist_any s hs
  have hln := len_any s hs
  have hl64 := evs_len s
  have hzo := zl_of s hs
  have hzl := zl_length (evs s)
  have c12 := has_any s e hs
  have c13 := rhas_any s e hs
  generalize (decide (0 ≤ e) && s.testBit e.toNat) = hb at c12 c13
  have c14 := with_any s e hs
  have c15 := rwith_any s e hs
  generalize s ||| bitOf e = S1 at c14 c15
  have c16 := without_any s e hs
  have c17 := rwithout_any s e hs
  generalize diff s (bitOf e) = S2 at c16 c17
  go_enter Tryd.func3, Tryd.ntmps3
  go_wp2_with fail
  refine haw.mono ?_
  rintro r w1 ⟨rfl, hb1⟩
  have hE1 := h.below hb1
  clear haw
  go_wp2_with fail
  refine (hli _ hE1).mono ?_
  rintro r w2 ⟨v1, rfl, hown1, hb2⟩
  have hB2 := hb1.trans (hb2.mono hb1.size)
  clear hb1 hb2 hE1 hli
  go_wp2_with fail
  refine (hrl _).mono ?_
  rintro r w3 ⟨v2, rfl, hown2, hb3⟩
  have hB3 := hB2.trans (hb3.mono hB2.size)
  have hown1' := own_below hown1 hb3
  have hE3 := h.below hB3
  clear hB2 hb3 hrl hown1
  have hv3 := hv0.below hB3
  have c10 : ∀ W, Below w3.heap.size w3 W → Calls Tryd.prog 10 #[.slice p L.length cap] W fun r w' => r = .returned (sv (ofL L)) ∧ w' = W := fun W hW => of_any _ L W (hv3.below hW)
  have c18 : ∀ W, Below w3.heap.size w3 W → Calls Tryd.prog 18 #[.slice p L.length cap] W fun r w' => r = .returned (sv (ofL L)) ∧ w' = W := fun W hW => rof_any _ L W (hv3.below hW)
  generalize ofL L = S3 at c10 c18
  have hi1 := ints_own hown1'
  have hi2 := ints_own hown2
  have hof1 := of_any _ _ w3 hi1
  rw [hzo] at hof1
  have hfi : ∀ W, Below w3.heap.size w3 W → Calls Tryd.prog 11 #[sv s] W fun r w' => r = .returned (.tuple #[.int .i64 (fstV s), .bool (fstB s)]) ∧ w' = W := fun W hW => first_any s hs W (hE3.below hW).tab
  clear hv0 hv3 hown1' hown2 hE3 hzo
  obtain ⟨p1, cap1, rfl, _, hc1⟩ := hi1
  obtain ⟨p2, cap2, rfl, _, hc2⟩ := hi2
  rw [hzl] at hof1
  rw [hzl]
  by_cases h0 : s = 0
  · subst h0
    have hM : evs 0 = [] := evs_zero
    rw [hM] at hln hof1
    rw [hM]
    clear hc1 hc2
    have hf0 : fstV 0 = 0 := rfl
    have hf1 : fstB 0 = false := rfl
    simp only [hf0, hf1] at hfi
    go_wp2_with fail
    refine (hln _).mono ?_
    rintro r wX ⟨rfl, hwX⟩
    subst wX
    go_wp2_with fail
    refine hof1.mono ?_
    rintro r wX ⟨rfl, hwX⟩
    subst wX
    go_wp2
    refine wp_loop_rounds 1 ?_
    rw [rounds_succ]
    go_wp2_with fail
    refine (hfi _ (Below.refl _ _)).mono ?_
    rintro r wX ⟨rfl, hwX⟩
    subst wX
    go_wp2_with fail
    refine (c12 _).mono ?_
    rintro r wX ⟨rfl, hwX⟩
    subst wX
    go_wp2_with fail
    refine (c13 _).mono ?_
    rintro r wX ⟨rfl, hwX⟩
    subst wX
    go_wp2_with fail
    refine (c14 _).mono ?_
    rintro r wX ⟨rfl, hwX⟩
    subst wX
    go_wp2_with fail
    refine (c15 _).mono ?_
    rintro r wX ⟨rfl, hwX⟩
    subst wX
    go_wp2_with fail
    refine (c16 _).mono ?_
    rintro r wX ⟨rfl, hwX⟩
    subst wX
    go_wp2_with fail
    refine (c17 _).mono ?_
    rintro r wX ⟨rfl, hwX⟩
    subst wX
    go_wp2_with fail
    refine (c10 _ (Below.refl _ _)).mono ?_
    rintro r wX ⟨rfl, hwX⟩
    subst wX
    go_wp2_with fail
    refine (c18 _ (Below.refl _ _)).mono ?_
    rintro r wX ⟨rfl, hwX⟩
    subst wX
    go_wp2
    go_ret
    exact ⟨rfl, hB3⟩
  · obtain ⟨hfst, hc64⟩ := evs_first s hs h0
    have hf0 : fstV s = ((Lib.ctz 64 s : Nat) : Int) := by simp [fstV, h0]
    have hf1 : fstB s = true := by simp [fstB, h0]
    simp only [hf0, hf1] at hfi
    have hsne : (((s : Int)) != 0) = true := by rw [nat_ne]; simp [h0]
    generalize Lib.ctz 64 s = c at *
    generalize evs (diff s (2 ^ c)) = M' at *
    generalize evs s = M at *
    subst hfst
    have hne : ¬ zl (c :: M') = [] := by simp [zl]
    rcases hc1 with hc1 | ⟨a1, rfl, hlt1, hc1⟩
    · exact absurd hc1 hne
    rcases hc2 with hc2 | ⟨a2, rfl, hlt2, hc2⟩
    · exact absurd hc2 hne
    clear hne hf0 hf1
    have hcc : ∀ i, i < (c :: M').length → ∃ X : Int, w3.cell? (a1.add i) = some (.int .i64 X) ∧ w3.cell? (a2.add i) = some (.int .i64 X) := by
      intro i hi
      have hi' : i < (zl (c :: M')).length := by rw [hzl]; exact hi
      exact ⟨_, hc1 i hi', hc2 i hi'⟩
    have hc0 : w3.cell? (a2.add 0) = some (.int .i64 (c : Int)) := by
      have := hc2 0 (by rw [hzl]; simp)
      rw [this]; simp [zl]
    have hc0' : w3.cell? a2 = some (.int .i64 (c : Int)) := by
      have e : a2.add 0 = a2 := by unfold Addr.add; rw [if_pos rfl]
      rwa [e] at hc0
    have hpos : 0 < (c :: M').length := by simp
    clear hc1 hc2 hzl
    generalize (c :: M').length = n at *
    go_wp2_with fail
    refine (hln _).mono ?_
    rintro r wX ⟨rfl, hwX⟩
    subst wX
    go_wp2_with fail
    refine hof1.mono ?_
    rintro r wX ⟨rfl, hwX⟩
    subst wX
    go_wp2
    clear hln hof1
    go_loopw [41] (fun iw wr => ∃ k : Nat, k ≤ n ∧ iw = .int .i64 k ∧ Below w3.heap.size w3 wr) (fun i _ => n - (intOf i).toNat)
    case atStart => exact ⟨0, Nat.zero_le _, rfl, Below.refl _ _⟩
    case round =>
      obtain ⟨k, hk, rfl, hbr⟩ := hrel
      by_cases hlt : k < n
      · obtain ⟨X, hx1, hx2⟩ := hcc k hlt
        rw [← hbr.cell (p := a1.add k) (by unfold Addr.add; split <;> exact hlt1)] at hx1
        rw [← hbr.cell (p := a2.add k) (by unfold Addr.add; split <;> exact hlt2)] at hx2
        clear hcc hc0 hc0' c12 c13 c14 c15 c16 c17 c10 c18 hfi
        go_wp2
        go_quiet (fail)
        go_wp2
        exact ⟨⟨k + 1, by omega, by go_num, below_drewN hbr _⟩, by simp [intOf]; omega⟩
      · have hkn : k = n := by omega
        subst hkn
        rw [← hbr.cell (p := a2.add 0) (by unfold Addr.add; split <;> exact hlt2)] at hc0
        rw [← hbr.cell (p := a2) hlt2] at hc0'
        clear hcc
        go_wp2_with fail
        refine (hfi _ hbr).mono ?_
        rintro r wX ⟨rfl, hwX⟩
        subst wX
        go_wp2_with fail
        refine (c12 _).mono ?_
        rintro r wX ⟨rfl, hwX⟩
        subst wX
        go_wp2_with fail
        refine (c13 _).mono ?_
        rintro r wX ⟨rfl, hwX⟩
        subst wX
        go_wp2_with fail
        refine (c14 _).mono ?_
        rintro r wX ⟨rfl, hwX⟩
        subst wX
        go_wp2_with fail
        refine (c15 _).mono ?_
        rintro r wX ⟨rfl, hwX⟩
        subst wX
        go_wp2_with fail
        refine (c16 _).mono ?_
        rintro r wX ⟨rfl, hwX⟩
        subst wX
        go_wp2_with fail
        refine (c17 _).mono ?_
        rintro r wX ⟨rfl, hwX⟩
        subst wX
        go_wp2_with fail
        refine (c10 _ hbr).mono ?_
        rintro r wX ⟨rfl, hwX⟩
        subst wX
        go_wp2_with fail
        refine (c18 _ hbr).mono ?_
        rintro r wX ⟨rfl, hwX⟩
        subst wX
        go_wp2
        go_ret
        exact ⟨rfl, hB3.trans (hbr.mono hB3.size)⟩
end Go.Proofs.YtklamncepgejeaaDoor

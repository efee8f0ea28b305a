/- What events.List and the document's List lay: the events of the set, rising, in a slice of their own; no conditions but the set's range and the table that TrailingZeros64 reads. -/
import Derived.Test.YtklamncepgejeaaDoorE0
set_option linter.unusedVariables false
set_option linter.unusedSimpArgs false
namespace Go.Proofs.YtklamncepgejeaaDoor
open Go.RowKit

/-- How many events the set in a slot has. -/
def evLen (v : Value) : Nat := (evs (intOf v).toNat).length
theorem evLen_sv (s : Nat) : evLen (sv s) = (evs s).length := by simp [evLen, intOf, sv]
/-- What First answers. -/
def fstV (t : Nat) : Int := if t = 0 then 0 else (Lib.ctz 64 t : Nat)
def fstB (t : Nat) : Bool := decide (t ≠ 0)
theorem first_any (t : Nat) (ht : t < 18446744073709551616) (w : World) (hT : TabAt 0 Lib.deBruijn64tab w) : Calls Tryd.prog 11 #[sv t] w fun r w' => r = .returned (.tuple #[.int .i64 (fstV t), .bool (fstB t)]) ∧ w' = w := by
  by_cases h0 : t = 0
  · subst h0; exact first_none w
  · refine (first_some t ht h0 w hT).mono fun r w' ⟨hr, hw⟩ => ⟨?_, hw⟩
    rw [hr]; simp [fstV, fstB, h0]

set_option maxRecDepth 100000 in
set_option maxHeartbeats 1000000 in
theorem list_any (s : Nat) (hs : s < 18446744073709551616) (w : World) (h : Env w) :
    Calls Tryd.prog 7 #[sv s] w fun r w' => ∃ v, r = .returned v ∧ w'.ownsRow w.heap.size 3 1 v (evs s).length (iv (evs s)) ∧ Below w.heap.size w w' := by
  obtain ⟨i0, hi, hz0, hz1, hz2⟩ := info_parts info3
  have hlen := len_any s hs
  have hl64 := evs_len s
  obtain ⟨w1, hmk, hown0, hg0⟩ := run_make_own (P := Tryd.prog) (w := w) w.heap.size 24 3 i0 (.int .i64 0) 1 Tryd.underlying24 hi hz0 hz1 .i64 .i64 (evs s).length (by rw [hz2]; omega) (by unfold maxLen; omega) (Nat.le_refl _)
  have hB1 : Below w.heap.size w w1 := Below.grown (Below.refl _ _) hg0 (Nat.le_refl _) (fun j hj => by cases hj)
  have hf1 := first_any s hs w1 (h.below hB1).tab
  go_enter Tryd.func7, Tryd.ntmps7
  go_wp2_with (first
    | (go_at_call 9; refine (hlen _).mono ?_; rintro r wX ⟨rfl, hwX⟩; subst wX)
    | (go_at_call 11; refine hf1.mono ?_; rintro r wX ⟨rfl, hwX⟩; subst wX))
  go_loopw [0, 3, 4, 5] (fun sl lv ev ok wr => ∃ (t : Nat) (L : List Nat), t < 18446744073709551616 ∧ sl = sv t ∧ ev = .int .i64 (fstV t) ∧ ok = .bool (fstB t) ∧ Hid (evs s = L ++ evs t) ∧ wr.ownsRow w.heap.size 3 1 lv L.length (iv L) ∧ Below w.heap.size w wr) (fun sl _ _ _ _ => evLen sl)
  case atStart => exact ⟨s, [], hs, rfl, rfl, rfl, rfl, hown0, hB1⟩
  case round =>
    obtain ⟨t, L, ht, rfl, rfl, rfl, hev, hown, hbw⟩ := hrel
    clear hlen hmk hown0 hg0 hB1 hf1
    have hE := h.below hbw
    have hwsz := hbw.size
    by_cases h0 : t = 0
    · subst h0
      have hfin : evs s = L := by have := hev.out; rw [evs_zero, List.append_nil] at this; exact this
      have hb0 : fstB 0 = false := rfl
      go_wp2
      go_ret
      exact ⟨_, rfl, by rw [hfin]; exact hown, hbw⟩
    · obtain ⟨hfst, hc64⟩ := evs_first t ht h0
      have hb1 : fstB t = true := by simp [fstB, h0]
      have hv1 : fstV t = ((Lib.ctz 64 t : Nat) : Int) := by simp [fstV, h0]
      generalize Lib.ctz 64 t = c at *
      have hbit : bitOf (c : Int) = 2 ^ c := by rw [bitOf_in _ (by omega) (by omega)]; simp
      have hwo := without_any t (c : Int) ht
      rw [hbit] at hwo
      have hd := diff_lt t (2 ^ c) ht
      have hev2 : Hid (evs s = (L ++ [c]) ++ evs (diff t (2 ^ c))) := by
        show _ = _
        rw [hev.out, hfst, List.append_assoc]; rfl
      have hmeas : evLen (sv (diff t (2 ^ c))) < evLen (sv t) := by
        rw [evLen_sv, evLen_sv, hfst]; simp
      have hL : L.length ≤ 64 := by
        have h1 := evs_len s
        rw [hev.out] at h1
        simp at h1; omega
      clear hev hfst hbit
      generalize diff t (2 ^ c) = u at *
      have hfu : ∀ W, Env W → Calls Tryd.prog 11 #[sv u] W fun r w' => r = .returned (.tuple #[.int .i64 (fstV u), .bool (fstB u)]) ∧ w' = W := fun W hW => first_any u hd W hW.tab
      rw [hv1, hb1]
      go_wp2_with (first
        | (at_builtin; refine wpList_append_own _ rfl _ _ 24 rfl w.heap.size 3 i0 (.int .i64 0) 1 8 Tryd.underlying24 hi hz0 hz1 hz2 rfl (by decide) u3 _ _ rfl (hown.alloc _) ⟨wr.heap.size, 0, none⟩ 1 1 [.int .i64 (c : Int)] rfl rfl (cell_one_new _ _ _) (fun x hx => by simp at hx; rw [hx]; rfl) (by unfold maxLen; omega) (by omega) (by simp; omega) ?_; intro v' w3 hown' hgrow3 hnil3)
        | (go_at_call 16; refine (hwo _).mono ?_; rintro r wX ⟨rfl, hwX⟩; subst wX)
        | fail)
      have hbw3 : Below w.heap.size w w3 := Below.grown (hbw.alloc hwsz _) hgrow3 (by simp; omega) (fun j hj => by have := (hown.lt _ hj).1; omega)
      have hown3 : w3.ownsRow w.heap.size 3 1 v' (L ++ [c]).length (iv (L ++ [c])) := by
        rw [iv_append, List.length_append]; exact hown'
      have hfu3 := hfu w3 (h.below hbw3)
      clear hown' hgrow3 hnil3 hfu hE hbw hown hwo
      refine hfu3.mono ?_
      rintro r wX ⟨rfl, hwX⟩
      subst wX
      go_wp2
      exact ⟨⟨u, L ++ [c], hd, rfl, rfl, rfl, hev2, hown3, hbw3⟩, hmeas⟩

set_option maxRecDepth 100000 in
set_option maxHeartbeats 1000000 in
theorem rlist_any (s : Nat) (hs : s < 18446744073709551616) (w : World) :
    Calls Tryd.prog 8 #[sv s] w fun r w' => ∃ v, r = .returned v ∧ w'.ownsRow w.heap.size 3 1 v (evs s).length (iv (evs s)) ∧ Below w.heap.size w w' := by
  obtain ⟨i0, hi, hz0, hz1, hz2⟩ := info_parts info3
  go_enter Tryd.func8, Tryd.ntmps8
  go_wp2
  go_loopw [3, 4] (fun lv iw wr => ∃ (k : Nat), k ≤ 64 ∧ iw = .int .i64 k ∧ wr.ownsRow w.heap.size 3 1 lv ((List.range k).filter fun i => s.testBit i).length (iv ((List.range k).filter fun i => s.testBit i)) ∧ Below w.heap.size w wr) (fun _ i _ => 64 - (intOf i).toNat)
  case atStart => exact ⟨0, Nat.zero_le _, rfl, World.ownsRow_nil _ _ _ _, Below.refl _ _⟩
  case round =>
    obtain ⟨k, hk, rfl, hown, hbw⟩ := hrel
    have hwsz := hbw.size
    have hLk : ((List.range k).filter fun i => s.testBit i).length ≤ 64 := by
      have := List.length_filter_le (fun i => s.testBit i) (List.range k)
      simp at this; omega
    have hsucc : (List.range (k + 1)).filter (fun i => s.testBit i) = (List.range k).filter (fun i => s.testBit i) ++ (if s.testBit k then [k] else []) := by
      rw [List.range_succ, List.filter_append]; simp [List.filter_cons]
    by_cases hlt : k < 64
    · have hq := quo_bit s k hs
      have hpow := pow_any k hlt
      have hpos : 0 < 2 ^ k := Nat.two_pow_pos k
      have hplt := pow_lt k hlt
      generalize 2 ^ k = X at *
      have hk64 : ((k : Int) < 64) := by omega
      have hsucc' : Hid ((List.range (k + 1)).filter (fun i => s.testBit i) = (List.range k).filter (fun i => s.testBit i) ++ (if s.testBit k then [k] else [])) := hsucc
      clear hsucc
      generalize hL : (List.range k).filter (fun i => s.testBit i) = L at *
      clear hL
      cases hb : s.testBit k
      · rw [hb] at hq
        have hs2 : Hid ((List.range (k + 1)).filter (fun i => s.testBit i) = L) := by
          show _ = _
          rw [hsucc'.out, hb]; simp
        clear hsucc' hb
        go_wp2_with (go_at_call 24; refine (hpow _).mono ?_; rintro r wX ⟨rfl, hwX⟩; subst wX)
        refine ⟨⟨k + 1, by omega, by go_num, ?_, hbw⟩, by simp [intOf]; omega⟩
        rw [hs2.out]; exact hown
      · rw [hb] at hq
        have hs2 : Hid ((List.range (k + 1)).filter (fun i => s.testBit i) = L ++ [k]) := by
          show _ = _
          rw [hsucc'.out, hb]; simp
        clear hsucc' hb
        go_wp2_with (first
          | (at_builtin; refine wpList_append_own _ rfl _ _ 24 rfl w.heap.size 3 i0 (.int .i64 0) 1 8 Tryd.underlying24 hi hz0 hz1 hz2 rfl (by decide) u3 _ _ rfl (hown.alloc _) ⟨wr.heap.size, 0, none⟩ 1 1 [.int .i64 (k : Int)] rfl rfl (cell_one_new _ _ _) (fun x hx => by simp at hx; rw [hx]; rfl) (by unfold maxLen; omega) (by omega) (by simp; omega) ?_; intro v' w3 hown' hgrow3 hnil3)
          | (go_at_call 24; refine (hpow _).mono ?_; rintro r wX ⟨rfl, hwX⟩; subst wX))
        have hbw3 : Below w.heap.size w w3 := Below.grown (hbw.alloc hwsz _) hgrow3 (by simp; omega) (fun j hj => by have := (hown.lt _ hj).1; omega)
        have hown3 : w3.ownsRow w.heap.size 3 1 v' (L ++ [k]).length (iv (L ++ [k])) := by
          rw [iv_append, List.length_append]; exact hown'
        clear hown' hgrow3 hnil3 hbw hown
        refine ⟨⟨k + 1, by omega, by go_num, ?_, hbw3⟩, by simp [intOf]; omega⟩
        rw [hs2.out]; exact hown3
    · have hk64 : k = 64 := by omega
      subst hk64
      clear hsucc
      have hown4 : wr.ownsRow w.heap.size 3 1 u3 (evs s).length (iv (evs s)) := hown
      clear hown hLk
      go_wp2
      go_ret
      exact ⟨_, rfl, hown4, hbw⟩
end Go.Proofs.YtklamncepgejeaaDoor

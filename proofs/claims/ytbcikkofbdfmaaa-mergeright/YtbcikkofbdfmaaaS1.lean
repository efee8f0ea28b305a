/- What packet.Compare and the document's Compare answer, for every two packets; no conditions of mine. -/
import Derived.Test.YtbcikkofbdfmaaaW3
import Derived.Test.YtbcikkofbdfmaaaS0
set_option linter.unusedVariables false
set_option linter.unusedSimpArgs false
namespace Go.Proofs.Ytbcikkofbdfmaaa
open Go.RowKit Go.Sort

def cmp1 (x y : Int) : Int := if x < y then -1 else if y < x then 1 else 0
theorem cmp43 (x y : Int) (w : World) : Calls Try.prog 69 #[.int .u16 x, .int .u16 y] w fun e w' => e = .returned (.int .i64 (cmp1 x y)) ∧ w' = w := by
  have hN : ∀ (x : Int) (w : World), Calls Try.prog 80 #[.int .u16 x] w fun e w' => e = .returned (.bool false) ∧ w' = w := by
    intro x w
    go_enter Try.func80, Try.ntmps80
    go_wp2
    go_ret
    exact ⟨by simp, rfl⟩
  unfold cmp1
  by_cases h1 : x < y
  · have d1 : decide (x < y) = true := by simp; omega
    rw [if_pos h1]
    clear h1
    go_enter Try.func69, Try.ntmps69
    go_wp2_with (go_at_call 80; refine (hN _ _).mono ?_; rintro e w' ⟨rfl, rfl⟩)
    go_ret
    exact ⟨rfl, rfl⟩
  · have d1 : decide (x < y) = false := by simp; omega
    rw [if_neg h1]
    by_cases h2 : y < x
    · have d2 : decide (y < x) = true := by simp; omega
      rw [if_pos h2]
      clear h1 h2
      go_enter Try.func69, Try.ntmps69
      go_wp2_with (go_at_call 80; refine (hN _ _).mono ?_; rintro e w' ⟨rfl, rfl⟩)
      go_ret
      exact ⟨rfl, rfl⟩
    · have d2 : decide (y < x) = false := by simp; omega
      rw [if_neg h2]
      clear h1 h2
      go_enter Try.func69, Try.ntmps69
      go_wp2_with (go_at_call 80; refine (hN _ _).mono ?_; rintro e w' ⟨rfl, rfl⟩)
      go_ret
      exact ⟨rfl, rfl⟩

theorem cmpL_drop (l m : List Int) (k : Nat) (h1 : k < l.length) (h2 : k < m.length) : cmpL (l.drop k) (m.drop k) = if l.getD k 0 < m.getD k 0 then -1 else if m.getD k 0 < l.getD k 0 then 1 else cmpL (l.drop (k + 1)) (m.drop (k + 1)) := by
  rw [List.drop_eq_getElem_cons h1, List.drop_eq_getElem_cons h2, cmpL]
  simp [List.getD_eq_getElem?_getD, List.getElem?_eq_getElem h1, List.getElem?_eq_getElem h2]
/-- The cells of a packet. -/
def enc8 (x : P8) : List Value := [.int .u16 x.a0, .int .u16 x.a1, .int .u16 x.a2, .int .u16 x.a3, .int .u16 x.a4, .int .u16 x.a5, .int .u16 x.a6, .int .u16 x.a7]
/-- The value of a packet. -/
abbrev P8.v (x : P8) : Value := pk x.a0 x.a1 x.a2 x.a3 x.a4 x.a5 x.a6 x.a7
theorem enc8_cells (x : P8) : cellsP x.l = (enc8 x).toArray := rfl
theorem P8.v_enc (x : P8) : x.v = .agg (enc8 x).toArray := rfl
theorem grow_more (w : World) (q n : Nat) (os : Array Obj) : (grow (w.drewN q) os).drewN n = grow (w.drewN (q + n)) os := by
  simp [grow, World.drewN, Nat.add_assoc]
theorem gw_more {w wr : World} (h : ∃ q os, wr = grow (w.drewN q) os) (n : Nat) : ∃ q os, wr.drewN n = grow (w.drewN q) os := by
  obtain ⟨q, os, rfl⟩ := h
  exact ⟨_, _, grow_more w q n os⟩
theorem grow_two (w : World) (A B : Obj) : (w.alloc A).alloc B = grow (w.drewN 0) #[A, B] := by
  rw [alloc_eq_grow, alloc_eq_grow, grow_grow]; rfl

set_option maxRecDepth 100000 in
set_option maxHeartbeats 400000 in
theorem cmp27 (x y : P8) (w : World) : Calls Try.prog 64 #[x.v, y.v] w fun e w' => e = .returned (.int .i64 (cf x y)) ∧ ∃ q os, w' = grow (w.drewN q) os := by
  have hl := x.len
  have hm := y.len
  have hbx : ∀ (w : World) (B : Obj), ((w.alloc (.cells (cellsP x.l) 25)).alloc B).heap[w.heap.size]? = some (.cells (cellsP x.l) 25) := fun w B => heap_alloc2_old _ _ _
  have hby : ∀ (w : World) (A : Obj), ((w.alloc A).alloc (.cells (cellsP y.l) 25)).heap[w.heap.size + 1]? = some (.cells (cellsP y.l) 25) := fun w B => heap_alloc2_new _ _ _
  unfold cf
  rw [show x.v = .agg (cellsP x.l) from rfl, show y.v = .agg (cellsP y.l) from rfl]
  generalize x.l = l at *
  generalize y.l = m at *
  obtain ⟨a0, a1, a2, a3, a4, a5, a6, a7, rfl⟩ := eight hl
  obtain ⟨b0, b1, b2, b3, b4, b5, b6, b7, rfl⟩ := eight hm
  have hbx' := hbx w
  have hby' := hby w
  simp only [cellsP, List.map_cons, List.map_nil] at hbx' hby' ⊢
  clear hbx hby
  go_enter Try.func64, Try.ntmps64
  go_wp2
  go_loopw [7] (fun i wr => ∃ k : Nat, k ≤ 8 ∧ i = .int .i64 k ∧ Hid (cmpL [a0, a1, a2, a3, a4, a5, a6, a7] [b0, b1, b2, b3, b4, b5, b6, b7] = cmpL ([a0, a1, a2, a3, a4, a5, a6, a7].drop k) ([b0, b1, b2, b3, b4, b5, b6, b7].drop k)) ∧ wr.heap[w.heap.size]? = some (.cells #[.int .u16 a0, .int .u16 a1, .int .u16 a2, .int .u16 a3, .int .u16 a4, .int .u16 a5, .int .u16 a6, .int .u16 a7] 25) ∧ wr.heap[w.heap.size + 1]? = some (.cells #[.int .u16 b0, .int .u16 b1, .int .u16 b2, .int .u16 b3, .int .u16 b4, .int .u16 b5, .int .u16 b6, .int .u16 b7] 25) ∧ Hid (∃ q os, wr = grow (w.drewN q) os)) (fun i _ => 8 - (intOf i).toNat)
  case atStart => exact ⟨0, Nat.zero_le _, rfl, rfl, hbx' _, hby' _, ⟨0, _, grow_two w _ _⟩⟩
  case round =>
    obtain ⟨k, hk, rfl, HC, hx, hy, HW⟩ := hrel
    by_cases hlt : k < 8
    · have c1 := getD8 hx (k : Int) (by omega) (by omega)
      have c2 := getD8 hy (k : Int) (by omega) (by omega)
      simp only [Int.toNat_natCast] at c1 c2
      have hstep := cmpL_drop [a0, a1, a2, a3, a4, a5, a6, a7] [b0, b1, b2, b3, b4, b5, b6, b7] k hlt hlt
      rw [← HC.out] at hstep
      have HC2 : Hid (cmpL [a0, a1, a2, a3, a4, a5, a6, a7] [b0, b1, b2, b3, b4, b5, b6, b7] = _) := hstep
      clear hstep HC
      generalize [a0, a1, a2, a3, a4, a5, a6, a7].getD k 0 = X at *
      generalize [b0, b1, b2, b3, b4, b5, b6, b7].getD k 0 = Y at *
      have hcm := cmp43 X Y
      by_cases h1 : X < Y
      · rw [show cmp1 X Y = -1 by simp [cmp1, h1]] at hcm
        have HR : Hid (cmpL [a0, a1, a2, a3, a4, a5, a6, a7] [b0, b1, b2, b3, b4, b5, b6, b7] = -1) := by show _ = _; rw [HC2.out, if_pos h1]
        clear HC2 h1
        go_wp2
        go_quiet ((go_at_call 69; exact Calls.quiet_of_same (hcm _)))
        go_wp2
        go_ret
        refine ⟨by rw [HR.out]; rfl, ?_⟩
        first | exact gw_more HW.out _ | exact gw_more (gw_more HW.out _) _
      · by_cases h2 : Y < X
        · rw [show cmp1 X Y = 1 by simp [cmp1, h1, h2]] at hcm
          have HR : Hid (cmpL [a0, a1, a2, a3, a4, a5, a6, a7] [b0, b1, b2, b3, b4, b5, b6, b7] = 1) := by show _ = _; rw [HC2.out, if_neg h1, if_pos h2]
          clear HC2 h1 h2
          go_wp2
          go_quiet ((go_at_call 69; exact Calls.quiet_of_same (hcm _)))
          go_wp2
          go_ret
          refine ⟨by rw [HR.out]; rfl, ?_⟩
          first | exact gw_more HW.out _ | exact gw_more (gw_more HW.out _) _
        · rw [show cmp1 X Y = 0 by simp [cmp1, h1, h2]] at hcm
          have HR : Hid (cmpL [a0, a1, a2, a3, a4, a5, a6, a7] [b0, b1, b2, b3, b4, b5, b6, b7] = cmpL ([a0, a1, a2, a3, a4, a5, a6, a7].drop (k + 1)) ([b0, b1, b2, b3, b4, b5, b6, b7].drop (k + 1))) := by show _ = _; rw [HC2.out, if_neg h1, if_neg h2]
          clear HC2 h1 h2
          go_wp2
          go_quiet ((go_at_call 69; exact Calls.quiet_of_same (hcm _)))
          go_wp2
          refine ⟨⟨k + 1, by omega, by go_num, HR, hx, hy, ?_⟩, by simp [intOf]; omega⟩
          first | exact gw_more HW.out _ | exact gw_more (gw_more HW.out _) _
    · have hk8 : k = 8 := by omega
      subst hk8
      have HR : Hid (cmpL [a0, a1, a2, a3, a4, a5, a6, a7] [b0, b1, b2, b3, b4, b5, b6, b7] = 0) := HC.out
      clear HC
      go_wp2
      go_ret
      exact ⟨by rw [HR.out]; rfl, HW.out⟩

set_option maxRecDepth 100000 in
set_option maxHeartbeats 400000 in
theorem cmp28 (x y : P8) (w : World) : Calls Try.prog 50 #[x.v, y.v] w fun e w' => e = .returned (.int .i64 (cf x y)) ∧ ∃ q os, w' = grow (w.drewN q) os := by
  have hl := x.len
  have hm := y.len
  have hbx : ∀ (w : World) (B : Obj), ((w.alloc (.cells (cellsP x.l) 25)).alloc B).heap[w.heap.size]? = some (.cells (cellsP x.l) 25) := fun w B => heap_alloc2_old _ _ _
  have hby : ∀ (w : World) (A : Obj), ((w.alloc A).alloc (.cells (cellsP y.l) 25)).heap[w.heap.size + 1]? = some (.cells (cellsP y.l) 25) := fun w B => heap_alloc2_new _ _ _
  unfold cf
  rw [show x.v = .agg (cellsP x.l) from rfl, show y.v = .agg (cellsP y.l) from rfl]
  generalize x.l = l at *
  generalize y.l = m at *
  obtain ⟨a0, a1, a2, a3, a4, a5, a6, a7, rfl⟩ := eight hl
  obtain ⟨b0, b1, b2, b3, b4, b5, b6, b7, rfl⟩ := eight hm
  have hbx' := hbx w
  have hby' := hby w
  simp only [cellsP, List.map_cons, List.map_nil] at hbx' hby' ⊢
  clear hbx hby
  go_enter Try.func50, Try.ntmps50
  go_wp2
  go_loopw [5] (fun i wr => ∃ k : Nat, k ≤ 8 ∧ i = .int .i64 k ∧ Hid (cmpL [a0, a1, a2, a3, a4, a5, a6, a7] [b0, b1, b2, b3, b4, b5, b6, b7] = cmpL ([a0, a1, a2, a3, a4, a5, a6, a7].drop k) ([b0, b1, b2, b3, b4, b5, b6, b7].drop k)) ∧ wr.heap[w.heap.size]? = some (.cells #[.int .u16 a0, .int .u16 a1, .int .u16 a2, .int .u16 a3, .int .u16 a4, .int .u16 a5, .int .u16 a6, .int .u16 a7] 25) ∧ wr.heap[w.heap.size + 1]? = some (.cells #[.int .u16 b0, .int .u16 b1, .int .u16 b2, .int .u16 b3, .int .u16 b4, .int .u16 b5, .int .u16 b6, .int .u16 b7] 25) ∧ Hid (∃ q os, wr = grow (w.drewN q) os)) (fun i _ => 8 - (intOf i).toNat)
  case atStart => exact ⟨0, Nat.zero_le _, rfl, rfl, hbx' _, hby' _, ⟨0, _, grow_two w _ _⟩⟩
  case round =>
    obtain ⟨k, hk, rfl, HC, hx, hy, HW⟩ := hrel
    by_cases hlt : k < 8
    · have c1 := getD8 hx (k : Int) (by omega) (by omega)
      have c2 := getD8 hy (k : Int) (by omega) (by omega)
      simp only [Int.toNat_natCast] at c1 c2
      have hstep := cmpL_drop [a0, a1, a2, a3, a4, a5, a6, a7] [b0, b1, b2, b3, b4, b5, b6, b7] k hlt hlt
      rw [← HC.out] at hstep
      have HC2 : Hid (cmpL [a0, a1, a2, a3, a4, a5, a6, a7] [b0, b1, b2, b3, b4, b5, b6, b7] = _) := hstep
      clear hstep HC
      generalize [a0, a1, a2, a3, a4, a5, a6, a7].getD k 0 = X at *
      generalize [b0, b1, b2, b3, b4, b5, b6, b7].getD k 0 = Y at *
      by_cases h1 : X < Y
      · have d1 : decide (X < Y) = true := by simp; omega
        have HR : Hid (cmpL [a0, a1, a2, a3, a4, a5, a6, a7] [b0, b1, b2, b3, b4, b5, b6, b7] = -1) := by show _ = _; rw [HC2.out, if_pos h1]
        clear HC2 h1
        go_wp2
        go_quiet (fail)
        go_wp2
        go_ret
        refine ⟨by rw [HR.out]; rfl, ?_⟩
        first | exact gw_more HW.out _ | exact gw_more (gw_more HW.out _) _
      · have d1 : decide (X < Y) = false := by simp; omega
        by_cases h2 : Y < X
        · have d2 : decide (Y < X) = true := by simp; omega
          have HR : Hid (cmpL [a0, a1, a2, a3, a4, a5, a6, a7] [b0, b1, b2, b3, b4, b5, b6, b7] = 1) := by show _ = _; rw [HC2.out, if_neg h1, if_pos h2]
          clear HC2 h1 h2
          go_wp2
          go_quiet (fail)
          go_wp2
          go_quiet (fail)
          go_wp2
          go_ret
          refine ⟨by rw [HR.out]; rfl, ?_⟩
          first | exact gw_more HW.out _ | exact gw_more (gw_more HW.out _) _
        · have d2 : decide (Y < X) = false := by simp; omega
          have HR : Hid (cmpL [a0, a1, a2, a3, a4, a5, a6, a7] [b0, b1, b2, b3, b4, b5, b6, b7] = cmpL ([a0, a1, a2, a3, a4, a5, a6, a7].drop (k + 1)) ([b0, b1, b2, b3, b4, b5, b6, b7].drop (k + 1))) := by show _ = _; rw [HC2.out, if_neg h1, if_neg h2]
          clear HC2 h1 h2
          go_wp2
          go_quiet (fail)
          go_wp2
          go_quiet (fail)
          go_wp2
          refine ⟨⟨k + 1, by omega, by go_num, HR, hx, hy, ?_⟩, by simp [intOf]; omega⟩
          first | exact gw_more HW.out _ | exact gw_more (gw_more HW.out _) _
    · have hk8 : k = 8 := by omega
      subst hk8
      have HR : Hid (cmpL [a0, a1, a2, a3, a4, a5, a6, a7] [b0, b1, b2, b3, b4, b5, b6, b7] = 0) := HC.out
      clear HC
      go_wp2
      go_ret
      exact ⟨by rw [HR.out]; rfl, HW.out⟩
end Go.Proofs.Ytbcikkofbdfmaaa

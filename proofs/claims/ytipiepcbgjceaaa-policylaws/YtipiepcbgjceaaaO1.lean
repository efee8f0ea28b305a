/- Rows of numbers that are sorted in place: the words of their walks; no conditions. -/
import Derived.Test.YtipiepcbgjceaaaB0
import Derived.Sort.AssemblyPlain
import Derived.Sort.LotD3
import Derived.Sort.Grow
import Derived.CellFam
import Derived.Deep.Draws
import Derived.Deep.RegionWith
import Derived.BigQuiet
import Derived.BigGuard
import Derived.BigCall
set_option linter.unusedVariables false
set_option linter.unusedSimpArgs false
namespace Go.Proofs.Ytipiepcbgjceaaa
open Go.RowKit Go.Joins Go.Sort

/-- A row of numbers of 16 bits that was d0 holds d; all else is as it was, but for draws and new blocks. -/
structure Sd (w : World) (b off : Nat) (d0 d : Array Int) (wr : World) : Prop where
  old : Holds (Value.int .u16) w b off d0
  lt : b < w.heap.size
  size : d.size = d0.size
  eqn : ∃ n os, wr = grow (putRow (Value.int .u16) (Sort.ahead w n) b off d) os
theorem Sd.start {w : World} {b off : Nat} {d : Array Int} (h : Holds (Value.int .u16) w b off d) (hb : b < w.heap.size) : Sd w b off d d w :=
  ⟨h, hb, rfl, 0, #[], by rw [ahead_zero, putRow_self _ _ _ _ _ h, grow_empty]⟩
theorem Sd.holds {w : World} {b off : Nat} {d0 d : Array Int} {wr : World} (h : Sd w b off d0 d wr) : Holds (Value.int .u16) wr b off d := by
  obtain ⟨n, os, rfl⟩ := h.eqn
  exact holds_grow _ _ _ _ _ _ (by simpa using h.lt) (holds_putRow _ _ _ _ d0 d (holds_ahead _ _ _ _ _ _ h.old) h.size)
theorem Sd.lt' {w : World} {b off : Nat} {d0 d : Array Int} {wr : World} (h : Sd w b off d0 d wr) : b < wr.heap.size := by
  obtain ⟨n, os, rfl⟩ := h.eqn
  have := h.lt
  simp; omega
theorem Sd.cells {w : World} {b off : Nat} {d0 d : Array Int} {wr : World} (h : Sd w b off d0 d wr) {N : Nat} (hN : d0.size = N) :
    ∃ G : Nat → Int, Hid (∀ t, G t = d[t]!) ∧ (∀ t, t < N → wr.cell? ⟨b, off + t, none⟩ = some (.int .u16 (G t))) ∧ (∀ t, t < N → wr.frozen? ⟨b, off + t, none⟩ = false) :=
  ⟨fun t => d[t]!, fun _ => rfl, fun t ht => (h.holds t (by rw [h.size]; omega)).1, fun t ht => (h.holds t (by rw [h.size]; omega)).2⟩
theorem Sd.drewN {w : World} {b off : Nat} {d0 d : Array Int} {wr : World} (h : Sd w b off d0 d wr) (q : Nat) : Sd w b off d0 d (wr.drewN q) := by
  obtain ⟨n, os, rfl⟩ := h.eqn
  refine ⟨h.old, h.lt, h.size, n + q, os, ?_⟩
  show grow (Sort.ahead (putRow _ (Sort.ahead w n) b off d) q) os = _
  rw [putRow_ahead _ w n, ahead_ahead, ← putRow_ahead]
theorem Sd.drew {w : World} {b off : Nat} {d0 d : Array Int} {wr : World} (h : Sd w b off d0 d wr) : Sd w b off d0 d wr.drew := h.drewN 1
theorem Sd.swap {w : World} {b off : Nat} {d0 d : Array Int} {wr : World} (h : Sd w b off d0 d wr) {i j : Nat} (hi : i < d.size) (hj : j < d.size) {x y : Int} (hx : x = d[j]!) (hy : y = d[i]!) :
    Sd w b off d0 (swp d i j) ((wr.setCell ⟨b, off + i, none⟩ (.int .u16 x)).setCell ⟨b, off + j, none⟩ (.int .u16 y)) := by
  obtain ⟨n, os, rfl⟩ := h.eqn
  subst hx hy
  refine ⟨h.old, h.lt, by rw [size_swp]; exact h.size, n, os, ?_⟩
  rw [setCell_eq, setCell_eq, mapBlock_grow _ _ _ _ (by simpa using h.lt), mapBlock_grow _ _ _ _ (by simpa [mapBlock] using h.lt), ← setCell_eq, ← setCell_eq, putRow_swp _ _ _ _ _ _ _ hi hj]
theorem Sd.trans {w : World} {b off : Nat} {d0 d d' : Array Int} {wr wz : World} (h : Sd w b off d0 d wr) (k : Sd wr b off d d' wz) : Sd w b off d0 d' wz := by
  obtain ⟨n, os, rfl⟩ := h.eqn
  obtain ⟨m, os', rfl⟩ := k.eqn
  exact ⟨h.old, h.lt, k.size.trans h.size, n + m, os ++ os', grow_step_grow _ _ _ _ _ _ _ _ _ _ h.lt k.size⟩
theorem Sd.alloc {w : World} {b off : Nat} {d0 d : Array Int} {wr : World} (h : Sd w b off d0 d wr) (o : Obj) : Sd w b off d0 d (wr.alloc o) := by
  obtain ⟨n, os, rfl⟩ := h.eqn
  exact ⟨h.old, h.lt, h.size, n, os ++ #[o], by rw [alloc_eq_grow, grow_grow]⟩
/-- A store into a new block. -/
theorem Sd.new {w : World} {b off : Nat} {d0 d : Array Int} {wr : World} (h : Sd w b off d0 d wr) {p : Addr} (hp : w.heap.size ≤ p.block) (hq : p.spot = none) (v : Value) : Sd w b off d0 d (wr.setCell p v) := by
  obtain ⟨n, os, rfl⟩ := h.eqn
  obtain ⟨pb, po, ps⟩ := p
  simp only at hp hq
  subst hq
  refine ⟨h.old, h.lt, h.size, n, os.modify (pb - w.heap.size) (onCells (·.setIfInBounds po v)), ?_⟩
  rw [setCell_eq, mapBlock_grow_new _ _ _ _ (by simpa using hp)]
  simp
theorem Sd.other {w : World} {b off : Nat} {d0 d : Array Int} {wr : World} (h : Sd w b off d0 d wr) {k : Nat} (hk : k < w.heap.size) (hne : k ≠ b) : wr.heap[k]? = w.heap[k]? := by
  obtain ⟨n, os, rfl⟩ := h.eqn
  rw [heap_grow_old _ _ (by simpa using hk)]
  simp [putRow, mapBlock, Array.getElem?_modify, Ne.symm hne]
theorem Sd.mem {w : World} {b off : Nat} {d0 d : Array Int} {wr : World} (h : Sd w b off d0 d wr) : wr.os = w.os ∧ wr.tape = w.tape ∧ wr.output = w.output ∧ w.heap.size ≤ wr.heap.size := by
  obtain ⟨n, os, rfl⟩ := h.eqn
  exact ⟨rfl, rfl, rfl, by simp⟩
theorem hid {p : Prop} (h : p) : Hid p := h
theorem nan_lt (a : Int) (w : World) : Calls Try.prog 85 #[.int .u16 a] w fun e w' => e = .returned (.bool false) ∧ w' = w := by
  go_enter Try.func85, Try.ntmps85
  go_wp2
  go_ret
  exact ⟨rfl, rfl⟩
theorem less_lt (x y : Int) (w : World) : Calls Try.prog 87 #[.int .u16 x, .int .u16 y] w fun e w' => e = .returned (.bool (ltInt x y)) ∧ w' = w := by
  have c1 := nan_lt x w
  go_enter Try.func87, Try.ntmps87
  go_wp2_with fail
  refine c1.mono ?_
  rintro e w1 ⟨rfl, hw⟩
  subst hw
  go_wp2
  go_ret
  exact ⟨rfl, rfl⟩
end Go.Proofs.Ytipiepcbgjceaaa
/- Short rows are sorted by insertion; no conditions but the row's length. -/
set_option linter.unusedVariables false
set_option linter.unusedSimpArgs false
namespace Go.Proofs.Ytipiepcbgjceaaa
open Go.RowKit Go.Joins Go.Sort

theorem inner_one (a j : Nat) (d : Array Int) (hj : a < j) (hl : ltInt d[j]! d[j - 1]! = true) : insInner ltInt a j d = insInner ltInt a (j - 1) (swp d j (j - 1)) := by
  cases j with
  | zero => omega
  | succ k =>
    rw [Nat.add_sub_cancel] at hl ⊢
    rw [insInner, if_pos (by simp [hl]; omega)]
theorem outer_one (a z i : Nat) (d : Array Int) (h : i < z) : insOuter ltInt a z i d = insOuter ltInt a z (i + 1) (insInner ltInt a i d) := by
  rw [insOuter, if_pos h]
theorem inner_end (a j : Nat) (d : Array Int) (h : j ≤ a ∨ ltInt d[j]! d[j - 1]! = false) : insInner ltInt a j d = d := by
  cases j with
  | zero => rfl
  | succ k =>
    rw [Nat.add_sub_cancel] at h
    rw [insInner, if_neg]
    rcases h with h | h
    · simp; omega
    · simp [h]
set_option maxRecDepth 100000 in
set_option maxHeartbeats 2000000 in
theorem ins_any (b off cap a z N : Nat) (d : Array Int) (w : World) (hH : Holds (Value.int .u16) w b off d) (hb : b < w.heap.size) (haz : a ≤ z) (hz : z ≤ N) (hd : d.size = N) (hN : N ≤ 100000) :
    Calls Try.prog 94 #[.slice (some ⟨b, off, none⟩) N cap, .int .i64 a, .int .i64 z] w fun e w' => e = .returned (.tuple #[]) ∧ Sd w b off d (insertionSort ltInt d a z) w' := by
  have S0 : Hid (Sd w b off d d w) := Sd.start hH hb
  have HD : Hid (d.size = N) := hd
  clear hH hd
  go_enter Try.func94, Try.ntmps94
  go_wp2
  go_loopw [6] (fun vi wr => ∃ (i : Nat) (x : Array Int), vi = .int .i64 i ∧ a < i ∧ i ≤ z + 1 ∧ Hid (Sd w b off d x wr) ∧ Hid (insOuter ltInt a z i x = insOuter ltInt a z (a + 1) d)) (fun vi _ => z + 1 - (intOf vi).toNat)
  case atStart => exact ⟨a + 1, d, by go_num, by omega, by omega, S0, rfl⟩
  case round =>
    obtain ⟨i, x, rfl, hai, hiz, HS, HO⟩ := hrel
    clear S0
    by_cases hlt : i < z
    · go_wp2
      go_loopw [7] (fun vj w2 => ∃ (j : Nat) (y : Array Int), vj = .int .i64 j ∧ a ≤ j ∧ j ≤ i ∧ Hid (Sd w b off d y w2) ∧ Hid (insInner ltInt a j y = insInner ltInt a i x)) (fun vj _ => (intOf vj).toNat)
      case atStart => exact ⟨i, x, rfl, by omega, Nat.le_refl _, HS, rfl⟩
      case round =>
        obtain ⟨j, y, rfl, haj, hji, HT, HI⟩ := hrel
        clear HS
        obtain ⟨G, HG, hc, hf⟩ := HT.out.cells HD.out
        by_cases hja : a < j
        · have dj : decide ((a : Int) < (j : Int)) = true := by simp; omega
          go_wp2
          go_quiet ((go_at_call 87; exact Calls.quiet_of_same (less_lt _ _ _)))
          go_wp2
          · have hl : Hid (ltInt y[j]! y[j - 1]! = true) := by rw [← HG.out, ← HG.out]; assumption
            go_region
            all_goals go_wp2
            go_roundw
            case rel =>
              refine ⟨j - 1, swp y j (j - 1), by congr 1; omega, by omega, by omega, ?_, (inner_one a j y hja hl.out).symm.trans HI.out⟩
              have hy : y.size = N := by rw [HT.out.size]; exact HD.out
              exact ((HT.out.drewN (nq + 1)).swap (by omega) (by omega) (HG.out _) (HG.out _))
            case measure => simp [intOf]; omega
          · have hl : ltInt y[j]! y[j - 1]! = false := by rw [← HG.out, ← HG.out]; assumption
            go_roundw
            case rel => exact ⟨i + 1, y, by go_num, by omega, by omega, HT.out.drewN nq, ((congrArg (insOuter ltInt a z (i + 1)) ((inner_end a j y (.inr hl)).symm.trans HI.out)).trans (outer_one a z i x hlt).symm).trans HO.out⟩
            case measure => simp [intOf]; omega
        · have dj : decide ((a : Int) < (j : Int)) = false := by simp; omega
          go_wp2
          go_quiet ((go_at_call 87; exact Calls.quiet_of_same (less_lt _ _ _)))
          go_wp2
          go_roundw
          case rel => exact ⟨i + 1, y, by go_num, by omega, by omega, HT.out.drewN nq, ((congrArg (insOuter ltInt a z (i + 1)) ((inner_end a j y (.inl (by omega))).symm.trans HI.out)).trans (outer_one a z i x hlt).symm).trans HO.out⟩
          case measure => simp [intOf]; omega
    · go_wp2
      go_end0
      refine ⟨rfl, ?_⟩
      unfold insertionSort
      rw [← HO.out, insOuter, if_neg hlt]
      exact HS.out
end Go.Proofs.Ytipiepcbgjceaaa

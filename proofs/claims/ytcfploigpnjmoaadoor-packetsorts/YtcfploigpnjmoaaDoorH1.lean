/- What the law PacketHas answers, for every packet, field and two numbers: true, wherever the listed variables hold what the row lists. -/
import Derived.Test.YtcfploigpnjmoaaDoorA8
import Derived.Deep.AppendLies
import Derived.Deep.RegionHeld3
set_option linter.unusedVariables false
set_option linter.unusedSimpArgs false
namespace Go.Proofs.YtcfploigpnjmoaaDoor
open Go.RowKit Go.Joins Go.Sort

/-- Pairs as cells. -/
def flatP : List (Int × Int) → List Value
  | [] => []
  | c :: r => .int .i64 c.1 :: .int .u16 c.2 :: flatP r
theorem flatP_append (a b : List (Int × Int)) : flatP (a ++ b) = flatP a ++ flatP b := by
  induction a with
  | nil => rfl
  | cons c r ih => simp [flatP, ih]
theorem flatP_length (a : List (Int × Int)) : (flatP a).length = a.length * 2 := by
  induction a with
  | nil => rfl
  | cons c r ih => simp [flatP, ih]; omega
/-- A packet's own pairs, up to the field k. -/
def ownTo (l : List Int) (k : Nat) : List (Int × Int) := (List.range k).map fun (i : Nat) => ((i : Int), l.getD i 0)
theorem ownTo_succ (l : List Int) (k : Nat) : ownTo l (k + 1) = ownTo l k ++ [((k : Int), l.getD k 0)] := by
  simp [ownTo, List.range_succ]
theorem ownTo_length (l : List Int) (k : Nat) : (ownTo l k).length = k := by simp [ownTo]
theorem info53 : (Tryd.prog.info? 53).map (fun i => (i.zero, i.size, i.bytes)) = some (some (.agg #[.int .i64 0, .int .u16 0]), 2, 16) := by kernel_rfl

/-- Pairs lie behind a slice. -/
def PairsAt (w : World) (v : Value) (L : List (Int × Int)) : Prop :=
  ∃ b off cap, v = .slice (some ⟨b, off, none⟩) L.length cap ∧ b < w.heap.size ∧ L.length ≤ 9223372036854775807 ∧ ∀ i (_ : i < L.length), w.cell? ⟨b, off + i * 2, none⟩ = some (.int .i64 L[i].1) ∧ w.cell? ⟨b, off + i * 2 + 1, none⟩ = some (.int .u16 L[i].2)
theorem has_at (a0 a1 a2 a3 a4 a5 a6 a7 : Int) (w : World) (v : Value) (L : List (Int × Int)) (hP : PairsAt w v L) (r : Bool) (hr : hasAll [a0, a1, a2, a3, a4, a5, a6, a7] L = r) :
    Calls Tryd.prog 15 #[pk a0 a1 a2 a3 a4 a5 a6 a7, v] w fun e w' => e = .returned (.bool r) ∧ Below w.heap.size w w' := by
  obtain ⟨b, off, cap, rfl, hb, hL, hc⟩ := hP
  refine (has_some a0 a1 a2 a3 a4 a5 a6 a7 b off cap L w hL hb hc).mono fun e w' ⟨he, hw⟩ => ⟨?_, hw⟩
  rw [he, hr]
theorem pairs_new (w : World) (F N : Int) : PairsAt (w.alloc (.cells #[.int .i64 F, .int .u16 N] 53)) (.slice (some ⟨w.heap.size, 0, none⟩) 1 1) [(F, N)] := by
  refine ⟨w.heap.size, 0, 1, rfl, by simp, by simp, fun i hi => ?_⟩
  have hnew := heap_alloc_new w (.cells #[.int .i64 F, .int .u16 N] 53)
  rw [cell_of_row _ _ _ _ _ _ hnew, cell_of_row _ _ _ _ _ _ hnew]
  match i, hi with
  | 0, _ => exact ⟨rfl, rfl⟩
theorem PairsAt.below {w w' : World} {v : Value} {L : List (Int × Int)} (h : PairsAt w v L) (hb : Below w.heap.size w w') : PairsAt w' v L := by
  obtain ⟨b, off, cap, hv, hlt, hL, hc⟩ := h
  refine ⟨b, off, cap, hv, Nat.lt_of_lt_of_le hlt hb.size, hL, fun i hi => ?_⟩
  rw [hb.cell (p := ⟨b, _, none⟩) hlt, hb.cell (p := ⟨b, _, none⟩) hlt]
  exact hc i hi
theorem keepH {wr w w' : World} {gp gn ga : Nat} {a0 a1 a2 a3 a4 a5 a6 a7 b0 b1 b2 b3 b4 b5 b6 b7 n0 n1 : Int} (h : Below wr.heap.size wr w ∧ w.cell? ⟨ga, 0, none⟩ = some (.int .u16 b0) ∧ w.cell? ⟨ga, 1, none⟩ = some (.int .u16 b1) ∧ w.cell? ⟨ga, 2, none⟩ = some (.int .u16 b2) ∧ w.cell? ⟨ga, 3, none⟩ = some (.int .u16 b3) ∧ w.cell? ⟨ga, 4, none⟩ = some (.int .u16 b4) ∧ w.cell? ⟨ga, 5, none⟩ = some (.int .u16 b5) ∧ w.cell? ⟨ga, 6, none⟩ = some (.int .u16 b6) ∧ w.cell? ⟨ga, 7, none⟩ = some (.int .u16 b7) ∧ w.cell? ⟨gp, 0, none⟩ = some (.int .u16 a0) ∧ w.cell? ⟨gp, 1, none⟩ = some (.int .u16 a1) ∧ w.cell? ⟨gp, 2, none⟩ = some (.int .u16 a2) ∧ w.cell? ⟨gp, 3, none⟩ = some (.int .u16 a3) ∧ w.cell? ⟨gp, 4, none⟩ = some (.int .u16 a4) ∧ w.cell? ⟨gp, 5, none⟩ = some (.int .u16 a5) ∧ w.cell? ⟨gp, 6, none⟩ = some (.int .u16 a6) ∧ w.cell? ⟨gp, 7, none⟩ = some (.int .u16 a7) ∧ w.cell? ⟨gn, 0, none⟩ = some (.int .u16 n0) ∧ w.cell? ⟨gn, 1, none⟩ = some (.int .u16 n1)) (hb : Below w.heap.size w w') :
    Below wr.heap.size wr w' ∧ w'.cell? ⟨ga, 0, none⟩ = some (.int .u16 b0) ∧ w'.cell? ⟨ga, 1, none⟩ = some (.int .u16 b1) ∧ w'.cell? ⟨ga, 2, none⟩ = some (.int .u16 b2) ∧ w'.cell? ⟨ga, 3, none⟩ = some (.int .u16 b3) ∧ w'.cell? ⟨ga, 4, none⟩ = some (.int .u16 b4) ∧ w'.cell? ⟨ga, 5, none⟩ = some (.int .u16 b5) ∧ w'.cell? ⟨ga, 6, none⟩ = some (.int .u16 b6) ∧ w'.cell? ⟨ga, 7, none⟩ = some (.int .u16 b7) ∧ w'.cell? ⟨gp, 0, none⟩ = some (.int .u16 a0) ∧ w'.cell? ⟨gp, 1, none⟩ = some (.int .u16 a1) ∧ w'.cell? ⟨gp, 2, none⟩ = some (.int .u16 a2) ∧ w'.cell? ⟨gp, 3, none⟩ = some (.int .u16 a3) ∧ w'.cell? ⟨gp, 4, none⟩ = some (.int .u16 a4) ∧ w'.cell? ⟨gp, 5, none⟩ = some (.int .u16 a5) ∧ w'.cell? ⟨gp, 6, none⟩ = some (.int .u16 a6) ∧ w'.cell? ⟨gp, 7, none⟩ = some (.int .u16 a7) ∧ w'.cell? ⟨gn, 0, none⟩ = some (.int .u16 n0) ∧ w'.cell? ⟨gn, 1, none⟩ = some (.int .u16 n1) := by
  have k : ∀ {a : Addr} {v : Value}, w.cell? a = some v → w'.cell? a = some v := fun ha => by rw [hb.cell (block_lt_of_cell ha)]; exact ha
  obtain ⟨hB, x0, x1, x2, x3, x4, x5, x6, x7, y0, y1, y2, y3, y4, y5, y6, y7, z0, z1⟩ := h
  exact ⟨hB.trans (hb.mono hB.size), k x0, k x1, k x2, k x3, k x4, k x5, k x6, k x7, k y0, k y1, k y2, k y3, k y4, k y5, k y6, k y7, k z0, k z1⟩
theorem put_put (l : List Int) (f m n : Int) : put (put l f m) f n = put l f n := by
  unfold put; split
  · rw [List.set_set]
  · rfl
theorem put_has (l : List Int) (f n x : Int) (h0 : 0 ≤ f) (h8 : f < 8) (hl : l.length = 8) : hasAll (put l f n) [(f, x)] = (x == n) := by
  have hlt : f.toNat < l.length := by omega
  simp [hasAll, hasOne, put, h0, h8, List.getD_eq_getElem?_getD, List.getElem?_set_self hlt, Bool.beq_comm]

set_option maxRecDepth 100000 in
set_option maxHeartbeats 1000000 in
theorem has_law (a0 a1 a2 a3 a4 a5 a6 a7 f n0 n1 : Int) (w : World) (h : Env w) (h0 : 0 ≤ f) (h7 : f ≤ 7) :
    Calls Tryd.prog 6 #[pk a0 a1 a2 a3 a4 a5 a6 a7, .int .u8 f, .agg #[.int .u16 n0, .int .u16 n1]] w fun e w' => e = .returned (.bool true) ∧ Below w.heap.size w w' := by
  obtain ⟨i0, hi, hz0, hz1, hz2⟩ := info_parts info53
  have hn7 : decide (7 < f) = false := by simp; omega
  unfold pk
  go_enter Tryd.func6, Tryd.ntmps6
  go_wp2_with fail
  have hB0 : Below w.heap.size w ((w.alloc (.cells #[.int .u16 a0, .int .u16 a1, .int .u16 a2, .int .u16 a3, .int .u16 a4, .int .u16 a5, .int .u16 a6, .int .u16 a7] 24)).alloc (.cells #[.int .u16 n0, .int .u16 n1] 51)) := ((Below.refl _ _).alloc (Nat.le_refl _) _).alloc (by simp) _
  refine (awake_any _ (h.below hB0)).mono ?_
  rintro e w1 ⟨rfl, hb1⟩
  have hbp : w1.heap[w.heap.size]? = some (.cells #[.int .u16 a0, .int .u16 a1, .int .u16 a2, .int .u16 a3, .int .u16 a4, .int .u16 a5, .int .u16 a6, .int .u16 a7] 24) := by rw [hb1.block _ (by simp; omega)]; exact heap_alloc2_old _ _ _
  have hbn : w1.heap[w.heap.size + 1]? = some (.cells #[.int .u16 n0, .int .u16 n1] 51) := by rw [hb1.block _ (by simp)]; exact heap_alloc2_new _ _ _
  have hB1 : Below w.heap.size w w1 := hB0.trans (hb1.mono (by simp; omega))
  have hsz1 : w.heap.size + 1 < w1.heap.size := heap_lt hbn
  clear hb1 hB0
  obtain ⟨⟨q0, q1, q2, q3, q4, q5, q6, q7⟩, _, _⟩ := row8 hbp
  have m0 : w1.cell? ⟨w.heap.size + 1, 0, none⟩ = some (.int .u16 n0) := by rw [cell_of_row _ _ _ _ _ _ hbn]; rfl
  have m1 : w1.cell? ⟨w.heap.size + 1, 1, none⟩ = some (.int .u16 n1) := by rw [cell_of_row _ _ _ _ _ _ hbn]; rfl
  go_wp2_with fail
  have hcl : ∀ i (hi : i < [(f, n0), (f, n1)].length), (w1.alloc (.cells #[.int .i64 f, .int .u16 n0, .int .i64 f, .int .u16 n1] 53)).cell? ⟨w1.heap.size, 0 + i * 2, none⟩ = some (.int .i64 [(f, n0), (f, n1)][i].1) ∧ (w1.alloc (.cells #[.int .i64 f, .int .u16 n0, .int .i64 f, .int .u16 n1] 53)).cell? ⟨w1.heap.size, 0 + i * 2 + 1, none⟩ = some (.int .u16 [(f, n0), (f, n1)][i].2) := by
    intro i hi
    have hnew := heap_alloc_new w1 (.cells #[.int .i64 f, .int .u16 n0, .int .i64 f, .int .u16 n1] 53)
    rw [cell_of_row _ _ _ _ _ _ hnew, cell_of_row _ _ _ _ _ _ hnew]
    match i, hi with
    | 0, _ => exact ⟨rfl, rfl⟩
    | 1, _ => exact ⟨rfl, rfl⟩
  refine (do_some a0 a1 a2 a3 a4 a5 a6 a7 w1.heap.size 0 2 [(f, n0), (f, n1)] _ (by simp) (by simp) hcl).mono ?_
  rintro e w2 ⟨b0, b1, b2, b3, b4, b5, b6, b7, rfl, hputs, hb2⟩
  clear hcl q0 q1 q2 q3 q4 q5 q6 q7 m0 m1
  have HP : Hid (puts [a0, a1, a2, a3, a4, a5, a6, a7] [(f, n0), (f, n1)] = [b0, b1, b2, b3, b4, b5, b6, b7]) := hputs
  clear hputs
  have hbp2 : w2.heap[w.heap.size]? = some (.cells #[.int .u16 a0, .int .u16 a1, .int .u16 a2, .int .u16 a3, .int .u16 a4, .int .u16 a5, .int .u16 a6, .int .u16 a7] 24) := by rw [hb2.block _ (by simp; omega), Below.heap_alloc _ _ _ (by omega)]; exact hbp
  have hbn2 : w2.heap[w.heap.size + 1]? = some (.cells #[.int .u16 n0, .int .u16 n1] 51) := by rw [hb2.block _ (by simp; omega), Below.heap_alloc _ _ _ (by omega)]; exact hbn
  have hB2 : Below w.heap.size w w2 := (hB1.alloc (by omega) _).trans (hb2.mono (by simp; omega))
  have hsz2 : w.heap.size + 1 < w2.heap.size := heap_lt hbn2
  clear hb2 hB1 hsz1 hbp hbn h
  unfold pk
  go_wp2_with fail
  go_loopw [9, 30] (fun v i wr => ∃ (k : Nat) , k ≤ 8 ∧ i = .int .i64 k ∧ wr.ownsRow (w2.heap.size + 1) 53 2 v k (flatP (ownTo [b0, b1, b2, b3, b4, b5, b6, b7] k)) ∧ wr.heap[w2.heap.size]? = some (.cells #[.int .u16 b0, .int .u16 b1, .int .u16 b2, .int .u16 b3, .int .u16 b4, .int .u16 b5, .int .u16 b6, .int .u16 b7] 24) ∧ w2.heap.size + 1 ≤ wr.heap.size ∧ Below w2.heap.size w2 wr) (fun _ i _ => 8 - (intOf i).toNat)
  case atStart => exact ⟨0, Nat.zero_le _, rfl, World.ownsRow_nil _ _ _ _, heap_alloc_new _ _, by simp, (Below.refl _ _).alloc (Nat.le_refl _) _⟩
  case round =>
    obtain ⟨k, hk, rfl, hown, hba, hsz, hbw⟩ := hrel
    have hix := ixp b0 b1 b2 b3 b4 b5 b6 b7 k
    by_cases hlt : k < 8
    · have hix' := hix hlt
      clear hix
      generalize hX : [b0, b1, b2, b3, b4, b5, b6, b7].getD k 0 = X at *
      have HX : Hid ([b0, b1, b2, b3, b4, b5, b6, b7].getD k 0 = X) := hX
      clear hX
      go_wp2_with (at_builtin; refine wpList_append_own _ rfl _ _ 25 rfl (w2.heap.size + 1) 53 i0 (.agg #[.int .i64 0, .int .u16 0]) 2 16 Tryd.underlying25 hi hz0 hz1 hz2 rfl (by decide) u9 _ _ rfl (hown.alloc _) ⟨wr.heap.size, 0, none⟩ 1 1 [.int .i64 (k : Int), .int .u16 X] rfl rfl (cell_two_new _ _ _ _) (fun x hx => by simp at hx; rcases hx with rfl | rfl <;> rfl) (by unfold maxLen; omega) (by omega) (by simp; omega) ?_; intro v' w3 hown' hgrow3 hnil3)
      have hfar : some w2.heap.size ≠ u9.ownBlock := fun e => by have := (hown.lt _ e.symm).1; omega
      have hba3 : w3.heap[w2.heap.size]? = some (.cells #[.int .u16 b0, .int .u16 b1, .int .u16 b2, .int .u16 b3, .int .u16 b4, .int .u16 b5, .int .u16 b6, .int .u16 b7] 24) := by
        rw [hgrow3.block w2.heap.size (by simp; omega) hfar, Below.heap_alloc _ _ _ (by omega)]; exact hba
      have hbw3 : Below w2.heap.size w2 w3 := Below.grown (hbw.alloc (by omega) _) hgrow3 (by simp; omega) (fun j hj => by have := (hown.lt _ hj).1; omega)
      have hsz3 : w2.heap.size + 1 ≤ w3.heap.size := heap_lt hba3
      have hown3 : w3.ownsRow (w2.heap.size + 1) 53 2 v' (k + 1) (flatP (ownTo [b0, b1, b2, b3, b4, b5, b6, b7] (k + 1))) := by
        rw [ownTo_succ, flatP_append, HX.out]; exact hown'
      clear hown' hgrow3 hnil3 hfar
      go_wp2
      go_roundw
      case rel => exact ⟨k + 1, by omega, by go_num, hown3, hba3, hsz3, hbw3⟩
      case measure => simp [intOf]; omega
    · have hk8 : k = 8 := by omega
      subst hk8
      clear hix
      have hlen8 : Hid (flatP (ownTo [b0, b1, b2, b3, b4, b5, b6, b7] 8) = flatP [(0, b0), (1, b1), (2, b2), (3, b3), (4, b4), (5, b5), (6, b6), (7, b7)]) := rfl
      obtain ⟨g, cap, cur, hv, hg, hgg, hcap, _, _, htake⟩ : ∃ g cap cur, u9 = .slice (some ⟨g, 0, none⟩) 8 cap ∧ w2.heap.size + 1 ≤ g ∧ wr.heap[g]? = some (.cells cur 53 (0, 0)) ∧ 8 ≤ cap ∧ cap ≤ maxLen ∧ cur.size = cap * 2 ∧ cur.toList.take (8 * 2) = flatP (ownTo [b0, b1, b2, b3, b4, b5, b6, b7] 8) := by
        rcases hown.2 with ⟨_, h8⟩ | hex
        · omega
        · exact hex
      rw [hv]
      clear hown hv
      have hput : put [a0, a1, a2, a3, a4, a5, a6, a7] f n1 = [b0, b1, b2, b3, b4, b5, b6, b7] := by
        have := HP.out
        simp only [puts, List.foldl_cons, List.foldl_nil] at this
        rw [put_put] at this
        exact this
      have H1 : Hid (hasAll [b0, b1, b2, b3, b4, b5, b6, b7] [(f, n1)] = true) := by
        show _ = _
        rw [← hput, put_has _ _ _ _ h0 (by omega) rfl]; simp
      have H0 : Hid (hasAll [b0, b1, b2, b3, b4, b5, b6, b7] [(f, n0)] = (n0 == n1)) := by
        show _ = _
        rw [← hput, put_has _ _ _ _ h0 (by omega) rfl]
      have H8 : Hid (hasAll [b0, b1, b2, b3, b4, b5, b6, b7] [(8, 0)] = false) := rfl
      have HO : Hid (hasAll [b0, b1, b2, b3, b4, b5, b6, b7] [(0, b0), (1, b1), (2, b2), (3, b3), (4, b4), (5, b5), (6, b6), (7, b7)] = true) := by
        show _ = _
        simp [hasAll, hasOne]
      have HW : Hid (∀ W : World, Calls Tryd.prog 13 #[pk a0 a1 a2 a3 a4 a5 a6 a7, .int .i64 f, .int .u16 n1] W fun e w' => e = .returned (pk b0 b1 b2 b3 b4 b5 b6 b7) ∧ Below W.heap.size W w') := by
        intro W
        refine (with_exact a0 a1 a2 a3 a4 a5 a6 a7 f n1 h0 (by omega) W).mono fun e w' ⟨he, hb⟩ => ⟨?_, hb⟩
        rw [he, hput]; rfl
      have HA : Hid (PairsAt wr (.slice (some ⟨g, 0, none⟩) 8 cap) [(0, b0), (1, b1), (2, b2), (3, b3), (4, b4), (5, b5), (6, b6), (7, b7)]) := by
        refine ⟨g, 0, cap, rfl, heap_lt hgg, by simp, fun i hi => ?_⟩
        rw [hlen8.out] at htake
        have key : ∀ j, j < 16 → cur[j]? = (flatP [(0, b0), (1, b1), (2, b2), (3, b3), (4, b4), (5, b5), (6, b6), (7, b7)])[j]? := by
          intro j hj
          rw [← htake, List.getElem?_take_of_lt hj, Array.getElem?_toList]
        rw [cell_of_row _ _ _ _ _ _ hgg, cell_of_row _ _ _ _ _ _ hgg]
        rw [key _ (by simp at hi; omega), key _ (by simp at hi; omega)]
        have h8 : i < 8 := by simpa using hi
        match i, h8 with
        | 0, _ => exact ⟨rfl, rfl⟩
        | 1, _ => exact ⟨rfl, rfl⟩
        | 2, _ => exact ⟨rfl, rfl⟩
        | 3, _ => exact ⟨rfl, rfl⟩
        | 4, _ => exact ⟨rfl, rfl⟩
        | 5, _ => exact ⟨rfl, rfl⟩
        | 6, _ => exact ⟨rfl, rfl⟩
        | 7, _ => exact ⟨rfl, rfl⟩
      have hS0 : Hid (Below wr.heap.size wr wr ∧ wr.cell? ⟨w2.heap.size, 0, none⟩ = some (.int .u16 b0) ∧ wr.cell? ⟨w2.heap.size, 1, none⟩ = some (.int .u16 b1) ∧ wr.cell? ⟨w2.heap.size, 2, none⟩ = some (.int .u16 b2) ∧ wr.cell? ⟨w2.heap.size, 3, none⟩ = some (.int .u16 b3) ∧ wr.cell? ⟨w2.heap.size, 4, none⟩ = some (.int .u16 b4) ∧ wr.cell? ⟨w2.heap.size, 5, none⟩ = some (.int .u16 b5) ∧ wr.cell? ⟨w2.heap.size, 6, none⟩ = some (.int .u16 b6) ∧ wr.cell? ⟨w2.heap.size, 7, none⟩ = some (.int .u16 b7) ∧ wr.cell? ⟨w.heap.size, 0, none⟩ = some (.int .u16 a0) ∧ wr.cell? ⟨w.heap.size, 1, none⟩ = some (.int .u16 a1) ∧ wr.cell? ⟨w.heap.size, 2, none⟩ = some (.int .u16 a2) ∧ wr.cell? ⟨w.heap.size, 3, none⟩ = some (.int .u16 a3) ∧ wr.cell? ⟨w.heap.size, 4, none⟩ = some (.int .u16 a4) ∧ wr.cell? ⟨w.heap.size, 5, none⟩ = some (.int .u16 a5) ∧ wr.cell? ⟨w.heap.size, 6, none⟩ = some (.int .u16 a6) ∧ wr.cell? ⟨w.heap.size, 7, none⟩ = some (.int .u16 a7) ∧ wr.cell? ⟨(w.heap.size + 1), 0, none⟩ = some (.int .u16 n0) ∧ wr.cell? ⟨(w.heap.size + 1), 1, none⟩ = some (.int .u16 n1)) := by
        obtain ⟨⟨x0, x1, x2, x3, x4, x5, x6, x7⟩, _, _⟩ := row8 hba
        have hbp3 : wr.heap[w.heap.size]? = some (.cells #[.int .u16 a0, .int .u16 a1, .int .u16 a2, .int .u16 a3, .int .u16 a4, .int .u16 a5, .int .u16 a6, .int .u16 a7] 24) := by rw [hbw.block _ (by omega)]; exact hbp2
        have hbn3 : wr.heap[w.heap.size + 1]? = some (.cells #[.int .u16 n0, .int .u16 n1] 51) := by rw [hbw.block _ (by omega)]; exact hbn2
        obtain ⟨⟨y0, y1, y2, y3, y4, y5, y6, y7⟩, _, _⟩ := row8 hbp3
        have z0 : wr.cell? ⟨w.heap.size + 1, 0, none⟩ = some (.int .u16 n0) := by rw [cell_of_row _ _ _ _ _ _ hbn3]; rfl
        have z1 : wr.cell? ⟨w.heap.size + 1, 1, none⟩ = some (.int .u16 n1) := by rw [cell_of_row _ _ _ _ _ _ hbn3]; rfl
        exact ⟨Below.refl _ _, x0, x1, x2, x3, x4, x5, x6, x7, y0, y1, y2, y3, y4, y5, y6, y7, z0, z1⟩
      have heq := eql8 b0 b1 b2 b3 b4 b5 b6 b7 b0 b1 b2 b3 b4 b5 b6 b7
      have hs8 := same8_self [b0, b1, b2, b3, b4, b5, b6, b7]
      have hBall : Hid (Below w.heap.size w wr) := hB2.trans (hbw.mono (by omega))
      clear hput hlen8 hgg htake hcap hba hbp2 hbn2 hB2 hbw hsz2 hsz hg HP hk hlt
      cases hnn : (n0 == n1)
      all_goals
        rw [hnn] at H0
        go_wp2
        go_region_held3 (fun w' => Below wr.heap.size wr w' ∧ w'.cell? ⟨w2.heap.size, 0, none⟩ = some (.int .u16 b0) ∧ w'.cell? ⟨w2.heap.size, 1, none⟩ = some (.int .u16 b1) ∧ w'.cell? ⟨w2.heap.size, 2, none⟩ = some (.int .u16 b2) ∧ w'.cell? ⟨w2.heap.size, 3, none⟩ = some (.int .u16 b3) ∧ w'.cell? ⟨w2.heap.size, 4, none⟩ = some (.int .u16 b4) ∧ w'.cell? ⟨w2.heap.size, 5, none⟩ = some (.int .u16 b5) ∧ w'.cell? ⟨w2.heap.size, 6, none⟩ = some (.int .u16 b6) ∧ w'.cell? ⟨w2.heap.size, 7, none⟩ = some (.int .u16 b7) ∧ w'.cell? ⟨w.heap.size, 0, none⟩ = some (.int .u16 a0) ∧ w'.cell? ⟨w.heap.size, 1, none⟩ = some (.int .u16 a1) ∧ w'.cell? ⟨w.heap.size, 2, none⟩ = some (.int .u16 a2) ∧ w'.cell? ⟨w.heap.size, 3, none⟩ = some (.int .u16 a3) ∧ w'.cell? ⟨w.heap.size, 4, none⟩ = some (.int .u16 a4) ∧ w'.cell? ⟨w.heap.size, 5, none⟩ = some (.int .u16 a5) ∧ w'.cell? ⟨w.heap.size, 6, none⟩ = some (.int .u16 a6) ∧ w'.cell? ⟨w.heap.size, 7, none⟩ = some (.int .u16 a7) ∧ w'.cell? ⟨(w.heap.size + 1), 0, none⟩ = some (.int .u16 n0) ∧ w'.cell? ⟨(w.heap.size + 1), 1, none⟩ = some (.int .u16 n1))
          (first | exact keepH hS0.out (Below.refl _ _).drew | exact keepH (by assumption) hbX | exact keepH (by assumption) ((Below.refl _ _).alloc (Nat.le_refl _) _))
          (first
            | (go_at_call 13; refine (HW.out _).mono ?_; rintro e wX ⟨rfl, hbX⟩)
            | (go_at_call 17; refine (do_none _ _ _ _ _ _ _ _ _ _ _).mono ?_; rintro e wX ⟨rfl, hbX⟩)
            | (go_at_call_of 15 (Value.slice (some ⟨g, 0, none⟩) 8 cap); refine (has_at b0 b1 b2 b3 b4 b5 b6 b7 _ _ [(0, b0), (1, b1), (2, b2), (3, b3), (4, b4), (5, b5), (6, b6), (7, b7)] (HA.out.below (by go_split_ands; assumption)) true HO.out).mono ?_; rintro e wX ⟨rfl, hbX⟩)
            | (go_at_call 15; refine (has_at b0 b1 b2 b3 b4 b5 b6 b7 _ _ _ (pairs_new _ f n1) true H1.out).mono ?_; rintro e wX ⟨rfl, hbX⟩)
            | (go_at_call 15; refine (has_at b0 b1 b2 b3 b4 b5 b6 b7 _ _ _ (pairs_new _ f n0) _ H0.out).mono ?_; rintro e wX ⟨rfl, hbX⟩)
            | (go_at_call 15; refine (has_at b0 b1 b2 b3 b4 b5 b6 b7 _ _ _ (pairs_new _ 8 0) false H8.out).mono ?_; rintro e wX ⟨rfl, hbX⟩))
        go_wp2
        go_ret
        exact ⟨rfl, hBall.out.trans ((by go_split_ands; assumption : Below wr.heap.size wr wX).mono hBall.out.size)⟩

set_option maxRecDepth 100000 in
set_option maxHeartbeats 1000000 in
theorem has_law_out (a0 a1 a2 a3 a4 a5 a6 a7 f n0 n1 : Int) (w : World) (h : Env w) (h7 : 7 < f) :
    Calls Tryd.prog 6 #[pk a0 a1 a2 a3 a4 a5 a6 a7, .int .u8 f, .agg #[.int .u16 n0, .int .u16 n1]] w fun e w' => e = .returned (.bool true) ∧ Below w.heap.size w w' := by
  have hn7 : decide (7 < f) = true := by simp; omega
  unfold pk
  go_enter Tryd.func6, Tryd.ntmps6
  go_wp2_with fail
  have hB0 : Below w.heap.size w ((w.alloc (.cells #[.int .u16 a0, .int .u16 a1, .int .u16 a2, .int .u16 a3, .int .u16 a4, .int .u16 a5, .int .u16 a6, .int .u16 a7] 24)).alloc (.cells #[.int .u16 n0, .int .u16 n1] 51)) := ((Below.refl _ _).alloc (Nat.le_refl _) _).alloc (by simp) _
  refine (awake_any _ (h.below hB0)).mono ?_
  rintro e w1 ⟨rfl, hb1⟩
  clear h
  go_wp2
  go_ret
  exact ⟨rfl, hB0.trans (hb1.mono (by simp; omega))⟩
end Go.Proofs.YtcfploigpnjmoaaDoor

/- A row that may be sorted already; no conditions but the row's length. -/
import Derived.Test.YtipiepcbgjceaaaO1
set_option linter.unusedVariables false
set_option linter.unusedSimpArgs false
namespace Go.Proofs.Ytipiepcbgjceaaa
open Go.RowKit Go.Joins Go.Sort

theorem scan_one (z i : Nat) (d : Array Int) (h : i < z) (hl : ltInt d[i]! d[i - 1]! = false) : scanSorted ltInt d z i = scanSorted ltInt d z (i + 1) := by
  rw [scanSorted, if_pos (by simp [h, hl])]
theorem scan_end (z i : Nat) (d : Array Int) (h : ¬ i < z ∨ ltInt d[i]! d[i - 1]! = true) : scanSorted ltInt d z i = i := by
  rw [scanSorted, if_neg]
  rcases h with h | h
  · simp [h]
  · simp [h]
theorem down_one (j : Nat) (d : Array Int) (h : 1 ≤ j) (hl : ltInt d[j]! d[j - 1]! = true) : shiftDown ltInt j d = shiftDown ltInt (j - 1) (swp d j (j - 1)) := by
  cases j with
  | zero => omega
  | succ k =>
    rw [Nat.add_sub_cancel] at hl ⊢
    rw [shiftDown, if_neg (by simp [hl])]
theorem down_end (j : Nat) (d : Array Int) (h : j = 0 ∨ ltInt d[j]! d[j - 1]! = false) : shiftDown ltInt j d = d := by
  cases j with
  | zero => rfl
  | succ k =>
    rw [Nat.add_sub_cancel] at h
    rw [shiftDown, if_pos]
    rcases h with h | h
    · omega
    · simp [h]
theorem up_one (z j : Nat) (d : Array Int) (h : j < z) (hl : ltInt d[j]! d[j - 1]! = true) : shiftUp ltInt z j d = shiftUp ltInt z (j + 1) (swp d j (j - 1)) := by
  rw [shiftUp, if_pos h, if_neg (by simp [hl])]
theorem up_end (z j : Nat) (d : Array Int) (h : ¬ j < z ∨ ltInt d[j]! d[j - 1]! = false) : shiftUp ltInt z j d = d := by
  rw [shiftUp]
  split
  · rename_i h1
    rcases h with h | h
    · exact absurd h1 h
    · rw [if_pos (by simp [h])]
  · rfl
set_option maxRecDepth 100000 in
set_option maxHeartbeats 16000000 in
theorem partial_any (b off cap a z N : Nat) (d : Array Int) (w : World) (hH : Holds (Value.int .u16) w b off d) (hb : b < w.heap.size) (haz : a < z) (hz : z ≤ N) (hd : d.size = N) (hN : N ≤ 100000) :
    Calls Try.prog 99 #[.slice (some ⟨b, off, none⟩) N cap, .int .i64 a, .int .i64 z] w fun e w' => e = .returned (.bool (partialInsertionSort ltInt d a z).2) ∧ Sd w b off d (partialInsertionSort ltInt d a z).1 w' := by
  have S0 : Hid (Sd w b off d d w) := Sd.start hH hb
  have HD : Hid (d.size = N) := hd
  clear hH hd
  unfold partialInsertionSort
  go_enter Try.func99, Try.ntmps99
  go_wp2
  go_loopw [7, 8] (fun vi vj wr => ∃ (s i : Nat) (j : Int) (y : Array Int), vi = .int .i64 i ∧ vj = .int .i64 j ∧ j + (s : Int) = 5 ∧ 0 ≤ j ∧ a < i ∧ i ≤ z ∧ Hid (Sd w b off d y wr) ∧ Hid (partialIns ltInt a z s i y = partialIns ltInt a z 5 (a + 1) d)) (fun vi vj _ => (5 - intOf vj).toNat)
  case atStart => exact ⟨5, a + 1, _, d, by go_num, rfl, by omega, by omega, by omega, by omega, S0, rfl⟩
  case round =>
    obtain ⟨s, i0, j, y, rfl, rfl, hjs, hj0, hai0, hiz0, HT, HO⟩ := hrel
    clear S0
    cases s with
    | zero =>
      obtain rfl : j = 5 := by omega
      go_wp2
      go_ret
      rw [← HO.out]
      exact ⟨rfl, HT.out⟩
    | succ s =>
      have hj5 : j < 5 := by omega
      go_wp2
      go_loopw [7] (fun vi wz => ∃ (i : Nat), vi = .int .i64 i ∧ i0 ≤ i ∧ i ≤ z ∧ Hid (Sd w b off d y wz) ∧ Hid (scanSorted ltInt y z i0 = scanSorted ltInt y z i)) (fun vi _ => z - (intOf vi).toNat)
      case atStart => exact ⟨i0, rfl, Nat.le_refl _, hiz0, HT, rfl⟩
      case round =>
        obtain ⟨i, rfl, hi1, hiz, HS, HI⟩ := hrel
        clear HT
        obtain ⟨G, HG, hc, hf⟩ := HS.out.cells HD.out
        have hy : Hid (y.size = N) := by unfold Hid; rw [HS.out.size]; exact HD.out
        by_cases hlt : i < z
        · have de : ((i : Int) == (z : Int)) = false := by simp; omega
          by_cases h50 : z - a < 50
          · have d50 : decide ((z : Int) - (a : Int) < 50) = true := by simp; omega
            go_wp2
            go_quiet ((go_at_call 87; exact Calls.quiet_of_same (less_lt _ _ _)))
            go_wp2
            · have hl : ltInt y[i]! y[i - 1]! = false := by
                rw [← HG.out, ← HG.out]
                have hq : (!ltInt (G i) (G (i - 1))) = true := by assumption
                simpa using hq
              go_roundw
              case rel => exact ⟨i + 1, by go_num, by omega, by omega, HS.out.drewN nq, HI.out.trans (scan_one _ _ _ hlt hl)⟩
              case measure => simp [intOf]; omega
            · have hl : ltInt y[i]! y[i - 1]! = true := by
                rw [← HG.out, ← HG.out]
                have hq : (!ltInt (G i) (G (i - 1))) = false := by assumption
                simpa using hq
              have HI2 : Hid (scanSorted ltInt y z i0 = i) := HI.out.trans (scan_end _ _ _ (.inr hl))
              refine bodyPost_ret (v := .bool false) (by simp [results, Try.results99, go_sem]) rfl ?_
              rw [← HO.out, partialIns_succ, HI2.out, if_neg (by omega), if_pos h50]
              exact ⟨rfl, HS.out.drewN nq⟩
          · have d50 : decide ((z : Int) - (a : Int) < 50) = false := by simp; omega
            go_wp2
            go_quiet ((go_at_call 87; exact Calls.quiet_of_same (less_lt _ _ _)))
            go_wp2
            · have hl : ltInt y[i]! y[i - 1]! = false := by
                rw [← HG.out, ← HG.out]
                have hq : (!ltInt (G i) (G (i - 1))) = true := by assumption
                simpa using hq
              go_roundw
              case rel => exact ⟨i + 1, by go_num, by omega, by omega, HS.out.drewN nq, HI.out.trans (scan_one _ _ _ hlt hl)⟩
              case measure => simp [intOf]; omega
            · have hl : ltInt y[i]! y[i - 1]! = true := by
                rw [← HG.out, ← HG.out]
                have hq : (!ltInt (G i) (G (i - 1))) = false := by assumption
                simpa using hq
              have HI2 : Hid (scanSorted ltInt y z i0 = i) := HI.out.trans (scan_end _ _ _ (.inr hl))
              have hqq := hid hl
              clear hl
              have HS2 : Hid (Sd w b off d y (wr.drewN nq)) := HS.out.drewN nq
              have hc2 : ∀ t, t < N → (wr.drewN nq).cell? ⟨b, off + t, none⟩ = some (.int .u16 (G t)) := hc
              have hf2 : ∀ t, t < N → (wr.drewN nq).frozen? ⟨b, off + t, none⟩ = false := hf
              clear hc hf HS HI
              generalize wr.drewN nq = wq at *
              by_cases h1 : 2 ≤ i - a
              · have d1 : decide ((2 : Int) ≤ (i : Int) - (a : Int)) = true := by simp; omega
                by_cases h2 : 2 ≤ z - i
                · have d2 : decide ((2 : Int) ≤ (z : Int) - (i : Int)) = true := by simp; omega
                  go_wp2
                  go_region
                  all_goals go_wp2
                  have HS3 : Hid (Sd w b off d (swp y i (i - 1)) ((wq.setCell ⟨b, off + i, none⟩ (.int .u16 (G (i - 1)))).setCell ⟨b, off + (i - 1), none⟩ (.int .u16 (G i))).drew) := by
                    have hys : y.size = N := hy.out
                    exact (HS2.out.swap (by omega) (by omega) (HG.out _) (HG.out _)).drew
                  clear hc2 hf2 HS2 HG
                  generalize ((wq.setCell ⟨b, off + i, none⟩ (.int .u16 (G (i - 1)))).setCell ⟨b, off + (i - 1), none⟩ (.int .u16 (G i))).drew = wv at *
                  obtain ⟨y1, hy1⟩ : ∃ y1, swp y i (i - 1) = y1 := ⟨_, rfl⟩
                  have HY1 := hid hy1
                  rw [hy1] at HS3
                  clear hy1

                  go_loopw [9] (fun vk wz => ∃ (k : Nat) (x : Array Int), vk = .int .i64 k ∧ k ≤ i - 1 ∧ Hid (Sd w b off d x wz) ∧ Hid (shiftDown ltInt k x = shiftDown ltInt (i - 1) y1)) (fun vk _ => (intOf vk).toNat)
                  case atStart => exact ⟨i - 1, y1, by congr 1; omega, Nat.le_refl _, HS3, rfl⟩
                  case round =>
                    obtain ⟨k, x, rfl, hki, HX1, HU1⟩ := hrel
                    clear HS3
                    have hfd : Hid (fixDown ltInt a i (swp y i (i - 1)) = shiftDown ltInt k x) := by
                      unfold Hid
                      rw [HY1.out, fixDown, if_pos h1, HU1.out]
                    by_cases hk1 : 1 ≤ k
                    · obtain ⟨G1, HG1, hc1, hf1⟩ := HX1.out.cells HD.out
                      have hx1 : Hid (x.size = N) := by unfold Hid; rw [HX1.out.size]; exact HD.out
                      go_wp2
                      go_quiet ((go_at_call 87; exact Calls.quiet_of_same (less_lt _ _ _)))
                      go_wp2
                      · have hl : Hid (ltInt x[k]! x[k - 1]! = false) := by
                          unfold Hid
                          rw [← HG1.out, ← HG1.out]
                          have hq : (!ltInt (G1 k) (G1 (k - 1))) = true := by assumption
                          simpa using hq
                        clear hc1 hf1 hx1
                        have HB : Hid (Sd w b off d x _ ∧ fixDown ltInt a i (swp y i (i - 1)) = x) := ⟨HX1.out.drewN nq, hfd.out.trans (down_end _ _ (.inr hl.out))⟩
                        go_loopw [10] (fun vj wz => ∃ (j : Nat) (v : Array Int), vj = .int .i64 j ∧ i + 1 ≤ j ∧ j ≤ z ∧ Hid (Sd w b off d v wz) ∧ Hid (shiftUp ltInt z j v = shiftUp ltInt z (i + 1) x)) (fun vj _ => z - (intOf vj).toNat)
                        case atStart => exact ⟨i + 1, _, by go_num, Nat.le_refl _, by omega, HB.out.1, rfl⟩
                        case round =>
                          obtain ⟨j', x', rfl, hj1, hj2, HX, HU⟩ := hrel
                          have hfx : Hid (fixUp ltInt z i (fixDown ltInt a i (swp y i (i - 1))) = shiftUp ltInt z j' x') := by
                            unfold Hid
                            rw [HB.out.2, fixUp, if_pos h2, HU.out]
                          by_cases hjz : j' < z
                          · obtain ⟨G', HG', hc', hf'⟩ := HX.out.cells HD.out
                            have hx' : Hid (x'.size = N) := by unfold Hid; rw [HX.out.size]; exact HD.out
                            go_wp2
                            go_quiet ((go_at_call 87; exact Calls.quiet_of_same (less_lt _ _ _)))
                            go_wp2
                            · have hl : ltInt x'[j']! x'[j' - 1]! = false := by
                                rw [← HG'.out, ← HG'.out]
                                have hq : (!ltInt (G' j') (G' (j' - 1))) = true := by assumption
                                simpa using hq
                              have HZ : Hid (Sd w b off d x' _ ∧ fixUp ltInt z i (fixDown ltInt a i (swp y i (i - 1))) = x') := ⟨HX.out.drewN nq, hfx.out.trans (up_end _ _ _ (.inr hl))⟩
                              go_roundw
                              case rel => exact ⟨s, i, _, _, rfl, rfl, by omega, by omega, by omega, by omega, HZ.out.1, by unfold Hid; rw [← HO.out, partialIns_succ, HI2.out, if_neg (by omega), if_neg (by omega), HZ.out.2]⟩
                              case measure => simp [intOf]; omega
                            · have hl : Hid (ltInt x'[j']! x'[j' - 1]! = true) := by
                                unfold Hid
                                rw [← HG'.out, ← HG'.out]
                                have hq : (!ltInt (G' j') (G' (j' - 1))) = false := by assumption
                                simpa using hq
                              go_region
                              all_goals go_wp2
                              go_roundw
                              case rel =>
                                have hxs : x'.size = N := hx'.out
                                exact ⟨j' + 1, swp x' j' (j' - 1), by go_num, by omega, by omega, (HX.out.drewN _).swap (by omega) (by omega) (HG'.out _) (HG'.out _), (up_one _ _ _ hjz hl.out).symm.trans HU.out⟩
                              case measure => simp [intOf]; omega
                          · go_wp2
                            have HZ : Hid (Sd w b off d x' _ ∧ fixUp ltInt z i (fixDown ltInt a i (swp y i (i - 1))) = x') := ⟨HX.out, hfx.out.trans (up_end _ _ _ (.inl hjz))⟩
                            go_roundw
                            case rel => exact ⟨s, i, _, _, rfl, rfl, by omega, by omega, by omega, by omega, HZ.out.1, by unfold Hid; rw [← HO.out, partialIns_succ, HI2.out, if_neg (by omega), if_neg (by omega), HZ.out.2]⟩
                            case measure => simp [intOf]; omega
                      · have hl : Hid (ltInt x[k]! x[k - 1]! = true) := by
                          unfold Hid
                          rw [← HG1.out, ← HG1.out]
                          have hq : (!ltInt (G1 k) (G1 (k - 1))) = false := by assumption
                          simpa using hq
                        go_region
                        all_goals go_wp2
                        go_roundw
                        case rel =>
                          have hxs : x.size = N := hx1.out
                          exact ⟨k - 1, swp x k (k - 1), by congr 1; omega, by omega, (HX1.out.drewN _).swap (by omega) (by omega) (HG1.out _) (HG1.out _), (down_one _ _ hk1 hl.out).symm.trans HU1.out⟩
                        case measure => simp [intOf]; omega
                    · obtain rfl : k = 0 := by omega
                      go_wp2
                      have HB : Hid (Sd w b off d x _ ∧ fixDown ltInt a i (swp y i (i - 1)) = x) := ⟨HX1.out, hfd.out.trans (down_end _ _ (.inl rfl))⟩
                      go_loopw [10] (fun vj wz => ∃ (j : Nat) (v : Array Int), vj = .int .i64 j ∧ i + 1 ≤ j ∧ j ≤ z ∧ Hid (Sd w b off d v wz) ∧ Hid (shiftUp ltInt z j v = shiftUp ltInt z (i + 1) x)) (fun vj _ => z - (intOf vj).toNat)
                      case atStart => exact ⟨i + 1, _, by go_num, Nat.le_refl _, by omega, HB.out.1, rfl⟩
                      case round =>
                        obtain ⟨j', x', rfl, hj1, hj2, HX, HU⟩ := hrel
                        have hfx : Hid (fixUp ltInt z i (fixDown ltInt a i (swp y i (i - 1))) = shiftUp ltInt z j' x') := by
                          unfold Hid
                          rw [HB.out.2, fixUp, if_pos h2, HU.out]
                        by_cases hjz : j' < z
                        · obtain ⟨G', HG', hc', hf'⟩ := HX.out.cells HD.out
                          have hx' : Hid (x'.size = N) := by unfold Hid; rw [HX.out.size]; exact HD.out
                          go_wp2
                          go_quiet ((go_at_call 87; exact Calls.quiet_of_same (less_lt _ _ _)))
                          go_wp2
                          · have hl : ltInt x'[j']! x'[j' - 1]! = false := by
                              rw [← HG'.out, ← HG'.out]
                              have hq : (!ltInt (G' j') (G' (j' - 1))) = true := by assumption
                              simpa using hq
                            have HZ : Hid (Sd w b off d x' _ ∧ fixUp ltInt z i (fixDown ltInt a i (swp y i (i - 1))) = x') := ⟨HX.out.drewN nq, hfx.out.trans (up_end _ _ _ (.inr hl))⟩
                            go_roundw
                            case rel => exact ⟨s, i, _, _, rfl, rfl, by omega, by omega, by omega, by omega, HZ.out.1, by unfold Hid; rw [← HO.out, partialIns_succ, HI2.out, if_neg (by omega), if_neg (by omega), HZ.out.2]⟩
                            case measure => simp [intOf]; omega
                          · have hl : Hid (ltInt x'[j']! x'[j' - 1]! = true) := by
                              unfold Hid
                              rw [← HG'.out, ← HG'.out]
                              have hq : (!ltInt (G' j') (G' (j' - 1))) = false := by assumption
                              simpa using hq
                            go_region
                            all_goals go_wp2
                            go_roundw
                            case rel =>
                              have hxs : x'.size = N := hx'.out
                              exact ⟨j' + 1, swp x' j' (j' - 1), by go_num, by omega, by omega, (HX.out.drewN _).swap (by omega) (by omega) (HG'.out _) (HG'.out _), (up_one _ _ _ hjz hl.out).symm.trans HU.out⟩
                            case measure => simp [intOf]; omega
                        · go_wp2
                          have HZ : Hid (Sd w b off d x' _ ∧ fixUp ltInt z i (fixDown ltInt a i (swp y i (i - 1))) = x') := ⟨HX.out, hfx.out.trans (up_end _ _ _ (.inl hjz))⟩
                          go_roundw
                          case rel => exact ⟨s, i, _, _, rfl, rfl, by omega, by omega, by omega, by omega, HZ.out.1, by unfold Hid; rw [← HO.out, partialIns_succ, HI2.out, if_neg (by omega), if_neg (by omega), HZ.out.2]⟩
                          case measure => simp [intOf]; omega
                · have d2 : decide ((2 : Int) ≤ (z : Int) - (i : Int)) = false := by simp; omega
                  go_wp2
                  go_region
                  all_goals go_wp2
                  have HS3 : Hid (Sd w b off d (swp y i (i - 1)) ((wq.setCell ⟨b, off + i, none⟩ (.int .u16 (G (i - 1)))).setCell ⟨b, off + (i - 1), none⟩ (.int .u16 (G i))).drew) := by
                    have hys : y.size = N := hy.out
                    exact (HS2.out.swap (by omega) (by omega) (HG.out _) (HG.out _)).drew
                  clear hc2 hf2 HS2 HG
                  generalize ((wq.setCell ⟨b, off + i, none⟩ (.int .u16 (G (i - 1)))).setCell ⟨b, off + (i - 1), none⟩ (.int .u16 (G i))).drew = wv at *
                  obtain ⟨y1, hy1⟩ : ∃ y1, swp y i (i - 1) = y1 := ⟨_, rfl⟩
                  have HY1 := hid hy1
                  rw [hy1] at HS3
                  clear hy1

                  go_loopw [9] (fun vk wz => ∃ (k : Nat) (x : Array Int), vk = .int .i64 k ∧ k ≤ i - 1 ∧ Hid (Sd w b off d x wz) ∧ Hid (shiftDown ltInt k x = shiftDown ltInt (i - 1) y1)) (fun vk _ => (intOf vk).toNat)
                  case atStart => exact ⟨i - 1, y1, by congr 1; omega, Nat.le_refl _, HS3, rfl⟩
                  case round =>
                    obtain ⟨k, x, rfl, hki, HX1, HU1⟩ := hrel
                    clear HS3
                    have hfd : Hid (fixDown ltInt a i (swp y i (i - 1)) = shiftDown ltInt k x) := by
                      unfold Hid
                      rw [HY1.out, fixDown, if_pos h1, HU1.out]
                    by_cases hk1 : 1 ≤ k
                    · obtain ⟨G1, HG1, hc1, hf1⟩ := HX1.out.cells HD.out
                      have hx1 : Hid (x.size = N) := by unfold Hid; rw [HX1.out.size]; exact HD.out
                      go_wp2
                      go_quiet ((go_at_call 87; exact Calls.quiet_of_same (less_lt _ _ _)))
                      go_wp2
                      · have hl : Hid (ltInt x[k]! x[k - 1]! = false) := by
                          unfold Hid
                          rw [← HG1.out, ← HG1.out]
                          have hq : (!ltInt (G1 k) (G1 (k - 1))) = true := by assumption
                          simpa using hq
                        clear hc1 hf1 hx1
                        have HB : Hid (Sd w b off d x _ ∧ fixDown ltInt a i (swp y i (i - 1)) = x) := ⟨HX1.out.drewN nq, hfd.out.trans (down_end _ _ (.inr hl.out))⟩
                        have HZ : Hid (Sd w b off d x _ ∧ fixUp ltInt z i (fixDown ltInt a i (swp y i (i - 1))) = x) := ⟨HB.out.1, by rw [HB.out.2, fixUp, if_neg h2]⟩
                        go_roundw
                        case rel => exact ⟨s, i, _, _, rfl, rfl, by omega, by omega, by omega, by omega, HZ.out.1, by unfold Hid; rw [← HO.out, partialIns_succ, HI2.out, if_neg (by omega), if_neg (by omega), HZ.out.2]⟩
                        case measure => simp [intOf]; omega
                      · have hl : Hid (ltInt x[k]! x[k - 1]! = true) := by
                          unfold Hid
                          rw [← HG1.out, ← HG1.out]
                          have hq : (!ltInt (G1 k) (G1 (k - 1))) = false := by assumption
                          simpa using hq
                        go_region
                        all_goals go_wp2
                        go_roundw
                        case rel =>
                          have hxs : x.size = N := hx1.out
                          exact ⟨k - 1, swp x k (k - 1), by congr 1; omega, by omega, (HX1.out.drewN _).swap (by omega) (by omega) (HG1.out _) (HG1.out _), (down_one _ _ hk1 hl.out).symm.trans HU1.out⟩
                        case measure => simp [intOf]; omega
                    · obtain rfl : k = 0 := by omega
                      go_wp2
                      have HB : Hid (Sd w b off d x _ ∧ fixDown ltInt a i (swp y i (i - 1)) = x) := ⟨HX1.out, hfd.out.trans (down_end _ _ (.inl rfl))⟩
                      have HZ : Hid (Sd w b off d x _ ∧ fixUp ltInt z i (fixDown ltInt a i (swp y i (i - 1))) = x) := ⟨HB.out.1, by rw [HB.out.2, fixUp, if_neg h2]⟩
                      go_roundw
                      case rel => exact ⟨s, i, _, _, rfl, rfl, by omega, by omega, by omega, by omega, HZ.out.1, by unfold Hid; rw [← HO.out, partialIns_succ, HI2.out, if_neg (by omega), if_neg (by omega), HZ.out.2]⟩
                      case measure => simp [intOf]; omega
              · have d1 : decide ((2 : Int) ≤ (i : Int) - (a : Int)) = false := by simp; omega
                by_cases h2 : 2 ≤ z - i
                · have d2 : decide ((2 : Int) ≤ (z : Int) - (i : Int)) = true := by simp; omega
                  go_wp2
                  go_region
                  all_goals go_wp2
                  have HS3 : Hid (Sd w b off d (swp y i (i - 1)) ((wq.setCell ⟨b, off + i, none⟩ (.int .u16 (G (i - 1)))).setCell ⟨b, off + (i - 1), none⟩ (.int .u16 (G i))).drew) := by
                    have hys : y.size = N := hy.out
                    exact (HS2.out.swap (by omega) (by omega) (HG.out _) (HG.out _)).drew
                  clear hc2 hf2 HS2 HG
                  generalize ((wq.setCell ⟨b, off + i, none⟩ (.int .u16 (G (i - 1)))).setCell ⟨b, off + (i - 1), none⟩ (.int .u16 (G i))).drew = wv at *
                  obtain ⟨y1, hy1⟩ : ∃ y1, swp y i (i - 1) = y1 := ⟨_, rfl⟩
                  have HY1 := hid hy1
                  rw [hy1] at HS3
                  clear hy1

                  have HB : Hid (Sd w b off d y1 _ ∧ fixDown ltInt a i (swp y i (i - 1)) = y1) := ⟨HS3.out, by rw [HY1.out, fixDown, if_neg h1]⟩
                  go_loopw [10] (fun vj wz => ∃ (j : Nat) (v : Array Int), vj = .int .i64 j ∧ i + 1 ≤ j ∧ j ≤ z ∧ Hid (Sd w b off d v wz) ∧ Hid (shiftUp ltInt z j v = shiftUp ltInt z (i + 1) y1)) (fun vj _ => z - (intOf vj).toNat)
                  case atStart => exact ⟨i + 1, _, by go_num, Nat.le_refl _, by omega, HB.out.1, rfl⟩
                  case round =>
                    obtain ⟨j', x', rfl, hj1, hj2, HX, HU⟩ := hrel
                    have hfx : Hid (fixUp ltInt z i (fixDown ltInt a i (swp y i (i - 1))) = shiftUp ltInt z j' x') := by
                      unfold Hid
                      rw [HB.out.2, fixUp, if_pos h2, HU.out]
                    by_cases hjz : j' < z
                    · obtain ⟨G', HG', hc', hf'⟩ := HX.out.cells HD.out
                      have hx' : Hid (x'.size = N) := by unfold Hid; rw [HX.out.size]; exact HD.out
                      go_wp2
                      go_quiet ((go_at_call 87; exact Calls.quiet_of_same (less_lt _ _ _)))
                      go_wp2
                      · have hl : ltInt x'[j']! x'[j' - 1]! = false := by
                          rw [← HG'.out, ← HG'.out]
                          have hq : (!ltInt (G' j') (G' (j' - 1))) = true := by assumption
                          simpa using hq
                        have HZ : Hid (Sd w b off d x' _ ∧ fixUp ltInt z i (fixDown ltInt a i (swp y i (i - 1))) = x') := ⟨HX.out.drewN nq, hfx.out.trans (up_end _ _ _ (.inr hl))⟩
                        go_roundw
                        case rel => exact ⟨s, i, _, _, rfl, rfl, by omega, by omega, by omega, by omega, HZ.out.1, by unfold Hid; rw [← HO.out, partialIns_succ, HI2.out, if_neg (by omega), if_neg (by omega), HZ.out.2]⟩
                        case measure => simp [intOf]; omega
                      · have hl : Hid (ltInt x'[j']! x'[j' - 1]! = true) := by
                          unfold Hid
                          rw [← HG'.out, ← HG'.out]
                          have hq : (!ltInt (G' j') (G' (j' - 1))) = false := by assumption
                          simpa using hq
                        go_region
                        all_goals go_wp2
                        go_roundw
                        case rel =>
                          have hxs : x'.size = N := hx'.out
                          exact ⟨j' + 1, swp x' j' (j' - 1), by go_num, by omega, by omega, (HX.out.drewN _).swap (by omega) (by omega) (HG'.out _) (HG'.out _), (up_one _ _ _ hjz hl.out).symm.trans HU.out⟩
                        case measure => simp [intOf]; omega
                    · go_wp2
                      have HZ : Hid (Sd w b off d x' _ ∧ fixUp ltInt z i (fixDown ltInt a i (swp y i (i - 1))) = x') := ⟨HX.out, hfx.out.trans (up_end _ _ _ (.inl hjz))⟩
                      go_roundw
                      case rel => exact ⟨s, i, _, _, rfl, rfl, by omega, by omega, by omega, by omega, HZ.out.1, by unfold Hid; rw [← HO.out, partialIns_succ, HI2.out, if_neg (by omega), if_neg (by omega), HZ.out.2]⟩
                      case measure => simp [intOf]; omega
                · exfalso
                  omega
        · obtain rfl : i = z := by omega
          have HI2 : Hid (scanSorted ltInt y i i0 = i) := HI.out.trans (scan_end _ _ _ (.inl (by omega)))
          go_wp2
          go_quiet ((go_at_call 87; exact Calls.quiet_of_same (less_lt _ _ _)))
          go_wp2
          refine bodyPost_ret (v := .bool true) (by simp [results, Try.results99, go_sem]) rfl ?_
          rw [← HO.out, partialIns_succ, HI2.out, if_pos rfl]
          exact ⟨rfl, HS.out.drewN nq⟩
end Go.Proofs.Ytipiepcbgjceaaa

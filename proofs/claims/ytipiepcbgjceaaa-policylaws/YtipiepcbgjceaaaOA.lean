/- A row parted by one of its numbers, those that are like it ahead; no conditions but the row's length. -/
import Derived.Test.YtipiepcbgjceaaaO1
set_option linter.unusedVariables false
set_option linter.unusedSimpArgs false
namespace Go.Proofs.Ytipiepcbgjceaaa
open Go.RowKit Go.Joins Go.Sort

theorem up_go (p : Int → Bool) (d : Array Int) (j i : Nat) (h : i ≤ j) (hp : p d[i]! = true) : scanUp p d j i = scanUp p d j (i + 1) := by
  rw [scanUp, if_pos (by simp [h, hp])]
theorem up_stop (p : Int → Bool) (d : Array Int) (j i : Nat) (h : ¬ i ≤ j ∨ p d[i]! = false) : scanUp p d j i = i := by
  rw [scanUp, if_neg]
  rcases h with h | h
  · simp [h]
  · simp [h]
theorem dn_go (p : Int → Bool) (d : Array Int) (i j : Nat) (h : i ≤ j) (h1 : 1 ≤ j) (hp : p d[j]! = true) : scanDown p d i j = scanDown p d i (j - 1) := by
  cases j with
  | zero => omega
  | succ k => rw [scanDown, if_pos (by simp [h, hp]), Nat.add_sub_cancel]
theorem dn_stop (p : Int → Bool) (d : Array Int) (i j : Nat) (h : ¬ i ≤ j ∨ p d[j]! = false) : scanDown p d i j = j := by
  cases j with
  | zero => rfl
  | succ k =>
    rw [scanDown, if_neg]
    rcases h with h | h
    · simp [h]
    · simp [h]
set_option maxRecDepth 100000 in
set_option maxHeartbeats 8000000 in
theorem partEq_any (b off cap a z pivot N : Nat) (d : Array Int) (w : World) (hH : Holds (Value.int .u16) w b off d) (hb : b < w.heap.size) (hap : a ≤ pivot) (hpz : pivot < z) (hz : z ≤ N) (hd : d.size = N) (hN : N ≤ 100000) :
    Calls Try.prog 100 #[.slice (some ⟨b, off, none⟩) N cap, .int .i64 a, .int .i64 z, .int .i64 pivot] w fun e w' => e = .returned (.int .i64 (partitionEqual ltInt d a z pivot).1) ∧ Sd w b off d (partitionEqual ltInt d a z pivot).2 w' := by
  have S0 : Hid (Sd w b off d d w) := Sd.start hH hb
  have HD : Hid (d.size = N) := hd
  obtain ⟨G, HG, hc, hf⟩ := S0.out.cells HD.out
  obtain ⟨v', hv'⟩ := cell?_setCell_some (w := w) (p := ⟨b, off + a, none⟩) (x := .int .u16 (G pivot)) (hc pivot (by omega))
  obtain ⟨m, hm⟩ : ∃ m, z - 1 = m := ⟨_, rfl⟩
  have em : (z : Int) - 1 = (m : Int) := by omega
  have HM := hid hm
  have hmz : a ≤ m ∧ m < z := by omega
  clear hH hd hm
  unfold partitionEqual
  go_enter Try.func100, Try.ntmps100
  go_wp2
  go_region
  all_goals go_wp2
  have HS0 : Hid (Sd w b off d (swp d a pivot) ((w.setCell ⟨b, off + a, none⟩ (.int .u16 (G pivot))).setCell ⟨b, off + pivot, none⟩ (.int .u16 (G a))).drew) := by
    have hds : d.size = N := HD.out
    exact (S0.out.swap (by omega) (by omega) (HG.out _) (HG.out _)).drew
  clear S0 hc hf hv' HG
  generalize ((w.setCell ⟨b, off + a, none⟩ (.int .u16 (G pivot))).setCell ⟨b, off + pivot, none⟩ (.int .u16 (G a))).drew = w0 at *
  go_loopw [9, 10] (fun vi vj wr => ∃ (i j : Nat) (y : Array Int), vi = .int .i64 i ∧ vj = .int .i64 j ∧ a < i ∧ i ≤ j + 1 ∧ j < z ∧ Hid (Sd w b off d y wr) ∧ Hid (partEqLoop ltInt a i j y = partEqLoop ltInt a (a + 1) m (swp d a pivot))) (fun vi vj _ => (intOf vj + 1 - intOf vi).toNat)
  case atStart => exact ⟨a + 1, m, _, by go_num, rfl, by omega, by omega, by omega, HS0, rfl⟩
  case round =>
    obtain ⟨i, j, y, rfl, rfl, hai, hij, hjz, HT, HP⟩ := hrel
    clear HS0
    go_wp2
    go_loopw [9] (fun vi wz => ∃ i2 : Nat, vi = .int .i64 i2 ∧ i ≤ i2 ∧ i2 ≤ j + 1 ∧ Hid (Sd w b off d y wz) ∧ Hid (scanUp (fun x => !ltInt y[a]! x) y j i = scanUp (fun x => !ltInt y[a]! x) y j i2)) (fun vi _ => j + 1 - (intOf vi).toNat)
    case atStart => exact ⟨i, rfl, Nat.le_refl _, hij, HT, rfl⟩
    case round =>
      obtain ⟨i2, rfl, hii, hi2j, HS, HI⟩ := hrel
      clear HT
      obtain ⟨G, HG, hc, hf⟩ := HS.out.cells HD.out
      have hy : Hid (y.size = N) := by unfold Hid; rw [HS.out.size]; exact HD.out
      by_cases hle : i2 ≤ j
      · have dle : decide ((i2 : Int) ≤ (j : Int)) = true := by simp; omega
        go_wp2
        go_quiet ((go_at_call 87; exact Calls.quiet_of_same (less_lt _ _ _)))
        go_wp2
        · have hp : (!ltInt y[a]! y[i2]!) = true := by
            rw [← HG.out, ← HG.out]
            assumption
          go_roundw
          case rel => exact ⟨i2 + 1, by go_num, by omega, by omega, HS.out.drewN nq, HI.out.trans (up_go (fun x => !ltInt y[a]! x) y j i2 hle hp)⟩
          case measure => simp [intOf]; omega
        · have hup : Hid ((!ltInt y[a]! y[i2]!) = false) := by
            unfold Hid
            rw [← HG.out, ← HG.out]
            assumption
          have HI2 : Hid (scanUp (fun x => !ltInt y[a]! x) y j i = i2) := HI.out.trans (up_stop (fun x => !ltInt y[a]! x) y j i2 (.inr hup.out))
          have HS2 : Hid (Sd w b off d y (wr.drewN nq)) := HS.out.drewN nq
          clear hc hf HS HI
          generalize wr.drewN nq = wq at *
          go_loopw [10] (fun vj wz => ∃ j2 : Nat, vj = .int .i64 j2 ∧ j2 ≤ j ∧ i2 ≤ j2 + 1 ∧ Hid (Sd w b off d y wz) ∧ Hid (scanDown (fun x => ltInt y[a]! x) y i2 j = scanDown (fun x => ltInt y[a]! x) y i2 j2)) (fun vj _ => (intOf vj).toNat)
          case atStart => exact ⟨j, rfl, Nat.le_refl _, by omega, HS2, rfl⟩
          case round =>
            obtain ⟨j2, rfl, hjj, hi2j2, HX, HJ⟩ := hrel
            clear HS2
            obtain ⟨G2, HG2, hc, hf⟩ := HX.out.cells HD.out
            by_cases hle2 : i2 ≤ j2
            · have dle2 : decide ((i2 : Int) ≤ (j2 : Int)) = true := by simp; omega
              have dgt : decide ((j2 : Int) < (i2 : Int)) = false := by simp; omega
              go_wp2
              go_quiet ((go_at_call 87; exact Calls.quiet_of_same (less_lt _ _ _)))
              go_wp2
              · have hp : ltInt y[a]! y[j2]! = true := by
                  rw [← HG2.out, ← HG2.out]
                  assumption
                go_roundw
                case rel => exact ⟨j2 - 1, by congr 1; omega, by omega, by omega, HX.out.drewN nq, HJ.out.trans (dn_go (fun x => ltInt y[a]! x) y i2 j2 hle2 (by omega) hp)⟩
                case measure => simp [intOf]; omega
              · have hdn : Hid (ltInt y[a]! y[j2]! = false) := by
                  unfold Hid
                  rw [← HG2.out, ← HG2.out]
                  assumption
                have HJ2 : Hid (scanDown (fun x => ltInt y[a]! x) y i2 j = j2) := HJ.out.trans (dn_stop (fun x => ltInt y[a]! x) y i2 j2 (.inr hdn.out))
                have hne : i2 < j2 := by
                  rcases Nat.lt_or_ge i2 j2 with h | h
                  · exact h
                  · have h : i2 = j2 := by omega
                    have e1 := hup.out; have e2 := hdn.out; rw [h] at e1; simp [e2] at e1
                go_region
                all_goals go_wp2
                go_roundw
                case rel =>
                  have hys : y.size = N := hy.out
                  refine ⟨i2 + 1, j2 - 1, swp y i2 j2, by go_num, by congr 1; omega, by omega, by omega, by omega, (HX.out.drewN _).swap (by omega) (by omega) (HG2.out _) (HG2.out _), ?_⟩
                  unfold Hid
                  rw [← HP.out]
                  have e := partEqLoop_eq ltInt a i j y
                  rw [HI2.out, HJ2.out, if_neg (by omega)] at e
                  exact e.symm
                case measure => simp [intOf]; omega
            · have dle2 : decide ((i2 : Int) ≤ (j2 : Int)) = false := by simp; omega
              have dgt : decide ((j2 : Int) < (i2 : Int)) = true := by simp; omega
              have HJ2 : Hid (scanDown (fun x => ltInt y[a]! x) y i2 j = j2) := HJ.out.trans (dn_stop (fun x => ltInt y[a]! x) y i2 j2 (.inl hle2))
              have hgt : j2 < i2 := by omega
              go_wp2
              go_quiet ((go_at_call 87; exact Calls.quiet_of_same (less_lt _ _ _)))
              go_wp2
              go_ret
              rw [HM.out, ← HP.out, partEqLoop_eq, HI2.out, HJ2.out, if_pos hgt]
              exact ⟨rfl, HX.out.drewN nq⟩
      · have dle : decide ((i2 : Int) ≤ (j : Int)) = false := decide_eq_false (by omega)
        have HI2 : Hid (scanUp (fun x => !ltInt y[a]! x) y j i = i2) := HI.out.trans (up_stop (fun x => !ltInt y[a]! x) y j i2 (.inl hle))
        go_wp2
        go_quiet ((go_at_call 87; exact Calls.quiet_of_same (less_lt _ _ _)))
        go_wp2
        have HS2 : Hid (Sd w b off d y (wr.drewN nq)) := HS.out.drewN nq
        clear hc hf HS HI
        generalize wr.drewN nq = wq at *
        have hi2 : j + 1 = i2 := by omega
        go_loopw [10] (fun vj wz => ∃ j2 : Nat, vj = .int .i64 j2 ∧ j2 = j ∧ Hid (Sd w b off d y wz)) (fun vj _ => (intOf vj).toNat)
        case atStart => exact ⟨j, rfl, rfl, HS2⟩
        case round =>
          obtain ⟨j2, rfl, hjj, HX⟩ := hrel
          clear HS2
          obtain ⟨G2, HG2, hc, hf⟩ := HX.out.cells HD.out
          have dle2 : decide ((i2 : Int) ≤ (j2 : Int)) = false := decide_eq_false (by omega)
          have dgt : decide ((j2 : Int) < (i2 : Int)) = true := decide_eq_true (by omega)
          have HJ2 : Hid (scanDown (fun x => ltInt y[a]! x) y i2 j = j2) := by unfold Hid; rw [hjj]; exact dn_stop (fun x => ltInt y[a]! x) y i2 j (.inl (by omega))
          have hgt : j2 < i2 := by omega
          have hle2 : ¬ i2 ≤ j2 := by omega
          have hai2 : a < i2 := by omega
          have hj2z : j2 < z := by omega
          have haj2 : i2 ≤ j2 + 1 := by omega
          have HH2 := hid hi2
          have HJJ := hid hjj
          clear hi2 hjj
          go_wp2
          go_quiet ((go_at_call 87; exact Calls.quiet_of_same (less_lt _ _ _)))
          go_wp2
          go_ret
          rw [HM.out, ← HP.out, partEqLoop_eq, HI2.out, HJ2.out, if_pos hgt]
          exact ⟨rfl, HX.out.drewN nq⟩
end Go.Proofs.Ytipiepcbgjceaaa
/- A row parted by one of its numbers; no conditions but the row's length. -/
set_option linter.unusedVariables false
set_option linter.unusedSimpArgs false
namespace Go.Proofs.Ytipiepcbgjceaaa
open Go.RowKit Go.Joins Go.Sort

set_option maxRecDepth 100000 in
set_option maxHeartbeats 16000000 in
theorem part_any (b off cap a z pivot N : Nat) (d : Array Int) (w : World) (hH : Holds (Value.int .u16) w b off d) (hb : b < w.heap.size) (hap : a ≤ pivot) (hpz : pivot < z) (hz : z ≤ N) (hd : d.size = N) (hN : N ≤ 100000) :
    Calls Try.prog 101 #[.slice (some ⟨b, off, none⟩) N cap, .int .i64 a, .int .i64 z, .int .i64 pivot] w fun e w' => e = .returned (.tuple #[.int .i64 (partition ltInt d a z pivot).1, .bool (partition ltInt d a z pivot).2.1]) ∧ Sd w b off d (partition ltInt d a z pivot).2.2 w' := by
  have S0 : Hid (Sd w b off d d w) := Sd.start hH hb
  have HD : Hid (d.size = N) := hd
  obtain ⟨G, HG, hc, hf⟩ := S0.out.cells HD.out
  obtain ⟨v', hv'⟩ := cell?_setCell_some (w := w) (p := ⟨b, off + a, none⟩) (x := .int .u16 (G pivot)) (hc pivot (by omega))
  obtain ⟨m, hm⟩ : ∃ m, z - 1 = m := ⟨_, rfl⟩
  have em : (z : Int) - 1 = (m : Int) := by omega
  have HM := hid hm
  have hmz : a ≤ m ∧ m < z := by omega
  clear hH hd hm
  go_enter Try.func101, Try.ntmps101
  go_wp2
  go_region
  all_goals go_wp2
  obtain ⟨y, hy0⟩ : ∃ y, swp d a pivot = y := ⟨_, rfl⟩
  have HT : Hid (Sd w b off d y ((w.setCell ⟨b, off + a, none⟩ (.int .u16 (G pivot))).setCell ⟨b, off + pivot, none⟩ (.int .u16 (G a))).drew) := by
    have hds : d.size = N := HD.out
    rw [← hy0]
    exact (S0.out.swap (by omega) (by omega) (HG.out _) (HG.out _)).drew
  have HY := hid hy0
  clear S0 hc hf hv' HG hy0
  generalize ((w.setCell ⟨b, off + a, none⟩ (.int .u16 (G pivot))).setCell ⟨b, off + pivot, none⟩ (.int .u16 (G a))).drew = w0 at *
  obtain ⟨i, hi⟩ : ∃ i, a + 1 = i := ⟨_, rfl⟩
  obtain ⟨j, hj⟩ : ∃ j, m = j := ⟨_, rfl⟩
  have ei : (a : Int) + 1 = (i : Int) := by omega
  have ej : (m : Int) = (j : Int) := by omega
  have hai : a < i := by omega
  have hij : i ≤ j + 1 := by omega
  have hjz : j < z := by omega
  have HAI := hid hi
  have HMJ := hid hj
  rw [ei, ej]
  clear hi hj ei ej em hmz
  go_loopw [10] (fun vi wz => ∃ i2 : Nat, vi = .int .i64 i2 ∧ i ≤ i2 ∧ i2 ≤ j + 1 ∧ Hid (Sd w b off d y wz) ∧ Hid (scanUp (fun x => ltInt x y[a]!) y j i = scanUp (fun x => ltInt x y[a]!) y j i2)) (fun vi _ => j + 1 - (intOf vi).toNat)
  case atStart => exact ⟨i, rfl, Nat.le_refl _, hij, HT, rfl⟩
  case round =>
    obtain ⟨i2, rfl, hii, hi2j, HS, HI⟩ := hrel
    clear HT
    obtain ⟨G, HG, hc, hf⟩ := HS.out.cells HD.out
    have hy : Hid (y.size = N) := by unfold Hid; rw [HS.out.size]; exact HD.out
    by_cases hle : i2 ≤ j
    · have dle : decide ((i2 : Int) ≤ (j : Int)) = true := by simp; omega
      go_wp2
      go_quiet ((go_at_call 87; exact Calls.quiet_of_same (less_lt _ _ _)))
      go_wp2
      · have hp : ltInt y[i2]! y[a]! = true := by
          rw [← HG.out, ← HG.out]
          assumption
        go_roundw
        case rel => exact ⟨i2 + 1, by go_num, by omega, by omega, HS.out.drewN nq, HI.out.trans (up_go (fun x => ltInt x y[a]!) y j i2 hle hp)⟩
        case measure => simp [intOf]; omega
      · have hup : Hid (ltInt y[i2]! y[a]! = false) := by
          unfold Hid
          rw [← HG.out, ← HG.out]
          assumption
        have HI2 : Hid (scanUp (fun x => ltInt x y[a]!) y j i = i2) := HI.out.trans (up_stop (fun x => ltInt x y[a]!) y j i2 (.inr hup.out))
        have HS2 : Hid (Sd w b off d y (wr.drewN nq)) := HS.out.drewN nq
        clear hc hf HS HI
        generalize wr.drewN nq = wq at *
        go_loopw [11] (fun vj wz => ∃ j2 : Nat, vj = .int .i64 j2 ∧ j2 ≤ j ∧ i2 ≤ j2 + 1 ∧ Hid (Sd w b off d y wz) ∧ Hid (scanDown (fun x => !ltInt x y[a]!) y i2 j = scanDown (fun x => !ltInt x y[a]!) y i2 j2)) (fun vj _ => (intOf vj).toNat)
        case atStart => exact ⟨j, rfl, Nat.le_refl _, by omega, HS2, rfl⟩
        case round =>
          obtain ⟨j2, rfl, hjj, hi2j2, HX, HJ⟩ := hrel
          clear HS2
          obtain ⟨G2, HG2, hc, hf⟩ := HX.out.cells HD.out
          by_cases hle2 : i2 ≤ j2
          · have dle2 : decide ((i2 : Int) ≤ (j2 : Int)) = true := by simp; omega
            have dgt : decide ((j2 : Int) < (i2 : Int)) = false := by simp; omega
            go_wp2
            go_quiet ((go_at_call 87; exact Calls.quiet_of_same (less_lt _ _ _)))
            go_wp2
            · have hp : (!ltInt y[j2]! y[a]!) = true := by
                rw [← HG2.out, ← HG2.out]
                assumption
              go_roundw
              case rel => exact ⟨j2 - 1, by congr 1; omega, by omega, by omega, HX.out.drewN nq, HJ.out.trans (dn_go (fun x => !ltInt x y[a]!) y i2 j2 hle2 (by omega) hp)⟩
              case measure => simp [intOf]; omega
            · have hdn : Hid ((!ltInt y[j2]! y[a]!) = false) := by
                unfold Hid
                rw [← HG2.out, ← HG2.out]
                assumption
              have HJ2 : Hid (scanDown (fun x => !ltInt x y[a]!) y i2 j = j2) := HJ.out.trans (dn_stop (fun x => !ltInt x y[a]!) y i2 j2 (.inr hdn.out))
              have hne : i2 < j2 := by
                rcases Nat.lt_or_ge i2 j2 with h | h
                · exact h
                · have h : i2 = j2 := by omega
                  have e1 := hup.out; have e2 := hdn.out; rw [h] at e1; simp [e1] at e2
              go_region
              all_goals go_wp2
              have HS0 : Hid (Sd w b off d (swp y i2 j2) (((wr.drewN (nq + 1)).setCell ⟨b, off + i2, none⟩ (.int .u16 (G2 j2))).setCell ⟨b, off + j2, none⟩ (.int .u16 (G2 i2)))) := by
                have hys : y.size = N := hy.out
                exact (HX.out.drewN (nq + 1)).swap (by omega) (by omega) (HG2.out _) (HG2.out _)
              have hq : Hid (partition ltInt d a z pivot = ((partLoop ltInt a (i2 + 1) (j2 - 1) (swp y i2 j2)).1, false, swp (partLoop ltInt a (i2 + 1) (j2 - 1) (swp y i2 j2)).2 (partLoop ltInt a (i2 + 1) (j2 - 1) (swp y i2 j2)).1 a)) := by
                unfold Hid partition
                simp only []
                rw [HY.out, HM.out]
                have e1 := HI2.out
                have e2 := HJ2.out
                rw [HAI.out, HMJ.out, e1, e2, if_neg (by omega)]
              clear hc hf HX HG2 HG HI2 HJ2 HJ hup hdn HY
              generalize ((wr.drewN (nq + 1)).setCell ⟨b, off + i2, none⟩ (.int .u16 (G2 j2))).setCell ⟨b, off + j2, none⟩ (.int .u16 (G2 i2)) = w1 at *
              obtain ⟨R, hR⟩ : ∃ R, partLoop ltInt a (i2 + 1) (j2 - 1) (swp y i2 j2) = R := ⟨_, rfl⟩
              rw [hR] at hq
              have HR := hid hR
              clear hR
              obtain ⟨y1, hy1⟩ : ∃ y1, swp y i2 j2 = y1 := ⟨_, rfl⟩
              rw [hy1] at HS0 HR
              clear hy1 hy
              go_loopw [10, 11] (fun vi vj wr => ∃ (i j : Nat) (y : Array Int), vi = .int .i64 i ∧ vj = .int .i64 j ∧ a < i ∧ i ≤ j + 1 ∧ j < z ∧ Hid (Sd w b off d y wr) ∧ Hid (partLoop ltInt a i j y = R)) (fun vi vj _ => (intOf vj + 1 - intOf vi).toNat)
              case atStart => exact ⟨i2 + 1, j2 - 1, _, by go_num, by congr 1; omega, by omega, by omega, by omega, HS0, HR⟩
              case round =>
                clear HS0 HR
                clear hjj hi2j2 hii hi2j hle hle2 dle dle2 dgt hne
                obtain ⟨i, j, y, rfl, rfl, hai, hij, hjz, HT, HP⟩ := hrel
                go_wp2
                go_loopw [10] (fun vi wz => ∃ i2 : Nat, vi = .int .i64 i2 ∧ i ≤ i2 ∧ i2 ≤ j + 1 ∧ Hid (Sd w b off d y wz) ∧ Hid (scanUp (fun x => ltInt x y[a]!) y j i = scanUp (fun x => ltInt x y[a]!) y j i2)) (fun vi _ => j + 1 - (intOf vi).toNat)
                case atStart => exact ⟨i, rfl, Nat.le_refl _, hij, HT, rfl⟩
                case round =>
                  obtain ⟨i2, rfl, hii, hi2j, HS, HI⟩ := hrel
                  clear HT
                  obtain ⟨G, HG, hc, hf⟩ := HS.out.cells HD.out
                  have hy : Hid (y.size = N) := by unfold Hid; rw [HS.out.size]; exact HD.out
                  by_cases hle : i2 ≤ j
                  · have dle : decide ((i2 : Int) ≤ (j : Int)) = true := by simp; omega
                    go_wp2
                    go_quiet ((go_at_call 87; exact Calls.quiet_of_same (less_lt _ _ _)))
                    go_wp2
                    · have hp : ltInt y[i2]! y[a]! = true := by
                        rw [← HG.out, ← HG.out]
                        assumption
                      go_roundw
                      case rel => exact ⟨i2 + 1, by go_num, by omega, by omega, HS.out.drewN nq, HI.out.trans (up_go (fun x => ltInt x y[a]!) y j i2 hle hp)⟩
                      case measure => simp [intOf]; omega
                    · have hup : Hid (ltInt y[i2]! y[a]! = false) := by
                        unfold Hid
                        rw [← HG.out, ← HG.out]
                        assumption
                      have HI2 : Hid (scanUp (fun x => ltInt x y[a]!) y j i = i2) := HI.out.trans (up_stop (fun x => ltInt x y[a]!) y j i2 (.inr hup.out))
                      have HS2 : Hid (Sd w b off d y (wr.drewN nq)) := HS.out.drewN nq
                      clear hc hf HS HI
                      generalize wr.drewN nq = wq at *
                      go_loopw [11] (fun vj wz => ∃ j2 : Nat, vj = .int .i64 j2 ∧ j2 ≤ j ∧ i2 ≤ j2 + 1 ∧ Hid (Sd w b off d y wz) ∧ Hid (scanDown (fun x => !ltInt x y[a]!) y i2 j = scanDown (fun x => !ltInt x y[a]!) y i2 j2)) (fun vj _ => (intOf vj).toNat)
                      case atStart => exact ⟨j, rfl, Nat.le_refl _, by omega, HS2, rfl⟩
                      case round =>
                        obtain ⟨j2, rfl, hjj, hi2j2, HX, HJ⟩ := hrel
                        clear HS2
                        obtain ⟨G2, HG2, hc, hf⟩ := HX.out.cells HD.out
                        by_cases hle2 : i2 ≤ j2
                        · have dle2 : decide ((i2 : Int) ≤ (j2 : Int)) = true := by simp; omega
                          have dgt : decide ((j2 : Int) < (i2 : Int)) = false := by simp; omega
                          go_wp2
                          go_quiet ((go_at_call 87; exact Calls.quiet_of_same (less_lt _ _ _)))
                          go_wp2
                          · have hp : (!ltInt y[j2]! y[a]!) = true := by
                              rw [← HG2.out, ← HG2.out]
                              assumption
                            go_roundw
                            case rel => exact ⟨j2 - 1, by congr 1; omega, by omega, by omega, HX.out.drewN nq, HJ.out.trans (dn_go (fun x => !ltInt x y[a]!) y i2 j2 hle2 (by omega) hp)⟩
                            case measure => simp [intOf]; omega
                          · have hdn : Hid ((!ltInt y[j2]! y[a]!) = false) := by
                              unfold Hid
                              rw [← HG2.out, ← HG2.out]
                              assumption
                            have HJ2 : Hid (scanDown (fun x => !ltInt x y[a]!) y i2 j = j2) := HJ.out.trans (dn_stop (fun x => !ltInt x y[a]!) y i2 j2 (.inr hdn.out))
                            have hne : i2 < j2 := by
                              rcases Nat.lt_or_ge i2 j2 with h | h
                              · exact h
                              · have h : i2 = j2 := by omega
                                have e1 := hup.out; have e2 := hdn.out; rw [h] at e1; simp [e1] at e2
                            go_region
                            all_goals go_wp2
                            go_roundw
                            case rel =>
                              have hys : y.size = N := hy.out
                              refine ⟨i2 + 1, j2 - 1, swp y i2 j2, by go_num, by congr 1; omega, by omega, by omega, by omega, (HX.out.drewN _).swap (by omega) (by omega) (HG2.out _) (HG2.out _), ?_⟩
                              unfold Hid
                              rw [← HP.out]
                              have e := partLoop_eq ltInt a i j y
                              rw [HI2.out, HJ2.out, if_neg (by omega)] at e
                              exact e.symm
                            case measure => simp [intOf]; omega
                        · have dle2 : decide ((i2 : Int) ≤ (j2 : Int)) = false := by simp; omega
                          have dgt : decide ((j2 : Int) < (i2 : Int)) = true := by simp; omega
                          have HJ2 : Hid (scanDown (fun x => !ltInt x y[a]!) y i2 j = j2) := HJ.out.trans (dn_stop (fun x => !ltInt x y[a]!) y i2 j2 (.inl hle2))
                          have hgt : j2 < i2 := by omega
                          go_wp2
                          go_quiet ((go_at_call 87; exact Calls.quiet_of_same (less_lt _ _ _)))
                          go_wp2
                          obtain ⟨v', hv'⟩ := cell?_setCell_some (w := wr.drewN (nq + 1)) (p := ⟨b, off + j2, none⟩) (x := .int .u16 (G2 a)) (show (wr.drewN (nq + 1)).cell? ⟨b, off + a, none⟩ = some (.int .u16 (G2 a)) from hc a (by omega))
                          go_region
                          all_goals go_wp2
                          refine bodyPost_ret (v := .tuple #[.int .i64 (j2 : Int), .bool false]) (by simp [results, Try.results101, go_sem]) rfl ?_

                          have hq2 := hq.out
                          have e := partLoop_eq ltInt a i j y
                          rw [HI2.out, HJ2.out, if_pos hgt] at e
                          rw [← HP.out, e] at hq2
                          rw [hq2]
                          have hys : y.size = N := hy.out
                          exact ⟨rfl, (HX.out.drewN _).swap (by omega) (by omega) (HG2.out _) (HG2.out _)⟩
                  · have dle : decide ((i2 : Int) ≤ (j : Int)) = false := decide_eq_false (by omega)
                    have HI2 : Hid (scanUp (fun x => ltInt x y[a]!) y j i = i2) := HI.out.trans (up_stop (fun x => ltInt x y[a]!) y j i2 (.inl hle))
                    go_wp2
                    go_quiet ((go_at_call 87; exact Calls.quiet_of_same (less_lt _ _ _)))
                    go_wp2
                    have HS2 : Hid (Sd w b off d y (wr.drewN nq)) := HS.out.drewN nq
                    clear hc hf HS HI
                    generalize wr.drewN nq = wq at *
                    have hi2 : j + 1 = i2 := by omega
                    go_loopw [11] (fun vj wz => ∃ j2 : Nat, vj = .int .i64 j2 ∧ j2 = j ∧ Hid (Sd w b off d y wz)) (fun vj _ => (intOf vj).toNat)
                    case atStart => exact ⟨j, rfl, rfl, HS2⟩
                    case round =>
                      obtain ⟨j2, rfl, hjj, HX⟩ := hrel
                      clear HS2
                      obtain ⟨G2, HG2, hc, hf⟩ := HX.out.cells HD.out
                      have dle2 : decide ((i2 : Int) ≤ (j2 : Int)) = false := decide_eq_false (by omega)
                      have dgt : decide ((j2 : Int) < (i2 : Int)) = true := decide_eq_true (by omega)
                      have HJ2 : Hid (scanDown (fun x => !ltInt x y[a]!) y i2 j = j2) := by unfold Hid; rw [hjj]; exact dn_stop (fun x => !ltInt x y[a]!) y i2 j (.inl (by omega))
                      have hgt : j2 < i2 := by omega
                      have hle2 : ¬ i2 ≤ j2 := by omega
                      have hai2 : a < i2 := by omega
                      have hj2z : j2 < z := by omega
                      have haj2 : i2 ≤ j2 + 1 := by omega
                      have HH2 := hid hi2
                      have HJJ := hid hjj
                      clear hi2 hjj
                      go_wp2
                      go_quiet ((go_at_call 87; exact Calls.quiet_of_same (less_lt _ _ _)))
                      go_wp2
                      obtain ⟨v', hv'⟩ := cell?_setCell_some (w := wr.drewN (nq + 1)) (p := ⟨b, off + j2, none⟩) (x := .int .u16 (G2 a)) (show (wr.drewN (nq + 1)).cell? ⟨b, off + a, none⟩ = some (.int .u16 (G2 a)) from hc a (by omega))
                      go_region
                      all_goals go_wp2
                      refine bodyPost_ret (v := .tuple #[.int .i64 (j2 : Int), .bool false]) (by simp [results, Try.results101, go_sem]) rfl ?_

                      have hq2 := hq.out
                      have e := partLoop_eq ltInt a i j y
                      rw [HI2.out, HJ2.out, if_pos hgt] at e
                      rw [← HP.out, e] at hq2
                      rw [hq2]
                      have hys : y.size = N := hy.out
                      exact ⟨rfl, (HX.out.drewN _).swap (by omega) (by omega) (HG2.out _) (HG2.out _)⟩
          · have dle2 : decide ((i2 : Int) ≤ (j2 : Int)) = false := by simp; omega
            have dgt : decide ((j2 : Int) < (i2 : Int)) = true := by simp; omega
            have HJ2 : Hid (scanDown (fun x => !ltInt x y[a]!) y i2 j = j2) := HJ.out.trans (dn_stop (fun x => !ltInt x y[a]!) y i2 j2 (.inl hle2))
            have hgt : j2 < i2 := by omega
            go_wp2
            go_quiet ((go_at_call 87; exact Calls.quiet_of_same (less_lt _ _ _)))
            go_wp2
            obtain ⟨v', hv'⟩ := cell?_setCell_some (w := wr.drewN (nq + 1)) (p := ⟨b, off + j2, none⟩) (x := .int .u16 (G2 a)) (show (wr.drewN (nq + 1)).cell? ⟨b, off + a, none⟩ = some (.int .u16 (G2 a)) from hc a (by omega))
            go_region
            all_goals go_wp2
            refine bodyPost_ret (v := .tuple #[.int .i64 (j2 : Int), .bool true]) (by simp [results, Try.results101, go_sem]) rfl ?_

            have hq : partition ltInt d a z pivot = (j2, true, swp y j2 a) := by
              unfold partition
              simp only []
              rw [HY.out, HM.out]
              have e1 := HI2.out
              have e2 := HJ2.out
              rw [HAI.out, HMJ.out, e1, e2, if_pos hgt]
            rw [hq]
            have hys : y.size = N := hy.out
            exact ⟨rfl, (HX.out.drewN _).swap (by omega) (by omega) (HG2.out _) (HG2.out _)⟩
    · have dle : decide ((i2 : Int) ≤ (j : Int)) = false := decide_eq_false (by omega)
      have HI2 : Hid (scanUp (fun x => ltInt x y[a]!) y j i = i2) := HI.out.trans (up_stop (fun x => ltInt x y[a]!) y j i2 (.inl hle))
      go_wp2
      go_quiet ((go_at_call 87; exact Calls.quiet_of_same (less_lt _ _ _)))
      go_wp2
      have HS2 : Hid (Sd w b off d y (wr.drewN nq)) := HS.out.drewN nq
      clear hc hf HS HI
      generalize wr.drewN nq = wq at *
      have hi2 : j + 1 = i2 := by omega
      go_loopw [11] (fun vj wz => ∃ j2 : Nat, vj = .int .i64 j2 ∧ j2 = j ∧ Hid (Sd w b off d y wz)) (fun vj _ => (intOf vj).toNat)
      case atStart => exact ⟨j, rfl, rfl, HS2⟩
      case round =>
        obtain ⟨j2, rfl, hjj, HX⟩ := hrel
        clear HS2
        obtain ⟨G2, HG2, hc, hf⟩ := HX.out.cells HD.out
        have dle2 : decide ((i2 : Int) ≤ (j2 : Int)) = false := decide_eq_false (by omega)
        have dgt : decide ((j2 : Int) < (i2 : Int)) = true := decide_eq_true (by omega)
        have HJ2 : Hid (scanDown (fun x => !ltInt x y[a]!) y i2 j = j2) := by unfold Hid; rw [hjj]; exact dn_stop (fun x => !ltInt x y[a]!) y i2 j (.inl (by omega))
        have hgt : j2 < i2 := by omega
        have hle2 : ¬ i2 ≤ j2 := by omega
        have hai2 : a < i2 := by omega
        have hj2z : j2 < z := by omega
        have haj2 : i2 ≤ j2 + 1 := by omega
        have HH2 := hid hi2
        have HJJ := hid hjj
        clear hi2 hjj
        go_wp2
        go_quiet ((go_at_call 87; exact Calls.quiet_of_same (less_lt _ _ _)))
        go_wp2
        obtain ⟨v', hv'⟩ := cell?_setCell_some (w := wr.drewN (nq + 1)) (p := ⟨b, off + j2, none⟩) (x := .int .u16 (G2 a)) (show (wr.drewN (nq + 1)).cell? ⟨b, off + a, none⟩ = some (.int .u16 (G2 a)) from hc a (by omega))
        go_region
        all_goals go_wp2
        refine bodyPost_ret (v := .tuple #[.int .i64 (j2 : Int), .bool true]) (by simp [results, Try.results101, go_sem]) rfl ?_

        have hq : partition ltInt d a z pivot = (j2, true, swp y j2 a) := by
          unfold partition
          simp only []
          rw [HY.out, HM.out]
          have e1 := HI2.out
          have e2 := HJ2.out
          rw [HAI.out, HMJ.out, e1, e2, if_pos hgt]
        rw [hq]
        have hys : y.size = N := hy.out
        exact ⟨rfl, (HX.out.drewN _).swap (by omega) (by omega) (HG2.out _) (HG2.out _)⟩
end Go.Proofs.Ytipiepcbgjceaaa

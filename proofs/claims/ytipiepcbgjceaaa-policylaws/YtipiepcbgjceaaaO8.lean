/- A row whose patterns are broken; no conditions but the row's length. -/
import Derived.Test.YtipiepcbgjceaaaO7a
import Derived.Lib.ItoaNum
set_option linter.unusedVariables false
set_option linter.unusedSimpArgs false
namespace Go.Proofs.Ytipiepcbgjceaaa
open Go.RowKit Go.Joins Go.Sort

theorem len_pow (l : Nat) (h0 : 0 < l) (h1 : l ≤ 100000) : l < 2 ^ Lib.bitLen l ∧ 2 ^ Lib.bitLen l ≤ 2 * l ∧ Lib.bitLen l ≤ 17 := by
  obtain ⟨h2, h3, h4⟩ := Lib.bitLenAux_bounds 64 l (by omega) (by omega)
  refine ⟨h4, ?_, Lib.bitLen_le l 17 (by decide) (by omega)⟩
  unfold Lib.bitLen
  have e : 2 ^ Lib.bitLenAux 64 l = 2 * 2 ^ (Lib.bitLenAux 64 l - 1) := by
    rw [← Nat.pow_succ']
    congr 1
    omega
  rw [e]
  omega
set_option maxRecDepth 100000 in
set_option maxHeartbeats 2000000 in
theorem power_any (l : Nat) (w : World) (h0 : 0 < l) (h1 : l ≤ 100000) :
    Calls Try.prog 90 #[.int .i64 l] w fun e w' => ∃ m : Nat, e = .returned (.int .u64 m) ∧ l < m ∧ m ≤ 2 * l ∧ w' = w := by
  have c1 := len66 (l : Int) w (by omega) (by omega)
  rw [Int.toNat_natCast] at c1
  have hp := len_pow l h0 h1
  generalize Lib.bitLen l = k at *
  have HP := hid hp
  have hk : k ≤ 17 := hp.2.2
  clear hp
  go_enter Try.func90, Try.ntmps90
  go_wp2_with fail
  refine c1.mono ?_
  rintro e w1 ⟨rfl, hw⟩
  subst hw
  clear c1
  have ew : IntKind.u64.wrap (2 ^ k) = ((2 ^ k : Nat) : Int) := by
    have h2 : 2 ^ k ≤ 2 * l := HP.out.2.1
    have e : ((2 : Int) ^ k) = ((2 ^ k : Nat) : Int) := by norm_cast
    rw [e]
    generalize 2 ^ k = T at *
    simp only [IntKind.wrap, IntKind.signed, IntKind.bits]
    simp
    omega
  have EW := hid ew
  clear ew
  go_wp2
  rw [EW.out]
  go_ret
  exact ⟨2 ^ k, rfl, HP.out.1, HP.out.2.1, rfl⟩
theorem Cr.swap {w : World} {b off : Nat} {d0 d : Array Int} {rb : Nat} {X : Int} {wr : World} (h : Cr w b off d0 d rb X wr) {i j : Nat} (hi : i < d.size) (hj : j < d.size) {x y : Int} (hx : x = d[j]!) (hy : y = d[i]!) :
    Cr w b off d0 (swp d i j) rb X ((wr.setCell ⟨b, off + i, none⟩ (.int .u16 x)).setCell ⟨b, off + j, none⟩ (.int .u16 y)) := by
  have hne : rb ≠ b := by have := h.sd.lt; have := h.new; omega
  have hb : ((wr.setCell ⟨b, off + i, none⟩ (.int .u16 x)).setCell ⟨b, off + j, none⟩ (.int .u16 y)).heap[rb]? = wr.heap[rb]? :=
    (heap_setCell_other _ _ _ _ hne).trans (heap_setCell_other _ _ _ _ hne)
  exact ⟨h.sd.swap hi hj hx hy, h.new, by rw [World.cell?_of_block hb]; exact h.cell, by have := h.frz; unfold World.frozen? at this ⊢; rw [hb]; exact this, h.big⟩
theorem and_small {y : Int} {m : Nat} (hy : 0 ≤ y ∧ y ≤ 18446744073709551615) (h0 : 0 < m) (hm : m ≤ 200000) : ∃ o : Nat, bits BinOp.and IntKind.u64 y ((m : Int) - 1) = (o : Int) ∧ o < m := by
  refine ⟨y.toNat &&& (m - 1), ?_, ?_⟩
  · have := u64_and y ((m : Int) - 1) hy.1 (by omega) (by omega) (by omega)
    rw [this, show ((m : Int) - 1).toNat = m - 1 by omega]
  · have := Nat.and_le_right (n := y.toNat) (m := m - 1)
    omega
set_option maxRecDepth 100000 in
set_option maxHeartbeats 4000000 in
theorem break_any (b off cap a z N : Nat) (d : Array Int) (w : World) (hH : Holds (Value.int .u16) w b off d) (hb : b < w.heap.size) (haz : a + 12 < z) (hz : z ≤ N) (hd : d.size = N) (hN : N ≤ 100000) :
    Calls Try.prog 96 #[.slice (some ⟨b, off, none⟩) N cap, .int .i64 a, .int .i64 z] w fun e w' => e = .returned (.tuple #[]) ∧ ∃ d', PermIn a z d d' ∧ Sd w b off d d' w' := by
  have HD : Hid (d.size = N) := hd
  obtain ⟨l, hl⟩ : ∃ l, z - a = l := ⟨_, rfl⟩
  obtain ⟨q, hq⟩ : ∃ q, l / 4 = q := ⟨_, rfl⟩
  obtain ⟨K, hK⟩ : ∃ K, a + q * 2 = K := ⟨_, rfl⟩
  have hC0 : Cr w b off d d w.heap.size (l : Int) (w.alloc (.cells #[.int .u64 (l : Int)] 128)) :=
    ⟨(Sd.start hH hb).alloc _, Nat.le_refl _, by rw [cell_of_row _ _ _ _ _ _ (heap_alloc_new w _)]; rfl, frozen_of_row _ _ _ _ _ (heap_alloc_new w _), by omega⟩
  have el : (z : Int) - (a : Int) = (l : Int) := by omega
  have eq1 : (l : Int) / 4 = (q : Int) := by omega
  have eK : (a : Int) + (q : Int) * 2 = (K : Int) := by omega
  have hl8 : 12 < l := by omega
  have hqb : q ≤ 25000 := by omega
  have hKb : a + 4 ≤ K ∧ K + 2 < z ∧ a + l = z := by omega
  have HC0 := hid hC0
  have cP := fun w => power_any l w (by omega) (by omega)
  have d8 : decide ((8 : Int) ≤ (l : Int)) = true := by simp; omega
  clear hH hl hq hK hd hC0
  go_enter Try.func96, Try.ntmps96
  go_wp2_with fail
  refine (cP _).mono ?_
  rintro e w0 ⟨m, rfl, hm1, hm2, hw⟩
  subst hw
  clear cP
  go_wp2
  generalize w.alloc (.cells #[.int .u64 (l : Int)] 128) = w00 at *
  go_loopw [9] (fun vi wr => ∃ (i : Nat) (x : Int) (y : Array Int), vi = .int .i64 i ∧ a ≤ i ∧ i ≤ K + 2 ∧ Hid (Cr w b off d y w.heap.size x wr) ∧ Hid (PermIn a z d y)) (fun vi _ => K + 2 - (intOf vi).toNat)
  case atStart => exact ⟨K - 1, _, d, by congr 1; omega, by omega, by omega, HC0, permIn_refl _ _ _⟩
  case round =>
    obtain ⟨i, x, y, rfl, hai, hiK, HT, HP⟩ := hrel
    clear HC0
    by_cases hlt : i < K + 2
    · have dk : decide ((i : Int) ≤ (K : Int) + 1) = true := by simp; omega
      have hy : Hid (y.size = N) := by unfold Hid; rw [HT.out.sd.size]; exact HD.out
      have cN := next_any b off w.heap.size N x d y w wr HT.out
      go_wp2_with fail
      refine cN.mono ?_
      rintro e w1 ⟨X, rfl, hX⟩
      obtain ⟨o, eo, hom⟩ := and_small hX.big (show 0 < m by omega) (by omega)
      obtain ⟨G, HG, hc, hf⟩ := hX.sd.cells HD.out
      have HX := hid hX
      clear hX cN HT
      by_cases hol : l ≤ o
      · have dl : decide ((l : Int) ≤ (o : Int)) = true := by simp; omega
        have eo2 : (o : Int) - (l : Int) = ((o - l : Nat) : Int) := by omega
        generalize hO : o - l = O at *
        have hOl : O < l := by omega
        have HO := hid hO
        clear hO
        obtain ⟨v', hv'⟩ := cell?_setCell_some (w := w1) (p := ⟨b, off + i, none⟩) (x := .int .u16 (G (a + O))) (hc (a + O) (by omega))
        go_wp2
        go_region
        all_goals go_wp2
        go_roundw
        case rel =>
          have hys : y.size = N := hy.out
          refine ⟨i + 1, X, swp y i (a + O), by go_num, by omega, by omega, ?_, permIn_trans _ _ _ _ _ HP.out (swp_permIn _ _ _ _ _ hai (by omega) (by omega) (by omega) (by omega))⟩
          exact ((HX.out.drewN _).swap (by omega) (by omega) (HG.out _) (HG.out _))
        case measure => simp [intOf]; omega
      · have dl : decide ((l : Int) ≤ (o : Int)) = false := by simp; omega
        have hOl : o < l := by omega
        obtain ⟨v', hv'⟩ := cell?_setCell_some (w := w1) (p := ⟨b, off + i, none⟩) (x := .int .u16 (G (a + o))) (hc (a + o) (by omega))
        go_wp2
        go_region
        all_goals go_wp2
        go_roundw
        case rel =>
          have hys : y.size = N := hy.out
          refine ⟨i + 1, X, swp y i (a + o), by go_num, by omega, by omega, ?_, permIn_trans _ _ _ _ _ HP.out (swp_permIn _ _ _ _ _ hai (by omega) (by omega) (by omega) (by omega))⟩
          exact ((HX.out.drewN _).swap (by omega) (by omega) (HG.out _) (HG.out _))
        case measure => simp [intOf]; omega
    · obtain rfl : i = K + 2 := by omega
      have dk : decide (((K + 2 : Nat) : Int) ≤ (K : Int) + 1) = false := decide_eq_false (by omega)
      go_wp2
      go_end0
      exact ⟨rfl, y, HP.out, HT.out.sd⟩
end Go.Proofs.Ytipiepcbgjceaaa

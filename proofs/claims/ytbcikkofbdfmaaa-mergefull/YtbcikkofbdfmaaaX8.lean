/- Whether pairs rise by fields that there are, as the document has it: pointsmanref08.Rising; any pairs. -/
import Derived.Test.YtbcikkofbdfmaaaX7
set_option linter.unusedVariables false
set_option linter.unusedSimpArgs false
namespace Go.Proofs.Ytbcikkofbdfmaaa
open Go.RowKit Go.Joins Go.Sort

theorem lastF_ge : ∀ (L : Prs) (lo : Int), riseF lo L = true → lo ≤ lastF lo L
  | [], lo, _ => Int.le_refl _
  | c :: r, lo, h => by
    rw [riseF] at h
    simp only [Bool.and_eq_true, decide_eq_true_eq] at h
    have := lastF_ge r c.1 h.2
    rw [lastF]
    omega

set_option maxRecDepth 100000 in
set_option maxHeartbeats 8000000 in
theorem rrise_any (v : Value) (L : Prs) (w : World) (h : PairsAny w v L) : Calls Try.prog 37 #[v] w fun e w' => e = .returned (.bool (rises L)) ∧ Below w.heap.size w w' := by
  obtain ⟨sa, sc, rfl, hl, hc⟩ := h.form
  have HC := hid hc
  obtain ⟨R, hR⟩ : ∃ R, L.length = R := ⟨_, rfl⟩
  have HR := hid hR
  rw [hR] at hl ⊢
  clear hc hR h
  go_enter Try.func37, Try.ntmps37
  go_wp2
  go_loopw [3] (fun i wr => ∃ (k : Nat), k ≤ R ∧ i = .int .i64 (k : Int) ∧ Hid (rises (L.take k) = true) ∧ Hid (Below w.heap.size w wr)) (fun i _ => R - (intOf i).toNat)
  case atStart => exact ⟨0, Nat.zero_le _, rfl, rfl, Below.refl _ _⟩
  case round =>
    obtain ⟨k, hk, rfl, HT, HB⟩ := hrel
    by_cases hlt : k < R
    · have hlt' : k < L.length := by rw [HR.out]; exact hlt
      have dk : decide ((k : Int) < (R : Int)) = true := by simp; omega
      have hk1 : (k : Int) < (R : Int) := by omega
      obtain ⟨b, off, rfl, hb, hx, -⟩ := HC.out k hlt'
      have hx2 := (HB.out.cell (p := ⟨b, off + k * 2, none⟩) hb).trans hx
      obtain ⟨F, hF⟩ : ∃ F, L[k].1 = F := ⟨_, rfl⟩
      have HF := hid hF
      rw [hF] at hx2
      have HZ : Hid (-1 ≤ lastF (-1) (L.take k)) := lastF_ge _ _ HT.out
      clear hx hF
      by_cases h1 : F < 0
      · have d1 : decide (F < 0) = true := by simp; omega
        have HE : Hid (rises L = false) := rises_not hlt' (by rw [HF.out, decide_eq_false (by have := HZ.out; omega), Bool.false_and])
        go_wp2_with fail
        go_quiet (fail)
        have HBe := hid (below_drewN HB.out nq)
        go_wp2
        go_ret
        exact ⟨by rw [HE.out]; rfl, HBe.out⟩
      · have d1 : decide (F < 0) = false := by simp; omega
        by_cases h2 : 7 < F
        · have d2 : decide (7 < F) = true := by simp; omega
          have HE : Hid (rises L = false) := rises_not hlt' (by rw [HF.out, decide_eq_false (show ¬ F < 8 by omega), Bool.and_false])
          go_wp2_with fail
          go_quiet (fail)
          have HBe := hid (below_drewN HB.out nq)
          go_wp2
          go_ret
          exact ⟨by rw [HE.out]; rfl, HBe.out⟩
        · have d2 : decide (7 < F) = false := by simp; omega
          by_cases h3 : k = 0
          · have HL0 : Hid (lastF (-1) (L.take k) = -1) := by subst h3; rfl
            have d3 : decide ((0 : Int) < (k : Int)) = false := by rw [decide_eq_false_iff_not]; omega
            have d3n : decide (0 < k) = false := by rw [decide_eq_false_iff_not]; omega
            have HT2 : Hid (rises (L.take (k + 1)) = true) := rises_step hlt' HT.out (by rw [HF.out, HL0.out, decide_eq_true (show (-1 : Int) < F by omega), decide_eq_true (by omega)]; rfl)
            clear h3
            go_wp2_with fail
            go_quiet (fail)
            have HBe := hid (below_drewN HB.out nq)
            go_wp2
            go_roundw
            case rel => exact ⟨k + 1, by omega, by go_num, HT2, HBe⟩
            case measure => simp [intOf]; omega
          · obtain ⟨j, rfl⟩ : ∃ j, k = j + 1 := ⟨k - 1, by omega⟩
            have hj : j < L.length := by omega
            obtain ⟨b', off', e', hb', hy, -⟩ := HC.out j hj
            injection e' with e'
            injection e' with e1 e2 _
            subst e1 e2
            obtain ⟨G, hG⟩ : ∃ G, L[j].1 = G := ⟨_, rfl⟩
            have HG : Hid (lastF (-1) (L.take (j + 1)) = G) := (lastF_step hj).trans hG
            have hy2 := (HB.out.cell (p := ⟨b, off + j * 2, none⟩) hb).trans hy
            rw [hG] at hy2
            have hwj : IntKind.i64.wrap (((j + 1 : Nat) : Int) - 1) = (j : Int) := by rw [IntKind.wrap_i64]; omega
            have hwj2 : IntKind.i64.wrap ((j : Int) + 1 - 1) = (j : Int) := by rw [IntKind.wrap_i64]; omega
            have hj1 : (j : Int) < (R : Int) := by omega
            have d0 : decide ((0 : Int) < ((j + 1 : Nat) : Int)) = true := by rw [decide_eq_true_eq]; omega
            have d0x : decide ((0 : Int) < (j : Int) + 1) = true := by rw [decide_eq_true_eq]; omega
            clear hy hG h3
            by_cases h4 : F ≤ G
            · have d4 : decide (F ≤ G) = true := by simp; omega
              have HE : Hid (rises L = false) := rises_not hlt' (by rw [HF.out, HG.out, decide_eq_false (by omega), Bool.false_and])
              go_wp2_with fail
              go_quiet (fail)
              have HBe := hid (below_drewN HB.out nq)
              go_wp2
              go_ret
              exact ⟨by rw [HE.out]; rfl, HBe.out⟩
            · have d4 : decide (F ≤ G) = false := by simp; omega
              have HT2 : Hid (rises (L.take (j + 1 + 1)) = true) := rises_step hlt' HT.out (by rw [HF.out, HG.out, decide_eq_true (by omega), decide_eq_true (by omega)]; rfl)
              go_wp2_with fail
              go_quiet (fail)
              have HBe := hid (below_drewN HB.out nq)
              go_wp2
              go_roundw
              case rel => exact ⟨j + 1 + 1, by omega, by go_num, HT2, HBe⟩
              case measure => simp [intOf]; omega
    · obtain rfl : k = R := by omega
      have dk : decide ((k : Int) < (k : Int)) = false := by simp
      have HE : Hid (rises L = true) := by
        have := HT.out
        rwa [List.take_of_length_le (by rw [HR.out]; exact Nat.le_refl _)] at this
      go_wp2
      go_ret
      exact ⟨by rw [HE.out]; rfl, HB.out⟩
end Go.Proofs.Ytbcikkofbdfmaaa

/- Whether there are few rows: pointsmanlaw09.Few; any rows. -/
import Derived.Test.YtbcikkofbdfmaaaX9
set_option linter.unusedVariables false
set_option linter.unusedSimpArgs false
namespace Go.Proofs.Ytbcikkofbdfmaaa
open Go.RowKit Go.Joins Go.Sort

def fewR (r : Rx) : Bool := decide (r.m.length ≤ 10) && (decide (r.a.length ≤ 40) && r.a.all fun c => decide (c.length ≤ 10))
def fewM (L : List Rx) : Bool := decide (L.length ≤ 20) && L.all fewR

set_option maxRecDepth 100000 in
set_option maxHeartbeats 8000000 in
theorem few_any (v : Value) (L : List Rx) (w : World) (h : RowsAt w v L) : Calls Try.prog 18 #[v] w fun e w' => e = .returned (.bool (fewM L)) ∧ Below w.heap.size w w' := by
  obtain ⟨sa, sc, rfl, hl, -, hc⟩ := h
  have HC := hid hc
  obtain ⟨R, hR⟩ : ∃ R, L.length = R := ⟨_, rfl⟩
  have HR := hid hR
  rw [hR] at hl ⊢
  clear hc hR
  by_cases h20 : 20 < R
  · have d20 : decide ((20 : Int) < (R : Int)) = true := by rw [decide_eq_true_eq]; omega
    have HE : Hid (fewM L = false) := by show _ = _; unfold fewM; rw [HR.out, decide_eq_false (by omega), Bool.false_and]
    go_enter Try.func18, Try.ntmps18
    go_wp2
    go_ret
    exact ⟨by rw [HE.out]; rfl, Below.refl _ _⟩
  · have d20 : decide ((20 : Int) < (R : Int)) = false := by rw [decide_eq_false_iff_not]; omega
    have hR20 : R ≤ 20 := by omega
    have HNOT : Hid (∀ k (h : k < L.length), fewR L[k] = false → fewM L = false) := fun k h e => by
      unfold fewM
      rw [show L.all fewR = false from List.all_eq_false.2 ⟨_, List.getElem_mem h, by simp [e]⟩, Bool.and_false]
    go_enter Try.func18, Try.ntmps18
    go_wp2
    go_loopw [12] (fun i wr => ∃ (k : Nat), k ≤ R ∧ i = .int .i64 (k : Int) ∧ Hid (∀ j (h : j < L.length), j < k → fewR L[j] = true) ∧ Hid (Below w.heap.size w wr)) (fun i _ => R - (intOf i).toNat)
    case atStart => exact ⟨0, Nat.zero_le _, rfl, fun j h hj => absurd hj (by omega), Below.refl _ _⟩
    case round =>
      obtain ⟨k, hk, rfl, HN, HB⟩ := hrel
      by_cases hlt : k < R
      · have hlt' : k < L.length := by rw [HR.out]; exact hlt
        have dk : decide ((k : Int) < (R : Int)) = true := by simp; omega
        have hk1 : (k : Int) < (R : Int) := by omega
        obtain ⟨b, off, rfl, hb, x, y, hx, hy, hp⟩ := HC.out k hlt'
        have a0 := (HB.out.cell (p := ⟨b, off + k * 2, none⟩) hb).trans hx
        have a1 := (HB.out.cell (p := ⟨b, off + k * 2 + 1, none⟩) hb).trans hy
        have HNk : Hid (fewR L[k] = false → fewM L = false) := fun e => HNOT.out k hlt' e
        have HN2 : Hid (fewR L[k] = true → ∀ j (h : j < L.length), j < k + 1 → fewR L[j] = true) := fun e j h hj => by
          by_cases e2 : j = k
          · subst e2; exact e
          · exact HN.out j h (by omega)
        have HRow : Hid (∀ W, Below w.heap.size w W → RowAt W x y L[k]) := fun W hW => hp.below hW
        obtain ⟨xa, xc, hxe, -⟩ := hp.1.form
        obtain ⟨ya, yc, hye⟩ := hp.2.form
        generalize L[k] = r at *
        generalize hyn : r.a.length = yn at *
        generalize hxn : r.m.length = xn at *
        have HYN := hid hyn
        have HXN := hid hxn
        subst hxe hye
        have hb1 : Below wr.heap.size wr (wr.alloc (rob (.slice xa xn xc) (.slice ya yn yc))) := (Below.refl _ _).alloc (Nat.le_refl _) _
        have HB1 : Hid (Below w.heap.size w (wr.alloc (rob (.slice xa xn xc) (.slice ya yn yc)))) := HB.out.trans (hb1.mono HB.out.size)
        obtain ⟨c0, c1⟩ := row2 (heap_alloc_new wr (rob (.slice xa xn xc) (.slice ya yn yc)))
        have HX := hid (heap_alloc_new wr (rob (.slice xa xn xc) (.slice ya yn yc)))
        clear hx hy hp hyn hxn hb1
        by_cases h1 : 10 < xn
        · have d1 : decide ((10 : Int) < (xn : Int)) = true := by rw [decide_eq_true_eq]; omega
          have HE : Hid (fewM L = false) := HNk.out (by unfold fewR; rw [HXN.out, decide_eq_false (by omega), Bool.false_and])
          go_wp2
          go_ret
          exact ⟨by rw [HE.out]; rfl, HB1.out⟩
        · have d1 : decide ((10 : Int) < (xn : Int)) = false := by rw [decide_eq_false_iff_not]; omega
          by_cases h2 : 40 < yn
          · have d2 : decide ((40 : Int) < (yn : Int)) = true := by rw [decide_eq_true_eq]; omega
            have HE : Hid (fewM L = false) := HNk.out (by unfold fewR; rw [HYN.out, decide_eq_false (show ¬ yn ≤ 40 by omega), Bool.false_and, Bool.and_false])
            go_wp2
            go_ret
            exact ⟨by rw [HE.out]; rfl, HB1.out⟩
          · have d2 : decide ((40 : Int) < (yn : Int)) = false := by rw [decide_eq_false_iff_not]; omega
            have h40 : yn ≤ 40 := by omega
            have H10 : Hid (xn ≤ 10) := (show xn ≤ 10 by omega)
            clear h1 h2
            go_wp2
            clear a0 a1 c0 c1
            go_loopw [29] (fun mi wx => ∃ (m : Nat), m ≤ yn ∧ mi = .int .i64 (m : Int) ∧ Hid (∀ j (h : j < r.a.length), j < m → decide ((r.a[j]).length ≤ 10) = true) ∧ Hid (Below w.heap.size w wx)) (fun mi _ => yn - (intOf mi).toNat)
            case atStart => exact ⟨0, Nat.zero_le _, rfl, fun j _ hj => absurd hj (by omega), HB1⟩
            case round =>
              clear HB1 HX HB
              obtain ⟨m, hmn, rfl, HM, HB⟩ := hrel
              by_cases hlm : m < yn
              · have hlm' : m < r.a.length := by have h9 := HYN.out; omega
                have dm : decide ((m : Int) < (yn : Int)) = true := by simp; omega
                have hm1 : (m : Int) < (yn : Int) := by omega
                obtain ⟨b2, off2, u, hya, hu, hpu⟩ : ∃ b2 off2 u, ya = some ⟨b2, off2, none⟩ ∧ wr.cell? ⟨b2, off2 + m, none⟩ = some u ∧ PairsAny wr u r.a[m] := by
                  obtain ⟨sa1, sc1, e1, -, hcc⟩ := (HRow.out wr HB.out).2
                  injection e1 with e1 _ _
                  subst e1
                  obtain ⟨b2, off2, q1, -, u, q3, q4⟩ := hcc m hlm'
                  exact ⟨b2, off2, u, q1, q3, q4⟩
                subst hya
                obtain ⟨ua, uc, hue, hul, -⟩ := hpu.form
                have HM2 : Hid (decide ((r.a[m]).length ≤ 10) = true → ∀ j (h : j < r.a.length), j < m + 1 → decide ((r.a[j]).length ≤ 10) = true) := fun e j h hj => by
                  by_cases e2 : j = m
                  · subst e2; exact e
                  · exact HM.out j h (by omega)
                have HMN : Hid (decide ((r.a[m]).length ≤ 10) = false → fewM L = false) := fun e => HNk.out (by
                  unfold fewR
                  rw [show (r.a.all fun c => decide (c.length ≤ 10)) = false from List.all_eq_false.2 ⟨_, List.getElem_mem hlm', by simp only [e]; simp⟩, Bool.and_false, Bool.and_false])
                generalize (r.a[m]).length = un at *
                subst hue
                clear hpu
                by_cases h3 : 10 < un
                · have d3 : decide ((10 : Int) < (un : Int)) = true := by rw [decide_eq_true_eq]; omega
                  have HE : Hid (fewM L = false) := HMN.out (decide_eq_false (by omega))
                  go_wp2
                  go_ret
                  exact ⟨by rw [HE.out]; rfl, HB.out⟩
                · have d3 : decide ((10 : Int) < (un : Int)) = false := by rw [decide_eq_false_iff_not]; omega
                  have HM3 := hid (HM2.out (decide_eq_true (by omega)))
                  go_wp2
                  go_roundw
                  case rel => exact ⟨m + 1, by omega, by go_num, HM3, HB⟩
                  case measure => simp [intOf]; omega
              · obtain rfl : m = yn := by omega
                have dm : decide ((m : Int) < (m : Int)) = false := by simp
                have hall : (r.a.all fun c => decide (c.length ≤ 10)) = true := List.all_eq_true.2 fun c hc => by
                  obtain ⟨j, hj, hje⟩ := List.getElem_of_mem hc
                  rw [← hje]
                  exact HM.out j hj (by have h9 := HYN.out; omega)
                have HN3 := hid (HN2.out (by unfold fewR; rw [hall, HXN.out, HYN.out, decide_eq_true H10.out, decide_eq_true h40]; rfl))
                clear hall
                go_wp2
                go_roundw
                case rel => exact ⟨k + 1, by omega, by go_num, HN3, HB⟩
                case measure => simp [intOf]; omega
      · obtain rfl : k = R := by omega
        have dk : decide ((k : Int) < (k : Int)) = false := by simp
        have HE : Hid (fewM L = true) := by
          show _ = _
          unfold fewM
          rw [HR.out, decide_eq_true hR20, show L.all fewR = true from List.all_eq_true.2 fun r hr => by
            obtain ⟨j, hj, hje⟩ := List.getElem_of_mem hr
            rw [← hje]
            exact HN.out j hj (by have h9 := HR.out; omega)]
          rfl
        go_wp2
        go_ret
        exact ⟨by rw [HE.out]; rfl, HB.out⟩
end Go.Proofs.Ytbcikkofbdfmaaa

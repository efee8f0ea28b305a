/- Whether there are few lists: pointsmanlaw10.few; any lists. -/
import Derived.Test.YtbcikkofbdfmaaaY1
set_option linter.unusedVariables false
set_option linter.unusedSimpArgs false
namespace Go.Proofs.Ytbcikkofbdfmaaa
open Go.RowKit Go.Joins Go.Sort

def few10 (T : List Lst) : Bool := decide (T.length ≤ 12) && T.all fewM

set_option maxRecDepth 100000 in
set_option maxHeartbeats 4000000 in
theorem few10_any (v : Value) (T : List Lst) (w : World) (h : ListsAt w v T) : Calls Try.prog 7 #[v] w fun e w' => e = .returned (.bool (few10 T)) ∧ Below w.heap.size w w' := by
  obtain ⟨sa, sc, rfl, hl, hc⟩ := h
  have HC := hid hc
  obtain ⟨R, hR⟩ : ∃ R, T.length = R := ⟨_, rfl⟩
  have HR := hid hR
  rw [hR] at hl ⊢
  clear hc hR
  by_cases h12 : 12 < R
  · have d12 : decide ((12 : Int) < (R : Int)) = true := by rw [decide_eq_true_eq]; omega
    have HE : Hid (few10 T = false) := by show _ = _; unfold few10; rw [HR.out, decide_eq_false (by omega), Bool.false_and]
    go_enter Try.func7, Try.ntmps7
    go_wp2
    go_ret
    exact ⟨by rw [HE.out]; rfl, Below.refl _ _⟩
  · have d12 : decide ((12 : Int) < (R : Int)) = false := by rw [decide_eq_false_iff_not]; omega
    have hR12 : R ≤ 12 := by omega
    have HNOT : Hid (∀ k (h : k < T.length), fewM T[k] = false → few10 T = false) := fun k h e => by
      unfold few10
      rw [show T.all fewM = false from List.all_eq_false.2 ⟨_, List.getElem_mem h, by simp [e]⟩, Bool.and_false]
    go_enter Try.func7, Try.ntmps7
    go_wp2
    go_loopw [10] (fun i wr => ∃ (k : Nat), k ≤ R ∧ i = .int .i64 (k : Int) ∧ Hid (∀ j (h : j < T.length), j < k → fewM T[j] = true) ∧ Hid (Below w.heap.size w wr)) (fun i _ => R - (intOf i).toNat)
    case atStart => exact ⟨0, Nat.zero_le _, rfl, fun j h hj => absurd hj (by omega), Below.refl _ _⟩
    case round =>
      obtain ⟨k, hk, rfl, HN, HB⟩ := hrel
      by_cases hlt : k < R
      · have hlt' : k < T.length := by rw [HR.out]; exact hlt
        have dk : decide ((k : Int) < (R : Int)) = true := by simp; omega
        have hk1 : (k : Int) < (R : Int) := by omega
        obtain ⟨b, off, rfl, hb, u, hu, hp⟩ := HC.out k hlt'
        have hu2 := (HB.out.cell (p := ⟨b, off + k, none⟩) hb).trans hu
        have cS := hid (few_any u T[k] wr (hp.below HB.out))
        have HNk : Hid (fewM T[k] = false → few10 T = false) := fun e => HNOT.out k hlt' e
        have HN2 : Hid (fewM T[k] = true → ∀ j (h : j < T.length), j < k + 1 → fewM T[j] = true) := fun e j h hj => by
          by_cases e2 : j = k
          · subst e2; exact e
          · exact HN.out j h (by omega)
        clear hu hp
        cases hq : fewM T[k] with
        | false =>
          have HE := hid (HNk.out hq)
          rw [hq] at cS
          clear hq
          go_wp2_with fail
          refine cS.out.mono ?_
          rintro e w2 ⟨rfl, hb2⟩
          have HB2 := hid (HB.out.trans (hb2.mono HB.out.size))
          clear hb2 cS
          go_wp2
          go_ret
          exact ⟨by rw [HE.out]; rfl, HB2.out⟩
        | true =>
          have HN3 := hid (HN2.out hq)
          rw [hq] at cS
          clear hq
          go_wp2_with fail
          refine cS.out.mono ?_
          rintro e w2 ⟨rfl, hb2⟩
          have HB2 := hid (HB.out.trans (hb2.mono HB.out.size))
          clear hb2 cS
          go_wp2
          go_roundw
          case rel => exact ⟨k + 1, by omega, by go_num, HN3, HB2⟩
          case measure => simp [intOf]; omega
      · obtain rfl : k = R := by omega
        have dk : decide ((k : Int) < (k : Int)) = false := by simp
        have HE : Hid (few10 T = true) := by
          show _ = _
          unfold few10
          rw [HR.out, decide_eq_true hR12, show T.all fewM = true from List.all_eq_true.2 fun r hr => by
            obtain ⟨j, hj, hje⟩ := List.getElem_of_mem hr
            rw [← hje]
            exact HN.out j hj (by have h9 := HR.out; omega)]
          rfl
        go_wp2
        go_ret
        exact ⟨by rw [HE.out]; rfl, HB.out⟩
end Go.Proofs.Ytbcikkofbdfmaaa

/- Whether a list of rows is right: table.Right; any rows. -/
import Derived.Test.YtbcikkofbdfmaaaX8
set_option linter.unusedVariables false
set_option linter.unusedSimpArgs false
namespace Go.Proofs.Ytbcikkofbdfmaaa
open Go.RowKit Go.Joins Go.Sort

def rowOK (r : Rx) : Bool := rises r.m && (decide (r.a.length ≤ 32) && r.a.all rises)
def rightM (L : List Rx) : Bool := L.all rowOK && decide (L.length ≤ 1000)

theorem unruly_any (v : Value) (L : Prs) (w : World) (h : PairsAny w v L) : Calls Try.prog 57 #[v] w fun e w' => e = .returned (.bool (!rises L)) ∧ Below w.heap.size w w' := by
  have cR := rise_any v L w h
  go_enter Try.func57, Try.ntmps57
  go_wp2_with (go_at_call 58; refine cR.mono ?_; rintro e w' ⟨rfl, hb⟩)
  go_ret
  exact ⟨rfl, hb⟩
theorem any_hit {α : Type} (p : α → Bool) (L : List α) (k : Nat) (h : k < L.length) (hp : p L[k] = true) : L.any p = true := List.any_eq_true.2 ⟨_, List.getElem_mem h, hp⟩
theorem any_miss {α : Type} (p : α → Bool) (L : List α) (h : ∀ j (hj : j < L.length), p L[j] = false) : L.any p = false := by
  rw [List.any_eq_false]
  intro x hx
  obtain ⟨j, hj, rfl⟩ := List.getElem_of_mem hx
  simp [h j hj]

set_option maxRecDepth 100000 in
set_option maxHeartbeats 4000000 in
theorem idxA_any (v : Value) (L : List Prs) (w : World) (h : ActsAt w v L) : Calls Try.prog 66 #[v, .func (.func 57) #[] #[]] w fun e w' => ∃ z : Int, e = .returned (.int .i64 z) ∧ decide (0 ≤ z) = L.any (fun c => !rises c) ∧ Below w.heap.size w w' := by
  obtain ⟨sa, sc, rfl, hl, hc⟩ := h
  have HC := hid hc
  obtain ⟨R, hR⟩ : ∃ R, L.length = R := ⟨_, rfl⟩
  have HR := hid hR
  rw [hR] at hl ⊢
  clear hc hR
  go_enter Try.func66, Try.ntmps66
  go_wp2
  go_loopw [8] (fun i wr => ∃ (k : Nat), k ≤ R ∧ i = .int .i64 (k : Int) ∧ Hid (∀ j (h : j < L.length), j < k → rises L[j] = true) ∧ Hid (Below w.heap.size w wr)) (fun i _ => R - (intOf i).toNat)
  case atStart => exact ⟨0, Nat.zero_le _, rfl, fun j h hj => absurd hj (by omega), Below.refl _ _⟩
  case round =>
    obtain ⟨k, hk, rfl, HN, HB⟩ := hrel
    by_cases hlt : k < R
    · have hlt' : k < L.length := by rw [HR.out]; exact hlt
      have dk : decide ((k : Int) < (R : Int)) = true := by simp; omega
      have hk1 : (k : Int) < (R : Int) := by omega
      obtain ⟨b, off, rfl, hb, u, hu, hp⟩ := HC.out k hlt'
      have hu2 := (HB.out.cell (p := ⟨b, off + k, none⟩) hb).trans hu
      have cU := hid (unruly_any u L[k] wr (hp.below HB.out))
      clear hu hp
      cases hq : rises L[k] with
      | false =>
        have HE : Hid (decide ((0 : Int) ≤ (k : Int)) = L.any (fun c => !rises c)) := by
          show _ = _
          rw [any_hit (fun c => !rises c) L k hlt' (by simp [hq]), decide_eq_true (by omega)]
        rw [hq] at cU
        clear hq
        go_wp2_with fail
        refine cU.out.mono ?_
        rintro e w' ⟨rfl, hb'⟩
        have HBe := hid (HB.out.trans (hb'.mono HB.out.size))
        go_wp2
        go_ret
        exact ⟨k, rfl, HE.out, HBe.out⟩
      | true =>
        have HN2 : Hid (∀ j (h : j < L.length), j < k + 1 → rises L[j] = true) := fun j h hj => by
          by_cases e : j = k
          · subst e; exact hq
          · exact HN.out j h (by omega)
        rw [hq] at cU
        clear hq
        go_wp2_with fail
        refine cU.out.mono ?_
        rintro e w' ⟨rfl, hb'⟩
        have HBe := hid (HB.out.trans (hb'.mono HB.out.size))
        clear hb' cU
        go_wp2
        go_roundw
        case rel => exact ⟨k + 1, by omega, by go_num, HN2, HBe⟩
        case measure => simp [intOf]; omega
    · obtain rfl : k = R := by omega
      have dk : decide ((k : Int) < (k : Int)) = false := by simp
      have HE : Hid (decide ((0 : Int) ≤ -1) = L.any (fun c => !rises c)) := by
        show _ = _
        rw [any_miss (fun c => !rises c) L fun j hj => by simp [HN.out j hj (by rw [HR.out] at hj; omega)]]
        rfl
      go_wp2
      go_ret
      exact ⟨-1, rfl, HE.out, HB.out⟩
end Go.Proofs.Ytbcikkofbdfmaaa

/- Whether a list is the same as another (merge.laid's own function), and the first of lists that is: slices.IndexFunc. -/
import Derived.Test.YtbcikkofbdfmaaaY6
set_option linter.unusedVariables false
set_option linter.unusedSimpArgs false
namespace Go.Proofs.Ytbcikkofbdfmaaa
open Go.RowKit Go.Joins Go.Sort

set_option maxRecDepth 100000 in
set_option maxHeartbeats 4000000 in
theorem like31 (g : Nat) (v x : Value) (A X : Lst) (w : World) (h : RowsAt w v A) (hx : RowsAt w x X) (hg : w.cell? ⟨g, 0, none⟩ = some x) : Calls Try.prog 31 #[v, .pointer (some ⟨g, 0, none⟩)] w fun e w' => e = .returned (.bool (sameB A X)) ∧ Below w.heap.size w w' := by
  have cS := hid (same_any v x A X w h hx)
  go_enter Try.func31, Try.ntmps31
  go_wp2_with fail
  refine cS.out.mono ?_
  rintro e w2 ⟨rfl, hb2⟩
  go_wp2
  go_ret
  exact ⟨rfl, hb2⟩

set_option maxRecDepth 100000 in
set_option maxHeartbeats 4000000 in
theorem idx33 (v x : Value) (T : List Lst) (X : Lst) (g : Nat) (w : World) (h : ListsAt w v T) (hx : RowsAt w x X) (hg : w.cell? ⟨g, 0, none⟩ = some x) (hgl : g < w.heap.size) : Calls Try.prog 33 #[v, .func (.func 31) #[] #[.pointer (some ⟨g, 0, none⟩)]] w fun e w' => e = .returned (.int .i64 (findI T X)) ∧ Below w.heap.size w w' := by
  obtain ⟨sa, sc, rfl, hl, hc⟩ := h
  have HC := hid hc
  have HX := hid hx
  have HG := hid hg
  obtain ⟨R, hR⟩ : ∃ R, T.length = R := ⟨_, rfl⟩
  have HR := hid hR
  rw [hR] at hl ⊢
  clear hc hR
  go_enter Try.func33, Try.ntmps33
  go_wp2
  go_loopw [8] (fun i wr => ∃ (k : Nat), k ≤ R ∧ i = .int .i64 (k : Int) ∧ Hid (∀ j (h : j < T.length), j < k → sameB T[j] X = false) ∧ Hid (Below w.heap.size w wr)) (fun i _ => R - (intOf i).toNat)
  case atStart => exact ⟨0, Nat.zero_le _, rfl, fun j h hj => absurd hj (by omega), Below.refl _ _⟩
  case round =>
    obtain ⟨k, hk, rfl, HN, HB⟩ := hrel
    by_cases hlt : k < R
    · have hlt' : k < T.length := by rw [HR.out]; exact hlt
      have dk : decide ((k : Int) < (R : Int)) = true := by simp; omega
      have hk1 : (k : Int) < (R : Int) := by omega
      obtain ⟨b, off, rfl, hb, u, hu, hp⟩ := HC.out k hlt'
      have hu2 := (HB.out.cell (p := ⟨b, off + k, none⟩) hb).trans hu
      have cU := hid (like31 g u x T[k] X wr (hp.below HB.out) (HX.out.below HB.out) ((HB.out.cell (p := ⟨g, 0, none⟩) hgl).trans HG.out))
      have HN2 : Hid (sameB T[k] X = false → ∀ j (h : j < T.length), j < k + 1 → sameB T[j] X = false) := fun e j h hj => by
        by_cases e2 : j = k
        · subst e2; exact e
        · exact HN.out j h (by omega)
      have HHIT : Hid (sameB T[k] X = true → findI T X = (k : Int)) := fun e => by unfold findI; rw [findM_hit hlt' (fun j hj => HN.out j (by omega) hj) e]
      clear hu hp
      cases hq : sameB T[k] X with
      | true =>
        have HE := hid (HHIT.out hq)
        rw [hq] at cU
        clear hq
        go_wp2_with fail
        refine cU.out.mono ?_
        rintro e w' ⟨rfl, hb'⟩
        have HBe := hid (HB.out.trans (hb'.mono HB.out.size))
        go_wp2
        go_ret
        exact ⟨by rw [HE.out]; rfl, HBe.out⟩
      | false =>
        have HN3 := hid (HN2.out hq)
        rw [hq] at cU
        clear hq
        go_wp2_with fail
        refine cU.out.mono ?_
        rintro e w' ⟨rfl, hb'⟩
        have HBe := hid (HB.out.trans (hb'.mono HB.out.size))
        clear hb' cU
        go_wp2
        go_roundw
        case rel => exact ⟨k + 1, by omega, by go_num, HN3, HBe⟩
        case measure => simp [intOf]; omega
    · obtain rfl : k = R := by omega
      have dk : decide ((k : Int) < (k : Int)) = false := by simp
      have HE : Hid (findI T X = -1) := by show _ = _; unfold findI; rw [findM_miss fun j hj => HN.out j hj (by have h9 := HR.out; omega)]
      go_wp2
      go_ret
      exact ⟨by rw [HE.out]; rfl, HB.out⟩

theorem wrong21 (v : Value) (A : Lst) (w : World) (h : RowsAt w v A) : Calls Try.prog 21 #[v] w fun e w' => e = .returned (.bool (!rightM A)) ∧ Below w.heap.size w w' := by
  have cS := hid (right_any v A w h)
  go_enter Try.func21, Try.ntmps21
  go_wp2_with fail
  refine cS.out.mono ?_
  rintro e w2 ⟨rfl, hb2⟩
  go_wp2
  go_ret
  exact ⟨rfl, hb2⟩

set_option maxRecDepth 100000 in
set_option maxHeartbeats 4000000 in
theorem idx33w (v : Value) (T : List Lst) (w : World) (h : ListsAt w v T) : Calls Try.prog 33 #[v, .func (.func 21) #[] #[]] w fun e w' => ∃ z : Int, e = .returned (.int .i64 z) ∧ decide (0 ≤ z) = T.any (fun c => !rightM c) ∧ Below w.heap.size w w' := by
  obtain ⟨sa, sc, rfl, hl, hc⟩ := h
  have HC := hid hc

  obtain ⟨R, hR⟩ : ∃ R, T.length = R := ⟨_, rfl⟩
  have HR := hid hR
  rw [hR] at hl ⊢
  clear hc hR
  go_enter Try.func33, Try.ntmps33
  go_wp2
  go_loopw [8] (fun i wr => ∃ (k : Nat), k ≤ R ∧ i = .int .i64 (k : Int) ∧ Hid (∀ j (h : j < T.length), j < k → (!rightM T[j]) = false) ∧ Hid (Below w.heap.size w wr)) (fun i _ => R - (intOf i).toNat)
  case atStart => exact ⟨0, Nat.zero_le _, rfl, fun j h hj => absurd hj (by omega), Below.refl _ _⟩
  case round =>
    obtain ⟨k, hk, rfl, HN, HB⟩ := hrel
    by_cases hlt : k < R
    · have hlt' : k < T.length := by rw [HR.out]; exact hlt
      have dk : decide ((k : Int) < (R : Int)) = true := by simp; omega
      have hk1 : (k : Int) < (R : Int) := by omega
      obtain ⟨b, off, rfl, hb, u, hu, hp⟩ := HC.out k hlt'
      have hu2 := (HB.out.cell (p := ⟨b, off + k, none⟩) hb).trans hu
      have cU := hid (wrong21 u T[k] wr (hp.below HB.out))
      have HN2 : Hid ((!rightM T[k]) = false → ∀ j (h : j < T.length), j < k + 1 → (!rightM T[j]) = false) := fun e j h hj => by
        by_cases e2 : j = k
        · subst e2; exact e
        · exact HN.out j h (by omega)
      have HHIT : Hid ((!rightM T[k]) = true → decide ((0 : Int) ≤ (k : Int)) = T.any (fun c => !rightM c)) := fun e => by rw [any_hit (fun c => !rightM c) T k hlt' e, decide_eq_true (by omega)]
      clear hu hp
      cases hq : (!rightM T[k]) with
      | true =>
        have HE := hid (HHIT.out hq)
        rw [hq] at cU
        clear hq
        go_wp2_with fail
        refine cU.out.mono ?_
        rintro e w' ⟨rfl, hb'⟩
        have HBe := hid (HB.out.trans (hb'.mono HB.out.size))
        go_wp2
        go_ret
        exact ⟨k, rfl, HE.out, HBe.out⟩
      | false =>
        have HN3 := hid (HN2.out hq)
        rw [hq] at cU
        clear hq
        go_wp2_with fail
        refine cU.out.mono ?_
        rintro e w' ⟨rfl, hb'⟩
        have HBe := hid (HB.out.trans (hb'.mono HB.out.size))
        clear hb' cU
        go_wp2
        go_roundw
        case rel => exact ⟨k + 1, by omega, by go_num, HN3, HBe⟩
        case measure => simp [intOf]; omega
    · obtain rfl : k = R := by omega
      have dk : decide ((k : Int) < (k : Int)) = false := by simp
      have HE : Hid (decide ((0 : Int) ≤ -1) = T.any (fun c => !rightM c)) := by show _ = _; rw [any_miss (fun c => !rightM c) T fun j hj => HN.out j hj (by rw [HR.out] at hj; omega)]; rfl
      go_wp2
      go_ret
      exact ⟨-1, rfl, HE.out, HB.out⟩

set_option maxHeartbeats 1000000 in
theorem con20 (v : Value) (T : List Lst) (w : World) (h : ListsAt w v T) : Calls Try.prog 20 #[v, .func (.func 21) #[] #[]] w fun e w' => e = .returned (.bool (T.any (fun c => !rightM c))) ∧ Below w.heap.size w w' := by
  have cI := hid (idx33w v T w h)
  go_enter Try.func20, Try.ntmps20
  go_wp2_with fail
  refine cI.out.mono ?_
  rintro e w' ⟨z, rfl, hz, hb⟩
  go_wp2
  go_ret
  exact ⟨by rw [← hz]; rfl, hb⟩
end Go.Proofs.Ytbcikkofbdfmaaa

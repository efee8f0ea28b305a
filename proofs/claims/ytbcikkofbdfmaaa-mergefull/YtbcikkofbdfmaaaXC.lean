/- Whether two lists of pairs are the same: slices.Equal, and the document's SamePairs; any pairs. -/
import Derived.Test.YtbcikkofbdfmaaaX7
set_option linter.unusedVariables false
set_option linter.unusedSimpArgs false
namespace Go.Proofs.Ytbcikkofbdfmaaa
open Go.RowKit Go.Joins Go.Sort

theorem eq_all {α : Type} {A B : List α} (hl : A.length = B.length) (h : ∀ j (h1 : j < A.length) (h2 : j < B.length), A[j] = B[j]) : A = B := List.ext_getElem hl h
theorem ne_at {α : Type} {A B : List α} {k : Nat} (h1 : k < A.length) (h2 : k < B.length) (h : A[k] ≠ B[k]) : A ≠ B := fun e => h (by subst e; rfl)
set_option maxRecDepth 100000 in
set_option maxHeartbeats 4000000 in
theorem eq70 (v v' : Value) (A B : Prs) (w : World) (h : PairsAny w v A) (h' : PairsAny w v' B) : Calls Try.prog 54 #[v, v'] w fun e w' => e = .returned (.bool (decide (A = B))) ∧ Below w.heap.size w w' := by
  obtain ⟨sa, sc, rfl, hl, hc⟩ := h.form
  obtain ⟨sb, sd, rfl, hl', hd⟩ := h'.form
  have HC := hid hc
  have HD := hid hd
  clear h h' hc hd
  obtain ⟨R, hR⟩ : ∃ R, A.length = R := ⟨_, rfl⟩
  obtain ⟨S, hS⟩ : ∃ S, B.length = S := ⟨_, rfl⟩
  have HR := hid hR
  have HS := hid hS
  rw [hR] at hl ⊢
  rw [hS] at hl' ⊢
  by_cases hRS : R = S
  · subst hRS
    clear hR hS
    have dn : ((R : Int) != (R : Int)) = false := by simp
    go_enter Try.func54, Try.ntmps54
    go_wp2
    go_loopw [13] (fun i wr => ∃ (k : Nat), k ≤ R ∧ i = .int .i64 (k : Int) ∧ Hid (∀ j (h1 : j < A.length) (h2 : j < B.length), j < k → A[j] = B[j]) ∧ Hid (Below w.heap.size w wr)) (fun i _ => R - (intOf i).toNat)
    case atStart => exact ⟨0, Nat.zero_le _, rfl, fun j _ _ hj => absurd hj (by omega), Below.refl _ _⟩
    case round =>
      obtain ⟨k, hk, rfl, HN, HB⟩ := hrel
      by_cases hlt : k < R
      · have hlt' : k < A.length := by rw [HR.out]; exact hlt
        have hlt2 : k < B.length := by rw [HS.out]; exact hlt
        have dk : decide ((k : Int) < (R : Int)) = true := by simp; omega
        have hk1 : (k : Int) < (R : Int) := by omega
        obtain ⟨b, off, rfl, hb, hx, hy⟩ := HC.out k hlt'
        obtain ⟨b', off', rfl, hb', hx', hy'⟩ := HD.out k hlt2
        have a0 := (HB.out.cell (p := ⟨b, off + k * 2, none⟩) hb).trans hx
        have a1 := (HB.out.cell (p := ⟨b, off + k * 2 + 1, none⟩) hb).trans hy
        have c0 := (HB.out.cell (p := ⟨b', off' + k * 2, none⟩) hb').trans hx'
        have c1 := (HB.out.cell (p := ⟨b', off' + k * 2 + 1, none⟩) hb').trans hy'
        have HNE : Hid (A[k] ≠ B[k] → A ≠ B) := fun e => ne_at hlt' hlt2 e
        have HN2 : Hid (A[k] = B[k] → ∀ j (h1 : j < A.length) (h2 : j < B.length), j < k + 1 → A[j] = B[j]) := fun e j h1 h2 hj => by
          by_cases e2 : j = k
          · subst e2; exact e
          · exact HN.out j h1 h2 (by omega)
        generalize A[k] = c at *
        generalize B[k] = d at *
        obtain ⟨F, N⟩ := c
        obtain ⟨G, M⟩ := d
        dsimp only at a0 a1 c0 c1
        clear hx hy hx' hy'
        by_cases hF : F = G
        · subst hF
          have dF : (F == F) = true := by simp
          by_cases hN : N = M
          · subst hN
            have dN : (N == N) = true := by simp
            have HN3 := hid (HN2.out rfl)
            go_wp2_with fail
            go_quiet (fail)
            have HBq : Hid (Below w.heap.size w (wr.drewN nq)) := below_drewN HB.out nq
            clear a0 a1 c0 c1 HB
            go_wp2
            go_roundw
            case rel => exact ⟨k + 1, by omega, by go_num, HN3, HBq⟩
            case measure => simp [intOf]; omega
          · have dN : (N == M) = false := by simp [hN]
            have HE : Hid (A ≠ B) := HNE.out fun e => hN (by injection e)
            go_wp2_with fail
            go_quiet (fail)
            have HBq : Hid (Below w.heap.size w (wr.drewN nq)) := below_drewN HB.out nq
            clear a0 a1 c0 c1 HB
            go_wp2
            go_ret
            exact ⟨by rw [decide_eq_false HE.out]; rfl, HBq.out⟩
        · have dF : (F == G) = false := by simp [hF]
          have HE : Hid (A ≠ B) := HNE.out fun e => hF (by injection e)
          go_wp2_with fail
          go_quiet (fail)
          have HBq : Hid (Below w.heap.size w (wr.drewN nq)) := below_drewN HB.out nq
          clear a0 a1 c0 c1 HB
          go_wp2
          go_ret
          exact ⟨by rw [decide_eq_false HE.out]; rfl, HBq.out⟩
      · obtain rfl : k = R := by omega
        have dk : decide ((k : Int) < (k : Int)) = false := by simp
        have HE : Hid (A = B) := eq_all (HR.out.trans HS.out.symm) fun j h1 h2 => HN.out j h1 h2 (by rw [HR.out] at h1; exact h1)
        go_wp2
        go_ret
        exact ⟨by rw [decide_eq_true HE.out]; rfl, HB.out⟩
  · have HE : Hid (A ≠ B) := fun e => hRS (by rw [← hR, ← hS, e])
    have dn : ((R : Int) != (S : Int)) = true := by simp; omega
    clear hR hS
    go_enter Try.func54, Try.ntmps54
    go_wp2
    go_ret
    exact ⟨by rw [decide_eq_false HE.out]; rfl, Below.refl _ _⟩
set_option maxRecDepth 100000 in
set_option maxHeartbeats 4000000 in
theorem eq69 (v v' : Value) (A B : Prs) (w : World) (h : PairsAny w v A) (h' : PairsAny w v' B) : Calls Try.prog 53 #[v, v'] w fun e w' => e = .returned (.bool (decide (A = B))) ∧ Below w.heap.size w w' := by
  obtain ⟨sa, sc, rfl, hl, hc⟩ := h.form
  obtain ⟨sb, sd, rfl, hl', hd⟩ := h'.form
  have HC := hid hc
  have HD := hid hd
  clear h h' hc hd
  obtain ⟨R, hR⟩ : ∃ R, A.length = R := ⟨_, rfl⟩
  obtain ⟨S, hS⟩ : ∃ S, B.length = S := ⟨_, rfl⟩
  have HR := hid hR
  have HS := hid hS
  rw [hR] at hl ⊢
  rw [hS] at hl' ⊢
  by_cases hRS : R = S
  · subst hRS
    clear hR hS
    have dn : ((R : Int) != (R : Int)) = false := by simp
    go_enter Try.func53, Try.ntmps53
    go_wp2
    go_loopw [13] (fun i wr => ∃ (k : Nat), k ≤ R ∧ i = .int .i64 (k : Int) ∧ Hid (∀ j (h1 : j < A.length) (h2 : j < B.length), j < k → A[j] = B[j]) ∧ Hid (Below w.heap.size w wr)) (fun i _ => R - (intOf i).toNat)
    case atStart => exact ⟨0, Nat.zero_le _, rfl, fun j _ _ hj => absurd hj (by omega), Below.refl _ _⟩
    case round =>
      obtain ⟨k, hk, rfl, HN, HB⟩ := hrel
      by_cases hlt : k < R
      · have hlt' : k < A.length := by rw [HR.out]; exact hlt
        have hlt2 : k < B.length := by rw [HS.out]; exact hlt
        have dk : decide ((k : Int) < (R : Int)) = true := by simp; omega
        have hk1 : (k : Int) < (R : Int) := by omega
        obtain ⟨b, off, rfl, hb, hx, hy⟩ := HC.out k hlt'
        obtain ⟨b', off', rfl, hb', hx', hy'⟩ := HD.out k hlt2
        have a0 := (HB.out.cell (p := ⟨b, off + k * 2, none⟩) hb).trans hx
        have a1 := (HB.out.cell (p := ⟨b, off + k * 2 + 1, none⟩) hb).trans hy
        have c0 := (HB.out.cell (p := ⟨b', off' + k * 2, none⟩) hb').trans hx'
        have c1 := (HB.out.cell (p := ⟨b', off' + k * 2 + 1, none⟩) hb').trans hy'
        have HNE : Hid (A[k] ≠ B[k] → A ≠ B) := fun e => ne_at hlt' hlt2 e
        have HN2 : Hid (A[k] = B[k] → ∀ j (h1 : j < A.length) (h2 : j < B.length), j < k + 1 → A[j] = B[j]) := fun e j h1 h2 hj => by
          by_cases e2 : j = k
          · subst e2; exact e
          · exact HN.out j h1 h2 (by omega)
        generalize A[k] = c at *
        generalize B[k] = d at *
        obtain ⟨F, N⟩ := c
        obtain ⟨G, M⟩ := d
        dsimp only at a0 a1 c0 c1
        clear hx hy hx' hy'
        by_cases hF : F = G
        · subst hF
          have dF : (F == F) = true := by simp
          by_cases hN : N = M
          · subst hN
            have dN : (N == N) = true := by simp
            have HN3 := hid (HN2.out rfl)
            go_wp2_with fail
            go_quiet (fail)
            have HBq : Hid (Below w.heap.size w (wr.drewN nq)) := below_drewN HB.out nq
            clear a0 a1 c0 c1 HB
            go_wp2
            go_roundw
            case rel => exact ⟨k + 1, by omega, by go_num, HN3, HBq⟩
            case measure => simp [intOf]; omega
          · have dN : (N == M) = false := by simp [hN]
            have HE : Hid (A ≠ B) := HNE.out fun e => hN (by injection e)
            go_wp2_with fail
            go_quiet (fail)
            have HBq : Hid (Below w.heap.size w (wr.drewN nq)) := below_drewN HB.out nq
            clear a0 a1 c0 c1 HB
            go_wp2
            go_ret
            exact ⟨by rw [decide_eq_false HE.out]; rfl, HBq.out⟩
        · have dF : (F == G) = false := by simp [hF]
          have HE : Hid (A ≠ B) := HNE.out fun e => hF (by injection e)
          go_wp2_with fail
          go_quiet (fail)
          have HBq : Hid (Below w.heap.size w (wr.drewN nq)) := below_drewN HB.out nq
          clear a0 a1 c0 c1 HB
          go_wp2
          go_ret
          exact ⟨by rw [decide_eq_false HE.out]; rfl, HBq.out⟩
      · obtain rfl : k = R := by omega
        have dk : decide ((k : Int) < (k : Int)) = false := by simp
        have HE : Hid (A = B) := eq_all (HR.out.trans HS.out.symm) fun j h1 h2 => HN.out j h1 h2 (by rw [HR.out] at h1; exact h1)
        go_wp2
        go_ret
        exact ⟨by rw [decide_eq_true HE.out]; rfl, HB.out⟩
  · have HE : Hid (A ≠ B) := fun e => hRS (by rw [← hR, ← hS, e])
    have dn : ((R : Int) != (S : Int)) = true := by simp; omega
    clear hR hS
    go_enter Try.func53, Try.ntmps53
    go_wp2
    go_ret
    exact ⟨by rw [decide_eq_false HE.out]; rfl, Below.refl _ _⟩
set_option maxRecDepth 100000 in
set_option maxHeartbeats 4000000 in
theorem eq42 (v v' : Value) (A B : Prs) (w : World) (h : PairsAny w v A) (h' : PairsAny w v' B) : Calls Try.prog 38 #[v, v'] w fun e w' => e = .returned (.bool (decide (A = B))) ∧ Below w.heap.size w w' := by
  obtain ⟨sa, sc, rfl, hl, hc⟩ := h.form
  obtain ⟨sb, sd, rfl, hl', hd⟩ := h'.form
  have HC := hid hc
  have HD := hid hd
  clear h h' hc hd
  obtain ⟨R, hR⟩ : ∃ R, A.length = R := ⟨_, rfl⟩
  obtain ⟨S, hS⟩ : ∃ S, B.length = S := ⟨_, rfl⟩
  have HR := hid hR
  have HS := hid hS
  rw [hR] at hl ⊢
  rw [hS] at hl' ⊢
  by_cases hRS : R = S
  · subst hRS
    clear hR hS
    have dn : ((R : Int) != (R : Int)) = false := by simp
    go_enter Try.func38, Try.ntmps38
    go_wp2
    go_loopw [5] (fun i wr => ∃ (k : Nat), k ≤ R ∧ i = .int .i64 (k : Int) ∧ Hid (∀ j (h1 : j < A.length) (h2 : j < B.length), j < k → A[j] = B[j]) ∧ Hid (Below w.heap.size w wr)) (fun i _ => R - (intOf i).toNat)
    case atStart => exact ⟨0, Nat.zero_le _, rfl, fun j _ _ hj => absurd hj (by omega), Below.refl _ _⟩
    case round =>
      obtain ⟨k, hk, rfl, HN, HB⟩ := hrel
      by_cases hlt : k < R
      · have hlt' : k < A.length := by rw [HR.out]; exact hlt
        have hlt2 : k < B.length := by rw [HS.out]; exact hlt
        have dk : decide ((k : Int) < (R : Int)) = true := by simp; omega
        have hk1 : (k : Int) < (R : Int) := by omega
        obtain ⟨b, off, rfl, hb, hx, hy⟩ := HC.out k hlt'
        obtain ⟨b', off', rfl, hb', hx', hy'⟩ := HD.out k hlt2
        have a0 := (HB.out.cell (p := ⟨b, off + k * 2, none⟩) hb).trans hx
        have a1 := (HB.out.cell (p := ⟨b, off + k * 2 + 1, none⟩) hb).trans hy
        have c0 := (HB.out.cell (p := ⟨b', off' + k * 2, none⟩) hb').trans hx'
        have c1 := (HB.out.cell (p := ⟨b', off' + k * 2 + 1, none⟩) hb').trans hy'
        have HNE : Hid (A[k] ≠ B[k] → A ≠ B) := fun e => ne_at hlt' hlt2 e
        have HN2 : Hid (A[k] = B[k] → ∀ j (h1 : j < A.length) (h2 : j < B.length), j < k + 1 → A[j] = B[j]) := fun e j h1 h2 hj => by
          by_cases e2 : j = k
          · subst e2; exact e
          · exact HN.out j h1 h2 (by omega)
        generalize A[k] = c at *
        generalize B[k] = d at *
        obtain ⟨F, N⟩ := c
        obtain ⟨G, M⟩ := d
        dsimp only at a0 a1 c0 c1
        clear hx hy hx' hy'
        by_cases hF : F = G
        · subst hF
          have dF : (F == F) = true := by simp
          by_cases hN : N = M
          · subst hN
            have dN : (N == N) = true := by simp
            have HN3 := hid (HN2.out rfl)
            go_wp2_with fail
            go_quiet (fail)
            have HBq : Hid (Below w.heap.size w (wr.drewN nq)) := below_drewN HB.out nq
            clear a0 a1 c0 c1 HB
            go_wp2
            go_roundw
            case rel => exact ⟨k + 1, by omega, by go_num, HN3, HBq⟩
            case measure => simp [intOf]; omega
          · have dN : (N == M) = false := by simp [hN]
            have HE : Hid (A ≠ B) := HNE.out fun e => hN (by injection e)
            go_wp2_with fail
            go_quiet (fail)
            have HBq : Hid (Below w.heap.size w (wr.drewN nq)) := below_drewN HB.out nq
            clear a0 a1 c0 c1 HB
            go_wp2
            go_ret
            exact ⟨by rw [decide_eq_false HE.out]; rfl, HBq.out⟩
        · have dF : (F == G) = false := by simp [hF]
          have HE : Hid (A ≠ B) := HNE.out fun e => hF (by injection e)
          go_wp2_with fail
          go_quiet (fail)
          have HBq : Hid (Below w.heap.size w (wr.drewN nq)) := below_drewN HB.out nq
          clear a0 a1 c0 c1 HB
          go_wp2
          go_ret
          exact ⟨by rw [decide_eq_false HE.out]; rfl, HBq.out⟩
      · obtain rfl : k = R := by omega
        have dk : decide ((k : Int) < (k : Int)) = false := by simp
        have HE : Hid (A = B) := eq_all (HR.out.trans HS.out.symm) fun j h1 h2 => HN.out j h1 h2 (by rw [HR.out] at h1; exact h1)
        go_wp2
        go_ret
        exact ⟨by rw [decide_eq_true HE.out]; rfl, HB.out⟩
  · have HE : Hid (A ≠ B) := fun e => hRS (by rw [← hR, ← hS, e])
    have dn : ((R : Int) != (S : Int)) = true := by simp; omega
    clear hR hS
    go_enter Try.func38, Try.ntmps38
    go_wp2
    go_ret
    exact ⟨by rw [decide_eq_false HE.out]; rfl, Below.refl _ _⟩
end Go.Proofs.Ytbcikkofbdfmaaa

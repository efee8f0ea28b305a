/- What the reader's when answers, where pairs are put at a list's end; no conditions but that the reader stands. -/
import Derived.Test.YtipjmabeenhcgaaGreatDoorQ4
set_option linter.unusedVariables false
set_option linter.unusedSimpArgs false
namespace Go.Proofs.YtipjmabeenhcgaaGreatDoor
open Go.RowKit Go.Joins

set_option maxRecDepth 100000 in
set_option maxHeartbeats 4000000 in
theorem when_any {M : Nat} {tvl : Value} {L : List Tk} {σ : St} {r : Rl} {G : Nat} (hL : EndL L) (hSh : Short L) (hG : M + 2 ≤ G) (hr : RlOk r 9000) (hmid : (whenM L r σ).2.mid = false) (w0 w : World) (h : AftR M tvl L G w0 σ r w) (hGw : G < w.heap.size) :
    Calls Tryz.prog 57 #[rp M, gp G] w fun e w' => e = .returned (.tuple #[]) ∧ AftR M tvl L G w0 (whenM L r σ).2 (whenM L r σ).1 w' := by
  have HL : Hid (EndL L) := hL
  have HSh : Hid (Short L) := hSh
  have HA0 : Hid (AftR M tvl L G w0 σ r w) := h
  have HRk : Hid (RlOk r 9000) := hr
  unfold whenM at hmid ⊢
  cases hi : isNext L [64] σ with
  | true =>
    rw [if_pos hi] at hmid
    rw [if_pos rfl]
    have cT := takes_yes hL [64] (by decide) hi w h.rd
    obtain ⟨c, σ2, e2⟩ : ∃ c σ2, partM L [61] σ.next = (c, σ2) := ⟨_, _, rfl⟩
    simp only [e2] at hmid ⊢
    have E2 : Hid (partM L [61] σ.next = (c, σ2)) := e2
    obtain ⟨l3, σ3, e3⟩ : ∃ l3 σ3, withM r.guard c σ2 = (l3, σ3) := ⟨_, _, rfl⟩
    have HMid : Hid ((withM r.guard c σ2).2.mid = false) := hmid
    rw [e3]
    dsimp only
    have E3 : Hid (withM r.guard c σ2 = (l3, σ3)) := e3
    clear hmid hL hSh e2 e3 h hr hi
    go_enter Tryz.func57, Tryz.ntmps57
    go_wp2_with fail
    refine cT.mono ?_
    rintro e w1 ⟨rfl, ha⟩
    have HA1 : Hid (AftR M tvl L G w0 σ.next r w1) := HA0.out.aft ha hG hGw
    obtain ⟨v1, v2, v3, hrow, hv⟩ := HA1.out.rl
    have hs1 := ha.kp.size
    obtain ⟨⟨q0, q1, q2⟩, -⟩ := row3 hrow
    have cP := part_any HL.out HSh.out [61] (by decide) w1.drew HA1.out.rd.drew
    rw [E2.out] at cP
    have HD : Hid (Aft M tvl L w1 σ.next w1.drew) := HA1.out.rd.aft ((Below.refl _ _).drew)
    have HV : Hid (RlV (G + 1) w1 r v1 v2 v3) := hv
    have HRow : Hid (w1.heap[G]? = some (.cells #[v1, v2, v3] 51)) := hrow
    clear ha cT hv hrow HA0
    go_wp2_with fail
    go_region_with (first
      | (go_at_call 70; refine cP.mono ?_; rintro e w2 ⟨rfl, ha⟩; have HA2 : Hid (Aft M tvl L w1 σ2 w2) := HD.out.trans ha; have hrow2 := (HA2.out.row hG HRow.out); have s2 := (row3 hrow2).1.2.1; have hs2 := ha.kp.size; clear ha)
      | (go_at_call 69; refine (with_any r.guard c v2 (G + 1) (by omega) (by have := HRk.out.l2; omega) HRk.out.r2 HMid.out w2 HA2.out.rd ((HV.out.kp HA2.out.kp (by omega)).o2) (by have := heap_lt hrow2; omega)).mono ?_; rintro e w3 ⟨v4, rfl, ho4, ha4⟩; obtain ⟨sa4, sc4, rfl⟩ := own_shape ho4; have HE := guard_end HA1.out HA2.out hG (heap_lt HRow.out) HV.out hrow2 E3.out ho4 ha4; have f2 := frozen_of_row w3 G 1 _ _ HE.2; have t2 := (row3 HE.2).1.2.1; have HF : Hid (AftR M tvl L G w0 σ3 { r with guard := l3 } (w3.setCell ⟨G, 1, none⟩ (.slice sa4 (withM r.guard c σ2).1.length sc4))) := HE.1; clear HE ho4 ha4))
    all_goals
      go_wp2
      exact bodyPost_ret (v := .tuple #[]) (by simp [results, Tryz.results57, go_sem]) rfl ⟨rfl, HF.out⟩
  | false =>
    rw [if_neg (by rw [hi]; decide)] at hmid
    rw [if_neg (by decide)]
    have cT := takes_no hL [64] (by decide) hi w h.rd
    obtain ⟨f, σ1, e1⟩ : ∃ f σ1, fieldM L σ = (f, σ1) := ⟨_, _, rfl⟩
    simp only [e1] at hmid ⊢
    have E1 : Hid (fieldM L σ = (f, σ1)) := e1
    obtain ⟨σ2, e2⟩ : ∃ σ2, needsM L [61] σ1 = σ2 := ⟨_, rfl⟩
    simp only [e2] at hmid ⊢
    have E2 : Hid (needsM L [61] σ1 = σ2) := e2
    obtain ⟨v, σ4, e4⟩ : ∃ v σ4, valueM L σ2 = (v, σ4) := ⟨_, _, rfl⟩
    simp only [e4] at hmid ⊢
    have E4 : Hid (valueM L σ2 = (v, σ4)) := e4
    obtain ⟨l3, σ3, e3⟩ : ∃ l3 σ3, withM r.when (f, v) σ4 = (l3, σ3) := ⟨_, _, rfl⟩
    have HMid : Hid ((withM r.when (f, v) σ4).2.mid = false) := hmid
    rw [e3]
    dsimp only
    have E3 : Hid (withM r.when (f, v) σ4 = (l3, σ3)) := e3
    clear hmid hL hSh e1 e2 e3 e4 h hr hi
    go_enter Tryz.func57, Tryz.ntmps57
    go_wp2_with fail
    refine cT.mono ?_
    rintro e w1 ⟨rfl, ha⟩
    have HA1 : Hid (AftR M tvl L G w0 σ r w1) := HA0.out.aft ha hG hGw
    have hs1 := ha.kp.size
    have cF := field_any5 HL.out w1 ha.rd
    rw [E1.out] at cF
    clear ha cT HA0
    go_wp2_with fail
    refine cF.mono ?_
    rintro e w2 ⟨rfl, ha⟩
    have HA2 : Hid (AftR M tvl L G w0 σ1 r w2) := HA1.out.aft ha hG (by omega)
    have hs2 := ha.kp.size
    have cE := needs_any HL.out [61] (by decide) w2 ha.rd
    rw [E2.out] at cE
    clear ha cF HA1
    go_wp2_with fail
    refine cE.mono ?_
    rintro e w3 ⟨rfl, ha⟩
    have HA3 : Hid (AftR M tvl L G w0 σ2 r w3) := HA2.out.aft ha hG (by omega)
    have hs3 := ha.kp.size
    clear ha cE HA2
    obtain ⟨v1, v2, v3, hrow, hv⟩ := HA3.out.rl
    obtain ⟨⟨q0, q1, q2⟩, -⟩ := row3 hrow
    have cP := value_any HL.out HSh.out w3.drew HA3.out.rd.drew
    rw [E4.out] at cP
    have HD : Hid (Aft M tvl L w3 σ2 w3.drew) := HA3.out.rd.aft ((Below.refl _ _).drew)
    have HV : Hid (RlV (G + 1) w3 r v1 v2 v3) := hv
    have HRow : Hid (w3.heap[G]? = some (.cells #[v1, v2, v3] 51)) := hrow
    clear hv hrow
    go_wp2_with fail
    go_region_with (first
      | (go_at_call 72; refine cP.mono ?_; rintro e w4 ⟨rfl, ha⟩; have HA4 : Hid (Aft M tvl L w3 σ4 w4) := HD.out.trans ha; have hrow2 := (HA4.out.row hG HRow.out); have s2 := (row3 hrow2).1.1; have hs4 := ha.kp.size; clear ha)
      | (go_at_call 69; refine (with_any r.when (f, v) v1 (G + 1) (by omega) (by have := HRk.out.l1; omega) HRk.out.r1 HMid.out w4 HA4.out.rd ((HV.out.kp HA4.out.kp (by omega)).o1) (by have := heap_lt hrow2; omega)).mono ?_; rintro e w5 ⟨v4, rfl, ho4, ha4⟩; obtain ⟨sa4, sc4, rfl⟩ := own_shape ho4; have HE := when_end HA3.out HA4.out hG (heap_lt HRow.out) HV.out hrow2 E3.out ho4 ha4; have f2 := frozen_of_row w5 G 0 _ _ HE.2; have t2 := (row3 HE.2).1.1; have HF : Hid (AftR M tvl L G w0 σ3 { r with when := l3 } (w5.setCell ⟨G, 0, none⟩ (.slice sa4 (withM r.when (f, v) σ4).1.length sc4))) := HE.1; clear HE ho4 ha4))
    all_goals
      go_wp2
      go_end0
      exact ⟨rfl, HF.out⟩
end Go.Proofs.YtipjmabeenhcgaaGreatDoor

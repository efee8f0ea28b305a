/- What fits and awake of the law answer. -/
import Derived.Test.YtipiepcbgjceaaaJ3
import Derived.Test.YtipiepcbgjceaaaR1
set_option linter.unusedVariables false
set_option linter.unusedSimpArgs false
namespace Go.Proofs.Ytipiepcbgjceaaa
open Go.RowKit Go.Joins Go.Sort

def fitB (p : Pl) : Bool := okT p && (decide (sizeP p ≤ 40) && decide (depthP p ≤ 12))
theorem all_fits (ps : List Pl) (k : Nat) (h : k < ps.length) (hf : fitB ps[k] = false) : ps.all fitB = false := by
  rw [List.all_eq_false]
  exact ⟨ps[k], List.getElem_mem h, by rw [hf]; decide⟩
theorem take_fits (ps : List Pl) (k : Nat) (h : k < ps.length) (ht : (ps.take k).all fitB = true) (hf : fitB ps[k] = true) : (ps.take (k + 1)).all fitB = true := by
  rw [List.take_succ_eq_append_getElem h, List.all_append, ht]
  simp [hf]

set_option maxRecDepth 100000 in
set_option maxHeartbeats 8000000 in
theorem fits_any (ps : List Pl) (v : Value) (w : World) (hv : Lots w v ps) (hl : ps.length ≤ 100) (hs : ∀ p ∈ ps, sizeP p ≤ 1000) :
    Calls Try.prog 17 #[v] w fun e w' => e = .returned (.bool (ps.all fitB)) ∧ Below w.heap.size w w' := by
  obtain ⟨va, vc, e, hk⟩ := hv.open
  simp only [Nd.mk.injEq, true_and] at e
  subst e
  have HK : Hid _ := hk
  have HS : Hid _ := hs
  obtain ⟨R, eR⟩ : ∃ R, ps.length = R := ⟨_, rfl⟩
  have HER : Hid (ps.length = R) := eR
  rw [eR] at hl ⊢
  clear hk hs hv eR
  go_enter Try.func17, Try.ntmps17
  go_wp2_with fail
  go_loopw [7] (fun i wr => ∃ (k : Nat), k ≤ R ∧ i = .int .i64 (k : Int) ∧ Hid (Below w.heap.size w wr) ∧ Hid ((ps.take k).all fitB = true)) (fun i _ => R - (intOf i).toNat)
  case atStart => exact ⟨0, Nat.zero_le _, rfl, Below.refl _ _, by show _ = _; simp⟩
  case round =>
    obtain ⟨k, hkl, rfl, HB, HT⟩ := hrel
    by_cases hlt : k < R
    · have hlt' : k < ps.length := by rw [HER.out]; exact hlt
      obtain ⟨b, off, sa2, n2, sc2, y0, y1, y2, rfl, hb, ha, hp⟩ := HK.out k hlt'
      obtain ⟨a0, a1, a2, a3⟩ := ha.same (HB.out.block b hb)
      have hwr := HB.out.size
      have hsk := HS.out _ (List.getElem_mem hlt')
      obtain ⟨WA, hWA⟩ : ∃ WA, WA = wr.alloc (pobj ⟨y0, y1, y2, .slice sa2 n2 sc2⟩) := ⟨_, rfl⟩
      have hba : Below wr.heap.size wr WA := by rw [hWA]; exact (Below.refl _ _).alloc (Nat.le_refl _) _
      have HBA : Hid (Below w.heap.size w WA) := HB.out.trans (hba.mono hwr)
      have hcell : WA.heap[wr.heap.size]? = some (pobj ⟨y0, y1, y2, .slice sa2 n2 sc2⟩) := by rw [hWA]; exact heap_alloc_new _ _
      have HCe : Hid _ := hcell
      have HPk : Hid (∀ W, Below w.heap.size w W → PolAt All W ps[k] ⟨y0, y1, y2, .slice sa2 n2 sc2⟩) := fun W hW => hp.below hW
      have HNext : Hid (fitB ps[k] = true → (ps.take (k + 1)).all fitB = true) := take_fits ps k hlt' HT.out
      have HNot : Hid (fitB ps[k] = false → ps.all fitB = false) := all_fits ps k hlt'
      clear hp ha hba
      generalize ps[k] = T at *
      have cR := right_any (P := All) T ⟨y0, y1, y2, .slice sa2 n2 sc2⟩ WA hsk (HPk.out WA HBA.out)
      obtain ⟨q0, q1, q2, q3⟩ := row4 hcell
      unfold fitB at HNext HNot
      subst hWA
      cases hok : okT T with
      | false =>
        rw [hok] at cR
        have HE : Hid (ps.all fitB = false) := HNot.out (by rw [hok]; rfl)
        clear HNext HNot hok
        go_wp2_with fail
        refine cR.mono ?_
        rintro e w1 ⟨rfl, hb1⟩
        have HB1 : Hid (Below w.heap.size w w1) := HBA.out.trans (hb1.mono HBA.out.size)
        clear hb1 cR
        go_wp2
        go_ret
        exact ⟨by rw [HE.out]; rfl, HB1.out⟩
      | true =>
        rw [hok] at cR HNext HNot
        rw [Bool.true_and] at HNext HNot
        go_wp2_with fail
        refine cR.mono ?_
        rintro e w1 ⟨rfl, hb1⟩
        have HB1 : Hid (Below w.heap.size w w1) := HBA.out.trans (hb1.mono HBA.out.size)
        have hc1 := (hb1.block _ (heap_lt HCe.out)).trans HCe.out
        have HC1 : Hid _ := hc1
        have cS := rsize_any (P := All) 1000 T ⟨y0, y1, y2, .slice sa2 n2 sc2⟩ w1 hsk (by omega) (HPk.out w1 HB1.out)
        obtain ⟨r0, r1, r2, r3⟩ := row4 hc1
        clear hb1 cR hc1 q0 q1 q2 q3 HBA HCe hok hcell
        go_wp2_with fail
        refine cS.mono ?_
        rintro e w2 ⟨rfl, hb2⟩
        have HB2 : Hid (Below w.heap.size w w2) := HB1.out.trans (hb2.mono HB1.out.size)
        have hc2 := (hb2.block _ (heap_lt HC1.out)).trans HC1.out
        have cD := rdepth_any (P := All) 1000 T ⟨y0, y1, y2, .slice sa2 n2 sc2⟩ w2 hsk (by omega) (HPk.out w2 HB2.out)
        obtain ⟨s0, s1, s2, s3⟩ := row4 hc2
        clear hb2 cS hc2 r0 r1 r2 r3 HC1
        by_cases h40 : sizeP T ≤ 40
        · have d1 : decide (40 < (sizeP T : Int)) = false := by simp; omega
          have e1 : decide (sizeP T ≤ 40) = true := by simpa using h40
          rw [e1, Bool.true_and] at HNext HNot
          go_wp2_with fail
          refine cD.mono ?_
          rintro e w3 ⟨rfl, hb3⟩
          have HB3 : Hid (Below w.heap.size w w3) := HB2.out.trans (hb3.mono HB2.out.size)
          clear hb3 cD s0 s1 s2 s3 e1
          by_cases h12 : depthP T ≤ 12
          · have d2 : decide (12 < (depthP T : Int)) = false := by simp; omega
            have HE : Hid ((ps.take (k + 1)).all fitB = true) := HNext.out (by simpa using h12)
            clear HNext HNot h40 h12
            generalize sizeP T = z1 at *
            generalize depthP T = z2 at *
            go_wp2
            go_roundw
            case rel => exact ⟨k + 1, by omega, by go_num, HB3, HE⟩
            case measure => simp [intOf]; omega
          · have d2 : decide (12 < (depthP T : Int)) = true := by simp; omega
            have HE : Hid (ps.all fitB = false) := HNot.out (by simpa using h12)
            clear HNext HNot h40 h12
            generalize sizeP T = z1 at *
            generalize depthP T = z2 at *
            go_wp2
            go_ret
            exact ⟨by rw [HE.out]; rfl, HB3.out⟩
        · have d1 : decide (40 < (sizeP T : Int)) = true := by simp; omega
          have HE : Hid (ps.all fitB = false) := HNot.out (by rw [show decide (sizeP T ≤ 40) = false by simpa using h40]; rfl)
          clear HNext HNot h40 cD
          generalize sizeP T = z1 at *
          go_wp2
          go_ret
          exact ⟨by rw [HE.out]; rfl, HB2.out⟩
    · obtain rfl : k = R := by omega
      have HE : Hid (ps.all fitB = true) := by
        have := HT.out
        rwa [List.take_of_length_le (by rw [HER.out]; exact Nat.le_refl _)] at this
      go_wp2
      go_ret
      exact ⟨by rw [HE.out]; rfl, HB.out⟩
/-- The policy that awake asks. -/
def awP : Pl := seqP [sumP [.mk 5 1 1 [], .mk 5 1 2 []], .mk 3 0 5 []]
theorem aw_ok : okT awP = true := by kernel_rfl
theorem aw_five : mkP [5] awP ⟨9, 0, 0, 0, 0, 0, 0, 0⟩ = some [⟨9, 1, 0, 0, 0, 0, 0, 0⟩, ⟨9, 2, 0, 0, 0, 0, 0, 0⟩] := by kernel_rfl
theorem aw_six : mkP [6] awP ⟨9, 0, 0, 0, 0, 0, 0, 0⟩ = some [] := by kernel_rfl
theorem aw_lets : mkP [5] awP ⟨0, 0, 0, 0, 0, 0, 0, 0⟩ = some [⟨0, 1, 0, 0, 0, 0, 0, 0⟩, ⟨0, 2, 0, 0, 0, 0, 0, 0⟩] := by kernel_rfl
theorem aw_slim (st : List Nat) : Slim (atP st awP) := by
  intro S ⟨f, n, kids, e, hs⟩ q hq k hk L hL
  have hT : ∃ c, atP st awP = .mk 6 0 0 [.mk 7 0 0 [.mk 5 1 1 [], .mk 5 1 2 []], .mk c 0 0 []] := by
    refine ⟨if partIs st 0 5 = true then 1 else 0, ?_⟩
    unfold awP seqP sumP
    simp [atP_mk, atP.atL]
  obtain ⟨c, hT⟩ := hT
  rw [hT] at hs
  subst e
  simp only [Slim.Sub, Slim.subL, or_false, Pl.mk.injEq] at hs
  have hk6 : kids = [.mk 7 0 0 [.mk 5 1 1 [], .mk 5 1 2 []], .mk c 0 0 []] ∨ kids = [] := by
    rcases hs with h | (h | h | h) | h
    · exact .inl h.2.2.2
    · exact absurd h.1 (by decide)
    · exact absurd h.1 (by decide)
    · exact absurd h.1 (by decide)
    · exact .inr h.2.2.2
  rcases hk6 with rfl | rfl
  · match k, hk, hL with
    | 0, _, hL =>
      left
      rw [List.take_zero, mkP.mkSeq] at hL
      injection hL with hL
      subst hL
      simp
    | 1, _, _ => right; rfl
  · exact absurd hk (by simp)
end Go.Proofs.Ytipiepcbgjceaaa

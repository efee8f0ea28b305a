/- What the document's formed answers, for every policy of up to 100000 nodes. -/
import Derived.Test.YtipiepcbgjceaaaR3
set_option linter.unusedVariables false
set_option linter.unusedSimpArgs false
namespace Go.Proofs.Ytipiepcbgjceaaa
open Go.RowKit Go.Joins

set_option maxRecDepth 100000 in
set_option maxHeartbeats 8000000 in
theorem rformed_any {P : Nat → Prop} (parts : Int) : ∀ (m : Nat) (T : Pl) (x : Nd) (w : World), sizeP T ≤ m → m ≤ 100000 → PolAt P w T x → Calls Try.prog 41 #[nv x, .int .i64 parts] w fun e w' => e = .returned (.bool (formP parts T)) ∧ Below w.heap.size w w'
  | 0, T, x, w, h, _, _ => absurd (size_pos T) (by omega)
  | m + 1, .mk op f n kids, x, w, hs, hm, hp => by
    obtain ⟨sa, sc, rfl, hk⟩ := hp.open
    have ih := fun T x w h => rformed_any (P := P) parts m T x w h (by omega)
    rw [sizeP_mk] at hs
    rw [formP_is]
    have hl := len_le kids
    by_cases h0 : op = 0
    · subst h0
      rw [show nodeB parts 0 f n kids = (decide (kids.length = 0) && (decide (f = 0) && decide (n = 0))) by unfold nodeB; simp, formL_0]
      exact rf_0 parts f n kids.length (by omega) sa sc w
    by_cases h1 : op = 1
    · subst h1
      rw [show nodeB parts 1 f n kids = (decide (kids.length = 0) && (decide (f = 0) && decide (n = 0))) by unfold nodeB; simp, formL_0]
      exact rf_1 parts f n kids.length (by omega) sa sc w
    by_cases h2 : op = 2
    · subst h2
      rw [show nodeB parts 2 f n kids = (decide (kids.length = 0) && (decide (0 ≤ f) && decide (f < 8))) by unfold nodeB; simp, formL_0]
      exact rf_2 parts f n kids.length (by omega) sa sc w
    by_cases h3 : op = 3
    · subst h3
      rw [show nodeB parts 3 f n kids = (decide (kids.length = 0) && (decide (0 ≤ f) && decide (f < parts))) by unfold nodeB; simp, formL_0]
      exact rf_3 parts f n kids.length (by omega) sa sc w
    by_cases h5 : op = 5
    · subst h5
      rw [show nodeB parts 5 f n kids = (decide (kids.length = 0) && (decide (1 ≤ f) && decide (f < 8))) by unfold nodeB; simp, formL_0]
      exact rf_5 parts f n kids.length (by omega) sa sc w
    have HK : Hid _ := hk
    have IH : Hid _ := ih
    by_cases h4 : op = 4
    · subst h4
      clear h0 h1 h2 h3 h5
      have hN : nodeB parts 4 f n kids = (decide (kids.length = 1) && (decide (f = 0) && decide (n = 0)) && pred0 kids) := by unfold nodeB; simp
      rw [hN]
      cases hq : (decide (kids.length = 1) && (decide (f = 0) && decide (n = 0))) with
      | false => rw [Bool.false_and, Bool.false_and]; exact rf_4no parts f n kids.length (by omega) sa sc w hq
      | true =>
        rw [Bool.true_and]
        simp only [Bool.and_eq_true, decide_eq_true_eq] at hq
        obtain ⟨hk1, rfl, rfl⟩ := hq
        obtain ⟨p, rfl⟩ := List.length_eq_one_iff.1 hk1
        obtain ⟨b, off, sa2, n2, sc2, y0, y1, y2, rfl, hb, ha, hp1⟩ := HK.out 0 (by simp)
        simp only [List.getElem_cons_zero] at hp1
        have hsz : sizeP p ≤ m := by simp [sizeP.sizeL] at hs; omega
        have hb0 := (Below.refl _ w).alloc (Nat.le_refl _) (pobj ⟨4, 0, 0, .slice (some ⟨b, off, none⟩) 1 sc⟩)
        have cP := rpred_any 100000 p _ (w.alloc (pobj ⟨4, 0, 0, .slice (some ⟨b, off, none⟩) 1 sc⟩)) (by omega) (by omega) (hp1.below hb0)
        have HB0 : Hid _ := hb0
        have HA : Hid (At4 w b (off + 0 * 4) ⟨y0, y1, y2, .slice sa2 n2 sc2⟩) := ha
        have HP1 : Hid _ := hp1
        obtain ⟨a0, a1, a2, a3⟩ := ha.same (hb0.block b hb)
        simp only [Nat.zero_mul, Nat.add_zero] at a0 a1 a2 a3
        rw [show pred0 [p] = predP p from rfl, show formP.formL parts [p] = formP parts p by simp [formP.formL]]
        clear hN hk ih hp ha hp1 hb0 hl hs HK hk1
        simp only [List.length_singleton]
        cases hpp : predP p with
        | false =>
          rw [hpp] at cP
          rw [Bool.false_and]
          clear hpp IH
          go_enter Try.func41, Try.ntmps41
          go_wp2_with fail
          refine cP.mono ?_
          rintro e w1 ⟨rfl, hb1⟩
          have HB1 : Hid (Below w.heap.size w w1) := HB0.out.trans (hb1.mono HB0.out.size)
          clear hb1 cP
          go_wp2
          go_ret
          exact ⟨rfl, HB1.out⟩
        | true =>
          rw [hpp] at cP
          rw [Bool.true_and]
          clear hpp
          generalize hfp : formP parts p = fp at *
          have HFP : Hid (formP parts p = fp) := hfp
          clear hfp
          go_enter Try.func41, Try.ntmps41
          go_wp2_with fail
          refine cP.mono ?_
          rintro e w1 ⟨rfl, hb1⟩
          have HB1 : Hid (Below w.heap.size w w1) := HB0.out.trans (hb1.mono HB0.out.size)
          obtain ⟨r0, r1, r2, r3⟩ := row4 ((hb1.block _ (heap_lt (heap_alloc_new w _))).trans (heap_alloc_new w (pobj ⟨4, 0, 0, .slice (some ⟨b, off, none⟩) 1 sc⟩)))
          have cF := IH.out p _ w1 hsz (HP1.out.below HB1.out)
          rw [HFP.out] at cF
          clear a0 a1 a2 a3
          obtain ⟨a0, a1, a2, a3⟩ := At4.same HA.out (HB1.out.block b hb)
          simp only [Nat.zero_mul, Nat.add_zero] at a0 a1 a2 a3
          clear hb1 cP HB0
          go_wp2_with fail
          refine cF.mono ?_
          rintro e w2 ⟨rfl, hb2⟩
          have HB2 : Hid (Below w.heap.size w w2) := HB1.out.trans (hb2.mono HB1.out.size)
          clear hb2 cF
          go_wp2
          go_ret
          exact ⟨rfl, HB2.out⟩
    by_cases h6 : op = 6
    · subst h6
      clear h0 h1 h2 h3 h4 h5 hk ih hp
      have hN : nodeB parts 6 f n kids = (decide (2 ≤ kids.length) && (decide (f = 0) && decide (n = 0))) := by unfold nodeB; simp
      rw [hN]
      cases hq : (decide (2 ≤ kids.length) && (decide (f = 0) && decide (n = 0))) with
      | false => rw [Bool.false_and]; exact rf_no6 parts f n kids.length (by omega) sa sc w hq
      | true =>
        rw [Bool.true_and]
        simp only [Bool.and_eq_true, decide_eq_true_eq] at hq
        obtain ⟨hk2, rfl, rfl⟩ := hq
        have k3 : decide ((kids.length : Int) < 2) = false := by simp; omega
        clear hN
        go_enter Try.func41, Try.ntmps41
        go_wp2
        go_loopw [6] (fun i wr => ∃ k : Nat, k ≤ kids.length ∧ i = .int .i64 (k : Int) ∧ Hid (formP.formL parts (kids.take k) = true) ∧ Hid (Below w.heap.size w wr) ∧ wr.heap[w.heap.size]? = some (pobj ⟨6, 0, 0, .slice sa kids.length sc⟩)) (fun i _ => kids.length - (intOf i).toNat)
        case atStart => exact ⟨0, Nat.zero_le _, rfl, by show _ = _; simp [formP.formL], (Below.refl _ w).alloc (Nat.le_refl _) _, heap_alloc_new w _⟩
        case round =>
          obtain ⟨k, hkl, rfl, HT, HB, hrow⟩ := hrel
          obtain ⟨r0, r1, r2, r3⟩ := row4 hrow
          have HRow : Hid (wr.heap[w.heap.size]? = some (pobj ⟨6, 0, 0, .slice sa kids.length sc⟩)) := hrow
          clear hrow
          by_cases hlt : k < kids.length
          · obtain ⟨b, off, sa2, n2, sc2, y0, y1, y2, rfl, hb, ha, hp⟩ := HK.out k hlt
            obtain ⟨a0, a1, a2, a3⟩ := ha.same (HB.out.block b hb)
            have hwr := HB.out.size
            have hsz := size_get kids k hlt
            have htk := formL_take parts kids k hlt
            rw [HT.out, Bool.true_and] at htk
            have cS := IH.out kids[k] ⟨y0, y1, y2, .slice sa2 n2 sc2⟩ wr (by omega) (hp.below HB.out)
            have HP : Hid (formP parts kids[k] = false → formP.formL parts kids = false) := formL_false parts kids k hlt
            clear hp ha hsz
            cases hpk : formP parts kids[k] with
            | true =>
              rw [hpk] at cS htk
              have HT2 : Hid (formP.formL parts (kids.take (k + 1)) = true) := htk
              clear hpk htk
              go_wp2_with fail
              refine cS.mono ?_
              rintro e w1 ⟨rfl, hb1⟩
              have HB1 : Hid (Below w.heap.size w w1) := HB.out.trans (hb1.mono hwr)
              have HR1 : Hid (w1.heap[w.heap.size]? = some _) := (hb1.block _ (heap_lt HRow.out)).trans HRow.out
              clear hb1 cS
              go_wp2
              go_roundw
              case rel => exact ⟨k + 1, by omega, by go_num, HT2, HB1, HR1.out⟩
              case measure => simp [intOf]; omega
            | false =>
              rw [hpk] at cS
              have HP2 : Hid (formP.formL parts kids = false) := HP.out hpk
              clear hpk htk
              go_wp2_with fail
              refine cS.mono ?_
              rintro e w1 ⟨rfl, hb1⟩
              have HB1 : Hid (Below w.heap.size w w1) := HB.out.trans (hb1.mono hwr)
              clear hb1 cS
              go_wp2
              go_ret
              exact ⟨by rw [HP2.out]; rfl, HB1.out⟩
          · obtain rfl : k = kids.length := by omega
            have HT2 : Hid (formP.formL parts kids = true) := by have := HT.out; rwa [List.take_length] at this
            go_wp2
            go_ret
            exact ⟨by rw [HT2.out]; rfl, HB.out⟩
    by_cases h7 : op = 7
    · subst h7
      clear h0 h1 h2 h3 h4 h5 h6 hk ih hp
      have hN : nodeB parts 7 f n kids = (decide (2 ≤ kids.length) && (decide (f = 0) && decide (n = 0))) := by unfold nodeB; simp
      rw [hN]
      cases hq : (decide (2 ≤ kids.length) && (decide (f = 0) && decide (n = 0))) with
      | false => rw [Bool.false_and]; exact rf_no7 parts f n kids.length (by omega) sa sc w hq
      | true =>
        rw [Bool.true_and]
        simp only [Bool.and_eq_true, decide_eq_true_eq] at hq
        obtain ⟨hk2, rfl, rfl⟩ := hq
        have k3 : decide ((kids.length : Int) < 2) = false := by simp; omega
        clear hN
        go_enter Try.func41, Try.ntmps41
        go_wp2
        go_loopw [6] (fun i wr => ∃ k : Nat, k ≤ kids.length ∧ i = .int .i64 (k : Int) ∧ Hid (formP.formL parts (kids.take k) = true) ∧ Hid (Below w.heap.size w wr) ∧ wr.heap[w.heap.size]? = some (pobj ⟨7, 0, 0, .slice sa kids.length sc⟩)) (fun i _ => kids.length - (intOf i).toNat)
        case atStart => exact ⟨0, Nat.zero_le _, rfl, by show _ = _; simp [formP.formL], (Below.refl _ w).alloc (Nat.le_refl _) _, heap_alloc_new w _⟩
        case round =>
          obtain ⟨k, hkl, rfl, HT, HB, hrow⟩ := hrel
          obtain ⟨r0, r1, r2, r3⟩ := row4 hrow
          have HRow : Hid (wr.heap[w.heap.size]? = some (pobj ⟨7, 0, 0, .slice sa kids.length sc⟩)) := hrow
          clear hrow
          by_cases hlt : k < kids.length
          · obtain ⟨b, off, sa2, n2, sc2, y0, y1, y2, rfl, hb, ha, hp⟩ := HK.out k hlt
            obtain ⟨a0, a1, a2, a3⟩ := ha.same (HB.out.block b hb)
            have hwr := HB.out.size
            have hsz := size_get kids k hlt
            have htk := formL_take parts kids k hlt
            rw [HT.out, Bool.true_and] at htk
            have cS := IH.out kids[k] ⟨y0, y1, y2, .slice sa2 n2 sc2⟩ wr (by omega) (hp.below HB.out)
            have HP : Hid (formP parts kids[k] = false → formP.formL parts kids = false) := formL_false parts kids k hlt
            clear hp ha hsz
            cases hpk : formP parts kids[k] with
            | true =>
              rw [hpk] at cS htk
              have HT2 : Hid (formP.formL parts (kids.take (k + 1)) = true) := htk
              clear hpk htk
              go_wp2_with fail
              refine cS.mono ?_
              rintro e w1 ⟨rfl, hb1⟩
              have HB1 : Hid (Below w.heap.size w w1) := HB.out.trans (hb1.mono hwr)
              have HR1 : Hid (w1.heap[w.heap.size]? = some _) := (hb1.block _ (heap_lt HRow.out)).trans HRow.out
              clear hb1 cS
              go_wp2
              go_roundw
              case rel => exact ⟨k + 1, by omega, by go_num, HT2, HB1, HR1.out⟩
              case measure => simp [intOf]; omega
            | false =>
              rw [hpk] at cS
              have HP2 : Hid (formP.formL parts kids = false) := HP.out hpk
              clear hpk htk
              go_wp2_with fail
              refine cS.mono ?_
              rintro e w1 ⟨rfl, hb1⟩
              have HB1 : Hid (Below w.heap.size w w1) := HB.out.trans (hb1.mono hwr)
              clear hb1 cS
              go_wp2
              go_ret
              exact ⟨by rw [HP2.out]; rfl, HB1.out⟩
          · obtain rfl : k = kids.length := by omega
            have HT2 : Hid (formP.formL parts kids = true) := by have := HT.out; rwa [List.take_length] at this
            go_wp2
            go_ret
            exact ⟨by rw [HT2.out]; rfl, HB.out⟩
    rw [show nodeB parts op f n kids = false by unfold nodeB; simp [h0, h1, h2, h3, h4, h5, h6, h7], Bool.false_and]
    exact rf_else parts f n kids.length (by omega) sa sc w op h0 h1 h2 h3 h4 h5 h6 h7
end Go.Proofs.Ytipiepcbgjceaaa

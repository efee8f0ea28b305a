/- What the document's Predicate answers; policies of up to 100000 nodes. -/
import Derived.Test.YtipiepcbgjceaaaK3
set_option linter.unusedVariables false
set_option linter.unusedSimpArgs false
namespace Go.Proofs.Ytipiepcbgjceaaa
open Go.RowKit Go.Joins

set_option maxRecDepth 100000 in
set_option maxHeartbeats 4000000 in
theorem rpred_any {P : Nat → Prop} : ∀ (m : Nat) (T : Pl) (x : Nd) (w : World), sizeP T ≤ m → m ≤ 100000 → PolAt P w T x → Calls Try.prog 21 #[nv x] w fun e w' => e = .returned (.bool (predP T)) ∧ Below w.heap.size w w'
  | 0, T, x, w, h, _, _ => absurd (size_pos T) (by omega)
  | m + 1, .mk op f n kids, x, w, hs, hm, hp => by
    obtain ⟨sa, sc, rfl, hk⟩ := hp.open
    have ih := fun T x w h => rpred_any (P := P) m T x w h (by omega)
    rw [sizeP_mk] at hs
    rw [predP_mk]
    have hl := len_le kids
    have HK : Hid _ := hk
    have IH : Hid _ := ih
    clear hk ih hp
    by_cases hB : opB op = true
    · rw [hB, Bool.true_or]
      unfold opB at hB
      simp only [Bool.or_eq_true, decide_eq_true_eq] at hB
      clear HK IH
      rcases hB with (((rfl | rfl) | rfl) | rfl) | rfl
      all_goals
        go_enter Try.func21, Try.ntmps21
        go_wp2
        go_ret
        exact ⟨rfl, (Below.refl _ w).alloc (Nat.le_refl _) _⟩
    · have hB2 : opB op = false := by simpa using hB
      rw [hB2, Bool.false_or]
      unfold opB at hB2
      simp only [Bool.or_eq_false_iff, decide_eq_false_iff_not] at hB2
      obtain ⟨⟨⟨⟨n0, n1⟩, n2⟩, n3⟩, n4⟩ := hB2
      clear hB
      by_cases hM : opM op = true
      · rw [hM, Bool.true_and]
        unfold opM at hM
        simp only [Bool.or_eq_true, decide_eq_true_eq] at hM
        clear n0 n1 n2 n3 n4
        rcases hM with rfl | rfl
        · go_enter Try.func21, Try.ntmps21
          go_wp2
          go_loopw [3] (fun i wr => ∃ k : Nat, k ≤ kids.length ∧ i = .int .i64 (k : Int) ∧ Hid (predP.predL (kids.take k) = true) ∧ Hid (Below w.heap.size w wr) ∧ wr.heap[w.heap.size]? = some (pobj ⟨6, f, n, .slice sa kids.length sc⟩)) (fun i _ => kids.length - (intOf i).toNat)
          case atStart => exact ⟨0, Nat.zero_le _, rfl, by show _ = _; simp [predP.predL], (Below.refl _ w).alloc (Nat.le_refl _) _, heap_alloc_new w _⟩
          case round =>
            obtain ⟨k, hkl, rfl, HT, HB, hrow⟩ := hrel
            obtain ⟨r0, r1, r2, r3⟩ := row4 hrow
            have HRow : Hid (wr.heap[w.heap.size]? = some (pobj ⟨6, f, n, .slice sa kids.length sc⟩)) := hrow
            clear hrow
            by_cases hlt : k < kids.length
            · obtain ⟨b, off, sa2, n2, sc2, y0, y1, y2, rfl, hb, ha, hp⟩ := HK.out k hlt
              obtain ⟨a0, a1, a2, a3⟩ := ha.same (HB.out.block b hb)
              have hwr := HB.out.size
              have hsz := size_get kids k hlt
              have htk := predL_take kids k hlt
              rw [HT.out, Bool.true_and] at htk
              have cS := IH.out kids[k] ⟨y0, y1, y2, .slice sa2 n2 sc2⟩ wr (by omega) (hp.below HB.out)
              have HP : Hid (predP kids[k] = false → predP.predL kids = false) := predL_false kids k hlt
              clear hp ha hsz
              cases hpk : predP kids[k] with
              | true =>
                rw [hpk] at cS htk
                have HT2 : Hid (predP.predL (kids.take (k + 1)) = true) := htk
                clear hpk htk
                go_wp2_with fail
                refine cS.mono ?_
                rintro e w1 ⟨rfl, hb1⟩
                have HB1 : Hid (Below w.heap.size w w1) := HB.out.trans (hb1.mono hwr)
                have HR1 : Hid (w1.heap[w.heap.size]? = some _) := (hb1.block _ (heap_lt HRow.out)).trans HRow.out
                clear hb1 cS
                go_wp2
                go_roundw
                case rel => exact ⟨k + 1, by omega, by go_num, HT2, HB1, HR1.out⟩
                case measure => simp [intOf]; omega
              | false =>
                rw [hpk] at cS
                have HP2 : Hid (predP.predL kids = false) := HP.out hpk
                clear hpk htk
                go_wp2_with fail
                refine cS.mono ?_
                rintro e w1 ⟨rfl, hb1⟩
                have HB1 : Hid (Below w.heap.size w w1) := HB.out.trans (hb1.mono hwr)
                clear hb1 cS
                go_wp2
                go_ret
                exact ⟨by rw [HP2.out]; rfl, HB1.out⟩
            · obtain rfl : k = kids.length := by omega
              have HT2 : Hid (predP.predL kids = true) := by have := HT.out; rwa [List.take_length] at this
              go_wp2
              go_ret
              exact ⟨by rw [HT2.out]; rfl, HB.out⟩
        · go_enter Try.func21, Try.ntmps21
          go_wp2
          go_loopw [3] (fun i wr => ∃ k : Nat, k ≤ kids.length ∧ i = .int .i64 (k : Int) ∧ Hid (predP.predL (kids.take k) = true) ∧ Hid (Below w.heap.size w wr) ∧ wr.heap[w.heap.size]? = some (pobj ⟨7, f, n, .slice sa kids.length sc⟩)) (fun i _ => kids.length - (intOf i).toNat)
          case atStart => exact ⟨0, Nat.zero_le _, rfl, by show _ = _; simp [predP.predL], (Below.refl _ w).alloc (Nat.le_refl _) _, heap_alloc_new w _⟩
          case round =>
            obtain ⟨k, hkl, rfl, HT, HB, hrow⟩ := hrel
            obtain ⟨r0, r1, r2, r3⟩ := row4 hrow
            have HRow : Hid (wr.heap[w.heap.size]? = some (pobj ⟨7, f, n, .slice sa kids.length sc⟩)) := hrow
            clear hrow
            by_cases hlt : k < kids.length
            · obtain ⟨b, off, sa2, n2, sc2, y0, y1, y2, rfl, hb, ha, hp⟩ := HK.out k hlt
              obtain ⟨a0, a1, a2, a3⟩ := ha.same (HB.out.block b hb)
              have hwr := HB.out.size
              have hsz := size_get kids k hlt
              have htk := predL_take kids k hlt
              rw [HT.out, Bool.true_and] at htk
              have cS := IH.out kids[k] ⟨y0, y1, y2, .slice sa2 n2 sc2⟩ wr (by omega) (hp.below HB.out)
              have HP : Hid (predP kids[k] = false → predP.predL kids = false) := predL_false kids k hlt
              clear hp ha hsz
              cases hpk : predP kids[k] with
              | true =>
                rw [hpk] at cS htk
                have HT2 : Hid (predP.predL (kids.take (k + 1)) = true) := htk
                clear hpk htk
                go_wp2_with fail
                refine cS.mono ?_
                rintro e w1 ⟨rfl, hb1⟩
                have HB1 : Hid (Below w.heap.size w w1) := HB.out.trans (hb1.mono hwr)
                have HR1 : Hid (w1.heap[w.heap.size]? = some _) := (hb1.block _ (heap_lt HRow.out)).trans HRow.out
                clear hb1 cS
                go_wp2
                go_roundw
                case rel => exact ⟨k + 1, by omega, by go_num, HT2, HB1, HR1.out⟩
                case measure => simp [intOf]; omega
              | false =>
                rw [hpk] at cS
                have HP2 : Hid (predP.predL kids = false) := HP.out hpk
                clear hpk htk
                go_wp2_with fail
                refine cS.mono ?_
                rintro e w1 ⟨rfl, hb1⟩
                have HB1 : Hid (Below w.heap.size w w1) := HB.out.trans (hb1.mono hwr)
                clear hb1 cS
                go_wp2
                go_ret
                exact ⟨by rw [HP2.out]; rfl, HB1.out⟩
            · obtain rfl : k = kids.length := by omega
              have HT2 : Hid (predP.predL kids = true) := by have := HT.out; rwa [List.take_length] at this
              go_wp2
              go_ret
              exact ⟨by rw [HT2.out]; rfl, HB.out⟩
      · have hM2 : opM op = false := by simpa using hM
        rw [hM2, Bool.false_and]
        unfold opM at hM2
        simp only [Bool.or_eq_false_iff, decide_eq_false_iff_not] at hM2
        obtain ⟨n6, n7⟩ := hM2
        clear hM HK IH
        by_cases h5 : op = 5
        · subst h5
          go_enter Try.func21, Try.ntmps21
          go_wp2
          go_ret
          exact ⟨rfl, (Below.refl _ w).alloc (Nat.le_refl _) _⟩
        · have d5 : (op == 5) = false := by simpa using h5
          by_cases h0 : op < 0
          · have d0 : decide (op < 0) = true := by simpa using h0
            clear n0 n1 n2 n3 n4 n6 n7 h5 h0
            go_enter Try.func21, Try.ntmps21
            go_wp2
            go_ret
            exact ⟨rfl, (Below.refl _ w).alloc (Nat.le_refl _) _⟩
          · have d0 : decide (op < 0) = false := by simpa using h0
            have d7 : decide (7 < op) = true := by simp; omega
            clear n0 n1 n2 n3 n4 n6 n7 h5 h0
            go_enter Try.func21, Try.ntmps21
            go_wp2
            go_ret
            exact ⟨rfl, (Below.refl _ w).alloc (Nat.le_refl _) _⟩
end Go.Proofs.Ytipiepcbgjceaaa

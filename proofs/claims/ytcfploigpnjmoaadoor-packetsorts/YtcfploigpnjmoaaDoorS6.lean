/- What packet.Sort leaves, for every list of at most 60 packets, and what the law PacketSorts answers: true, for every list of packets, wherever the listed variables hold what the row lists. -/
import Derived.Test.YtcfploigpnjmoaaDoorS5
import Derived.Test.YtcfploigpnjmoaaDoorF3
set_option linter.unusedVariables false
set_option linter.unusedSimpArgs false
namespace Go.Proofs.YtcfploigpnjmoaaDoor
open Go.RowKit Go.Joins Go.Sort

theorem compact41_none (p : Option Addr) (cap : Nat) (w : World) : Calls Tryd.prog 41 #[.slice p 0 cap] w fun e w' => e = .returned (.slice p 0 cap) ∧ w' = w := by
  go_enter Tryd.func41, Tryd.ntmps41
  go_wp2
  go_ret
  exact ⟨rfl, rfl⟩
theorem le_cf (x y : P8) : (!(ltOf cf) y x) = decide (cf x y ≤ 0) := by
  rw [ltOf_cf, cf_neg y x]
  by_cases h : cf x y ≤ 0
  · simp [h]
  · simp [h]; omega
theorem ms_le (L : List P8) : LE8 (L.mergeSort fun x y => !(ltOf cf) y x) := by
  have := List.pairwise_mergeSort (le := fun x y => !(ltOf cf) y x) (fun a b c h1 h2 => by
    simp only [le_cf] at h1 h2 ⊢
    have h1' := of_decide_eq_true h1
    have h2' := of_decide_eq_true h2
    apply decide_eq_true
    rcases Int.lt_or_eq_of_le h1' with k1 | k1
    · rcases Int.lt_or_eq_of_le h2' with k2 | k2
      · exact Int.le_of_lt (cf_trans k1 k2)
      · rw [← cf_eq k2]; exact h1'
    · rw [cf_eq k1]; exact h2') (fun a b => by
    simp only [le_cf]
    rw [cf_neg b a]
    by_cases h : cf a b ≤ 0
    · simp [h]
    · simp [h]; omega) L
  exact this.imp fun h => by rw [le_cf] at h; exact of_decide_eq_true h
theorem flat_cells {w : World} {b off : Nat} {L : List P8} (hc : ∀ i (h : i < L.length), At8 w b (off + i * 8) L[i]) : ∀ j u, (flat8 L)[j]? = some u → w.cell? ((⟨b, off, none⟩ : Addr).add j) = some u := by
  intro j u hj
  have hlt : j < (flat8 L).length := (List.getElem?_eq_some_iff.1 hj).1
  rw [flat8_length] at hlt
  have hi : j / 8 < L.length := by omega
  have h1 := (hc (j / 8) hi).cell (j % 8) (by omega)
  have h2 := flat8_get L (j / 8) hi (j % 8) (by omega)
  rw [show j / 8 * 8 + j % 8 = j by omega, hj] at h2
  rw [show off + j / 8 * 8 + j % 8 = off + j by omega, ← h2] at h1
  rw [show (⟨b, off, none⟩ : Addr).add j = ⟨b, off + j, none⟩ by unfold Addr.add; split <;> simp_all]
  exact h1

set_option maxRecDepth 100000 in
set_option maxHeartbeats 1000000 in
theorem sort24 (v : Value) (L : List P8) (hlen : L.length ≤ 60) (w : World) (h : Pks w v L) :
    Calls Tryd.prog 24 #[v] w fun e w' => ∃ v', e = .returned v' ∧ Pks w' v' (sortL L) ∧ Below w.heap.size w w' := by
  by_cases hL : L = []
  · subst hL
    obtain ⟨a, c, rfl⟩ := h.nil
    clear h
    cases a with
    | none =>
      go_enter Tryd.func24, Tryd.ntmps24
      go_wp2_with fail
      refine (clone39_nil _ _ _).mono ?_
      rintro e w1 ⟨rfl, rfl⟩
      go_wp2_with fail
      refine (sort40_none _ _ _ _).mono ?_
      rintro e w2 ⟨rfl, rfl⟩
      go_wp2_with fail
      refine (compact41_none _ _ _).mono ?_
      rintro e w3 ⟨rfl, rfl⟩
      go_wp2
      go_ret
      exact ⟨_, rfl, .inr ⟨rfl, _, _, rfl⟩, Below.refl _ _⟩
    | some ad =>
      have hcl := clone39 ad c [] w (by simp) (fun j u hj => by simp [flat8] at hj)
      go_enter Tryd.func24, Tryd.ntmps24
      go_wp2_with fail
      refine hcl.mono ?_
      rintro e w1 ⟨v', rfl, hown, hnn, hb1⟩
      obtain ⟨p, cp, rfl⟩ : ∃ p cp, v' = .slice p 0 cp := by
        rcases hown.2 with ⟨hv, _⟩ | ⟨g, cap, cur, hv, _⟩
        · exact ⟨_, _, hv⟩
        · exact ⟨_, _, hv⟩
      clear hown hnn hcl
      go_wp2_with fail
      refine (sort40_none _ _ _ _).mono ?_
      rintro e w2 ⟨rfl, rfl⟩
      go_wp2_with fail
      refine (compact41_none _ _ _).mono ?_
      rintro e w3 ⟨rfl, rfl⟩
      go_wp2
      go_ret
      exact ⟨_, rfl, .inr ⟨rfl, _, _, rfl⟩, hb1⟩
  · obtain ⟨b, off, cap, rfl, hb, hc⟩ := h.ne hL
    have hcl := clone39 ⟨b, off, none⟩ cap L w (by omega) (flat_cells hc)
    clear h hc
    go_enter Tryd.func24, Tryd.ntmps24
    go_wp2_with fail
    refine hcl.mono ?_
    clear hcl
    rintro e w1 ⟨v', rfl, hown, hnn, hb1⟩
    obtain ⟨g, cp, rfl, hg, hR, hcap, hcap2⟩ : ∃ g cp, v' = .slice (some ⟨g, 0, none⟩) L.length cp ∧ w.heap.size ≤ g ∧ Rw w1 g 0 L ∧ L.length ≤ cp ∧ cp ≤ 9223372036854775807 := by
      rcases hown.2 with ⟨hv, _⟩ | ⟨g, cap, cur, hv, hB, hgg, hcap, hmax, hsz, htk⟩
      · exact absurd hv hnn
      · refine ⟨g, cap, hv, hB, ⟨cur, hgg, fun i hi j hj => ?_⟩, hcap, by unfold maxLen at hmax; omega⟩
        have hlt : i * 8 + j < L.length * 8 := by omega
        have := flat8_get L i hi j hj
        rw [← htk, List.getElem?_take_of_lt hlt, Array.getElem?_toList] at this
        rw [show 0 + i * 8 + j = i * 8 + j by omega]
        exact this
    clear hown hnn
    have HR : Hid (Rw w1 g 0 L) := hR
    have HB1 : Hid (Below w.heap.size w w1) := hb1
    clear hR hb1
    go_wp2_with fail
    refine (sort40 g cp L w1 HR.out (by omega) w.heap.size hg).mono ?_
    rintro e w2 ⟨rfl, hR2, hb2⟩
    have HR2 : Hid (Rw w2 g 0 (L.mergeSort fun x y => !(ltOf cf) y x)) := hR2
    have HB2 : Hid (Below w.heap.size w w2) := hb2 _ HB1.out
    have HLE : Hid (LE8 (L.mergeSort fun x y => !(ltOf cf) y x)) := ms_le L
    have HM : Hid (∀ z, z ∈ (L.mergeSort fun x y => !(ltOf cf) y x) ↔ z ∈ L) := fun z => List.mem_mergeSort
    have hml : (L.mergeSort fun x y => !(ltOf cf) y x).length = L.length := List.length_mergeSort L
    clear hR2 hb2
    generalize (L.mergeSort fun x y => !(ltOf cf) y x) = D at *
    have hcm := compact41 g 0 cp D w2 HR2.out HLE.out (by omega) (by omega) hcap2 w.heap.size hg w HB2.out
    rw [hml] at hcm
    clear hml
    go_wp2_with fail
    refine hcm.mono ?_
    rintro e w3 ⟨Z, rfl, hRZ, hSZ, hMZ, hBZ⟩
    clear hcm
    have HZ : Hid (Pks w3 (.slice (some ⟨g, 0, none⟩) Z.length cp) (sortL L) ∧ Below w.heap.size w w3) := by
      have e : Z = sortL L := ss_unique _ _ hSZ (sortL_ok L).1 fun z => by rw [hMZ, HM.out, (sortL_ok L).2]
      rw [← e]
      refine ⟨.inl ⟨g, 0, cp, rfl, ?_, fun i hi => hRZ.at i hi⟩, hBZ⟩
      obtain ⟨cur, hgg, _⟩ := hRZ
      exact (Array.getElem?_eq_some_iff.1 hgg).1
    clear hRZ hSZ hMZ hBZ
    go_wp2
    go_ret
    exact ⟨_, rfl, HZ.out.1, HZ.out.2⟩
end Go.Proofs.YtcfploigpnjmoaaDoor

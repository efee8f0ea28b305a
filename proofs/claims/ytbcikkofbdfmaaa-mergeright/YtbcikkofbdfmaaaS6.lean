/- What packet.Sort leaves, for every list of at most 60 packets, and what the law PacketSorts answers: true, for every list of packets, wherever the listed variables hold what the row lists. -/
import Derived.Test.YtbcikkofbdfmaaaS5
set_option linter.unusedVariables false
set_option linter.unusedSimpArgs false
namespace Go.Proofs.Ytbcikkofbdfmaaa
open Go.RowKit Go.Joins Go.Sort

theorem compact41_none (p : Option Addr) (cap : Nat) (w : World) : Calls Try.prog 65 #[.slice p 0 cap] w fun e w' => e = .returned (.slice p 0 cap) ∧ w' = w := by
  go_enter Try.func65, Try.ntmps65
  go_wp2
  go_ret
  exact ⟨rfl, rfl⟩
theorem le_cf (x y : P8) : (!(ltOf cf) y x) = decide (cf x y ≤ 0) := by
  rw [ltOf_cf, cf_neg y x]
  by_cases h : cf x y ≤ 0
  · simp [h]
  · simp [h]; omega
theorem ms_le (L : List P8) : LE8 (L.mergeSort fun x y => !(ltOf cf) y x) := by
  have := List.pairwise_mergeSort (le := fun x y => !(ltOf cf) y x) (fun a b c h1 h2 => by
    simp only [le_cf] at h1 h2 ⊢
    have h1' := of_decide_eq_true h1
    have h2' := of_decide_eq_true h2
    apply decide_eq_true
    rcases Int.lt_or_eq_of_le h1' with k1 | k1
    · rcases Int.lt_or_eq_of_le h2' with k2 | k2
      · exact Int.le_of_lt (cf_trans k1 k2)
      · rw [← cf_eq k2]; exact h1'
    · rw [cf_eq k1]; exact h2') (fun a b => by
    simp only [le_cf]
    rw [cf_neg b a]
    by_cases h : cf a b ≤ 0
    · simp [h]
    · simp [h]; omega) L
  exact this.imp fun h => by rw [le_cf] at h; exact of_decide_eq_true h
theorem flat_cells {w : World} {b off : Nat} {L : List P8} (hc : ∀ i (h : i < L.length), At8 w b (off + i * 8) L[i]) : ∀ j u, (flat8 L)[j]? = some u → w.cell? ((⟨b, off, none⟩ : Addr).add j) = some u := by
  intro j u hj
  have hlt : j < (flat8 L).length := (List.getElem?_eq_some_iff.1 hj).1
  rw [flat8_length] at hlt
  have hi : j / 8 < L.length := by omega
  have h1 := (hc (j / 8) hi).cell (j % 8) (by omega)
  have h2 := flat8_get L (j / 8) hi (j % 8) (by omega)
  rw [show j / 8 * 8 + j % 8 = j by omega, hj] at h2
  rw [show off + j / 8 * 8 + j % 8 = off + j by omega, ← h2] at h1
  rw [show (⟨b, off, none⟩ : Addr).add j = ⟨b, off + j, none⟩ by unfold Addr.add; split <;> simp_all]
  exact h1

/-- A list without a thing twice, all in another list, is no longer than that. -/
theorem len_le_nd : ∀ (l m : List P8), l.Nodup → (∀ z ∈ l, z ∈ m) → l.length ≤ m.length
  | [], m, _, _ => Nat.zero_le _
  | x :: l, m, hn, h => by
    obtain ⟨h1, h2⟩ := List.nodup_cons.1 hn
    have hx : x ∈ m := h x (List.mem_cons_self ..)
    obtain ⟨a, b, rfl⟩ := List.append_of_mem hx
    have := len_le_nd l (a ++ b) h2 fun z hz => by
      have hz' := h z (List.mem_cons_of_mem _ hz)
      simp only [List.mem_append, List.mem_cons] at hz' ⊢
      rcases hz' with k | k | k
      · exact .inl k
      · subst k; exact absurd hz h1
      · exact .inr k
    simp only [List.length_append, List.length_cons] at this ⊢
    omega
/-- A row of its own. -/
theorem own_of_rw {w : World} {base g cap sz : Nat} {Z : List P8} (h : Rw w g 0 sz Z) (hsz : sz = cap * 8) (hb : base ≤ g) (hz : Z.length ≤ cap) (hm : cap ≤ maxLen) : w.ownsRow base 25 8 (.slice (some ⟨g, 0, none⟩) Z.length cap) Z.length (flat8 Z) := by
  obtain ⟨cur, hg, hs, hc⟩ := h
  refine ⟨flat8_length Z, .inr ⟨g, cap, cur, rfl, hb, hg, hz, hm, hs.trans hsz, ?_⟩⟩
  apply List.ext_getElem?
  intro j
  by_cases hj : j < Z.length * 8
  · rw [List.getElem?_take_of_lt hj, Array.getElem?_toList]
    have hi : j / 8 < Z.length := by omega
    have h1 := hc (j / 8) hi (j % 8) (by omega)
    have h2 := flat8_get Z (j / 8) hi (j % 8) (by omega)
    rw [show 0 + j / 8 * 8 + j % 8 = j by omega] at h1
    rw [show j / 8 * 8 + j % 8 = j by omega] at h2
    rw [h1, h2]
  · rw [List.getElem?_eq_none (by rw [List.length_take]; omega), List.getElem?_eq_none (by rw [flat8_length]; omega)]
theorem sortL_nil : sortL [] = [] := rfl
theorem sortL_ne {L : List P8} (h : L ≠ []) : sortL L ≠ [] := by
  obtain ⟨x, hx⟩ := List.exists_mem_of_ne_nil _ h
  intro e
  have := ((sortL_ok L).2 x).2 hx
  rw [e] at this
  cases this

set_option maxRecDepth 100000 in
set_option maxHeartbeats 1000000 in
theorem sort_nil (w : World) : Calls Try.prog 49 #[.slice none 0 0] w fun e w' => e = .returned (.slice none 0 0) ∧ w' = w := by
  go_enter Try.func49, Try.ntmps49
  go_wp2_with fail
  refine (clone39_nil _ _ _).mono ?_
  rintro e w1 ⟨rfl, rfl⟩
  go_wp2_with fail
  refine (sort40_none _ _ _ _).mono ?_
  rintro e w2 ⟨rfl, rfl⟩
  go_wp2_with fail
  refine (compact41_none _ _ _).mono ?_
  rintro e w3 ⟨rfl, rfl⟩
  go_wp2
  go_ret
  exact ⟨rfl, rfl⟩
set_option maxRecDepth 100000 in
set_option maxHeartbeats 1000000 in
/-- What packet.Sort leaves of a list that isn't empty: a row of its own. -/
theorem sort_own (v : Value) (L : List P8) (hL : L ≠ []) (hlen : L.length ≤ 500) (w : World) (h : Pks w v L) :
    Calls Try.prog 49 #[v] w fun e w' => ∃ v', e = .returned v' ∧ w'.ownsRow w.heap.size 25 8 v' (sortL L).length (flat8 (sortL L)) ∧ Below w.heap.size w w' := by
  obtain ⟨b, off, cap, rfl, hb, hc⟩ := h.ne hL
  have hcl := clone39 ⟨b, off, none⟩ cap L w (by omega) (flat_cells hc)
  clear h hc
  go_enter Try.func49, Try.ntmps49
  go_wp2_with fail
  refine hcl.mono ?_
  clear hcl
  rintro e w1 ⟨v', rfl, hown, hnn, hb1⟩
  obtain ⟨g, cp, rfl, hg, hR, hcap, hcap2⟩ : ∃ g cp, v' = .slice (some ⟨g, 0, none⟩) L.length cp ∧ w.heap.size ≤ g ∧ Rw w1 g 0 (cp * 8) L ∧ L.length ≤ cp ∧ cp ≤ maxLen := by
    rcases hown.2 with ⟨hv, _⟩ | ⟨g, cap, cur, hv, hB, hgg, hcap, hmax, hsz, htk⟩
    · exact absurd hv hnn
    · refine ⟨g, cap, hv, hB, ⟨cur, hgg, hsz, fun i hi j hj => ?_⟩, hcap, hmax⟩
      have hlt : i * 8 + j < L.length * 8 := by omega
      have := flat8_get L i hi j hj
      rw [← htk, List.getElem?_take_of_lt hlt, Array.getElem?_toList] at this
      rw [show 0 + i * 8 + j = i * 8 + j by omega]
      exact this
  clear hown hnn
  have HR : Hid (Rw w1 g 0 (cp * 8) L) := hR
  have HB1 : Hid (Below w.heap.size w w1) := hb1
  have HM : Hid (cp ≤ maxLen) := hcap2
  have hcap3 : cp ≤ 9223372036854775807 := by unfold maxLen at hcap2; omega
  clear hR hb1 hcap2
  go_wp2_with fail
  refine (sort40 g cp (cp * 8) L w1 HR.out (by omega) w.heap.size hg).mono ?_
  rintro e w2 ⟨rfl, hR2, hb2⟩
  have HR2 : Hid (Rw w2 g 0 (cp * 8) (L.mergeSort fun x y => !(ltOf cf) y x)) := hR2
  have HB2 : Hid (Below w.heap.size w w2) := hb2 _ HB1.out
  have HLE : Hid (LE8 (L.mergeSort fun x y => !(ltOf cf) y x)) := ms_le L
  have HMe : Hid (∀ z, z ∈ (L.mergeSort fun x y => !(ltOf cf) y x) ↔ z ∈ L) := fun z => List.mem_mergeSort
  have hml : (L.mergeSort fun x y => !(ltOf cf) y x).length = L.length := List.length_mergeSort L
  clear hR2 hb2
  generalize (L.mergeSort fun x y => !(ltOf cf) y x) = D at *
  have hcm := compact41 g 0 cp (cp * 8) D w2 HR2.out HLE.out (by omega) (by omega) hcap3 w.heap.size hg w HB2.out
  rw [hml] at hcm
  go_wp2_with fail
  refine hcm.mono ?_
  rintro e w3 ⟨Z, rfl, hRZ, hSZ, hMZ, hBZ⟩
  clear hcm
  have HZ : Hid (w3.ownsRow w.heap.size 25 8 (.slice (some ⟨g, 0, none⟩) Z.length cp) (sortL L).length (flat8 (sortL L)) ∧ Below w.heap.size w w3) := by
    have e : Z = sortL L := ss_unique _ _ hSZ (sortL_ok L).1 fun z => by rw [hMZ, HMe.out, (sortL_ok L).2]
    have hZl : Z.length ≤ L.length := by
      rw [← hml]
      have : ∀ (a b : List P8), a.Nodup → (∀ z ∈ a, z ∈ b) → a.length ≤ b.length := fun a b h1 h2 => len_le_nd a b h1 h2
      exact this Z D (hSZ.imp fun {a b} hab e => by rw [e, cf_self] at hab; omega) fun z hz => (hMZ z).1 hz
    rw [← e]
    exact ⟨own_of_rw hRZ rfl hg (by omega) HM.out, hBZ⟩
  clear hRZ hSZ hMZ hBZ
  go_wp2
  go_ret
  exact ⟨_, rfl, HZ.out.1, HZ.out.2⟩
end Go.Proofs.Ytbcikkofbdfmaaa

/- What a row's acts make of a packet, in order, each once: up to 500 acts. -/
import Derived.Test.YtbcikkofbdfmaaaX3
import Derived.Test.YtbcikkofbdfmaaaS6
set_option linter.unusedVariables false
set_option linter.unusedSimpArgs false
namespace Go.Proofs.Ytbcikkofbdfmaaa
open Go.RowKit Go.Joins Go.Sort

set_option maxRecDepth 100000 in
set_option maxHeartbeats 4000000 in
theorem made_any (q : P8) (v : Value) (L : List Prs) (hlen : L.length ≤ 500) (w : World) (h : ActsAt w v L) :
    Calls Try.prog 40 #[v, q.v] w fun e w' => ∃ u, e = .returned u ∧ Pks w' u (madeL q L) ∧ Below w.heap.size w w' := by
  obtain ⟨sa, sc, rfl, hl, hc⟩ := h
  obtain ⟨i0, hi, hz0, hz1, hz2⟩ := info_parts info24'
  have HC := hid hc
  obtain ⟨R, hR⟩ : ∃ R, L.length = R := ⟨_, rfl⟩
  have HR := hid hR
  rw [hR] at hl hlen ⊢
  clear hc hR
  go_enter Try.func40, Try.ntmps40
  go_wp2
  go_loopw [5, 10] (fun sv i wr => ∃ (k : Nat), k ≤ R ∧ i = .int .i64 (k : Int) ∧ Hid (k = 0 → sv = .slice none 0 0) ∧ Hid (ASt w q sv ((L.take k).map (doP q)) wr)) (fun _ i _ => R - (intOf i).toNat)
  case atStart => exact ⟨0, Nat.zero_le _, rfl, fun _ => rfl, ⟨World.ownsRow_nil _ _ _ _, heap_alloc_new _ _, (Below.refl _ _).alloc (Nat.le_refl _) _⟩⟩
  case round =>
    obtain ⟨k, hk, rfl, HN, HS⟩ := hrel
    by_cases hlt : k < R
    · have hlt' : k < L.length := by rw [HR.out]; exact hlt
      have dk : decide ((k : Int) < (R : Int)) = true := by simp; omega
      obtain ⟨b, off, rfl, hb, u, hu, hp⟩ := HC.out k hlt'
      have hu2 := (HS.out.bel.cell (p := ⟨b, off + k, none⟩) hb).trans hu
      have cD := hid (do_v q wr u L[k] (hp.below HS.out.bel))
      have HT : Hid ((L.take (k + 1)).map (doP q) = (L.take k).map (doP q) ++ [doP q L[k]]) := by
        unfold Hid
        rw [List.take_succ_eq_append_getElem hlt', List.map_append]; rfl
      have hol : ((L.take k).map (doP q)).length = k := by simp; omega
      obtain ⟨⟨r0, r1, r2, r3, r4, r5, r6, r7⟩, -, -⟩ := row8 HS.out.box
      clear hu hp
      go_wp2_with fail
      refine cD.out.mono ?_
      rintro e w2 ⟨rfl, hb2⟩
      have HS2 : Hid (ASt w q u5 ((L.take k).map (doP q)) w2) := HS.out.below hb2
      have hown2 := HS2.out.own
      rw [hol] at hown2
      have hsz2 := heap_lt HS2.out.box
      clear hb2 cD HS r0 r1 r2 r3 r4 r5 r6 r7 hu2
      generalize doP q L[k] = x at *
      go_wp2_with (at_builtin; refine wpList_append_own _ rfl _ _ 37 rfl (w.heap.size + 1) 25 i0 (pk 0 0 0 0 0 0 0 0) 8 16 Try.underlying37 hi hz0 hz1 hz2 rfl (by decide) u5 _ _ rfl (hown2.alloc _) ⟨w2.heap.size, 0, none⟩ 1 1 (enc8 x) rfl rfl (cell_new8 _ _ _) (enc8_one x) (by unfold maxLen; (try simp); omega) (by (try simp); omega) (by (try simp); omega) ?_; intro v3 w3 hown3 hgrow3 hnil3)
      have HS3 : Hid (ASt w q v3 ((L.take (k + 1)).map (doP q)) w3) := by
        unfold Hid
        rw [HT.out]
        exact HS2.out.app x _ (by rw [hol]; exact hown3) hgrow3
      clear hown3 hgrow3 hnil3 hown2
      go_roundw
      case rel => exact ⟨k + 1, by omega, by go_num, fun e => absurd e (by omega), HS3⟩
      case measure => simp [intOf]; omega
    · obtain rfl : k = R := by omega
      have dk : decide ((k : Int) < (k : Int)) = false := by simp
      have HTK : Hid (L.take k = L) := List.take_of_length_le (by rw [HR.out]; exact Nat.le_refl _)
      rw [HTK.out] at HS
      by_cases h0 : k = 0
      · have hn := HN.out h0
        subst hn
        have HL : Hid (L = []) := List.length_eq_zero_iff.1 (HR.out.trans h0)
        go_wp2_with fail
        refine (sort_nil wr).mono ?_
        rintro e w2 ⟨rfl, rfl⟩
        go_wp2_with fail
        refine bodyPost_ret (v := .slice none 0 0) (by simp [results, Try.results40, go_sem]) rfl ⟨_, rfl, ?_, HS.out.bel⟩
        rw [HL.out]
        exact pks_nil _
      · have HNE : Hid (L.map (doP q) ≠ []) := fun e => h0 (by have := congrArg List.length e; simpa [HR.out] using this)
        have hlm : (L.map (doP q)).length ≤ 500 := by rw [List.length_map, HR.out]; exact hlen
        have cS := sort_own u5 (L.map (doP q)) HNE.out hlm wr (pks_of_own HS.out.own)
        clear hlm
        go_wp2_with fail
        refine cS.mono ?_
        rintro e w2 ⟨v2, rfl, ho, hb2⟩
        have HE : Hid (Pks w2 v2 (madeL q L) ∧ Below w.heap.size w w2) := ⟨pks_of_own ho, HS.out.bel.trans (hb2.mono HS.out.bel.size)⟩
        clear ho hb2 cS
        go_wp2_with fail
        refine bodyPost_ret (v := v2) (by simp [results, Try.results40, go_sem]) rfl ⟨_, rfl, HE.out.1, HE.out.2⟩
end Go.Proofs.Ytbcikkofbdfmaaa

/- By which row a packet goes, and what is made of it: table.Lookup; rows of up to 500 acts. -/
import Derived.Test.YtbcikkofbdfmaaaX4
import Derived.Test.YtbcikkofbdfmaaaX3b
set_option linter.unusedVariables false
set_option linter.unusedSimpArgs false
namespace Go.Proofs.Ytbcikkofbdfmaaa
open Go.RowKit Go.Joins Go.Sort

set_option maxRecDepth 100000 in
set_option maxHeartbeats 4000000 in
theorem look_any (q : P8) (v : Value) (L : List Rx) (ha : ∀ r ∈ L, r.a.length ≤ 500) (w : World) (h : RowsAt w v L) :
    Calls Try.prog 27 #[v, q.v] w fun e w' => ∃ u, e = .returned (.tuple #[u, .int .i64 (lookI q L)]) ∧ Pks w' u (lookL q L) ∧ Below w.heap.size w w' := by
  obtain ⟨sa, sc, rfl, hl, hcap, hc⟩ := h
  have HC := hid hc
  have HA := hid ha
  obtain ⟨R, hR⟩ : ∃ R, L.length = R := ⟨_, rfl⟩
  have HR := hid hR
  rw [hR] at hl ⊢
  clear hc hR ha hcap
  go_enter Try.func27, Try.ntmps27
  go_wp2
  go_loopw [10] (fun i wr => ∃ (k : Nat), k ≤ R ∧ i = .int .i64 (k : Int) ∧ Hid (∀ j (h : j < L.length), j < k → hasAll q.l L[j].m = false) ∧ Hid (Below w.heap.size w wr) ∧ Hid (wr.heap[w.heap.size]? = some (pob q))) (fun i _ => R - (intOf i).toNat)
  case atStart => exact ⟨0, Nat.zero_le _, rfl, fun j h hj => absurd hj (by omega), (Below.refl _ _).alloc (Nat.le_refl _) _, heap_alloc_new _ _⟩
  case round =>
    obtain ⟨k, hk, rfl, HN, HB, HQ⟩ := hrel
    by_cases hlt : k < R
    · have hlt' : k < L.length := by rw [HR.out]; exact hlt
      have dk : decide ((k : Int) < (R : Int)) = true := by simp; omega
      obtain ⟨b, off, rfl, hb, x, y, hx, hy, hr⟩ := HC.out k hlt'
      have hx2 := (HB.out.cell (p := ⟨b, off + k * 2, none⟩) hb).trans hx
      have hy2 := (HB.out.cell (p := ⟨b, off + k * 2 + 1, none⟩) hb).trans hy
      have hak := HA.out _ (List.getElem_mem hlt')
      have HRow := hid (hr.below HB.out)
      obtain ⟨xa, xc, hxe, -⟩ := hr.1.form
      obtain ⟨ya, yc, hye⟩ := hr.2.form
      clear hx hy hr
      have hb1 : Below wr.heap.size wr (wr.alloc (rob x y)) := (Below.refl _ _).alloc (Nat.le_refl _) _
      have HB1 := hid hb1
      have HQ1 : Hid ((wr.alloc (rob x y)).heap[w.heap.size]? = some (pob q)) := (hb1.block _ (heap_lt HQ.out)).trans HQ.out
      have HX1 : Hid ((wr.alloc (rob x y)).heap[wr.heap.size]? = some (rob x y)) := heap_alloc_new _ _
      have cH := hid (has_v q (wr.alloc (rob x y)) x L[k].m (HRow.out.1.below hb1))
      obtain ⟨xn, hxn⟩ : ∃ xn, (L[k].m).length = xn := ⟨_, rfl⟩
      obtain ⟨yn, hyn⟩ : ∃ yn, (L[k].a).length = yn := ⟨_, rfl⟩
      rw [hxn] at hxe
      rw [hyn] at hye
      subst hxe hye
      clear hxn hyn hb1
      obtain ⟨⟨r0, r1, r2, r3, r4, r5, r6, r7⟩, -, -⟩ := row8 HQ1.out
      go_wp2_with fail
      refine cH.out.mono ?_
      rintro e w2 ⟨rfl, hb2⟩
      have HB2 : Hid (Below w.heap.size w w2) := (HB.out.trans (HB1.out.mono HB.out.size)).trans (hb2.mono (HB.out.trans (HB1.out.mono HB.out.size)).size)
      have HQ2 := hid ((hb2.block _ (heap_lt HQ1.out)).trans HQ1.out)
      have HX2 := hid ((hb2.block _ (heap_lt HX1.out)).trans HX1.out)
      have HRow2 := hid ((HRow.out.below HB1.out).below hb2)
      clear hb2 cH r0 r1 r2 r3 r4 r5 r6 r7 HQ1 HX1 HB1 hx2 hy2
      cases hh : hasAll q.l L[k].m with
      | true =>
        have HK : Hid (lookK q L = some k) := lookK_hit q L k hlt' (fun j hj => HN.out j (by omega) hj) hh
        have cM := hid (made_any q (.slice ya yn yc) L[k].a hak w2 HRow2.out.2)
        obtain ⟨⟨r0, r1, r2, r3, r4, r5, r6, r7⟩, -, -⟩ := row8 HQ2.out
        obtain ⟨x0, x1⟩ := row2 HX2.out
        clear hh
        go_wp2_with fail
        refine cM.out.mono ?_
        rintro e w3 ⟨u, rfl, hu, hb3⟩
        have HE : Hid (Pks w3 u (lookL q L) ∧ Below w.heap.size w w3) := ⟨by rw [lookL_hit HK.out hlt']; exact hu, HB2.out.trans (hb3.mono HB2.out.size)⟩
        clear hu hb3 cM
        go_wp2_with fail
        refine bodyPost_ret (v := .tuple #[u, .int .i64 (k : Int)]) (by simp [results, Try.results27, go_sem]) rfl ⟨u, by rw [lookI_hit HK.out], HE.out.1, HE.out.2⟩
      | false =>
        have HN2 : Hid (∀ j (h : j < L.length), j < k + 1 → hasAll q.l L[j].m = false) := fun j h hj => by
          by_cases e : j = k
          · subst e; exact hh
          · exact HN.out j h (by omega)
        clear hh
        go_wp2_with fail
        go_roundw
        case rel => exact ⟨k + 1, by omega, by go_num, HN2, HB2, HQ2⟩
        case measure => simp [intOf]; omega
    · obtain rfl : k = R := by omega
      have dk : decide ((k : Int) < (k : Int)) = false := by simp
      have HK : Hid (lookK q L = none) := lookK_miss q L fun j hj => HN.out j hj (by rw [HR.out] at hj; omega)
      go_wp2_with fail
      refine bodyPost_ret (v := .tuple #[.slice none 0 0, .int .i64 (-1)]) (by simp [results, Try.results27, go_sem]) rfl ⟨_, by rw [lookI_miss HK.out], ?_, HB.out⟩
      rw [lookL_miss HK.out]
      exact pks_nil _
end Go.Proofs.Ytbcikkofbdfmaaa

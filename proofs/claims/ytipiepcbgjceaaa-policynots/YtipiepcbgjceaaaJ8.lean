/- What the law PolicyNots answers: true; nothing is asked of the input but what an argument is. -/
import Derived.Test.YtipiepcbgjceaaaJ6
import Derived.Test.YtipiepcbgjceaaaRow
import Derived.Test.YtipiepcbgjceaaaQD
set_option linter.unusedVariables false
set_option linter.unusedSimpArgs false
namespace Go.Proofs.Ytipiepcbgjceaaa
open Go.RowKit Go.Joins Go.Sort

theorem Sps.below {w w' : World} {v : Value} {l : List Sp} (h : Sps w v l) (hb : Below w.heap.size w w') : Sps w' v l := by
  obtain ⟨sa, sc, e, hc⟩ := h
  refine ⟨sa, sc, e, fun k hk => ?_⟩
  obtain ⟨b, off, e1, h1, h2⟩ := hc k hk
  exact ⟨b, off, e1, Nat.lt_of_lt_of_le h1 hb.size, fun j h4 => by rw [hb.cell (p := ⟨b, off + k * 4 + j, none⟩) h1]; exact h2 j h4⟩
abbrev aobj2 (v0 v1 : Value) : Obj := .cells #[v0, v1] 53

set_option maxRecDepth 100000 in
set_option maxHeartbeats 16000000 in
theorem nots_any (l0 l1 : List Sp) (v0 v1 : Value) (st : List Nat) (sv : Value) (q : P8) (w : World) (h0 : Sps w v0 l0) (hm0 : l0.length ≤ 9223372036854775807) (hs0 : ∀ s ∈ l0, s.n ≤ 65535 ∧ s.k ≤ 255)
    (h1 : Sps w v1 l1) (hm1 : l1.length ≤ 9223372036854775807) (hs1 : ∀ s ∈ l1, s.n ≤ 65535 ∧ s.k ≤ 255) (hst : StAt w sv st) (hm63 : st.length ≤ 9223372036854775807) (hq : Q8 q) :
    Calls Try.prog 6 #[.agg #[v0, v1], sv, q.v] w fun e w' => e = .returned (.bool true) ∧ Below w.heap.size w w' := by
  have hb0 : Below w.heap.size w ((w.alloc (aobj2 v0 v1)).alloc (pobj8 q)) := ((Below.refl _ w).alloc (Nat.le_refl _) _).alloc (by simp) _
  have hrq : ((w.alloc (aobj2 v0 v1)).alloc (pobj8 q)).heap[w.heap.size + 1]? = some (pobj8 q) := heap_alloc2_new w _ _
  have hrl : ((w.alloc (aobj2 v0 v1)).alloc (pobj8 q)).heap[w.heap.size]? = some (aobj2 v0 v1) := (Below.heap_alloc _ _ _ (by simp)).trans (heap_alloc_new w _)
  have HB0 := hide hb0
  have HRQ := hide hrq
  have HRL := hide hrl
  have HST := hide hst
  have HQ := hide hq
  have HM := hide hm63
  have CP0 : Hid (∀ W, Below w.heap.size w W → Calls Try.prog 8 #[v0] W fun e w' => PileEnd W e w') := fun W hW => pile_any l0 v0 W (h0.below hW) hm0 hs0
  have CP1 : Hid (∀ W, Below w.heap.size w W → Calls Try.prog 8 #[v1] W fun e w' => PileEnd W e w') := fun W hW => pile_any l1 v1 W (h1.below hW) hm1 hs1
  have cA := awake_any ((w.alloc (aobj2 v0 v1)).alloc (pobj8 q))
  obtain ⟨u0, x0, rfl, -⟩ := h0
  obtain ⟨u1, x1, rfl, -⟩ := h1
  obtain ⟨ss, ssc, rfl, -⟩ := hst
  obtain ⟨SL, eSL⟩ : ∃ SL, st.length = SL := ⟨_, rfl⟩
  have HES : Hid (st.length = SL) := eSL
  rw [eSL] at HST hm63 ⊢
  generalize l0.length = n0 at *
  generalize l1.length = n1 at *
  clear hb0 hrq hrl hq hs0 hs1 hm0 hm1 eSL
  go_enter Try.func6, Try.ntmps6
  go_wp2_with fail
  refine cA.mono ?_
  rintro e w1 ⟨rfl, hb1⟩
  have HB1 : Hid (Below w.heap.size w w1) := HB0.out.trans (hb1.mono HB0.out.size)
  have hrq1 := (hb1.block _ (heap_lt HRQ.out)).trans HRQ.out
  have hrl1 := (hb1.block _ (heap_lt HRL.out)).trans HRL.out
  have HRQ1 := hide hrq1
  have HRL1 := hide hrl1
  have q0 : w1.cell? ⟨w.heap.size, 0, none⟩ = some (.slice u0 n0 x0) := by rw [cell_of_row _ _ _ _ _ _ hrl1]; rfl
  clear hb1 cA HB0 HRQ HRL hrq1 hrl1
  go_wp2_with fail
  refine (CP0.out w1 HB1.out).mono ?_
  rintro e w2 ⟨⟨xo, xf, xn, xk⟩, ok0, rfl, hb2, ⟨sk, kn, skc, hkv⟩, hpol⟩
  dsimp only at hkv
  subst hkv
  obtain ⟨WA, hWA⟩ : ∃ WA, WA = w2.alloc (pobj ⟨xo, xf, xn, .slice sk kn skc⟩) := ⟨_, rfl⟩
  have hbA : Below w2.heap.size w2 WA := by rw [hWA]; exact (Below.refl _ _).alloc (Nat.le_refl _) _
  have HBA : Hid (Below w.heap.size w WA) := HB1.out.trans ((hb2.trans (hbA.mono hb2.size)).mono HB1.out.size)
  have hb2A := hb2.trans (hbA.mono hb2.size)
  have HRQA : Hid (WA.heap[w.heap.size + 1]? = some (pobj8 q)) := (hb2A.block _ (heap_lt HRQ1.out)).trans HRQ1.out
  have hrlA : WA.heap[w.heap.size]? = some (aobj2 (.slice u0 n0 x0) (.slice u1 n1 x1)) := (hb2A.block _ (heap_lt HRL1.out)).trans HRL1.out
  have HRA : Hid (WA.heap[w2.heap.size]? = some (pobj ⟨xo, xf, xn, .slice sk kn skc⟩)) := by rw [hWA]; exact heap_alloc_new _ _
  have HPA : Hid (ok0 = true → ∃ T, sizeP T ≤ 60 ∧ okN T ∧ PolAt All WA T ⟨xo, xf, xn, .slice sk kn skc⟩) := fun h => by
    obtain ⟨T, h1, h2, h3⟩ := hpol h
    exact ⟨T, h1, h2, (h3.mono fun _ _ _ => trivial).below hbA⟩
  have q1 : WA.cell? ⟨w.heap.size, 1, none⟩ = some (.slice u1 n1 x1) := by rw [cell_of_row _ _ _ _ _ _ hrlA]; rfl
  have cP1 := CP1.out WA HBA.out
  clear hb2 hpol hbA hb2A hrlA HRQ1 HRL1 HB1 CP0 CP1 q0
  subst hWA
  go_wp2_with fail
  refine cP1.mono ?_
  rintro e w3 ⟨⟨yo, yf, yn, yk⟩, ok1, rfl, hb3, ⟨tk, jn, tkc, hkv⟩, hpol⟩
  dsimp only at hkv
  subst hkv
  have HBA2 : Hid (Below (w2.alloc (pobj ⟨xo, xf, xn, .slice sk kn skc⟩)).heap.size (w2.alloc (pobj ⟨xo, xf, xn, .slice sk kn skc⟩)) w3) := hb3
  obtain ⟨WB, hWB⟩ : ∃ WB, WB = w3.alloc (pobj ⟨yo, yf, yn, .slice tk jn tkc⟩) := ⟨_, rfl⟩
  have hbB : Below w3.heap.size w3 WB := by rw [hWB]; exact (Below.refl _ _).alloc (Nat.le_refl _) _
  have hb3B := hb3.trans (hbB.mono hb3.size)
  have HBB : Hid (Below w.heap.size w WB) := HBA.out.trans (hb3B.mono HBA.out.size)
  have HRQB : Hid (WB.heap[w.heap.size + 1]? = some (pobj8 q)) := (hb3B.block _ (heap_lt HRQA.out)).trans HRQA.out
  have HRA2 : Hid (WB.heap[w2.heap.size]? = some (pobj ⟨xo, xf, xn, .slice sk kn skc⟩)) := (hb3B.block _ (heap_lt HRA.out)).trans HRA.out
  have HRB : Hid (WB.heap[w3.heap.size]? = some (pobj ⟨yo, yf, yn, .slice tk jn tkc⟩)) := by rw [hWB]; exact heap_alloc_new _ _
  have HPA2 : Hid (ok0 = true → ∃ T, sizeP T ≤ 60 ∧ okN T ∧ PolAt All WB T ⟨xo, xf, xn, .slice sk kn skc⟩) := fun h => by
    obtain ⟨T, h1, h2, h3⟩ := HPA.out h
    exact ⟨T, h1, h2, h3.below hb3B⟩
  have HPB : Hid (ok1 = true → ∃ T, sizeP T ≤ 60 ∧ okN T ∧ PolAt All WB T ⟨yo, yf, yn, .slice tk jn tkc⟩) := fun h => by
    obtain ⟨T, h1, h2, h3⟩ := hpol h
    exact ⟨T, h1, h2, (h3.mono fun _ _ _ => trivial).below hbB⟩
  clear hb3 hpol hbB hb3B HBA HRQA HRA HPA cP1 q1 HBA2
  generalize w2.heap.size = ga at *
  cases ok0 with
  | false =>
    subst hWB
    clear HPA2 HPB
    go_wp2
    go_ret
    exact ⟨rfl, HBB.out⟩
  | true =>
    cases ok1 with
    | false =>
      subst hWB
      clear HPA2 HPB
      go_wp2
      go_ret
      exact ⟨rfl, HBB.out⟩
    | true =>
      obtain ⟨a, ha1, ha2, ha3⟩ := HPA2.out rfl
      obtain ⟨b, hb1, hb2, hb3⟩ := HPB.out rfl
      have HPa := hide ha3
      have HPb := hide hb3
      have HNa := hide ha2
      have HNb := hide hb2
      clear HPA2 HPB ha2 ha3 hb2 hb3
      obtain ⟨a0, a1, a2, a3⟩ := row4 HRA2.out
      obtain ⟨b0, b1, b2, b3⟩ := row4 HRB.out
      have hl2 := lit2 7 HPa.out HPb.out
      have cF := fits_any [a, b] _ _ hl2 (by simp) (fun p hp => by
        simp only [List.mem_cons, List.not_mem_nil, or_false] at hp
        rcases hp with rfl | rfl <;> omega)
      have hbF : Below WB.heap.size WB (WB.alloc (.cells #[.int .i64 xo, .int .i64 xf, .int .u16 xn, .slice sk kn skc, .int .i64 yo, .int .i64 yf, .int .u16 yn, .slice tk jn tkc] 30)) := (Below.refl _ _).alloc (Nat.le_refl _) _
      have HBF := hide hbF
      have HRow : Hid (∀ W, Below WB.heap.size WB W → W.heap[ga]? = some (pobj ⟨xo, xf, xn, .slice sk kn skc⟩) ∧ W.heap[w3.heap.size]? = some (pobj ⟨yo, yf, yn, .slice tk jn tkc⟩)) := fun W hW => ⟨(hW.block _ (heap_lt HRA2.out)).trans HRA2.out, (hW.block _ (heap_lt HRB.out)).trans HRB.out⟩
      have HAll : Hid ([a, b].all fitB = (fitB a && fitB b)) := by show _ = _; simp
      have hsB : WB.heap.size = w3.heap.size + 1 := by rw [hWB]; simp
      rw [HAll.out, hsB] at cF
      clear hl2 hbF HAll hsB
      subst hWB
      cases hfit : (fitB a && fitB b) with
      | false =>
        rw [hfit] at cF
        clear hfit
        go_wp2_with fail
        refine cF.mono ?_
        rintro e w4 ⟨rfl, hb4⟩
        have HB4 : Hid (Below w.heap.size w w4) := HBB.out.trans ((HBF.out.trans (hb4.mono HBF.out.size)).mono HBB.out.size)
        clear hb4 cF
        go_wp2
        go_ret
        exact ⟨rfl, HB4.out⟩
      | true =>
        rw [hfit] at cF
        rw [Bool.and_eq_true] at hfit
        obtain ⟨hfa, hfb⟩ := hfit
        have HFa := hide hfa
        have HFb := hide hfb
        clear hfa hfb
        go_wp2_with fail
        refine cF.mono ?_
        rintro e w4 ⟨rfl, hb4⟩
        have hbb4 := HBF.out.trans (hb4.mono HBF.out.size)
        have HBB4 := hide hbb4
        obtain ⟨hra4, hrb4⟩ := HRow.out w4 hbb4
        have cPa := rpred_any (P := All) 1000 a ⟨xo, xf, xn, .slice sk kn skc⟩ w4 (by omega) (by omega) (HPa.out.below hbb4)
        clear a0 a1 a2 a3 b0 b1 b2 b3
        obtain ⟨a0, a1, a2, a3⟩ := row4 hra4
        clear hb4 hbb4 cF hra4 hrb4
        cases hpa : predP a with
        | false =>
          rw [hpa] at cPa
          clear hpa
          go_wp2_with fail
          refine cPa.mono ?_
          rintro e w5 ⟨rfl, hb5⟩
          have HB5 : Hid (Below w.heap.size w w5) := HBB.out.trans ((HBB4.out.trans (hb5.mono HBB4.out.size)).mono HBB.out.size)
          clear hb5 cPa
          go_wp2
          go_ret
          exact ⟨rfl, HB5.out⟩
        | true =>
          rw [hpa] at cPa
          have HQa := hide hpa
          clear hpa
          go_wp2_with fail
          refine cPa.mono ?_
          rintro e w5 ⟨rfl, hb5⟩
          have hbb5 := HBB4.out.trans (hb5.mono HBB4.out.size)
          have HBB5 := hide hbb5
          obtain ⟨hra5, hrb5⟩ := HRow.out w5 hbb5
          have cPb := rpred_any (P := All) 1000 b ⟨yo, yf, yn, .slice tk jn tkc⟩ w5 (by omega) (by omega) (HPb.out.below hbb5)
          clear a0 a1 a2 a3
          obtain ⟨b0, b1, b2, b3⟩ := row4 hrb5
          clear hb5 hbb5 cPa hra5 hrb5
          cases hpb : predP b with
          | false =>
            rw [hpb] at cPb
            clear hpb
            go_wp2_with fail
            refine cPb.mono ?_
            rintro e w6 ⟨rfl, hb6⟩
            have HB6 : Hid (Below w.heap.size w w6) := HBB.out.trans ((HBB5.out.trans (hb6.mono HBB5.out.size)).mono HBB.out.size)
            clear hb6 cPb
            go_wp2
            go_ret
            exact ⟨rfl, HB6.out⟩
          | true =>
            rw [hpb] at cPb
            have HQb := hide hpb
            clear hpb
            go_wp2_with fail
            refine cPb.mono ?_
            rintro e w6 ⟨rfl, hb6⟩
            have hbb6 := HBB5.out.trans (hb6.mono HBB5.out.size)
            have HBB6 := hide hbb6
            have HB6 : Hid (Below w.heap.size w w6) := HBB.out.trans (hbb6.mono HBB.out.size)
            obtain ⟨hra6, hrb6⟩ := HRow.out w6 hbb6
            clear b0 b1 b2 b3 hb6 cPb
            by_cases h6 : 6 < SL
            · have d6 : decide (6 < (SL : Int)) = true := by simp; omega
              go_wp2
              go_ret
              exact ⟨rfl, HB6.out⟩
            · have d6 : decide (6 < (SL : Int)) = false := by simp; omega
              have hPa : PrdOK 40 12 a := fit_prd HFa.out HQa.out HNa.out
              have hPb : PrdOK 40 12 b := fit_prd HFb.out HQb.out HNb.out
              have HNS : Hid (NS w st (.slice ss SL ssc) a b ⟨xo, xf, xn, .slice sk kn skc⟩ ⟨yo, yf, yn, .slice tk jn tkc⟩ ga w3.heap.size w6.heap.size (w6.heap.size + 1) (w.heap.size + 1) q ((w6.alloc (pobj ⟨1, 0, 0, .slice none 0 0⟩)).alloc (pobj ⟨0, 0, 0, .slice none 0 0⟩))) := by
                have hbz : Below w6.heap.size w6 ((w6.alloc (pobj ⟨1, 0, 0, .slice none 0 0⟩)).alloc (pobj ⟨0, 0, 0, .slice none 0 0⟩)) := ((Below.refl _ w6).alloc (Nat.le_refl _) _).alloc (by simp) _
                have hbt := hbb6.trans (hbz.mono hbb6.size)
                exact ⟨HB6.out.trans (hbz.mono HB6.out.size), (hbz.block _ (heap_lt hra6)).trans hra6, HPa.out.below hbt, (hbz.block _ (heap_lt hrb6)).trans hrb6, HPb.out.below hbt, (Below.heap_alloc _ _ _ (by simp)).trans (heap_alloc_new w6 _), heap_alloc2_new w6 _ _, (hbt.block _ (heap_lt HRQB.out)).trans HRQB.out, HST.out.below (HB6.out.trans (hbz.mono HB6.out.size))⟩
              have HPPa := hide hPa
              have HPPb := hide hPb
              have HM6 := hide h6
              clear hra6 hrb6 hbb6 hPa hPb HBB HRQB HRA2 HRB HPa HPb HBF HRow HBB4 HBB5 HBB6 HFa HFb HQa HQb HNa HNb HST HB6 ha1 hb1 h6
              obtain ⟨i0, i1, i2, i3⟩ := row4 HNS.out.ri
              obtain ⟨d0, d1, d2, d3⟩ := row4 HNS.out.rd
              go_wp2_with fail
              generalize w6.heap.size = gi at *
              clear i0 i1 i2 i3 d0 d1 d2 d3
              refine wp_region_any (by as_aux_lemma => kernel_rfl) (any_of_B (B := fun W => NS w st (.slice ss SL ssc) a b ⟨xo, xf, xn, .slice sk kn skc⟩ ⟨yo, yf, yn, .slice tk jn tkc⟩ ga w3.heap.size gi (gi + 1) (w.heap.size + 1) q W) _ _ _ _ ?_)
              replace HNS := hide (HNS.out.below (below_drewN (Below.refl _ ((w6.alloc (pobj ⟨1, 0, 0, .slice none 0 0⟩)).alloc (pobj ⟨0, 0, 0, .slice none 0 0⟩))) 1))
              show anyB Try.prog _ _ _ _ _ _ _ (((w6.alloc (pobj ⟨1, 0, 0, .slice none 0 0⟩)).alloc (pobj ⟨0, 0, 0, .slice none 0 0⟩)).drew)
              change Hid (NS w st (.slice ss SL ssc) a b ⟨xo, xf, xn, .slice sk kn skc⟩ ⟨yo, yf, yn, .slice tk jn tkc⟩ ga w3.heap.size gi (gi + 1) (w.heap.size + 1) q (((w6.alloc (pobj ⟨1, 0, 0, .slice none 0 0⟩)).alloc (pobj ⟨0, 0, 0, .slice none 0 0⟩)).drew)) at HNS
              generalize ((w6.alloc (pobj ⟨1, 0, 0, .slice none 0 0⟩)).alloc (pobj ⟨0, 0, 0, .slice none 0 0⟩)).drew = z0 at *
              refine anyB_take (i := 0) (Value.slice ss SL ssc) rfl (by as_aux_lemma => kernel_rfl) (by as_aux_lemma => kernel_rfl) (by as_aux_lemma => kernel_rfl) (fun c a w h => h) (.inl ⟨rfl, fun w' hw' => rfl⟩) ?_
              show anyB Try.prog _ _ _ _ _ _ { tmps := #[_, _, _, _, _, _, _, _, _, _, _, _, _, _, _, _, _, _, _, _, _, _, _, _, _, _, _, _, _, _, _, _, _, _, _, _, _, _, _, _, _, _, _, _, _, _, _, _, _, _, _, _, _, _, _, _, _, Value.slice ss SL ssc, _, _, _, _, _, _, _, _, _, _, _, _, _, _, _, _, _, _, _, _, _, _, _, _, _, _, _, _, _, _, _, _, _, _, _, _, _, _, _, _, _, _, _, _, _, _, _, _, _, _, _, _, _, _, _, _, _, _, _, _, _, _, _, _, _, _, _, _, _, _, _, _, _, _, _, _, _, _, _, _, _, _, _], defers := [] } _
              refine anyB_take (i := 1) (q.v) rfl (by as_aux_lemma => kernel_rfl) (by as_aux_lemma => kernel_rfl) (by as_aux_lemma => kernel_rfl) (fun c a w h => h) (.inl ⟨rfl, fun w' hw' => by obtain ⟨⟨c0, c1, c2, c3, c4, c5, c6, c7⟩, -, -⟩ := row8 hw'.rq; go_simp⟩) ?_
              show anyB Try.prog _ _ _ _ _ _ { tmps := #[_, _, _, _, _, _, _, _, _, _, _, _, _, _, _, _, _, _, _, _, _, _, _, _, _, _, _, _, _, _, _, _, _, _, _, _, _, _, _, _, _, _, _, _, _, _, _, _, _, _, _, _, _, _, _, _, _, _, q.v, _, _, _, _, _, _, _, _, _, _, _, _, _, _, _, _, _, _, _, _, _, _, _, _, _, _, _, _, _, _, _, _, _, _, _, _, _, _, _, _, _, _, _, _, _, _, _, _, _, _, _, _, _, _, _, _, _, _, _, _, _, _, _, _, _, _, _, _, _, _, _, _, _, _, _, _, _, _, _, _, _, _], defers := [] } _
              refine anyB_take (i := 2) (Value.agg #[Value.int IntKind.i64 xo, Value.int IntKind.i64 xf, Value.int IntKind.u16 xn, Value.slice sk kn skc]) rfl (by as_aux_lemma => kernel_rfl) (by as_aux_lemma => kernel_rfl) (by as_aux_lemma => kernel_rfl) (fun c a w h => h) (.inl ⟨rfl, fun w' hw' => by obtain ⟨a0, a1, a2, a3⟩ := row4 hw'.ra; go_simp⟩) ?_
              show anyB Try.prog _ _ _ _ _ _ { tmps := #[_, _, _, _, _, _, _, _, _, _, _, _, _, _, _, _, _, _, _, _, _, _, _, _, _, _, _, _, _, _, _, _, _, _, _, _, _, _, _, _, _, _, _, _, _, _, _, _, _, _, _, _, _, _, _, _, _, _, _, Value.agg #[Value.int IntKind.i64 xo, Value.int IntKind.i64 xf, Value.int IntKind.u16 xn, Value.slice sk kn skc], _, _, _, _, _, _, _, _, _, _, _, _, _, _, _, _, _, _, _, _, _, _, _, _, _, _, _, _, _, _, _, _, _, _, _, _, _, _, _, _, _, _, _, _, _, _, _, _, _, _, _, _, _, _, _, _, _, _, _, _, _, _, _, _, _, _, _, _, _, _, _, _, _, _, _, _, _, _, _, _, _], defers := [] } _
              refine anyB_take (i := 3) (Value.agg #[Value.int IntKind.i64 xo, Value.int IntKind.i64 xf, Value.int IntKind.u16 xn, Value.slice sk kn skc]) rfl (by as_aux_lemma => kernel_rfl) (by as_aux_lemma => kernel_rfl) (by as_aux_lemma => kernel_rfl) (fun c a w h => h) (.inl ⟨rfl, fun w' hw' => by obtain ⟨a0, a1, a2, a3⟩ := row4 hw'.ra; go_simp⟩) ?_
              show anyB Try.prog _ _ _ _ _ _ { tmps := #[_, _, _, _, _, _, _, _, _, _, _, _, _, _, _, _, _, _, _, _, _, _, _, _, _, _, _, _, _, _, _, _, _, _, _, _, _, _, _, _, _, _, _, _, _, _, _, _, _, _, _, _, _, _, _, _, _, _, _, _, Value.agg #[Value.int IntKind.i64 xo, Value.int IntKind.i64 xf, Value.int IntKind.u16 xn, Value.slice sk kn skc], _, _, _, _, _, _, _, _, _, _, _, _, _, _, _, _, _, _, _, _, _, _, _, _, _, _, _, _, _, _, _, _, _, _, _, _, _, _, _, _, _, _, _, _, _, _, _, _, _, _, _, _, _, _, _, _, _, _, _, _, _, _, _, _, _, _, _, _, _, _, _, _, _, _, _, _, _, _, _, _], defers := [] } _
              refine anyB_take (i := 7) (Value.agg #[Value.int IntKind.i64 1, Value.int IntKind.i64 0, Value.int IntKind.u16 0, Value.slice none 0 0]) rfl (by as_aux_lemma => kernel_rfl) (by as_aux_lemma => kernel_rfl) (by as_aux_lemma => kernel_rfl) (fun c a w h => h) (.inl ⟨rfl, fun w' hw' => by obtain ⟨a0, a1, a2, a3⟩ := row4 hw'.ri; go_simp⟩) ?_
              show anyB Try.prog _ _ _ _ _ _ { tmps := #[_, _, _, _, _, _, _, _, _, _, _, _, _, _, _, _, _, _, _, _, _, _, _, _, _, _, _, _, _, _, _, _, _, _, _, _, _, _, _, _, _, _, _, _, _, _, _, _, _, _, _, _, _, _, _, _, _, _, _, _, _, _, _, _, Value.agg #[Value.int IntKind.i64 1, Value.int IntKind.i64 0, Value.int IntKind.u16 0, Value.slice none 0 0], _, _, _, _, _, _, _, _, _, _, _, _, _, _, _, _, _, _, _, _, _, _, _, _, _, _, _, _, _, _, _, _, _, _, _, _, _, _, _, _, _, _, _, _, _, _, _, _, _, _, _, _, _, _, _, _, _, _, _, _, _, _, _, _, _, _, _, _, _, _, _, _, _, _, _, _], defers := [] } _
              refine anyB_one (i := 4) HNS.out (by as_aux_lemma => kernel_rfl) (op_call (f := 22) (args := #[nv ⟨xo, xf, xn, .slice sk kn skc⟩]) rfl rfl (by go_simp) (Calls.mono (notF a ⟨xo, xf, xn, .slice sk kn skc⟩ _ HNS.out.pa) ?_))
              rintro e z1 ⟨g1, rfl, hp, hbb⟩
              refine ⟨_, rfl, ?_⟩
              replace HNS := hide (HNS.out.below hbb)
              have HT61 := hide hp
              clear hp hbb
              show anyB Try.prog _ _ _ _ _ _ { tmps := #[_, _, _, _, _, _, _, _, _, _, _, _, _, _, _, _, _, _, _, _, _, _, _, _, _, _, _, _, _, _, _, _, _, _, _, _, _, _, _, _, _, _, _, _, _, _, _, _, _, _, _, _, _, _, _, _, _, _, _, _, _, nv ⟨4, 0, 0, .slice (some ⟨g1, 0, none⟩) 1 1⟩, _, _, _, _, _, _, _, _, _, _, _, _, _, _, _, _, _, _, _, _, _, _, _, _, _, _, _, _, _, _, _, _, _, _, _, _, _, _, _, _, _, _, _, _, _, _, _, _, _, _, _, _, _, _, _, _, _, _, _, _, _, _, _, _, _, _, _, _, _, _, _, _, _, _, _, _, _, _, _], defers := [] } _
              have hl := lit2 (w := z1) (a := a) (b := (notP a)) (x := ⟨xo, xf, xn, .slice sk kn skc⟩) (y := ⟨4, 0, 0, .slice (some ⟨g1, 0, none⟩) 1 1⟩) 7 HNS.out.pa HT61.out
              refine anyB_one (i := 5) HNS.out (by as_aux_lemma => kernel_rfl) (op_value (v := .slice (some ⟨(z1).heap.size, 0, none⟩) 2 2) (w' := (z1).alloc (.cells #[Value.int IntKind.i64 xo, Value.int IntKind.i64 xf, Value.int IntKind.u16 xn, Value.slice sk kn skc, Value.int IntKind.i64 4, Value.int IntKind.i64 0, Value.int IntKind.u16 0, Value.slice (some ⟨g1, 0, none⟩) 1 1] 30)) rfl rfl (by go_simp) ?_)
              show anyB Try.prog _ _ _ _ _ _ { tmps := #[_, _, _, _, _, _, _, _, _, _, _, _, _, _, _, _, _, _, _, _, _, _, _, _, _, _, _, _, _, _, _, _, _, _, _, _, _, _, _, _, _, _, _, _, _, _, _, _, _, _, _, _, _, _, _, _, _, _, _, _, _, _, Value.slice (some ⟨(z1).heap.size, 0, none⟩) 2 2, _, _, _, _, _, _, _, _, _, _, _, _, _, _, _, _, _, _, _, _, _, _, _, _, _, _, _, _, _, _, _, _, _, _, _, _, _, _, _, _, _, _, _, _, _, _, _, _, _, _, _, _, _, _, _, _, _, _, _, _, _, _, _, _, _, _, _, _, _, _, _, _, _, _, _, _, _, _], defers := [] } _
              refine anyB_one (i := 6) (HNS.out.below ((Below.refl _ _).alloc (Nat.le_refl _) _)) (by as_aux_lemma => kernel_rfl) (op_call (f := 19) (args := #[Value.slice (some ⟨(z1).heap.size, 0, none⟩) 2 2]) rfl rfl (by go_simp) (Calls.mono (sumF _ _ _ _) ?_))
              rintro e z2 ⟨rfl, hb⟩
              refine ⟨_, rfl, ?_⟩
              have hbb : Below (z1).heap.size (z1) z2 := ((Below.refl _ _).alloc (Nat.le_refl _) _).trans (hb.mono (by simp))
              have HT63 : Hid (PolAt All z2 (sumP [a, (notP a)]) ⟨7, 0, 0, Value.slice (some ⟨(z1).heap.size, 0, none⟩) 2 2⟩) := hl.below hb
              replace HT61 := hide (HT61.out.below hbb)
              replace HNS := hide (HNS.out.below hbb)
              clear hl hb hbb
              generalize (z1).heap.size = r2 at *
              show anyB Try.prog _ _ _ _ _ _ { tmps := #[_, _, _, _, _, _, _, _, _, _, _, _, _, _, _, _, _, _, _, _, _, _, _, _, _, _, _, _, _, _, _, _, _, _, _, _, _, _, _, _, _, _, _, _, _, _, _, _, _, _, _, _, _, _, _, _, _, _, _, _, _, _, _, nv ⟨7, 0, 0, Value.slice (some ⟨r2, 0, none⟩) 2 2⟩, _, _, _, _, _, _, _, _, _, _, _, _, _, _, _, _, _, _, _, _, _, _, _, _, _, _, _, _, _, _, _, _, _, _, _, _, _, _, _, _, _, _, _, _, _, _, _, _, _, _, _, _, _, _, _, _, _, _, _, _, _, _, _, _, _, _, _, _, _, _, _, _, _, _, _, _, _], defers := [] } _
              have hl := lit2 (w := z2) (a := (sumP [a, (notP a)])) (b := idP) (x := ⟨7, 0, 0, Value.slice (some ⟨r2, 0, none⟩) 2 2⟩) (y := ⟨1, 0, 0, .slice none 0 0⟩) 7 HT63.out (PolAt.leaf All _ 1 0 0)
              refine anyB_one (i := 8) HNS.out (by as_aux_lemma => kernel_rfl) (op_value (v := .slice (some ⟨(z2).heap.size, 0, none⟩) 2 2) (w' := (z2).alloc (.cells #[Value.int IntKind.i64 7, Value.int IntKind.i64 0, Value.int IntKind.u16 0, Value.slice (some ⟨r2, 0, none⟩) 2 2, Value.int IntKind.i64 1, Value.int IntKind.i64 0, Value.int IntKind.u16 0, Value.slice none 0 0] 30)) rfl rfl (by go_simp) ?_)
              show anyB Try.prog _ _ _ _ _ _ { tmps := #[_, _, _, _, _, _, _, _, _, _, _, _, _, _, _, _, _, _, _, _, _, _, _, _, _, _, _, _, _, _, _, _, _, _, _, _, _, _, _, _, _, _, _, _, _, _, _, _, _, _, _, _, _, _, _, _, _, _, _, _, _, _, _, _, _, Value.slice (some ⟨(z2).heap.size, 0, none⟩) 2 2, _, _, _, _, _, _, _, _, _, _, _, _, _, _, _, _, _, _, _, _, _, _, _, _, _, _, _, _, _, _, _, _, _, _, _, _, _, _, _, _, _, _, _, _, _, _, _, _, _, _, _, _, _, _, _, _, _, _, _, _, _, _, _, _, _, _, _, _, _, _, _, _, _, _, _], defers := [] } _
              have cL := alike_any st (.slice ss SL ssc) HM.out q HQ.out [(sumP [a, (notP a)]), idP] _ _ (HNS.out.st.below ((Below.refl _ _).alloc (Nat.le_refl _) _)) hl (by simp) (fun p hp => by
                simp only [List.mem_cons, List.not_mem_nil, or_false] at hp
                rcases hp with rfl | rfl
                · exact PrdOK.fit (PrdOK.sum (PrdOK.mono HPPa.out (n' := 41) (d' := 13) (by decide) (by decide)) (PrdOK.not HPPa.out)) st (by decide) (by decide)
                · exact PrdOK.fit prd_id st (by decide) (by decide)) (chain2 (nots1 q (HPPa.out.lets st)))
              refine anyB_one (i := 9) (HNS.out.below ((Below.refl _ _).alloc (Nat.le_refl _) _)) (by as_aux_lemma => kernel_rfl) (op_call (f := 18) (args := #[Value.slice ss SL ssc, q.v, Value.slice (some ⟨(z2).heap.size, 0, none⟩) 2 2]) rfl rfl (by go_simp) (Calls.mono cL ?_))
              rintro e z3 ⟨rfl, hb⟩
              refine ⟨_, rfl, ?_⟩
              have hbb : Below (z2).heap.size (z2) z3 := ((Below.refl _ _).alloc (Nat.le_refl _) _).trans (hb.mono (by simp))
              clear hl cL HT61 HT63
              replace HNS := hide (HNS.out.below hbb)
              clear hb hbb
              generalize (z2).heap.size = r3 at *
              show anyB Try.prog _ _ _ _ _ _ { tmps := #[_, _, _, _, _, _, _, _, _, _, _, _, _, _, _, _, _, _, _, _, _, _, _, _, _, _, _, _, _, _, _, _, _, _, _, _, _, _, _, _, _, _, _, _, _, _, _, _, _, _, _, _, _, _, _, _, _, _, _, _, _, _, _, _, _, _, Value.bool true, _, _, _, _, _, _, _, _, _, _, _, _, _, _, _, _, _, _, _, _, _, _, _, _, _, _, _, _, _, _, _, _, _, _, _, _, _, _, _, _, _, _, _, _, _, _, _, _, _, _, _, _, _, _, _, _, _, _, _, _, _, _, _, _, _, _, _, _, _, _, _, _, _, _], defers := [] } _
              refine anyB_take (i := 10) (Value.bool true) rfl (by as_aux_lemma => kernel_rfl) (by as_aux_lemma => kernel_rfl) (by as_aux_lemma => kernel_rfl) (fun c a w h => h) (.inl ⟨rfl, fun w' hw' => rfl⟩) ?_
              show anyB Try.prog _ _ _ _ _ _ { tmps := #[_, _, _, _, _, _, _, _, _, _, _, _, _, _, _, _, _, _, _, _, _, _, _, _, _, _, _, _, _, _, _, _, _, _, _, _, _, _, _, _, _, _, _, _, _, _, _, _, _, _, _, _, _, _, _, _, _, _, _, _, _, _, _, _, _, _, _, Value.bool true, _, _, _, _, _, _, _, _, _, _, _, _, _, _, _, _, _, _, _, _, _, _, _, _, _, _, _, _, _, _, _, _, _, _, _, _, _, _, _, _, _, _, _, _, _, _, _, _, _, _, _, _, _, _, _, _, _, _, _, _, _, _, _, _, _, _, _, _, _, _, _, _, _], defers := [] } _
              refine anyB_take (i := 11) (Value.slice ss SL ssc) rfl (by as_aux_lemma => kernel_rfl) (by as_aux_lemma => kernel_rfl) (by as_aux_lemma => kernel_rfl) (fun c a w h => h) (.inl ⟨rfl, fun w' hw' => rfl⟩) ?_
              show anyB Try.prog _ _ _ _ _ _ { tmps := #[_, _, _, _, _, _, _, _, _, _, _, _, _, _, _, _, _, _, _, _, _, _, _, _, _, _, _, _, _, _, _, _, _, _, _, _, _, _, _, _, _, _, _, _, _, _, _, _, _, _, _, _, _, _, _, _, _, _, _, _, _, _, _, _, _, _, _, _, Value.slice ss SL ssc, _, _, _, _, _, _, _, _, _, _, _, _, _, _, _, _, _, _, _, _, _, _, _, _, _, _, _, _, _, _, _, _, _, _, _, _, _, _, _, _, _, _, _, _, _, _, _, _, _, _, _, _, _, _, _, _, _, _, _, _, _, _, _, _, _, _, _, _, _, _, _, _], defers := [] } _
              refine anyB_take (i := 12) (q.v) rfl (by as_aux_lemma => kernel_rfl) (by as_aux_lemma => kernel_rfl) (by as_aux_lemma => kernel_rfl) (fun c a w h => h) (.inl ⟨rfl, fun w' hw' => by obtain ⟨⟨c0, c1, c2, c3, c4, c5, c6, c7⟩, -, -⟩ := row8 hw'.rq; go_simp⟩) ?_
              show anyB Try.prog _ _ _ _ _ _ { tmps := #[_, _, _, _, _, _, _, _, _, _, _, _, _, _, _, _, _, _, _, _, _, _, _, _, _, _, _, _, _, _, _, _, _, _, _, _, _, _, _, _, _, _, _, _, _, _, _, _, _, _, _, _, _, _, _, _, _, _, _, _, _, _, _, _, _, _, _, _, _, q.v, _, _, _, _, _, _, _, _, _, _, _, _, _, _, _, _, _, _, _, _, _, _, _, _, _, _, _, _, _, _, _, _, _, _, _, _, _, _, _, _, _, _, _, _, _, _, _, _, _, _, _, _, _, _, _, _, _, _, _, _, _, _, _, _, _, _, _, _, _, _, _], defers := [] } _
              refine anyB_take (i := 13) (Value.agg #[Value.int IntKind.i64 xo, Value.int IntKind.i64 xf, Value.int IntKind.u16 xn, Value.slice sk kn skc]) rfl (by as_aux_lemma => kernel_rfl) (by as_aux_lemma => kernel_rfl) (by as_aux_lemma => kernel_rfl) (fun c a w h => h) (.inl ⟨rfl, fun w' hw' => by obtain ⟨a0, a1, a2, a3⟩ := row4 hw'.ra; go_simp⟩) ?_
              show anyB Try.prog _ _ _ _ _ _ { tmps := #[_, _, _, _, _, _, _, _, _, _, _, _, _, _, _, _, _, _, _, _, _, _, _, _, _, _, _, _, _, _, _, _, _, _, _, _, _, _, _, _, _, _, _, _, _, _, _, _, _, _, _, _, _, _, _, _, _, _, _, _, _, _, _, _, _, _, _, _, _, _, Value.agg #[Value.int IntKind.i64 xo, Value.int IntKind.i64 xf, Value.int IntKind.u16 xn, Value.slice sk kn skc], _, _, _, _, _, _, _, _, _, _, _, _, _, _, _, _, _, _, _, _, _, _, _, _, _, _, _, _, _, _, _, _, _, _, _, _, _, _, _, _, _, _, _, _, _, _, _, _, _, _, _, _, _, _, _, _, _, _, _, _, _, _, _, _, _, _, _, _, _, _], defers := [] } _
              refine anyB_take (i := 14) (Value.agg #[Value.int IntKind.i64 xo, Value.int IntKind.i64 xf, Value.int IntKind.u16 xn, Value.slice sk kn skc]) rfl (by as_aux_lemma => kernel_rfl) (by as_aux_lemma => kernel_rfl) (by as_aux_lemma => kernel_rfl) (fun c a w h => h) (.inl ⟨rfl, fun w' hw' => by obtain ⟨a0, a1, a2, a3⟩ := row4 hw'.ra; go_simp⟩) ?_
              show anyB Try.prog _ _ _ _ _ _ { tmps := #[_, _, _, _, _, _, _, _, _, _, _, _, _, _, _, _, _, _, _, _, _, _, _, _, _, _, _, _, _, _, _, _, _, _, _, _, _, _, _, _, _, _, _, _, _, _, _, _, _, _, _, _, _, _, _, _, _, _, _, _, _, _, _, _, _, _, _, _, _, _, _, Value.agg #[Value.int IntKind.i64 xo, Value.int IntKind.i64 xf, Value.int IntKind.u16 xn, Value.slice sk kn skc], _, _, _, _, _, _, _, _, _, _, _, _, _, _, _, _, _, _, _, _, _, _, _, _, _, _, _, _, _, _, _, _, _, _, _, _, _, _, _, _, _, _, _, _, _, _, _, _, _, _, _, _, _, _, _, _, _, _, _, _, _, _, _, _, _, _, _, _, _], defers := [] } _
              refine anyB_take (i := 18) (Value.agg #[Value.int IntKind.i64 0, Value.int IntKind.i64 0, Value.int IntKind.u16 0, Value.slice none 0 0]) rfl (by as_aux_lemma => kernel_rfl) (by as_aux_lemma => kernel_rfl) (by as_aux_lemma => kernel_rfl) (fun c a w h => h) (.inl ⟨rfl, fun w' hw' => by obtain ⟨a0, a1, a2, a3⟩ := row4 hw'.rd; go_simp⟩) ?_
              show anyB Try.prog _ _ _ _ _ _ { tmps := #[_, _, _, _, _, _, _, _, _, _, _, _, _, _, _, _, _, _, _, _, _, _, _, _, _, _, _, _, _, _, _, _, _, _, _, _, _, _, _, _, _, _, _, _, _, _, _, _, _, _, _, _, _, _, _, _, _, _, _, _, _, _, _, _, _, _, _, _, _, _, _, _, _, _, _, Value.agg #[Value.int IntKind.i64 0, Value.int IntKind.i64 0, Value.int IntKind.u16 0, Value.slice none 0 0], _, _, _, _, _, _, _, _, _, _, _, _, _, _, _, _, _, _, _, _, _, _, _, _, _, _, _, _, _, _, _, _, _, _, _, _, _, _, _, _, _, _, _, _, _, _, _, _, _, _, _, _, _, _, _, _, _, _, _, _, _, _, _, _, _], defers := [] } _
              refine anyB_one (i := 15) HNS.out (by as_aux_lemma => kernel_rfl) (op_call (f := 22) (args := #[nv ⟨xo, xf, xn, .slice sk kn skc⟩]) rfl rfl (by go_simp) (Calls.mono (notF a ⟨xo, xf, xn, .slice sk kn skc⟩ _ HNS.out.pa) ?_))
              rintro e z4 ⟨g4, rfl, hp, hbb⟩
              refine ⟨_, rfl, ?_⟩
              replace HNS := hide (HNS.out.below hbb)
              have HT72 := hide hp
              clear hp hbb
              show anyB Try.prog _ _ _ _ _ _ { tmps := #[_, _, _, _, _, _, _, _, _, _, _, _, _, _, _, _, _, _, _, _, _, _, _, _, _, _, _, _, _, _, _, _, _, _, _, _, _, _, _, _, _, _, _, _, _, _, _, _, _, _, _, _, _, _, _, _, _, _, _, _, _, _, _, _, _, _, _, _, _, _, _, _, nv ⟨4, 0, 0, .slice (some ⟨g4, 0, none⟩) 1 1⟩, _, _, _, _, _, _, _, _, _, _, _, _, _, _, _, _, _, _, _, _, _, _, _, _, _, _, _, _, _, _, _, _, _, _, _, _, _, _, _, _, _, _, _, _, _, _, _, _, _, _, _, _, _, _, _, _, _, _, _, _, _, _, _, _, _, _, _, _], defers := [] } _
              have hl := lit2 (w := z4) (a := a) (b := (notP a)) (x := ⟨xo, xf, xn, .slice sk kn skc⟩) (y := ⟨4, 0, 0, .slice (some ⟨g4, 0, none⟩) 1 1⟩) 6 HNS.out.pa HT72.out
              refine anyB_one (i := 16) HNS.out (by as_aux_lemma => kernel_rfl) (op_value (v := .slice (some ⟨(z4).heap.size, 0, none⟩) 2 2) (w' := (z4).alloc (.cells #[Value.int IntKind.i64 xo, Value.int IntKind.i64 xf, Value.int IntKind.u16 xn, Value.slice sk kn skc, Value.int IntKind.i64 4, Value.int IntKind.i64 0, Value.int IntKind.u16 0, Value.slice (some ⟨g4, 0, none⟩) 1 1] 30)) rfl rfl (by go_simp) ?_)
              show anyB Try.prog _ _ _ _ _ _ { tmps := #[_, _, _, _, _, _, _, _, _, _, _, _, _, _, _, _, _, _, _, _, _, _, _, _, _, _, _, _, _, _, _, _, _, _, _, _, _, _, _, _, _, _, _, _, _, _, _, _, _, _, _, _, _, _, _, _, _, _, _, _, _, _, _, _, _, _, _, _, _, _, _, _, _, Value.slice (some ⟨(z4).heap.size, 0, none⟩) 2 2, _, _, _, _, _, _, _, _, _, _, _, _, _, _, _, _, _, _, _, _, _, _, _, _, _, _, _, _, _, _, _, _, _, _, _, _, _, _, _, _, _, _, _, _, _, _, _, _, _, _, _, _, _, _, _, _, _, _, _, _, _, _, _, _, _, _, _], defers := [] } _
              refine anyB_one (i := 17) (HNS.out.below ((Below.refl _ _).alloc (Nat.le_refl _) _)) (by as_aux_lemma => kernel_rfl) (op_call (f := 20) (args := #[Value.slice (some ⟨(z4).heap.size, 0, none⟩) 2 2]) rfl rfl (by go_simp) (Calls.mono (seqF _ _ _ _) ?_))
              rintro e z5 ⟨rfl, hb⟩
              refine ⟨_, rfl, ?_⟩
              have hbb : Below (z4).heap.size (z4) z5 := ((Below.refl _ _).alloc (Nat.le_refl _) _).trans (hb.mono (by simp))
              have HT74 : Hid (PolAt All z5 (seqP [a, (notP a)]) ⟨6, 0, 0, Value.slice (some ⟨(z4).heap.size, 0, none⟩) 2 2⟩) := hl.below hb
              replace HT72 := hide (HT72.out.below hbb)
              replace HNS := hide (HNS.out.below hbb)
              clear hl hb hbb
              generalize (z4).heap.size = r5 at *
              show anyB Try.prog _ _ _ _ _ _ { tmps := #[_, _, _, _, _, _, _, _, _, _, _, _, _, _, _, _, _, _, _, _, _, _, _, _, _, _, _, _, _, _, _, _, _, _, _, _, _, _, _, _, _, _, _, _, _, _, _, _, _, _, _, _, _, _, _, _, _, _, _, _, _, _, _, _, _, _, _, _, _, _, _, _, _, _, nv ⟨6, 0, 0, Value.slice (some ⟨r5, 0, none⟩) 2 2⟩, _, _, _, _, _, _, _, _, _, _, _, _, _, _, _, _, _, _, _, _, _, _, _, _, _, _, _, _, _, _, _, _, _, _, _, _, _, _, _, _, _, _, _, _, _, _, _, _, _, _, _, _, _, _, _, _, _, _, _, _, _, _, _, _, _, _], defers := [] } _
              have hl := lit2 (w := z5) (a := (seqP [a, (notP a)])) (b := nonePl) (x := ⟨6, 0, 0, Value.slice (some ⟨r5, 0, none⟩) 2 2⟩) (y := ⟨0, 0, 0, .slice none 0 0⟩) 7 HT74.out (PolAt.leaf All _ 0 0 0)
              refine anyB_one (i := 19) HNS.out (by as_aux_lemma => kernel_rfl) (op_value (v := .slice (some ⟨(z5).heap.size, 0, none⟩) 2 2) (w' := (z5).alloc (.cells #[Value.int IntKind.i64 6, Value.int IntKind.i64 0, Value.int IntKind.u16 0, Value.slice (some ⟨r5, 0, none⟩) 2 2, Value.int IntKind.i64 0, Value.int IntKind.i64 0, Value.int IntKind.u16 0, Value.slice none 0 0] 30)) rfl rfl (by go_simp) ?_)
              show anyB Try.prog _ _ _ _ _ _ { tmps := #[_, _, _, _, _, _, _, _, _, _, _, _, _, _, _, _, _, _, _, _, _, _, _, _, _, _, _, _, _, _, _, _, _, _, _, _, _, _, _, _, _, _, _, _, _, _, _, _, _, _, _, _, _, _, _, _, _, _, _, _, _, _, _, _, _, _, _, _, _, _, _, _, _, _, _, _, Value.slice (some ⟨(z5).heap.size, 0, none⟩) 2 2, _, _, _, _, _, _, _, _, _, _, _, _, _, _, _, _, _, _, _, _, _, _, _, _, _, _, _, _, _, _, _, _, _, _, _, _, _, _, _, _, _, _, _, _, _, _, _, _, _, _, _, _, _, _, _, _, _, _, _, _, _, _, _, _], defers := [] } _
              have cL := alike_any st (.slice ss SL ssc) HM.out q HQ.out [(seqP [a, (notP a)]), nonePl] _ _ (HNS.out.st.below ((Below.refl _ _).alloc (Nat.le_refl _) _)) hl (by simp) (fun p hp => by
                simp only [List.mem_cons, List.not_mem_nil, or_false] at hp
                rcases hp with rfl | rfl
                · exact PrdOK.fit (PrdOK.seq (PrdOK.mono HPPa.out (n' := 41) (d' := 13) (by decide) (by decide)) (PrdOK.not HPPa.out)) st (by decide) (by decide)
                · exact PrdOK.fit prd_drop st (by decide) (by decide)) (chain2 (nots2 q (HPPa.out.lets st)))
              refine anyB_one (i := 20) (HNS.out.below ((Below.refl _ _).alloc (Nat.le_refl _) _)) (by as_aux_lemma => kernel_rfl) (op_call (f := 18) (args := #[Value.slice ss SL ssc, q.v, Value.slice (some ⟨(z5).heap.size, 0, none⟩) 2 2]) rfl rfl (by go_simp) (Calls.mono cL ?_))
              rintro e z6 ⟨rfl, hb⟩
              refine ⟨_, rfl, ?_⟩
              have hbb : Below (z5).heap.size (z5) z6 := ((Below.refl _ _).alloc (Nat.le_refl _) _).trans (hb.mono (by simp))
              clear hl cL HT72 HT74
              replace HNS := hide (HNS.out.below hbb)
              clear hb hbb
              generalize (z5).heap.size = r6 at *
              show anyB Try.prog _ _ _ _ _ _ { tmps := #[_, _, _, _, _, _, _, _, _, _, _, _, _, _, _, _, _, _, _, _, _, _, _, _, _, _, _, _, _, _, _, _, _, _, _, _, _, _, _, _, _, _, _, _, _, _, _, _, _, _, _, _, _, _, _, _, _, _, _, _, _, _, _, _, _, _, _, _, _, _, _, _, _, _, _, _, _, Value.bool true, _, _, _, _, _, _, _, _, _, _, _, _, _, _, _, _, _, _, _, _, _, _, _, _, _, _, _, _, _, _, _, _, _, _, _, _, _, _, _, _, _, _, _, _, _, _, _, _, _, _, _, _, _, _, _, _, _, _, _, _, _, _, _], defers := [] } _
              refine anyB_take (i := 21) (Value.bool true) rfl (by as_aux_lemma => kernel_rfl) (by as_aux_lemma => kernel_rfl) (by as_aux_lemma => kernel_rfl) (fun c a w h => h) (.inl ⟨rfl, fun w' hw' => rfl⟩) ?_
              show anyB Try.prog _ _ _ _ _ _ { tmps := #[_, _, _, _, _, _, _, _, _, _, _, _, _, _, _, _, _, _, _, _, _, _, _, _, _, _, _, _, _, _, _, _, _, _, _, _, _, _, _, _, _, _, _, _, _, _, _, _, _, _, _, _, _, _, _, _, _, _, _, _, _, _, _, _, _, _, _, _, _, _, _, _, _, _, _, _, _, _, Value.bool true, _, _, _, _, _, _, _, _, _, _, _, _, _, _, _, _, _, _, _, _, _, _, _, _, _, _, _, _, _, _, _, _, _, _, _, _, _, _, _, _, _, _, _, _, _, _, _, _, _, _, _, _, _, _, _, _, _, _, _, _, _, _], defers := [] } _
              refine anyB_take (i := 22) (Value.bool true) rfl (by as_aux_lemma => kernel_rfl) (by as_aux_lemma => kernel_rfl) (by as_aux_lemma => kernel_rfl) (fun c a w h => h) (.inl ⟨rfl, fun w' hw' => rfl⟩) ?_
              show anyB Try.prog _ _ _ _ _ _ { tmps := #[_, _, _, _, _, _, _, _, _, _, _, _, _, _, _, _, _, _, _, _, _, _, _, _, _, _, _, _, _, _, _, _, _, _, _, _, _, _, _, _, _, _, _, _, _, _, _, _, _, _, _, _, _, _, _, _, _, _, _, _, _, _, _, _, _, _, _, _, _, _, _, _, _, _, _, _, _, _, _, Value.bool true, _, _, _, _, _, _, _, _, _, _, _, _, _, _, _, _, _, _, _, _, _, _, _, _, _, _, _, _, _, _, _, _, _, _, _, _, _, _, _, _, _, _, _, _, _, _, _, _, _, _, _, _, _, _, _, _, _, _, _, _, _], defers := [] } _
              refine anyB_take (i := 23) (Value.slice ss SL ssc) rfl (by as_aux_lemma => kernel_rfl) (by as_aux_lemma => kernel_rfl) (by as_aux_lemma => kernel_rfl) (fun c a w h => h) (.inl ⟨rfl, fun w' hw' => rfl⟩) ?_
              show anyB Try.prog _ _ _ _ _ _ { tmps := #[_, _, _, _, _, _, _, _, _, _, _, _, _, _, _, _, _, _, _, _, _, _, _, _, _, _, _, _, _, _, _, _, _, _, _, _, _, _, _, _, _, _, _, _, _, _, _, _, _, _, _, _, _, _, _, _, _, _, _, _, _, _, _, _, _, _, _, _, _, _, _, _, _, _, _, _, _, _, _, _, Value.slice ss SL ssc, _, _, _, _, _, _, _, _, _, _, _, _, _, _, _, _, _, _, _, _, _, _, _, _, _, _, _, _, _, _, _, _, _, _, _, _, _, _, _, _, _, _, _, _, _, _, _, _, _, _, _, _, _, _, _, _, _, _, _, _], defers := [] } _
              refine anyB_take (i := 24) (q.v) rfl (by as_aux_lemma => kernel_rfl) (by as_aux_lemma => kernel_rfl) (by as_aux_lemma => kernel_rfl) (fun c a w h => h) (.inl ⟨rfl, fun w' hw' => by obtain ⟨⟨c0, c1, c2, c3, c4, c5, c6, c7⟩, -, -⟩ := row8 hw'.rq; go_simp⟩) ?_
              show anyB Try.prog _ _ _ _ _ _ { tmps := #[_, _, _, _, _, _, _, _, _, _, _, _, _, _, _, _, _, _, _, _, _, _, _, _, _, _, _, _, _, _, _, _, _, _, _, _, _, _, _, _, _, _, _, _, _, _, _, _, _, _, _, _, _, _, _, _, _, _, _, _, _, _, _, _, _, _, _, _, _, _, _, _, _, _, _, _, _, _, _, _, _, q.v, _, _, _, _, _, _, _, _, _, _, _, _, _, _, _, _, _, _, _, _, _, _, _, _, _, _, _, _, _, _, _, _, _, _, _, _, _, _, _, _, _, _, _, _, _, _, _, _, _, _, _, _, _, _, _, _, _, _, _], defers := [] } _
              refine anyB_take (i := 25) (Value.agg #[Value.int IntKind.i64 xo, Value.int IntKind.i64 xf, Value.int IntKind.u16 xn, Value.slice sk kn skc]) rfl (by as_aux_lemma => kernel_rfl) (by as_aux_lemma => kernel_rfl) (by as_aux_lemma => kernel_rfl) (fun c a w h => h) (.inl ⟨rfl, fun w' hw' => by obtain ⟨a0, a1, a2, a3⟩ := row4 hw'.ra; go_simp⟩) ?_
              show anyB Try.prog _ _ _ _ _ _ { tmps := #[_, _, _, _, _, _, _, _, _, _, _, _, _, _, _, _, _, _, _, _, _, _, _, _, _, _, _, _, _, _, _, _, _, _, _, _, _, _, _, _, _, _, _, _, _, _, _, _, _, _, _, _, _, _, _, _, _, _, _, _, _, _, _, _, _, _, _, _, _, _, _, _, _, _, _, _, _, _, _, _, _, _, Value.agg #[Value.int IntKind.i64 xo, Value.int IntKind.i64 xf, Value.int IntKind.u16 xn, Value.slice sk kn skc], _, _, _, _, _, _, _, _, _, _, _, _, _, _, _, _, _, _, _, _, _, _, _, _, _, _, _, _, _, _, _, _, _, _, _, _, _, _, _, _, _, _, _, _, _, _, _, _, _, _, _, _, _, _, _, _, _, _], defers := [] } _
              refine anyB_take (i := 28) (Value.agg #[Value.int IntKind.i64 xo, Value.int IntKind.i64 xf, Value.int IntKind.u16 xn, Value.slice sk kn skc]) rfl (by as_aux_lemma => kernel_rfl) (by as_aux_lemma => kernel_rfl) (by as_aux_lemma => kernel_rfl) (fun c a w h => h) (.inl ⟨rfl, fun w' hw' => by obtain ⟨a0, a1, a2, a3⟩ := row4 hw'.ra; go_simp⟩) ?_
              show anyB Try.prog _ _ _ _ _ _ { tmps := #[_, _, _, _, _, _, _, _, _, _, _, _, _, _, _, _, _, _, _, _, _, _, _, _, _, _, _, _, _, _, _, _, _, _, _, _, _, _, _, _, _, _, _, _, _, _, _, _, _, _, _, _, _, _, _, _, _, _, _, _, _, _, _, _, _, _, _, _, _, _, _, _, _, _, _, _, _, _, _, _, _, _, _, _, _, Value.agg #[Value.int IntKind.i64 xo, Value.int IntKind.i64 xf, Value.int IntKind.u16 xn, Value.slice sk kn skc], _, _, _, _, _, _, _, _, _, _, _, _, _, _, _, _, _, _, _, _, _, _, _, _, _, _, _, _, _, _, _, _, _, _, _, _, _, _, _, _, _, _, _, _, _, _, _, _, _, _, _, _, _, _, _], defers := [] } _
              refine anyB_take (i := 29) (Value.agg #[Value.int IntKind.i64 xo, Value.int IntKind.i64 xf, Value.int IntKind.u16 xn, Value.slice sk kn skc]) rfl (by as_aux_lemma => kernel_rfl) (by as_aux_lemma => kernel_rfl) (by as_aux_lemma => kernel_rfl) (fun c a w h => h) (.inl ⟨rfl, fun w' hw' => by obtain ⟨a0, a1, a2, a3⟩ := row4 hw'.ra; go_simp⟩) ?_
              show anyB Try.prog _ _ _ _ _ _ { tmps := #[_, _, _, _, _, _, _, _, _, _, _, _, _, _, _, _, _, _, _, _, _, _, _, _, _, _, _, _, _, _, _, _, _, _, _, _, _, _, _, _, _, _, _, _, _, _, _, _, _, _, _, _, _, _, _, _, _, _, _, _, _, _, _, _, _, _, _, _, _, _, _, _, _, _, _, _, _, _, _, _, _, _, _, _, _, _, Value.agg #[Value.int IntKind.i64 xo, Value.int IntKind.i64 xf, Value.int IntKind.u16 xn, Value.slice sk kn skc], _, _, _, _, _, _, _, _, _, _, _, _, _, _, _, _, _, _, _, _, _, _, _, _, _, _, _, _, _, _, _, _, _, _, _, _, _, _, _, _, _, _, _, _, _, _, _, _, _, _, _, _, _, _], defers := [] } _
              refine anyB_take (i := 30) (Value.agg #[Value.int IntKind.i64 xo, Value.int IntKind.i64 xf, Value.int IntKind.u16 xn, Value.slice sk kn skc]) rfl (by as_aux_lemma => kernel_rfl) (by as_aux_lemma => kernel_rfl) (by as_aux_lemma => kernel_rfl) (fun c a w h => h) (.inl ⟨rfl, fun w' hw' => by obtain ⟨a0, a1, a2, a3⟩ := row4 hw'.ra; go_simp⟩) ?_
              show anyB Try.prog _ _ _ _ _ _ { tmps := #[_, _, _, _, _, _, _, _, _, _, _, _, _, _, _, _, _, _, _, _, _, _, _, _, _, _, _, _, _, _, _, _, _, _, _, _, _, _, _, _, _, _, _, _, _, _, _, _, _, _, _, _, _, _, _, _, _, _, _, _, _, _, _, _, _, _, _, _, _, _, _, _, _, _, _, _, _, _, _, _, _, _, _, _, _, _, _, Value.agg #[Value.int IntKind.i64 xo, Value.int IntKind.i64 xf, Value.int IntKind.u16 xn, Value.slice sk kn skc], _, _, _, _, _, _, _, _, _, _, _, _, _, _, _, _, _, _, _, _, _, _, _, _, _, _, _, _, _, _, _, _, _, _, _, _, _, _, _, _, _, _, _, _, _, _, _, _, _, _, _, _, _], defers := [] } _
              refine anyB_join (fuel' := 53) (listed' := #[true, true, true, true, true, true, true, true, true, true, true, true, true, true, true, true, true, true, true, true, true, true, true, true, true, true, true, true, true, true, true, true, false, false, false, false, false, false, false, false, false, false, false, false, false, false, false, false, false, false, false, false, false, false, false, false, false, false, false, false, false, false, false, false, false, false, false, false, false, false, false, false, false, false, false, false, false, false, false, false, false, false, false, false, false]) (α := Nat × Nat × Nat) (fun x => { tmps := #[Value.agg #[Value.slice u0 n0 x0, Value.slice u1 n1 x1], Value.slice ss SL ssc, q.v, Value.pointer (some { block := w.heap.size, off := 0 }), undef, Value.pointer (some { block := w.heap.size + 1, off := 0 }), Value.bool false, Value.pointer (some { block := ga, off := 0 }), Value.bool true, Value.pointer (some { block := w3.heap.size, off := 0 }), Value.bool true, Value.pointer (some { block := gi, off := 0 }), Value.pointer (some { block := gi + 1, off := 0 }), Value.bool true, Value.bool false, Value.tuple #[nv { op := xo, f := xf, n := xn, kv := Value.slice sk kn skc }, Value.bool true], Value.pointer (some { block := w.heap.size, off := 0 }), Value.slice u0 n0 x0, Value.tuple #[nv { op := xo, f := xf, n := xn, kv := Value.slice sk kn skc }, Value.bool true], nv { op := xo, f := xf, n := xn, kv := Value.slice sk kn skc }, Value.bool true, Value.tuple #[nv { op := yo, f := yf, n := yn, kv := Value.slice tk jn tkc }, Value.bool true], Value.pointer (some { block := w.heap.size, off := 1 }), Value.slice u1 n1 x1, Value.tuple #[nv { op := yo, f := yf, n := yn, kv := Value.slice tk jn tkc }, Value.bool true], nv { op := yo, f := yf, n := yn, kv := Value.slice tk jn tkc }, Value.bool true, Value.bool true, Value.bool false, Value.bool false, Value.bool true, Value.bool false, Value.bool false, Value.bool false, Value.agg #[Value.int IntKind.i64 xo, Value.int IntKind.i64 xf, Value.int IntKind.u16 xn, Value.slice sk kn skc], Value.agg #[Value.int IntKind.i64 yo, Value.int IntKind.i64 yf, Value.int IntKind.u16 yn, Value.slice tk jn tkc], Value.slice (some { block := w3.heap.size + 1, off := 0 }) 2 2, Value.bool true, Value.bool false, Value.bool false, Value.bool false, Value.agg #[Value.int IntKind.i64 xo, Value.int IntKind.i64 xf, Value.int IntKind.u16 xn, Value.slice sk kn skc], Value.bool true, Value.bool false, Value.bool false, Value.bool false, Value.agg #[Value.int IntKind.i64 yo, Value.int IntKind.i64 yf, Value.int IntKind.u16 yn, Value.slice tk jn tkc], Value.bool true, Value.bool false, Value.bool false, Value.bool false, Value.slice ss SL ssc, Value.int IntKind.i64 (SL : Int), Value.bool false, Value.bool false, Value.agg #[Value.int IntKind.i64 1, Value.int IntKind.i64 0, Value.int IntKind.u16 0, Value.slice none 0 0], Value.agg #[Value.int IntKind.i64 0, Value.int IntKind.i64 0, Value.int IntKind.u16 0, Value.slice none 0 0], Value.slice ss SL ssc, q.v, Value.agg #[Value.int IntKind.i64 xo, Value.int IntKind.i64 xf, Value.int IntKind.u16 xn, Value.slice sk kn skc], Value.agg #[Value.int IntKind.i64 xo, Value.int IntKind.i64 xf, Value.int IntKind.u16 xn, Value.slice sk kn skc], nv ⟨4, 0, 0, .slice (some ⟨g1, 0, none⟩) 1 1⟩, Value.slice (some ⟨r2, 0, none⟩) 2 2, nv ⟨7, 0, 0, Value.slice (some ⟨r2, 0, none⟩) 2 2⟩, Value.agg #[Value.int IntKind.i64 1, Value.int IntKind.i64 0, Value.int IntKind.u16 0, Value.slice none 0 0], Value.slice (some ⟨r3, 0, none⟩) 2 2, Value.bool true, Value.bool true, Value.slice ss SL ssc, q.v, Value.agg #[Value.int IntKind.i64 xo, Value.int IntKind.i64 xf, Value.int IntKind.u16 xn, Value.slice sk kn skc], Value.agg #[Value.int IntKind.i64 xo, Value.int IntKind.i64 xf, Value.int IntKind.u16 xn, Value.slice sk kn skc], nv ⟨4, 0, 0, .slice (some ⟨g4, 0, none⟩) 1 1⟩, Value.slice (some ⟨r5, 0, none⟩) 2 2, nv ⟨6, 0, 0, Value.slice (some ⟨r5, 0, none⟩) 2 2⟩, Value.agg #[Value.int IntKind.i64 0, Value.int IntKind.i64 0, Value.int IntKind.u16 0, Value.slice none 0 0], Value.slice (some ⟨r6, 0, none⟩) 2 2, Value.bool true, Value.bool true, Value.bool true, Value.slice ss SL ssc, q.v, Value.agg #[Value.int IntKind.i64 xo, Value.int IntKind.i64 xf, Value.int IntKind.u16 xn, Value.slice sk kn skc], nv ⟨4, 0, 0, .slice (some ⟨x.1, 0, none⟩) 1 1⟩, nv ⟨4, 0, 0, .slice (some ⟨x.2.1, 0, none⟩) 1 1⟩, Value.agg #[Value.int IntKind.i64 xo, Value.int IntKind.i64 xf, Value.int IntKind.u16 xn, Value.slice sk kn skc], Value.agg #[Value.int IntKind.i64 xo, Value.int IntKind.i64 xf, Value.int IntKind.u16 xn, Value.slice sk kn skc], Value.agg #[Value.int IntKind.i64 xo, Value.int IntKind.i64 xf, Value.int IntKind.u16 xn, Value.slice sk kn skc], Value.slice (some ⟨x.2.2, 0, none⟩) 2 2, undef, undef, undef, undef, undef, undef, undef, undef, undef, undef, undef, undef, undef, undef, undef, undef, undef, undef, undef, undef, undef, undef, undef, undef, undef, undef, undef, undef, undef, undef, undef, undef, undef, undef, undef, undef, undef, undef, undef, undef, undef, undef, undef, undef, undef, undef, undef, undef, undef, undef, undef, undef], defers := [] })
                (fun x z => Hid (NS w st (.slice ss SL ssc) a b ⟨xo, xf, xn, .slice sk kn skc⟩ ⟨yo, yf, yn, .slice tk jn tkc⟩ ga w3.heap.size gi (gi + 1) (w.heap.size + 1) q z) ∧ Hid (PolAt All z (notP a) ⟨4, 0, 0, .slice (some ⟨x.1, 0, none⟩) 1 1⟩) ∧ Hid (PolAt All z (notP (notP a)) ⟨4, 0, 0, .slice (some ⟨x.2.1, 0, none⟩) 1 1⟩) ∧ Hid (PolAt All z (.mk 6 0 0 [a, a]) ⟨6, 0, 0, .slice (some ⟨x.2.2, 0, none⟩) 2 2⟩)) ?_ ?_
              · intro rest
                refine anyB_fork (i := 26) (j := 31) HNS.out (by as_aux_lemma => kernel_rfl) ?_ ?_
                · skip
                  refine op_call (f := 22) (args := #[nv ⟨xo, xf, xn, .slice sk kn skc⟩]) rfl rfl (by go_simp) (Calls.mono (notF a ⟨xo, xf, xn, .slice sk kn skc⟩ _ HNS.out.pa) ?_)
                  rintro e z10 ⟨g10, rfl, hp, hbb⟩
                  refine ⟨_, rfl, ?_⟩
                  replace HNS := hide (HNS.out.below hbb)
                  have HT83 := hide hp
                  clear hp hbb
                  show anyB Try.prog _ _ _ _ _ _ { tmps := #[_, _, _, _, _, _, _, _, _, _, _, _, _, _, _, _, _, _, _, _, _, _, _, _, _, _, _, _, _, _, _, _, _, _, _, _, _, _, _, _, _, _, _, _, _, _, _, _, _, _, _, _, _, _, _, _, _, _, _, _, _, _, _, _, _, _, _, _, _, _, _, _, _, _, _, _, _, _, _, _, _, _, _, nv ⟨4, 0, 0, .slice (some ⟨g10, 0, none⟩) 1 1⟩, _, _, _, _, _, _, _, _, _, _, _, _, _, _, _, _, _, _, _, _, _, _, _, _, _, _, _, _, _, _, _, _, _, _, _, _, _, _, _, _, _, _, _, _, _, _, _, _, _, _, _, _, _, _, _, _, _], defers := [] } _
                  refine anyB_fork (i := 27) (j := 31) HNS.out (by as_aux_lemma => kernel_rfl) ?_ ?_
                  · skip
                    refine op_call (f := 22) (args := #[nv ⟨4, 0, 0, .slice (some ⟨g10, 0, none⟩) 1 1⟩]) rfl rfl (by go_simp) (Calls.mono (notF (notP a) ⟨4, 0, 0, .slice (some ⟨g10, 0, none⟩) 1 1⟩ _ HT83.out) ?_)
                    rintro e z11 ⟨g11, rfl, hp, hbb⟩
                    refine ⟨_, rfl, ?_⟩
                    replace HT83 := hide (HT83.out.below hbb)
                    replace HNS := hide (HNS.out.below hbb)
                    have HT84 := hide hp
                    clear hp hbb
                    show anyB Try.prog _ _ _ _ _ _ { tmps := #[_, _, _, _, _, _, _, _, _, _, _, _, _, _, _, _, _, _, _, _, _, _, _, _, _, _, _, _, _, _, _, _, _, _, _, _, _, _, _, _, _, _, _, _, _, _, _, _, _, _, _, _, _, _, _, _, _, _, _, _, _, _, _, _, _, _, _, _, _, _, _, _, _, _, _, _, _, _, _, _, _, _, _, _, nv ⟨4, 0, 0, .slice (some ⟨g11, 0, none⟩) 1 1⟩, _, _, _, _, _, _, _, _, _, _, _, _, _, _, _, _, _, _, _, _, _, _, _, _, _, _, _, _, _, _, _, _, _, _, _, _, _, _, _, _, _, _, _, _, _, _, _, _, _, _, _, _, _, _, _, _], defers := [] } _
                    refine anyB_one (i := 31) HNS.out (by as_aux_lemma => kernel_rfl) ?_
                    have hL : Hid (PolAt All ((z11).alloc (.cells #[Value.int IntKind.i64 xo, Value.int IntKind.i64 xf, Value.int IntKind.u16 xn, Value.slice sk kn skc, Value.int IntKind.i64 xo, Value.int IntKind.i64 xf, Value.int IntKind.u16 xn, Value.slice sk kn skc] 30)) (.mk 6 0 0 [a, a]) ⟨6, 0, 0, .slice (some ⟨(z11).heap.size, 0, none⟩) 2 2⟩) := lit2 (w := z11) (a := a) (b := a) (x := ⟨xo, xf, xn, .slice sk kn skc⟩) (y := ⟨xo, xf, xn, .slice sk kn skc⟩) 6 HNS.out.pa HNS.out.pa
                    refine op_value (v := .slice (some ⟨(z11).heap.size, 0, none⟩) 2 2) (w' := ((z11).alloc (.cells #[Value.int IntKind.i64 xo, Value.int IntKind.i64 xf, Value.int IntKind.u16 xn, Value.slice sk kn skc, Value.int IntKind.i64 xo, Value.int IntKind.i64 xf, Value.int IntKind.u16 xn, Value.slice sk kn skc] 30))) rfl rfl (by go_simp) ?_
                    show anyB Try.prog _ _ _ _ _ _ { tmps := #[_, _, _, _, _, _, _, _, _, _, _, _, _, _, _, _, _, _, _, _, _, _, _, _, _, _, _, _, _, _, _, _, _, _, _, _, _, _, _, _, _, _, _, _, _, _, _, _, _, _, _, _, _, _, _, _, _, _, _, _, _, _, _, _, _, _, _, _, _, _, _, _, _, _, _, _, _, _, _, _, _, _, _, _, _, _, _, _, Value.slice (some ⟨(z11).heap.size, 0, none⟩) 2 2, _, _, _, _, _, _, _, _, _, _, _, _, _, _, _, _, _, _, _, _, _, _, _, _, _, _, _, _, _, _, _, _, _, _, _, _, _, _, _, _, _, _, _, _, _, _, _, _, _, _, _, _], defers := [] } ((z11).alloc (.cells #[Value.int IntKind.i64 xo, Value.int IntKind.i64 xf, Value.int IntKind.u16 xn, Value.slice sk kn skc, Value.int IntKind.i64 xo, Value.int IntKind.i64 xf, Value.int IntKind.u16 xn, Value.slice sk kn skc] 30))
                    replace HT83 : Hid (PolAt All ((z11).alloc (.cells #[Value.int IntKind.i64 xo, Value.int IntKind.i64 xf, Value.int IntKind.u16 xn, Value.slice sk kn skc, Value.int IntKind.i64 xo, Value.int IntKind.i64 xf, Value.int IntKind.u16 xn, Value.slice sk kn skc] 30)) _ _) := hide (HT83.out.below ((Below.refl _ _).alloc (Nat.le_refl _) _))
                    replace HT84 : Hid (PolAt All ((z11).alloc (.cells #[Value.int IntKind.i64 xo, Value.int IntKind.i64 xf, Value.int IntKind.u16 xn, Value.slice sk kn skc, Value.int IntKind.i64 xo, Value.int IntKind.i64 xf, Value.int IntKind.u16 xn, Value.slice sk kn skc] 30)) _ _) := hide (HT84.out.below ((Below.refl _ _).alloc (Nat.le_refl _) _))
                    replace HNS := hide (HNS.out.below (W' := ((z11).alloc (.cells #[Value.int IntKind.i64 xo, Value.int IntKind.i64 xf, Value.int IntKind.u16 xn, Value.slice sk kn skc, Value.int IntKind.i64 xo, Value.int IntKind.i64 xf, Value.int IntKind.u16 xn, Value.slice sk kn skc] 30))) ((Below.refl _ _).alloc (Nat.le_refl _) _))
                    have HL88 := hL
                    clear hL
                    generalize (z11).heap.size = r12 at *
                    generalize ((z11).alloc (.cells #[Value.int IntKind.i64 xo, Value.int IntKind.i64 xf, Value.int IntKind.u16 xn, Value.slice sk kn skc, Value.int IntKind.i64 xo, Value.int IntKind.i64 xf, Value.int IntKind.u16 xn, Value.slice sk kn skc] 30)) = z12 at *
                    exact anyB_cast (by as_aux_lemma => kernel_rfl) (rest (g10, g11, r12) _ ⟨HNS, HT83, HT84, HL88⟩)
                  · skip
                    have hL : Hid (PolAt All ((z10).alloc (.cells #[Value.int IntKind.i64 xo, Value.int IntKind.i64 xf, Value.int IntKind.u16 xn, Value.slice sk kn skc, Value.int IntKind.i64 xo, Value.int IntKind.i64 xf, Value.int IntKind.u16 xn, Value.slice sk kn skc] 30)) (.mk 6 0 0 [a, a]) ⟨6, 0, 0, .slice (some ⟨(z10).heap.size, 0, none⟩) 2 2⟩) := lit2 (w := z10) (a := a) (b := a) (x := ⟨xo, xf, xn, .slice sk kn skc⟩) (y := ⟨xo, xf, xn, .slice sk kn skc⟩) 6 HNS.out.pa HNS.out.pa
                    refine op_value (v := .slice (some ⟨(z10).heap.size, 0, none⟩) 2 2) (w' := ((z10).alloc (.cells #[Value.int IntKind.i64 xo, Value.int IntKind.i64 xf, Value.int IntKind.u16 xn, Value.slice sk kn skc, Value.int IntKind.i64 xo, Value.int IntKind.i64 xf, Value.int IntKind.u16 xn, Value.slice sk kn skc] 30))) rfl rfl (by go_simp) ?_
                    show anyB Try.prog _ _ _ _ _ _ { tmps := #[_, _, _, _, _, _, _, _, _, _, _, _, _, _, _, _, _, _, _, _, _, _, _, _, _, _, _, _, _, _, _, _, _, _, _, _, _, _, _, _, _, _, _, _, _, _, _, _, _, _, _, _, _, _, _, _, _, _, _, _, _, _, _, _, _, _, _, _, _, _, _, _, _, _, _, _, _, _, _, _, _, _, _, _, _, _, _, _, Value.slice (some ⟨(z10).heap.size, 0, none⟩) 2 2, _, _, _, _, _, _, _, _, _, _, _, _, _, _, _, _, _, _, _, _, _, _, _, _, _, _, _, _, _, _, _, _, _, _, _, _, _, _, _, _, _, _, _, _, _, _, _, _, _, _, _, _], defers := [] } ((z10).alloc (.cells #[Value.int IntKind.i64 xo, Value.int IntKind.i64 xf, Value.int IntKind.u16 xn, Value.slice sk kn skc, Value.int IntKind.i64 xo, Value.int IntKind.i64 xf, Value.int IntKind.u16 xn, Value.slice sk kn skc] 30))
                    replace HT83 : Hid (PolAt All ((z10).alloc (.cells #[Value.int IntKind.i64 xo, Value.int IntKind.i64 xf, Value.int IntKind.u16 xn, Value.slice sk kn skc, Value.int IntKind.i64 xo, Value.int IntKind.i64 xf, Value.int IntKind.u16 xn, Value.slice sk kn skc] 30)) _ _) := hide (HT83.out.below ((Below.refl _ _).alloc (Nat.le_refl _) _))
                    replace HNS := hide (HNS.out.below (W' := ((z10).alloc (.cells #[Value.int IntKind.i64 xo, Value.int IntKind.i64 xf, Value.int IntKind.u16 xn, Value.slice sk kn skc, Value.int IntKind.i64 xo, Value.int IntKind.i64 xf, Value.int IntKind.u16 xn, Value.slice sk kn skc] 30))) ((Below.refl _ _).alloc (Nat.le_refl _) _))
                    have HL88 := hL
                    clear hL
                    generalize (z10).heap.size = r13 at *
                    generalize ((z10).alloc (.cells #[Value.int IntKind.i64 xo, Value.int IntKind.i64 xf, Value.int IntKind.u16 xn, Value.slice sk kn skc, Value.int IntKind.i64 xo, Value.int IntKind.i64 xf, Value.int IntKind.u16 xn, Value.slice sk kn skc] 30)) = z13 at *
                    refine anyB_one (i := 27) HNS.out (by as_aux_lemma => kernel_rfl) ?_
                    refine op_call (f := 22) (args := #[nv ⟨4, 0, 0, .slice (some ⟨g10, 0, none⟩) 1 1⟩]) rfl rfl (by go_simp) (Calls.mono (notF (notP a) ⟨4, 0, 0, .slice (some ⟨g10, 0, none⟩) 1 1⟩ _ HT83.out) ?_)
                    rintro e z14 ⟨g14, rfl, hp, hbb⟩
                    refine ⟨_, rfl, ?_⟩
                    replace HL88 := hide (HL88.out.below hbb)
                    replace HT83 := hide (HT83.out.below hbb)
                    replace HNS := hide (HNS.out.below hbb)
                    have HT84 := hide hp
                    clear hp hbb
                    show anyB Try.prog _ _ _ _ _ _ { tmps := #[_, _, _, _, _, _, _, _, _, _, _, _, _, _, _, _, _, _, _, _, _, _, _, _, _, _, _, _, _, _, _, _, _, _, _, _, _, _, _, _, _, _, _, _, _, _, _, _, _, _, _, _, _, _, _, _, _, _, _, _, _, _, _, _, _, _, _, _, _, _, _, _, _, _, _, _, _, _, _, _, _, _, _, _, nv ⟨4, 0, 0, .slice (some ⟨g14, 0, none⟩) 1 1⟩, _, _, _, _, _, _, _, _, _, _, _, _, _, _, _, _, _, _, _, _, _, _, _, _, _, _, _, _, _, _, _, _, _, _, _, _, _, _, _, _, _, _, _, _, _, _, _, _, _, _, _, _, _, _, _, _], defers := [] } _
                    exact anyB_cast (by as_aux_lemma => kernel_rfl) (rest (g10, g14, r13) _ ⟨HNS, HT83, HT84, HL88⟩)
                · skip
                  have hL : Hid (PolAt All ((z6).alloc (.cells #[Value.int IntKind.i64 xo, Value.int IntKind.i64 xf, Value.int IntKind.u16 xn, Value.slice sk kn skc, Value.int IntKind.i64 xo, Value.int IntKind.i64 xf, Value.int IntKind.u16 xn, Value.slice sk kn skc] 30)) (.mk 6 0 0 [a, a]) ⟨6, 0, 0, .slice (some ⟨(z6).heap.size, 0, none⟩) 2 2⟩) := lit2 (w := z6) (a := a) (b := a) (x := ⟨xo, xf, xn, .slice sk kn skc⟩) (y := ⟨xo, xf, xn, .slice sk kn skc⟩) 6 HNS.out.pa HNS.out.pa
                  refine op_value (v := .slice (some ⟨(z6).heap.size, 0, none⟩) 2 2) (w' := ((z6).alloc (.cells #[Value.int IntKind.i64 xo, Value.int IntKind.i64 xf, Value.int IntKind.u16 xn, Value.slice sk kn skc, Value.int IntKind.i64 xo, Value.int IntKind.i64 xf, Value.int IntKind.u16 xn, Value.slice sk kn skc] 30))) rfl rfl (by go_simp) ?_
                  show anyB Try.prog _ _ _ _ _ _ { tmps := #[_, _, _, _, _, _, _, _, _, _, _, _, _, _, _, _, _, _, _, _, _, _, _, _, _, _, _, _, _, _, _, _, _, _, _, _, _, _, _, _, _, _, _, _, _, _, _, _, _, _, _, _, _, _, _, _, _, _, _, _, _, _, _, _, _, _, _, _, _, _, _, _, _, _, _, _, _, _, _, _, _, _, _, _, _, _, _, _, Value.slice (some ⟨(z6).heap.size, 0, none⟩) 2 2, _, _, _, _, _, _, _, _, _, _, _, _, _, _, _, _, _, _, _, _, _, _, _, _, _, _, _, _, _, _, _, _, _, _, _, _, _, _, _, _, _, _, _, _, _, _, _, _, _, _, _, _], defers := [] } ((z6).alloc (.cells #[Value.int IntKind.i64 xo, Value.int IntKind.i64 xf, Value.int IntKind.u16 xn, Value.slice sk kn skc, Value.int IntKind.i64 xo, Value.int IntKind.i64 xf, Value.int IntKind.u16 xn, Value.slice sk kn skc] 30))
                  replace HNS := hide (HNS.out.below (W' := ((z6).alloc (.cells #[Value.int IntKind.i64 xo, Value.int IntKind.i64 xf, Value.int IntKind.u16 xn, Value.slice sk kn skc, Value.int IntKind.i64 xo, Value.int IntKind.i64 xf, Value.int IntKind.u16 xn, Value.slice sk kn skc] 30))) ((Below.refl _ _).alloc (Nat.le_refl _) _))
                  have HL88 := hL
                  clear hL
                  generalize (z6).heap.size = r15 at *
                  generalize ((z6).alloc (.cells #[Value.int IntKind.i64 xo, Value.int IntKind.i64 xf, Value.int IntKind.u16 xn, Value.slice sk kn skc, Value.int IntKind.i64 xo, Value.int IntKind.i64 xf, Value.int IntKind.u16 xn, Value.slice sk kn skc] 30)) = z15 at *
                  refine anyB_one (i := 26) HNS.out (by as_aux_lemma => kernel_rfl) ?_
                  refine op_call (f := 22) (args := #[nv ⟨xo, xf, xn, .slice sk kn skc⟩]) rfl rfl (by go_simp) (Calls.mono (notF a ⟨xo, xf, xn, .slice sk kn skc⟩ _ HNS.out.pa) ?_)
                  rintro e z16 ⟨g16, rfl, hp, hbb⟩
                  refine ⟨_, rfl, ?_⟩
                  replace HL88 := hide (HL88.out.below hbb)
                  replace HNS := hide (HNS.out.below hbb)
                  have HT83 := hide hp
                  clear hp hbb
                  show anyB Try.prog _ _ _ _ _ _ { tmps := #[_, _, _, _, _, _, _, _, _, _, _, _, _, _, _, _, _, _, _, _, _, _, _, _, _, _, _, _, _, _, _, _, _, _, _, _, _, _, _, _, _, _, _, _, _, _, _, _, _, _, _, _, _, _, _, _, _, _, _, _, _, _, _, _, _, _, _, _, _, _, _, _, _, _, _, _, _, _, _, _, _, _, _, nv ⟨4, 0, 0, .slice (some ⟨g16, 0, none⟩) 1 1⟩, _, _, _, _, _, _, _, _, _, _, _, _, _, _, _, _, _, _, _, _, _, _, _, _, _, _, _, _, _, _, _, _, _, _, _, _, _, _, _, _, _, _, _, _, _, _, _, _, _, _, _, _, _, _, _, _, _], defers := [] } _
                  refine anyB_one (i := 27) HNS.out (by as_aux_lemma => kernel_rfl) ?_
                  refine op_call (f := 22) (args := #[nv ⟨4, 0, 0, .slice (some ⟨g16, 0, none⟩) 1 1⟩]) rfl rfl (by go_simp) (Calls.mono (notF (notP a) ⟨4, 0, 0, .slice (some ⟨g16, 0, none⟩) 1 1⟩ _ HT83.out) ?_)
                  rintro e z17 ⟨g17, rfl, hp, hbb⟩
                  refine ⟨_, rfl, ?_⟩
                  replace HL88 := hide (HL88.out.below hbb)
                  replace HT83 := hide (HT83.out.below hbb)
                  replace HNS := hide (HNS.out.below hbb)
                  have HT84 := hide hp
                  clear hp hbb
                  show anyB Try.prog _ _ _ _ _ _ { tmps := #[_, _, _, _, _, _, _, _, _, _, _, _, _, _, _, _, _, _, _, _, _, _, _, _, _, _, _, _, _, _, _, _, _, _, _, _, _, _, _, _, _, _, _, _, _, _, _, _, _, _, _, _, _, _, _, _, _, _, _, _, _, _, _, _, _, _, _, _, _, _, _, _, _, _, _, _, _, _, _, _, _, _, _, _, nv ⟨4, 0, 0, .slice (some ⟨g17, 0, none⟩) 1 1⟩, _, _, _, _, _, _, _, _, _, _, _, _, _, _, _, _, _, _, _, _, _, _, _, _, _, _, _, _, _, _, _, _, _, _, _, _, _, _, _, _, _, _, _, _, _, _, _, _, _, _, _, _, _, _, _, _], defers := [] } _
                  exact anyB_cast (by as_aux_lemma => kernel_rfl) (rest (g16, g17, r15) _ ⟨HNS, HT83, HT84, HL88⟩)
              rintro ⟨p83, p84, p88⟩ z18 ⟨HNS, HT83, HT84, HL88⟩
              show anyB Try.prog _ _ _ _ _ _ { tmps := #[_, _, _, _, _, _, _, _, _, _, _, _, _, _, _, _, _, _, _, _, _, _, _, _, _, _, _, _, _, _, _, _, _, _, _, _, _, _, _, _, _, _, _, _, _, _, _, _, _, _, _, _, _, _, _, _, _, _, _, _, _, _, _, _, _, _, _, _, _, _, _, _, _, _, _, _, _, _, _, _, _, _, _, nv ⟨4, 0, 0, .slice (some ⟨p83, 0, none⟩) 1 1⟩, nv ⟨4, 0, 0, .slice (some ⟨p84, 0, none⟩) 1 1⟩, _, _, _, Value.slice (some ⟨p88, 0, none⟩) 2 2, _, _, _, _, _, _, _, _, _, _, _, _, _, _, _, _, _, _, _, _, _, _, _, _, _, _, _, _, _, _, _, _, _, _, _, _, _, _, _, _, _, _, _, _, _, _, _, _, _, _, _, _], defers := [] } _
              refine anyB_one (i := 32) HNS.out (by as_aux_lemma => kernel_rfl) ?_
              refine op_call (f := 20) (args := #[Value.slice (some ⟨p88, 0, none⟩) 2 2]) rfl rfl (by go_simp) (Calls.mono (seqF _ _ _ _) ?_)
              rintro e z19 ⟨rfl, hb⟩
              refine ⟨_, rfl, ?_⟩
              have HT89 : Hid (PolAt All z19 (seqP [a, a]) ⟨6, 0, 0, Value.slice (some ⟨p88, 0, none⟩) 2 2⟩) := HL88.out.below hb
              replace HL88 := hide (HL88.out.below hb)
              replace HT83 := hide (HT83.out.below hb)
              replace HT84 := hide (HT84.out.below hb)
              replace HNS := hide (HNS.out.below hb)
              clear hb
              show anyB Try.prog _ _ _ _ _ _ { tmps := #[_, _, _, _, _, _, _, _, _, _, _, _, _, _, _, _, _, _, _, _, _, _, _, _, _, _, _, _, _, _, _, _, _, _, _, _, _, _, _, _, _, _, _, _, _, _, _, _, _, _, _, _, _, _, _, _, _, _, _, _, _, _, _, _, _, _, _, _, _, _, _, _, _, _, _, _, _, _, _, _, _, _, _, _, _, _, _, _, _, nv ⟨6, 0, 0, Value.slice (some ⟨p88, 0, none⟩) 2 2⟩, _, _, _, _, _, _, _, _, _, _, _, _, _, _, _, _, _, _, _, _, _, _, _, _, _, _, _, _, _, _, _, _, _, _, _, _, _, _, _, _, _, _, _, _, _, _, _, _, _, _, _], defers := [] } _
              have hl := lit3 (w := z19) (a := (notP (notP a))) (b := a) (c := (seqP [a, a])) (x := ⟨4, 0, 0, .slice (some ⟨p84, 0, none⟩) 1 1⟩) (y := ⟨xo, xf, xn, .slice sk kn skc⟩) (z := ⟨6, 0, 0, Value.slice (some ⟨p88, 0, none⟩) 2 2⟩) 7 HT84.out HNS.out.pa HT89.out
              refine anyB_one (i := 33) HNS.out (by as_aux_lemma => kernel_rfl) (op_value (v := .slice (some ⟨(z19).heap.size, 0, none⟩) 3 3) (w' := (z19).alloc (.cells #[Value.int IntKind.i64 4, Value.int IntKind.i64 0, Value.int IntKind.u16 0, Value.slice (some ⟨p84, 0, none⟩) 1 1, Value.int IntKind.i64 xo, Value.int IntKind.i64 xf, Value.int IntKind.u16 xn, Value.slice sk kn skc, Value.int IntKind.i64 6, Value.int IntKind.i64 0, Value.int IntKind.u16 0, Value.slice (some ⟨p88, 0, none⟩) 2 2] 30)) rfl rfl (by go_simp) ?_)
              show anyB Try.prog _ _ _ _ _ _ { tmps := #[_, _, _, _, _, _, _, _, _, _, _, _, _, _, _, _, _, _, _, _, _, _, _, _, _, _, _, _, _, _, _, _, _, _, _, _, _, _, _, _, _, _, _, _, _, _, _, _, _, _, _, _, _, _, _, _, _, _, _, _, _, _, _, _, _, _, _, _, _, _, _, _, _, _, _, _, _, _, _, _, _, _, _, _, _, _, _, _, _, _, Value.slice (some ⟨(z19).heap.size, 0, none⟩) 3 3, _, _, _, _, _, _, _, _, _, _, _, _, _, _, _, _, _, _, _, _, _, _, _, _, _, _, _, _, _, _, _, _, _, _, _, _, _, _, _, _, _, _, _, _, _, _, _, _, _, _], defers := [] } _
              have cL := alike_any st (.slice ss SL ssc) HM.out q HQ.out [(notP (notP a)), a, (seqP [a, a])] _ _ (HNS.out.st.below ((Below.refl _ _).alloc (Nat.le_refl _) _)) hl (by simp) (fun p hp => by
                simp only [List.mem_cons, List.not_mem_nil, or_false] at hp
                rcases hp with rfl | rfl | rfl
                · exact PrdOK.fit (PrdOK.not (PrdOK.not HPPa.out)) st (by decide) (by decide)
                · exact PrdOK.fit HPPa.out st (by decide) (by decide)
                · exact PrdOK.fit (PrdOK.seq HPPa.out HPPa.out) st (by decide) (by decide)) (chain3 (nots3 q (HPPa.out.lets st)) (nots4 q (HPPa.out.lets st)))
              refine anyB_one (i := 34) (HNS.out.below ((Below.refl _ _).alloc (Nat.le_refl _) _)) (by as_aux_lemma => kernel_rfl) (op_call (f := 18) (args := #[Value.slice ss SL ssc, q.v, Value.slice (some ⟨(z19).heap.size, 0, none⟩) 3 3]) rfl rfl (by go_simp) (Calls.mono cL ?_))
              rintro e z20 ⟨rfl, hb⟩
              refine ⟨_, rfl, ?_⟩
              have hbb : Below (z19).heap.size (z19) z20 := ((Below.refl _ _).alloc (Nat.le_refl _) _).trans (hb.mono (by simp))
              clear hl cL HT83 HT84 HT89 HL88
              replace HNS := hide (HNS.out.below hbb)
              clear hb hbb
              generalize (z19).heap.size = r20 at *
              show anyB Try.prog _ _ _ _ _ _ { tmps := #[_, _, _, _, _, _, _, _, _, _, _, _, _, _, _, _, _, _, _, _, _, _, _, _, _, _, _, _, _, _, _, _, _, _, _, _, _, _, _, _, _, _, _, _, _, _, _, _, _, _, _, _, _, _, _, _, _, _, _, _, _, _, _, _, _, _, _, _, _, _, _, _, _, _, _, _, _, _, _, _, _, _, _, _, _, _, _, _, _, _, _, Value.bool true, _, _, _, _, _, _, _, _, _, _, _, _, _, _, _, _, _, _, _, _, _, _, _, _, _, _, _, _, _, _, _, _, _, _, _, _, _, _, _, _, _, _, _, _, _, _, _, _, _], defers := [] } _
              refine anyB_take (i := 35) (Value.bool true) rfl (by as_aux_lemma => kernel_rfl) (by as_aux_lemma => kernel_rfl) (by as_aux_lemma => kernel_rfl) (fun c a w h => h) (.inl ⟨rfl, fun w' hw' => rfl⟩) ?_
              show anyB Try.prog _ _ _ _ _ _ { tmps := #[_, _, _, _, _, _, _, _, _, _, _, _, _, _, _, _, _, _, _, _, _, _, _, _, _, _, _, _, _, _, _, _, _, _, _, _, _, _, _, _, _, _, _, _, _, _, _, _, _, _, _, _, _, _, _, _, _, _, _, _, _, _, _, _, _, _, _, _, _, _, _, _, _, _, _, _, _, _, _, _, _, _, _, _, _, _, _, _, _, _, _, _, Value.bool true, _, _, _, _, _, _, _, _, _, _, _, _, _, _, _, _, _, _, _, _, _, _, _, _, _, _, _, _, _, _, _, _, _, _, _, _, _, _, _, _, _, _, _, _, _, _, _, _], defers := [] } _
              refine anyB_take (i := 36) (Value.bool true) rfl (by as_aux_lemma => kernel_rfl) (by as_aux_lemma => kernel_rfl) (by as_aux_lemma => kernel_rfl) (fun c a w h => h) (.inl ⟨rfl, fun w' hw' => rfl⟩) ?_
              show anyB Try.prog _ _ _ _ _ _ { tmps := #[_, _, _, _, _, _, _, _, _, _, _, _, _, _, _, _, _, _, _, _, _, _, _, _, _, _, _, _, _, _, _, _, _, _, _, _, _, _, _, _, _, _, _, _, _, _, _, _, _, _, _, _, _, _, _, _, _, _, _, _, _, _, _, _, _, _, _, _, _, _, _, _, _, _, _, _, _, _, _, _, _, _, _, _, _, _, _, _, _, _, _, _, _, Value.bool true, _, _, _, _, _, _, _, _, _, _, _, _, _, _, _, _, _, _, _, _, _, _, _, _, _, _, _, _, _, _, _, _, _, _, _, _, _, _, _, _, _, _, _, _, _, _, _], defers := [] } _
              refine anyB_take (i := 37) (Value.slice ss SL ssc) rfl (by as_aux_lemma => kernel_rfl) (by as_aux_lemma => kernel_rfl) (by as_aux_lemma => kernel_rfl) (fun c a w h => h) (.inl ⟨rfl, fun w' hw' => rfl⟩) ?_
              show anyB Try.prog _ _ _ _ _ _ { tmps := #[_, _, _, _, _, _, _, _, _, _, _, _, _, _, _, _, _, _, _, _, _, _, _, _, _, _, _, _, _, _, _, _, _, _, _, _, _, _, _, _, _, _, _, _, _, _, _, _, _, _, _, _, _, _, _, _, _, _, _, _, _, _, _, _, _, _, _, _, _, _, _, _, _, _, _, _, _, _, _, _, _, _, _, _, _, _, _, _, _, _, _, _, _, _, Value.slice ss SL ssc, _, _, _, _, _, _, _, _, _, _, _, _, _, _, _, _, _, _, _, _, _, _, _, _, _, _, _, _, _, _, _, _, _, _, _, _, _, _, _, _, _, _, _, _, _, _], defers := [] } _
              refine anyB_take (i := 38) (q.v) rfl (by as_aux_lemma => kernel_rfl) (by as_aux_lemma => kernel_rfl) (by as_aux_lemma => kernel_rfl) (fun c a w h => h) (.inl ⟨rfl, fun w' hw' => by obtain ⟨⟨c0, c1, c2, c3, c4, c5, c6, c7⟩, -, -⟩ := row8 hw'.rq; go_simp⟩) ?_
              show anyB Try.prog _ _ _ _ _ _ { tmps := #[_, _, _, _, _, _, _, _, _, _, _, _, _, _, _, _, _, _, _, _, _, _, _, _, _, _, _, _, _, _, _, _, _, _, _, _, _, _, _, _, _, _, _, _, _, _, _, _, _, _, _, _, _, _, _, _, _, _, _, _, _, _, _, _, _, _, _, _, _, _, _, _, _, _, _, _, _, _, _, _, _, _, _, _, _, _, _, _, _, _, _, _, _, _, _, q.v, _, _, _, _, _, _, _, _, _, _, _, _, _, _, _, _, _, _, _, _, _, _, _, _, _, _, _, _, _, _, _, _, _, _, _, _, _, _, _, _, _, _, _, _, _], defers := [] } _
              refine anyB_take (i := 39) (Value.agg #[Value.int IntKind.i64 xo, Value.int IntKind.i64 xf, Value.int IntKind.u16 xn, Value.slice sk kn skc]) rfl (by as_aux_lemma => kernel_rfl) (by as_aux_lemma => kernel_rfl) (by as_aux_lemma => kernel_rfl) (fun c a w h => h) (.inl ⟨rfl, fun w' hw' => by obtain ⟨a0, a1, a2, a3⟩ := row4 hw'.ra; go_simp⟩) ?_
              show anyB Try.prog _ _ _ _ _ _ { tmps := #[_, _, _, _, _, _, _, _, _, _, _, _, _, _, _, _, _, _, _, _, _, _, _, _, _, _, _, _, _, _, _, _, _, _, _, _, _, _, _, _, _, _, _, _, _, _, _, _, _, _, _, _, _, _, _, _, _, _, _, _, _, _, _, _, _, _, _, _, _, _, _, _, _, _, _, _, _, _, _, _, _, _, _, _, _, _, _, _, _, _, _, _, _, _, _, _, Value.agg #[Value.int IntKind.i64 xo, Value.int IntKind.i64 xf, Value.int IntKind.u16 xn, Value.slice sk kn skc], _, _, _, _, _, _, _, _, _, _, _, _, _, _, _, _, _, _, _, _, _, _, _, _, _, _, _, _, _, _, _, _, _, _, _, _, _, _, _, _, _, _, _, _], defers := [] } _
              refine anyB_take (i := 40) (Value.agg #[Value.int IntKind.i64 yo, Value.int IntKind.i64 yf, Value.int IntKind.u16 yn, Value.slice tk jn tkc]) rfl (by as_aux_lemma => kernel_rfl) (by as_aux_lemma => kernel_rfl) (by as_aux_lemma => kernel_rfl) (fun c a w h => h) (.inl ⟨rfl, fun w' hw' => by obtain ⟨a0, a1, a2, a3⟩ := row4 hw'.rb; go_simp⟩) ?_
              show anyB Try.prog _ _ _ _ _ _ { tmps := #[_, _, _, _, _, _, _, _, _, _, _, _, _, _, _, _, _, _, _, _, _, _, _, _, _, _, _, _, _, _, _, _, _, _, _, _, _, _, _, _, _, _, _, _, _, _, _, _, _, _, _, _, _, _, _, _, _, _, _, _, _, _, _, _, _, _, _, _, _, _, _, _, _, _, _, _, _, _, _, _, _, _, _, _, _, _, _, _, _, _, _, _, _, _, _, _, _, Value.agg #[Value.int IntKind.i64 yo, Value.int IntKind.i64 yf, Value.int IntKind.u16 yn, Value.slice tk jn tkc], _, _, _, _, _, _, _, _, _, _, _, _, _, _, _, _, _, _, _, _, _, _, _, _, _, _, _, _, _, _, _, _, _, _, _, _, _, _, _, _, _, _, _], defers := [] } _
              refine anyB_take (i := 44) (Value.agg #[Value.int IntKind.i64 xo, Value.int IntKind.i64 xf, Value.int IntKind.u16 xn, Value.slice sk kn skc]) rfl (by as_aux_lemma => kernel_rfl) (by as_aux_lemma => kernel_rfl) (by as_aux_lemma => kernel_rfl) (fun c a w h => h) (.inl ⟨rfl, fun w' hw' => by obtain ⟨a0, a1, a2, a3⟩ := row4 hw'.ra; go_simp⟩) ?_
              show anyB Try.prog _ _ _ _ _ _ { tmps := #[_, _, _, _, _, _, _, _, _, _, _, _, _, _, _, _, _, _, _, _, _, _, _, _, _, _, _, _, _, _, _, _, _, _, _, _, _, _, _, _, _, _, _, _, _, _, _, _, _, _, _, _, _, _, _, _, _, _, _, _, _, _, _, _, _, _, _, _, _, _, _, _, _, _, _, _, _, _, _, _, _, _, _, _, _, _, _, _, _, _, _, _, _, _, _, _, _, _, _, _, _, Value.agg #[Value.int IntKind.i64 xo, Value.int IntKind.i64 xf, Value.int IntKind.u16 xn, Value.slice sk kn skc], _, _, _, _, _, _, _, _, _, _, _, _, _, _, _, _, _, _, _, _, _, _, _, _, _, _, _, _, _, _, _, _, _, _, _, _, _, _, _], defers := [] } _
              refine anyB_take (i := 46) (Value.agg #[Value.int IntKind.i64 yo, Value.int IntKind.i64 yf, Value.int IntKind.u16 yn, Value.slice tk jn tkc]) rfl (by as_aux_lemma => kernel_rfl) (by as_aux_lemma => kernel_rfl) (by as_aux_lemma => kernel_rfl) (fun c a w h => h) (.inl ⟨rfl, fun w' hw' => by obtain ⟨a0, a1, a2, a3⟩ := row4 hw'.rb; go_simp⟩) ?_
              show anyB Try.prog _ _ _ _ _ _ { tmps := #[_, _, _, _, _, _, _, _, _, _, _, _, _, _, _, _, _, _, _, _, _, _, _, _, _, _, _, _, _, _, _, _, _, _, _, _, _, _, _, _, _, _, _, _, _, _, _, _, _, _, _, _, _, _, _, _, _, _, _, _, _, _, _, _, _, _, _, _, _, _, _, _, _, _, _, _, _, _, _, _, _, _, _, _, _, _, _, _, _, _, _, _, _, _, _, _, _, _, _, _, _, _, _, Value.agg #[Value.int IntKind.i64 yo, Value.int IntKind.i64 yf, Value.int IntKind.u16 yn, Value.slice tk jn tkc], _, _, _, _, _, _, _, _, _, _, _, _, _, _, _, _, _, _, _, _, _, _, _, _, _, _, _, _, _, _, _, _, _, _, _, _, _], defers := [] } _
              have hl := lit2 (w := z20) (a := a) (b := b) (x := ⟨xo, xf, xn, .slice sk kn skc⟩) (y := ⟨yo, yf, yn, .slice tk jn tkc⟩) 7 HNS.out.pa HNS.out.pb
              refine anyB_one (i := 41) HNS.out (by as_aux_lemma => kernel_rfl) (op_value (v := .slice (some ⟨(z20).heap.size, 0, none⟩) 2 2) (w' := (z20).alloc (.cells #[Value.int IntKind.i64 xo, Value.int IntKind.i64 xf, Value.int IntKind.u16 xn, Value.slice sk kn skc, Value.int IntKind.i64 yo, Value.int IntKind.i64 yf, Value.int IntKind.u16 yn, Value.slice tk jn tkc] 30)) rfl rfl (by go_simp) ?_)
              show anyB Try.prog _ _ _ _ _ _ { tmps := #[_, _, _, _, _, _, _, _, _, _, _, _, _, _, _, _, _, _, _, _, _, _, _, _, _, _, _, _, _, _, _, _, _, _, _, _, _, _, _, _, _, _, _, _, _, _, _, _, _, _, _, _, _, _, _, _, _, _, _, _, _, _, _, _, _, _, _, _, _, _, _, _, _, _, _, _, _, _, _, _, _, _, _, _, _, _, _, _, _, _, _, _, _, _, _, _, _, _, Value.slice (some ⟨(z20).heap.size, 0, none⟩) 2 2, _, _, _, _, _, _, _, _, _, _, _, _, _, _, _, _, _, _, _, _, _, _, _, _, _, _, _, _, _, _, _, _, _, _, _, _, _, _, _, _, _, _], defers := [] } _
              refine anyB_one (i := 42) (HNS.out.below ((Below.refl _ _).alloc (Nat.le_refl _) _)) (by as_aux_lemma => kernel_rfl) (op_call (f := 19) (args := #[Value.slice (some ⟨(z20).heap.size, 0, none⟩) 2 2]) rfl rfl (by go_simp) (Calls.mono (sumF _ _ _ _) ?_))
              rintro e z21 ⟨rfl, hb⟩
              refine ⟨_, rfl, ?_⟩
              have hbb : Below (z20).heap.size (z20) z21 := ((Below.refl _ _).alloc (Nat.le_refl _) _).trans (hb.mono (by simp))
              have HT99 : Hid (PolAt All z21 (sumP [a, b]) ⟨7, 0, 0, Value.slice (some ⟨(z20).heap.size, 0, none⟩) 2 2⟩) := hl.below hb
              replace HNS := hide (HNS.out.below hbb)
              clear hl hb hbb
              generalize (z20).heap.size = r21 at *
              show anyB Try.prog _ _ _ _ _ _ { tmps := #[_, _, _, _, _, _, _, _, _, _, _, _, _, _, _, _, _, _, _, _, _, _, _, _, _, _, _, _, _, _, _, _, _, _, _, _, _, _, _, _, _, _, _, _, _, _, _, _, _, _, _, _, _, _, _, _, _, _, _, _, _, _, _, _, _, _, _, _, _, _, _, _, _, _, _, _, _, _, _, _, _, _, _, _, _, _, _, _, _, _, _, _, _, _, _, _, _, _, _, nv ⟨7, 0, 0, Value.slice (some ⟨r21, 0, none⟩) 2 2⟩, _, _, _, _, _, _, _, _, _, _, _, _, _, _, _, _, _, _, _, _, _, _, _, _, _, _, _, _, _, _, _, _, _, _, _, _, _, _, _, _, _], defers := [] } _
              refine anyB_one (i := 43) HNS.out (by as_aux_lemma => kernel_rfl) (op_call (f := 22) (args := #[nv ⟨7, 0, 0, Value.slice (some ⟨r21, 0, none⟩) 2 2⟩]) rfl rfl (by go_simp) (Calls.mono (notF (sumP [a, b]) ⟨7, 0, 0, Value.slice (some ⟨r21, 0, none⟩) 2 2⟩ _ HT99.out) ?_))
              rintro e z22 ⟨g22, rfl, hp, hbb⟩
              refine ⟨_, rfl, ?_⟩
              replace HT99 := hide (HT99.out.below hbb)
              replace HNS := hide (HNS.out.below hbb)
              have HT100 := hide hp
              clear hp hbb
              show anyB Try.prog _ _ _ _ _ _ { tmps := #[_, _, _, _, _, _, _, _, _, _, _, _, _, _, _, _, _, _, _, _, _, _, _, _, _, _, _, _, _, _, _, _, _, _, _, _, _, _, _, _, _, _, _, _, _, _, _, _, _, _, _, _, _, _, _, _, _, _, _, _, _, _, _, _, _, _, _, _, _, _, _, _, _, _, _, _, _, _, _, _, _, _, _, _, _, _, _, _, _, _, _, _, _, _, _, _, _, _, _, _, nv ⟨4, 0, 0, .slice (some ⟨g22, 0, none⟩) 1 1⟩, _, _, _, _, _, _, _, _, _, _, _, _, _, _, _, _, _, _, _, _, _, _, _, _, _, _, _, _, _, _, _, _, _, _, _, _, _, _, _, _], defers := [] } _
              refine anyB_one (i := 45) HNS.out (by as_aux_lemma => kernel_rfl) (op_call (f := 22) (args := #[nv ⟨xo, xf, xn, .slice sk kn skc⟩]) rfl rfl (by go_simp) (Calls.mono (notF a ⟨xo, xf, xn, .slice sk kn skc⟩ _ HNS.out.pa) ?_))
              rintro e z23 ⟨g23, rfl, hp, hbb⟩
              refine ⟨_, rfl, ?_⟩
              replace HT99 := hide (HT99.out.below hbb)
              replace HT100 := hide (HT100.out.below hbb)
              replace HNS := hide (HNS.out.below hbb)
              have HT102 := hide hp
              clear hp hbb
              show anyB Try.prog _ _ _ _ _ _ { tmps := #[_, _, _, _, _, _, _, _, _, _, _, _, _, _, _, _, _, _, _, _, _, _, _, _, _, _, _, _, _, _, _, _, _, _, _, _, _, _, _, _, _, _, _, _, _, _, _, _, _, _, _, _, _, _, _, _, _, _, _, _, _, _, _, _, _, _, _, _, _, _, _, _, _, _, _, _, _, _, _, _, _, _, _, _, _, _, _, _, _, _, _, _, _, _, _, _, _, _, _, _, _, _, nv ⟨4, 0, 0, .slice (some ⟨g23, 0, none⟩) 1 1⟩, _, _, _, _, _, _, _, _, _, _, _, _, _, _, _, _, _, _, _, _, _, _, _, _, _, _, _, _, _, _, _, _, _, _, _, _, _, _], defers := [] } _
              refine anyB_one (i := 47) HNS.out (by as_aux_lemma => kernel_rfl) (op_call (f := 22) (args := #[nv ⟨yo, yf, yn, .slice tk jn tkc⟩]) rfl rfl (by go_simp) (Calls.mono (notF b ⟨yo, yf, yn, .slice tk jn tkc⟩ _ HNS.out.pb) ?_))
              rintro e z24 ⟨g24, rfl, hp, hbb⟩
              refine ⟨_, rfl, ?_⟩
              replace HT99 := hide (HT99.out.below hbb)
              replace HT100 := hide (HT100.out.below hbb)
              replace HT102 := hide (HT102.out.below hbb)
              replace HNS := hide (HNS.out.below hbb)
              have HT104 := hide hp
              clear hp hbb
              show anyB Try.prog _ _ _ _ _ _ { tmps := #[_, _, _, _, _, _, _, _, _, _, _, _, _, _, _, _, _, _, _, _, _, _, _, _, _, _, _, _, _, _, _, _, _, _, _, _, _, _, _, _, _, _, _, _, _, _, _, _, _, _, _, _, _, _, _, _, _, _, _, _, _, _, _, _, _, _, _, _, _, _, _, _, _, _, _, _, _, _, _, _, _, _, _, _, _, _, _, _, _, _, _, _, _, _, _, _, _, _, _, _, _, _, _, _, nv ⟨4, 0, 0, .slice (some ⟨g24, 0, none⟩) 1 1⟩, _, _, _, _, _, _, _, _, _, _, _, _, _, _, _, _, _, _, _, _, _, _, _, _, _, _, _, _, _, _, _, _, _, _, _, _], defers := [] } _
              have hl := lit2 (w := z24) (a := (notP a)) (b := (notP b)) (x := ⟨4, 0, 0, .slice (some ⟨g23, 0, none⟩) 1 1⟩) (y := ⟨4, 0, 0, .slice (some ⟨g24, 0, none⟩) 1 1⟩) 6 HT102.out HT104.out
              refine anyB_one (i := 48) HNS.out (by as_aux_lemma => kernel_rfl) (op_value (v := .slice (some ⟨(z24).heap.size, 0, none⟩) 2 2) (w' := (z24).alloc (.cells #[Value.int IntKind.i64 4, Value.int IntKind.i64 0, Value.int IntKind.u16 0, Value.slice (some ⟨g23, 0, none⟩) 1 1, Value.int IntKind.i64 4, Value.int IntKind.i64 0, Value.int IntKind.u16 0, Value.slice (some ⟨g24, 0, none⟩) 1 1] 30)) rfl rfl (by go_simp) ?_)
              show anyB Try.prog _ _ _ _ _ _ { tmps := #[_, _, _, _, _, _, _, _, _, _, _, _, _, _, _, _, _, _, _, _, _, _, _, _, _, _, _, _, _, _, _, _, _, _, _, _, _, _, _, _, _, _, _, _, _, _, _, _, _, _, _, _, _, _, _, _, _, _, _, _, _, _, _, _, _, _, _, _, _, _, _, _, _, _, _, _, _, _, _, _, _, _, _, _, _, _, _, _, _, _, _, _, _, _, _, _, _, _, _, _, _, _, _, _, _, Value.slice (some ⟨(z24).heap.size, 0, none⟩) 2 2, _, _, _, _, _, _, _, _, _, _, _, _, _, _, _, _, _, _, _, _, _, _, _, _, _, _, _, _, _, _, _, _, _, _, _], defers := [] } _
              refine anyB_one (i := 49) (HNS.out.below ((Below.refl _ _).alloc (Nat.le_refl _) _)) (by as_aux_lemma => kernel_rfl) (op_call (f := 20) (args := #[Value.slice (some ⟨(z24).heap.size, 0, none⟩) 2 2]) rfl rfl (by go_simp) (Calls.mono (seqF _ _ _ _) ?_))
              rintro e z25 ⟨rfl, hb⟩
              refine ⟨_, rfl, ?_⟩
              have hbb : Below (z24).heap.size (z24) z25 := ((Below.refl _ _).alloc (Nat.le_refl _) _).trans (hb.mono (by simp))
              have HT106 : Hid (PolAt All z25 (seqP [(notP a), (notP b)]) ⟨6, 0, 0, Value.slice (some ⟨(z24).heap.size, 0, none⟩) 2 2⟩) := hl.below hb
              replace HT99 := hide (HT99.out.below hbb)
              replace HT100 := hide (HT100.out.below hbb)
              replace HT102 := hide (HT102.out.below hbb)
              replace HT104 := hide (HT104.out.below hbb)
              replace HNS := hide (HNS.out.below hbb)
              clear hl hb hbb
              generalize (z24).heap.size = r25 at *
              show anyB Try.prog _ _ _ _ _ _ { tmps := #[_, _, _, _, _, _, _, _, _, _, _, _, _, _, _, _, _, _, _, _, _, _, _, _, _, _, _, _, _, _, _, _, _, _, _, _, _, _, _, _, _, _, _, _, _, _, _, _, _, _, _, _, _, _, _, _, _, _, _, _, _, _, _, _, _, _, _, _, _, _, _, _, _, _, _, _, _, _, _, _, _, _, _, _, _, _, _, _, _, _, _, _, _, _, _, _, _, _, _, _, _, _, _, _, _, _, nv ⟨6, 0, 0, Value.slice (some ⟨r25, 0, none⟩) 2 2⟩, _, _, _, _, _, _, _, _, _, _, _, _, _, _, _, _, _, _, _, _, _, _, _, _, _, _, _, _, _, _, _, _, _, _], defers := [] } _
              have hl := lit2 (w := z25) (a := (notP (sumP [a, b]))) (b := (seqP [(notP a), (notP b)])) (x := ⟨4, 0, 0, .slice (some ⟨g22, 0, none⟩) 1 1⟩) (y := ⟨6, 0, 0, Value.slice (some ⟨r25, 0, none⟩) 2 2⟩) 7 HT100.out HT106.out
              refine anyB_one (i := 50) HNS.out (by as_aux_lemma => kernel_rfl) (op_value (v := .slice (some ⟨(z25).heap.size, 0, none⟩) 2 2) (w' := (z25).alloc (.cells #[Value.int IntKind.i64 4, Value.int IntKind.i64 0, Value.int IntKind.u16 0, Value.slice (some ⟨g22, 0, none⟩) 1 1, Value.int IntKind.i64 6, Value.int IntKind.i64 0, Value.int IntKind.u16 0, Value.slice (some ⟨r25, 0, none⟩) 2 2] 30)) rfl rfl (by go_simp) ?_)
              show anyB Try.prog _ _ _ _ _ _ { tmps := #[_, _, _, _, _, _, _, _, _, _, _, _, _, _, _, _, _, _, _, _, _, _, _, _, _, _, _, _, _, _, _, _, _, _, _, _, _, _, _, _, _, _, _, _, _, _, _, _, _, _, _, _, _, _, _, _, _, _, _, _, _, _, _, _, _, _, _, _, _, _, _, _, _, _, _, _, _, _, _, _, _, _, _, _, _, _, _, _, _, _, _, _, _, _, _, _, _, _, _, _, _, _, _, _, _, _, _, Value.slice (some ⟨(z25).heap.size, 0, none⟩) 2 2, _, _, _, _, _, _, _, _, _, _, _, _, _, _, _, _, _, _, _, _, _, _, _, _, _, _, _, _, _, _, _, _, _], defers := [] } _
              have cL := alike_any st (.slice ss SL ssc) HM.out q HQ.out [(notP (sumP [a, b])), (seqP [(notP a), (notP b)])] _ _ (HNS.out.st.below ((Below.refl _ _).alloc (Nat.le_refl _) _)) hl (by simp) (fun p hp => by
                simp only [List.mem_cons, List.not_mem_nil, or_false] at hp
                rcases hp with rfl | rfl
                · exact PrdOK.fit (PrdOK.not (PrdOK.sum HPPa.out HPPb.out)) st (by decide) (by decide)
                · exact PrdOK.fit (PrdOK.seq (PrdOK.not HPPa.out) (PrdOK.not HPPb.out)) st (by decide) (by decide)) (chain2 (nots5 q (HPPa.out.lets st) (HPPb.out.lets st)))
              refine anyB_one (i := 51) (HNS.out.below ((Below.refl _ _).alloc (Nat.le_refl _) _)) (by as_aux_lemma => kernel_rfl) (op_call (f := 18) (args := #[Value.slice ss SL ssc, q.v, Value.slice (some ⟨(z25).heap.size, 0, none⟩) 2 2]) rfl rfl (by go_simp) (Calls.mono cL ?_))
              rintro e z26 ⟨rfl, hb⟩
              refine ⟨_, rfl, ?_⟩
              have hbb : Below (z25).heap.size (z25) z26 := ((Below.refl _ _).alloc (Nat.le_refl _) _).trans (hb.mono (by simp))
              clear hl cL HT99 HT100 HT102 HT104 HT106
              replace HNS := hide (HNS.out.below hbb)
              clear hb hbb
              generalize (z25).heap.size = r26 at *
              show anyB Try.prog _ _ _ _ _ _ { tmps := #[_, _, _, _, _, _, _, _, _, _, _, _, _, _, _, _, _, _, _, _, _, _, _, _, _, _, _, _, _, _, _, _, _, _, _, _, _, _, _, _, _, _, _, _, _, _, _, _, _, _, _, _, _, _, _, _, _, _, _, _, _, _, _, _, _, _, _, _, _, _, _, _, _, _, _, _, _, _, _, _, _, _, _, _, _, _, _, _, _, _, _, _, _, _, _, _, _, _, _, _, _, _, _, _, _, _, _, _, Value.bool true, _, _, _, _, _, _, _, _, _, _, _, _, _, _, _, _, _, _, _, _, _, _, _, _, _, _, _, _, _, _, _, _], defers := [] } _
              refine anyB_take (i := 52) (Value.bool true) rfl (by as_aux_lemma => kernel_rfl) (by as_aux_lemma => kernel_rfl) (by as_aux_lemma => kernel_rfl) (fun c a w h => h) (.inl ⟨rfl, fun w' hw' => rfl⟩) ?_
              show anyB Try.prog _ _ _ _ _ _ { tmps := #[_, _, _, _, _, _, _, _, _, _, _, _, _, _, _, _, _, _, _, _, _, _, _, _, _, _, _, _, _, _, _, _, _, _, _, _, _, _, _, _, _, _, _, _, _, _, _, _, _, _, _, _, _, _, _, _, _, _, _, _, _, _, _, _, _, _, _, _, _, _, _, _, _, _, _, _, _, _, _, _, _, _, _, _, _, _, _, _, _, _, _, _, _, _, _, _, _, _, _, _, _, _, _, _, _, _, _, _, _, Value.bool true, _, _, _, _, _, _, _, _, _, _, _, _, _, _, _, _, _, _, _, _, _, _, _, _, _, _, _, _, _, _, _], defers := [] } _
              refine anyB_take (i := 53) (Value.bool true) rfl (by as_aux_lemma => kernel_rfl) (by as_aux_lemma => kernel_rfl) (by as_aux_lemma => kernel_rfl) (fun c a w h => h) (.inl ⟨rfl, fun w' hw' => rfl⟩) ?_
              show anyB Try.prog _ _ _ _ _ _ { tmps := #[_, _, _, _, _, _, _, _, _, _, _, _, _, _, _, _, _, _, _, _, _, _, _, _, _, _, _, _, _, _, _, _, _, _, _, _, _, _, _, _, _, _, _, _, _, _, _, _, _, _, _, _, _, _, _, _, _, _, _, _, _, _, _, _, _, _, _, _, _, _, _, _, _, _, _, _, _, _, _, _, _, _, _, _, _, _, _, _, _, _, _, _, _, _, _, _, _, _, _, _, _, _, _, _, _, _, _, _, _, _, Value.bool true, _, _, _, _, _, _, _, _, _, _, _, _, _, _, _, _, _, _, _, _, _, _, _, _, _, _, _, _, _, _], defers := [] } _
              refine anyB_take (i := 54) (Value.slice ss SL ssc) rfl (by as_aux_lemma => kernel_rfl) (by as_aux_lemma => kernel_rfl) (by as_aux_lemma => kernel_rfl) (fun c a w h => h) (.inl ⟨rfl, fun w' hw' => rfl⟩) ?_
              show anyB Try.prog _ _ _ _ _ _ { tmps := #[_, _, _, _, _, _, _, _, _, _, _, _, _, _, _, _, _, _, _, _, _, _, _, _, _, _, _, _, _, _, _, _, _, _, _, _, _, _, _, _, _, _, _, _, _, _, _, _, _, _, _, _, _, _, _, _, _, _, _, _, _, _, _, _, _, _, _, _, _, _, _, _, _, _, _, _, _, _, _, _, _, _, _, _, _, _, _, _, _, _, _, _, _, _, _, _, _, _, _, _, _, _, _, _, _, _, _, _, _, _, _, Value.slice ss SL ssc, _, _, _, _, _, _, _, _, _, _, _, _, _, _, _, _, _, _, _, _, _, _, _, _, _, _, _, _, _], defers := [] } _
              refine anyB_take (i := 55) (q.v) rfl (by as_aux_lemma => kernel_rfl) (by as_aux_lemma => kernel_rfl) (by as_aux_lemma => kernel_rfl) (fun c a w h => h) (.inl ⟨rfl, fun w' hw' => by obtain ⟨⟨c0, c1, c2, c3, c4, c5, c6, c7⟩, -, -⟩ := row8 hw'.rq; go_simp⟩) ?_
              show anyB Try.prog _ _ _ _ _ _ { tmps := #[_, _, _, _, _, _, _, _, _, _, _, _, _, _, _, _, _, _, _, _, _, _, _, _, _, _, _, _, _, _, _, _, _, _, _, _, _, _, _, _, _, _, _, _, _, _, _, _, _, _, _, _, _, _, _, _, _, _, _, _, _, _, _, _, _, _, _, _, _, _, _, _, _, _, _, _, _, _, _, _, _, _, _, _, _, _, _, _, _, _, _, _, _, _, _, _, _, _, _, _, _, _, _, _, _, _, _, _, _, _, _, _, q.v, _, _, _, _, _, _, _, _, _, _, _, _, _, _, _, _, _, _, _, _, _, _, _, _, _, _, _, _], defers := [] } _
              refine anyB_take (i := 56) (Value.agg #[Value.int IntKind.i64 xo, Value.int IntKind.i64 xf, Value.int IntKind.u16 xn, Value.slice sk kn skc]) rfl (by as_aux_lemma => kernel_rfl) (by as_aux_lemma => kernel_rfl) (by as_aux_lemma => kernel_rfl) (fun c a w h => h) (.inl ⟨rfl, fun w' hw' => by obtain ⟨a0, a1, a2, a3⟩ := row4 hw'.ra; go_simp⟩) ?_
              show anyB Try.prog _ _ _ _ _ _ { tmps := #[_, _, _, _, _, _, _, _, _, _, _, _, _, _, _, _, _, _, _, _, _, _, _, _, _, _, _, _, _, _, _, _, _, _, _, _, _, _, _, _, _, _, _, _, _, _, _, _, _, _, _, _, _, _, _, _, _, _, _, _, _, _, _, _, _, _, _, _, _, _, _, _, _, _, _, _, _, _, _, _, _, _, _, _, _, _, _, _, _, _, _, _, _, _, _, _, _, _, _, _, _, _, _, _, _, _, _, _, _, _, _, _, _, Value.agg #[Value.int IntKind.i64 xo, Value.int IntKind.i64 xf, Value.int IntKind.u16 xn, Value.slice sk kn skc], _, _, _, _, _, _, _, _, _, _, _, _, _, _, _, _, _, _, _, _, _, _, _, _, _, _, _], defers := [] } _
              refine anyB_take (i := 57) (Value.agg #[Value.int IntKind.i64 yo, Value.int IntKind.i64 yf, Value.int IntKind.u16 yn, Value.slice tk jn tkc]) rfl (by as_aux_lemma => kernel_rfl) (by as_aux_lemma => kernel_rfl) (by as_aux_lemma => kernel_rfl) (fun c a w h => h) (.inl ⟨rfl, fun w' hw' => by obtain ⟨a0, a1, a2, a3⟩ := row4 hw'.rb; go_simp⟩) ?_
              show anyB Try.prog _ _ _ _ _ _ { tmps := #[_, _, _, _, _, _, _, _, _, _, _, _, _, _, _, _, _, _, _, _, _, _, _, _, _, _, _, _, _, _, _, _, _, _, _, _, _, _, _, _, _, _, _, _, _, _, _, _, _, _, _, _, _, _, _, _, _, _, _, _, _, _, _, _, _, _, _, _, _, _, _, _, _, _, _, _, _, _, _, _, _, _, _, _, _, _, _, _, _, _, _, _, _, _, _, _, _, _, _, _, _, _, _, _, _, _, _, _, _, _, _, _, _, _, Value.agg #[Value.int IntKind.i64 yo, Value.int IntKind.i64 yf, Value.int IntKind.u16 yn, Value.slice tk jn tkc], _, _, _, _, _, _, _, _, _, _, _, _, _, _, _, _, _, _, _, _, _, _, _, _, _, _], defers := [] } _
              refine anyB_take (i := 61) (Value.agg #[Value.int IntKind.i64 xo, Value.int IntKind.i64 xf, Value.int IntKind.u16 xn, Value.slice sk kn skc]) rfl (by as_aux_lemma => kernel_rfl) (by as_aux_lemma => kernel_rfl) (by as_aux_lemma => kernel_rfl) (fun c a w h => h) (.inl ⟨rfl, fun w' hw' => by obtain ⟨a0, a1, a2, a3⟩ := row4 hw'.ra; go_simp⟩) ?_
              show anyB Try.prog _ _ _ _ _ _ { tmps := #[_, _, _, _, _, _, _, _, _, _, _, _, _, _, _, _, _, _, _, _, _, _, _, _, _, _, _, _, _, _, _, _, _, _, _, _, _, _, _, _, _, _, _, _, _, _, _, _, _, _, _, _, _, _, _, _, _, _, _, _, _, _, _, _, _, _, _, _, _, _, _, _, _, _, _, _, _, _, _, _, _, _, _, _, _, _, _, _, _, _, _, _, _, _, _, _, _, _, _, _, _, _, _, _, _, _, _, _, _, _, _, _, _, _, _, _, _, _, Value.agg #[Value.int IntKind.i64 xo, Value.int IntKind.i64 xf, Value.int IntKind.u16 xn, Value.slice sk kn skc], _, _, _, _, _, _, _, _, _, _, _, _, _, _, _, _, _, _, _, _, _, _], defers := [] } _
              refine anyB_take (i := 63) (Value.agg #[Value.int IntKind.i64 yo, Value.int IntKind.i64 yf, Value.int IntKind.u16 yn, Value.slice tk jn tkc]) rfl (by as_aux_lemma => kernel_rfl) (by as_aux_lemma => kernel_rfl) (by as_aux_lemma => kernel_rfl) (fun c a w h => h) (.inl ⟨rfl, fun w' hw' => by obtain ⟨a0, a1, a2, a3⟩ := row4 hw'.rb; go_simp⟩) ?_
              show anyB Try.prog _ _ _ _ _ _ { tmps := #[_, _, _, _, _, _, _, _, _, _, _, _, _, _, _, _, _, _, _, _, _, _, _, _, _, _, _, _, _, _, _, _, _, _, _, _, _, _, _, _, _, _, _, _, _, _, _, _, _, _, _, _, _, _, _, _, _, _, _, _, _, _, _, _, _, _, _, _, _, _, _, _, _, _, _, _, _, _, _, _, _, _, _, _, _, _, _, _, _, _, _, _, _, _, _, _, _, _, _, _, _, _, _, _, _, _, _, _, _, _, _, _, _, _, _, _, _, _, _, _, Value.agg #[Value.int IntKind.i64 yo, Value.int IntKind.i64 yf, Value.int IntKind.u16 yn, Value.slice tk jn tkc], _, _, _, _, _, _, _, _, _, _, _, _, _, _, _, _, _, _, _, _], defers := [] } _
              have hl := lit2 (w := z26) (a := a) (b := b) (x := ⟨xo, xf, xn, .slice sk kn skc⟩) (y := ⟨yo, yf, yn, .slice tk jn tkc⟩) 6 HNS.out.pa HNS.out.pb
              refine anyB_one (i := 58) HNS.out (by as_aux_lemma => kernel_rfl) (op_value (v := .slice (some ⟨(z26).heap.size, 0, none⟩) 2 2) (w' := (z26).alloc (.cells #[Value.int IntKind.i64 xo, Value.int IntKind.i64 xf, Value.int IntKind.u16 xn, Value.slice sk kn skc, Value.int IntKind.i64 yo, Value.int IntKind.i64 yf, Value.int IntKind.u16 yn, Value.slice tk jn tkc] 30)) rfl rfl (by go_simp) ?_)
              show anyB Try.prog _ _ _ _ _ _ { tmps := #[_, _, _, _, _, _, _, _, _, _, _, _, _, _, _, _, _, _, _, _, _, _, _, _, _, _, _, _, _, _, _, _, _, _, _, _, _, _, _, _, _, _, _, _, _, _, _, _, _, _, _, _, _, _, _, _, _, _, _, _, _, _, _, _, _, _, _, _, _, _, _, _, _, _, _, _, _, _, _, _, _, _, _, _, _, _, _, _, _, _, _, _, _, _, _, _, _, _, _, _, _, _, _, _, _, _, _, _, _, _, _, _, _, _, _, Value.slice (some ⟨(z26).heap.size, 0, none⟩) 2 2, _, _, _, _, _, _, _, _, _, _, _, _, _, _, _, _, _, _, _, _, _, _, _, _, _], defers := [] } _
              refine anyB_one (i := 59) (HNS.out.below ((Below.refl _ _).alloc (Nat.le_refl _) _)) (by as_aux_lemma => kernel_rfl) (op_call (f := 20) (args := #[Value.slice (some ⟨(z26).heap.size, 0, none⟩) 2 2]) rfl rfl (by go_simp) (Calls.mono (seqF _ _ _ _) ?_))
              rintro e z27 ⟨rfl, hb⟩
              refine ⟨_, rfl, ?_⟩
              have hbb : Below (z26).heap.size (z26) z27 := ((Below.refl _ _).alloc (Nat.le_refl _) _).trans (hb.mono (by simp))
              have HT116 : Hid (PolAt All z27 (seqP [a, b]) ⟨6, 0, 0, Value.slice (some ⟨(z26).heap.size, 0, none⟩) 2 2⟩) := hl.below hb
              replace HNS := hide (HNS.out.below hbb)
              clear hl hb hbb
              generalize (z26).heap.size = r27 at *
              show anyB Try.prog _ _ _ _ _ _ { tmps := #[_, _, _, _, _, _, _, _, _, _, _, _, _, _, _, _, _, _, _, _, _, _, _, _, _, _, _, _, _, _, _, _, _, _, _, _, _, _, _, _, _, _, _, _, _, _, _, _, _, _, _, _, _, _, _, _, _, _, _, _, _, _, _, _, _, _, _, _, _, _, _, _, _, _, _, _, _, _, _, _, _, _, _, _, _, _, _, _, _, _, _, _, _, _, _, _, _, _, _, _, _, _, _, _, _, _, _, _, _, _, _, _, _, _, _, _, nv ⟨6, 0, 0, Value.slice (some ⟨r27, 0, none⟩) 2 2⟩, _, _, _, _, _, _, _, _, _, _, _, _, _, _, _, _, _, _, _, _, _, _, _, _], defers := [] } _
              refine anyB_one (i := 60) HNS.out (by as_aux_lemma => kernel_rfl) (op_call (f := 22) (args := #[nv ⟨6, 0, 0, Value.slice (some ⟨r27, 0, none⟩) 2 2⟩]) rfl rfl (by go_simp) (Calls.mono (notF (seqP [a, b]) ⟨6, 0, 0, Value.slice (some ⟨r27, 0, none⟩) 2 2⟩ _ HT116.out) ?_))
              rintro e z28 ⟨g28, rfl, hp, hbb⟩
              refine ⟨_, rfl, ?_⟩
              replace HT116 := hide (HT116.out.below hbb)
              replace HNS := hide (HNS.out.below hbb)
              have HT117 := hide hp
              clear hp hbb
              show anyB Try.prog _ _ _ _ _ _ { tmps := #[_, _, _, _, _, _, _, _, _, _, _, _, _, _, _, _, _, _, _, _, _, _, _, _, _, _, _, _, _, _, _, _, _, _, _, _, _, _, _, _, _, _, _, _, _, _, _, _, _, _, _, _, _, _, _, _, _, _, _, _, _, _, _, _, _, _, _, _, _, _, _, _, _, _, _, _, _, _, _, _, _, _, _, _, _, _, _, _, _, _, _, _, _, _, _, _, _, _, _, _, _, _, _, _, _, _, _, _, _, _, _, _, _, _, _, _, _, nv ⟨4, 0, 0, .slice (some ⟨g28, 0, none⟩) 1 1⟩, _, _, _, _, _, _, _, _, _, _, _, _, _, _, _, _, _, _, _, _, _, _, _], defers := [] } _
              refine anyB_one (i := 62) HNS.out (by as_aux_lemma => kernel_rfl) (op_call (f := 22) (args := #[nv ⟨xo, xf, xn, .slice sk kn skc⟩]) rfl rfl (by go_simp) (Calls.mono (notF a ⟨xo, xf, xn, .slice sk kn skc⟩ _ HNS.out.pa) ?_))
              rintro e z29 ⟨g29, rfl, hp, hbb⟩
              refine ⟨_, rfl, ?_⟩
              replace HT116 := hide (HT116.out.below hbb)
              replace HT117 := hide (HT117.out.below hbb)
              replace HNS := hide (HNS.out.below hbb)
              have HT119 := hide hp
              clear hp hbb
              show anyB Try.prog _ _ _ _ _ _ { tmps := #[_, _, _, _, _, _, _, _, _, _, _, _, _, _, _, _, _, _, _, _, _, _, _, _, _, _, _, _, _, _, _, _, _, _, _, _, _, _, _, _, _, _, _, _, _, _, _, _, _, _, _, _, _, _, _, _, _, _, _, _, _, _, _, _, _, _, _, _, _, _, _, _, _, _, _, _, _, _, _, _, _, _, _, _, _, _, _, _, _, _, _, _, _, _, _, _, _, _, _, _, _, _, _, _, _, _, _, _, _, _, _, _, _, _, _, _, _, _, _, nv ⟨4, 0, 0, .slice (some ⟨g29, 0, none⟩) 1 1⟩, _, _, _, _, _, _, _, _, _, _, _, _, _, _, _, _, _, _, _, _, _], defers := [] } _
              refine anyB_one (i := 64) HNS.out (by as_aux_lemma => kernel_rfl) (op_call (f := 22) (args := #[nv ⟨yo, yf, yn, .slice tk jn tkc⟩]) rfl rfl (by go_simp) (Calls.mono (notF b ⟨yo, yf, yn, .slice tk jn tkc⟩ _ HNS.out.pb) ?_))
              rintro e z30 ⟨g30, rfl, hp, hbb⟩
              refine ⟨_, rfl, ?_⟩
              replace HT116 := hide (HT116.out.below hbb)
              replace HT117 := hide (HT117.out.below hbb)
              replace HT119 := hide (HT119.out.below hbb)
              replace HNS := hide (HNS.out.below hbb)
              have HT121 := hide hp
              clear hp hbb
              show anyB Try.prog _ _ _ _ _ _ { tmps := #[_, _, _, _, _, _, _, _, _, _, _, _, _, _, _, _, _, _, _, _, _, _, _, _, _, _, _, _, _, _, _, _, _, _, _, _, _, _, _, _, _, _, _, _, _, _, _, _, _, _, _, _, _, _, _, _, _, _, _, _, _, _, _, _, _, _, _, _, _, _, _, _, _, _, _, _, _, _, _, _, _, _, _, _, _, _, _, _, _, _, _, _, _, _, _, _, _, _, _, _, _, _, _, _, _, _, _, _, _, _, _, _, _, _, _, _, _, _, _, _, _, nv ⟨4, 0, 0, .slice (some ⟨g30, 0, none⟩) 1 1⟩, _, _, _, _, _, _, _, _, _, _, _, _, _, _, _, _, _, _, _], defers := [] } _
              have hl := lit2 (w := z30) (a := (notP a)) (b := (notP b)) (x := ⟨4, 0, 0, .slice (some ⟨g29, 0, none⟩) 1 1⟩) (y := ⟨4, 0, 0, .slice (some ⟨g30, 0, none⟩) 1 1⟩) 7 HT119.out HT121.out
              refine anyB_one (i := 65) HNS.out (by as_aux_lemma => kernel_rfl) (op_value (v := .slice (some ⟨(z30).heap.size, 0, none⟩) 2 2) (w' := (z30).alloc (.cells #[Value.int IntKind.i64 4, Value.int IntKind.i64 0, Value.int IntKind.u16 0, Value.slice (some ⟨g29, 0, none⟩) 1 1, Value.int IntKind.i64 4, Value.int IntKind.i64 0, Value.int IntKind.u16 0, Value.slice (some ⟨g30, 0, none⟩) 1 1] 30)) rfl rfl (by go_simp) ?_)
              show anyB Try.prog _ _ _ _ _ _ { tmps := #[_, _, _, _, _, _, _, _, _, _, _, _, _, _, _, _, _, _, _, _, _, _, _, _, _, _, _, _, _, _, _, _, _, _, _, _, _, _, _, _, _, _, _, _, _, _, _, _, _, _, _, _, _, _, _, _, _, _, _, _, _, _, _, _, _, _, _, _, _, _, _, _, _, _, _, _, _, _, _, _, _, _, _, _, _, _, _, _, _, _, _, _, _, _, _, _, _, _, _, _, _, _, _, _, _, _, _, _, _, _, _, _, _, _, _, _, _, _, _, _, _, _, Value.slice (some ⟨(z30).heap.size, 0, none⟩) 2 2, _, _, _, _, _, _, _, _, _, _, _, _, _, _, _, _, _, _], defers := [] } _
              refine anyB_one (i := 66) (HNS.out.below ((Below.refl _ _).alloc (Nat.le_refl _) _)) (by as_aux_lemma => kernel_rfl) (op_call (f := 19) (args := #[Value.slice (some ⟨(z30).heap.size, 0, none⟩) 2 2]) rfl rfl (by go_simp) (Calls.mono (sumF _ _ _ _) ?_))
              rintro e z31 ⟨rfl, hb⟩
              refine ⟨_, rfl, ?_⟩
              have hbb : Below (z30).heap.size (z30) z31 := ((Below.refl _ _).alloc (Nat.le_refl _) _).trans (hb.mono (by simp))
              have HT123 : Hid (PolAt All z31 (sumP [(notP a), (notP b)]) ⟨7, 0, 0, Value.slice (some ⟨(z30).heap.size, 0, none⟩) 2 2⟩) := hl.below hb
              replace HT116 := hide (HT116.out.below hbb)
              replace HT117 := hide (HT117.out.below hbb)
              replace HT119 := hide (HT119.out.below hbb)
              replace HT121 := hide (HT121.out.below hbb)
              replace HNS := hide (HNS.out.below hbb)
              clear hl hb hbb
              generalize (z30).heap.size = r31 at *
              show anyB Try.prog _ _ _ _ _ _ { tmps := #[_, _, _, _, _, _, _, _, _, _, _, _, _, _, _, _, _, _, _, _, _, _, _, _, _, _, _, _, _, _, _, _, _, _, _, _, _, _, _, _, _, _, _, _, _, _, _, _, _, _, _, _, _, _, _, _, _, _, _, _, _, _, _, _, _, _, _, _, _, _, _, _, _, _, _, _, _, _, _, _, _, _, _, _, _, _, _, _, _, _, _, _, _, _, _, _, _, _, _, _, _, _, _, _, _, _, _, _, _, _, _, _, _, _, _, _, _, _, _, _, _, _, _, nv ⟨7, 0, 0, Value.slice (some ⟨r31, 0, none⟩) 2 2⟩, _, _, _, _, _, _, _, _, _, _, _, _, _, _, _, _, _], defers := [] } _
              have hl := lit2 (w := z31) (a := (notP (seqP [a, b]))) (b := (sumP [(notP a), (notP b)])) (x := ⟨4, 0, 0, .slice (some ⟨g28, 0, none⟩) 1 1⟩) (y := ⟨7, 0, 0, Value.slice (some ⟨r31, 0, none⟩) 2 2⟩) 7 HT117.out HT123.out
              refine anyB_one (i := 67) HNS.out (by as_aux_lemma => kernel_rfl) (op_value (v := .slice (some ⟨(z31).heap.size, 0, none⟩) 2 2) (w' := (z31).alloc (.cells #[Value.int IntKind.i64 4, Value.int IntKind.i64 0, Value.int IntKind.u16 0, Value.slice (some ⟨g28, 0, none⟩) 1 1, Value.int IntKind.i64 7, Value.int IntKind.i64 0, Value.int IntKind.u16 0, Value.slice (some ⟨r31, 0, none⟩) 2 2] 30)) rfl rfl (by go_simp) ?_)
              show anyB Try.prog _ _ _ _ _ _ { tmps := #[_, _, _, _, _, _, _, _, _, _, _, _, _, _, _, _, _, _, _, _, _, _, _, _, _, _, _, _, _, _, _, _, _, _, _, _, _, _, _, _, _, _, _, _, _, _, _, _, _, _, _, _, _, _, _, _, _, _, _, _, _, _, _, _, _, _, _, _, _, _, _, _, _, _, _, _, _, _, _, _, _, _, _, _, _, _, _, _, _, _, _, _, _, _, _, _, _, _, _, _, _, _, _, _, _, _, _, _, _, _, _, _, _, _, _, _, _, _, _, _, _, _, _, _, Value.slice (some ⟨(z31).heap.size, 0, none⟩) 2 2, _, _, _, _, _, _, _, _, _, _, _, _, _, _, _, _], defers := [] } _
              have cL := alike_any st (.slice ss SL ssc) HM.out q HQ.out [(notP (seqP [a, b])), (sumP [(notP a), (notP b)])] _ _ (HNS.out.st.below ((Below.refl _ _).alloc (Nat.le_refl _) _)) hl (by simp) (fun p hp => by
                simp only [List.mem_cons, List.not_mem_nil, or_false] at hp
                rcases hp with rfl | rfl
                · exact PrdOK.fit (PrdOK.not (PrdOK.seq HPPa.out HPPb.out)) st (by decide) (by decide)
                · exact PrdOK.fit (PrdOK.sum (PrdOK.not HPPa.out) (PrdOK.not HPPb.out)) st (by decide) (by decide)) (chain2 (nots6 q (HPPa.out.lets st) (HPPb.out.lets st)))
              refine anyB_one (i := 68) (HNS.out.below ((Below.refl _ _).alloc (Nat.le_refl _) _)) (by as_aux_lemma => kernel_rfl) (op_call (f := 18) (args := #[Value.slice ss SL ssc, q.v, Value.slice (some ⟨(z31).heap.size, 0, none⟩) 2 2]) rfl rfl (by go_simp) (Calls.mono cL ?_))
              rintro e z32 ⟨rfl, hb⟩
              refine ⟨_, rfl, ?_⟩
              have hbb : Below (z31).heap.size (z31) z32 := ((Below.refl _ _).alloc (Nat.le_refl _) _).trans (hb.mono (by simp))
              clear hl cL HT116 HT117 HT119 HT121 HT123
              replace HNS := hide (HNS.out.below hbb)
              clear hb hbb
              generalize (z31).heap.size = r32 at *
              show anyB Try.prog _ _ _ _ _ _ { tmps := #[_, _, _, _, _, _, _, _, _, _, _, _, _, _, _, _, _, _, _, _, _, _, _, _, _, _, _, _, _, _, _, _, _, _, _, _, _, _, _, _, _, _, _, _, _, _, _, _, _, _, _, _, _, _, _, _, _, _, _, _, _, _, _, _, _, _, _, _, _, _, _, _, _, _, _, _, _, _, _, _, _, _, _, _, _, _, _, _, _, _, _, _, _, _, _, _, _, _, _, _, _, _, _, _, _, _, _, _, _, _, _, _, _, _, _, _, _, _, _, _, _, _, _, _, _, Value.bool true, _, _, _, _, _, _, _, _, _, _, _, _, _, _, _], defers := [] } _
              refine anyB_take (i := 69) (Value.bool true) rfl (by as_aux_lemma => kernel_rfl) (by as_aux_lemma => kernel_rfl) (by as_aux_lemma => kernel_rfl) (fun c a w h => h) (.inl ⟨rfl, fun w' hw' => rfl⟩) ?_
              show anyB Try.prog _ _ _ _ _ _ { tmps := #[_, _, _, _, _, _, _, _, _, _, _, _, _, _, _, _, _, _, _, _, _, _, _, _, _, _, _, _, _, _, _, _, _, _, _, _, _, _, _, _, _, _, _, _, _, _, _, _, _, _, _, _, _, _, _, _, _, _, _, _, _, _, _, _, _, _, _, _, _, _, _, _, _, _, _, _, _, _, _, _, _, _, _, _, _, _, _, _, _, _, _, _, _, _, _, _, _, _, _, _, _, _, _, _, _, _, _, _, _, _, _, _, _, _, _, _, _, _, _, _, _, _, _, _, _, _, Value.bool true, _, _, _, _, _, _, _, _, _, _, _, _, _, _], defers := [] } _
              refine anyB_take (i := 70) (Value.bool true) rfl (by as_aux_lemma => kernel_rfl) (by as_aux_lemma => kernel_rfl) (by as_aux_lemma => kernel_rfl) (fun c a w h => h) (.inl ⟨rfl, fun w' hw' => rfl⟩) ?_
              show anyB Try.prog _ _ _ _ _ _ { tmps := #[_, _, _, _, _, _, _, _, _, _, _, _, _, _, _, _, _, _, _, _, _, _, _, _, _, _, _, _, _, _, _, _, _, _, _, _, _, _, _, _, _, _, _, _, _, _, _, _, _, _, _, _, _, _, _, _, _, _, _, _, _, _, _, _, _, _, _, _, _, _, _, _, _, _, _, _, _, _, _, _, _, _, _, _, _, _, _, _, _, _, _, _, _, _, _, _, _, _, _, _, _, _, _, _, _, _, _, _, _, _, _, _, _, _, _, _, _, _, _, _, _, _, _, _, _, _, _, Value.bool true, _, _, _, _, _, _, _, _, _, _, _, _, _], defers := [] } _
              refine anyB_take (i := 71) (Value.slice ss SL ssc) rfl (by as_aux_lemma => kernel_rfl) (by as_aux_lemma => kernel_rfl) (by as_aux_lemma => kernel_rfl) (fun c a w h => h) (.inl ⟨rfl, fun w' hw' => rfl⟩) ?_
              show anyB Try.prog _ _ _ _ _ _ { tmps := #[_, _, _, _, _, _, _, _, _, _, _, _, _, _, _, _, _, _, _, _, _, _, _, _, _, _, _, _, _, _, _, _, _, _, _, _, _, _, _, _, _, _, _, _, _, _, _, _, _, _, _, _, _, _, _, _, _, _, _, _, _, _, _, _, _, _, _, _, _, _, _, _, _, _, _, _, _, _, _, _, _, _, _, _, _, _, _, _, _, _, _, _, _, _, _, _, _, _, _, _, _, _, _, _, _, _, _, _, _, _, _, _, _, _, _, _, _, _, _, _, _, _, _, _, _, _, _, _, Value.slice ss SL ssc, _, _, _, _, _, _, _, _, _, _, _, _], defers := [] } _
              refine anyB_take (i := 72) (q.v) rfl (by as_aux_lemma => kernel_rfl) (by as_aux_lemma => kernel_rfl) (by as_aux_lemma => kernel_rfl) (fun c a w h => h) (.inl ⟨rfl, fun w' hw' => by obtain ⟨⟨c0, c1, c2, c3, c4, c5, c6, c7⟩, -, -⟩ := row8 hw'.rq; go_simp⟩) ?_
              show anyB Try.prog _ _ _ _ _ _ { tmps := #[_, _, _, _, _, _, _, _, _, _, _, _, _, _, _, _, _, _, _, _, _, _, _, _, _, _, _, _, _, _, _, _, _, _, _, _, _, _, _, _, _, _, _, _, _, _, _, _, _, _, _, _, _, _, _, _, _, _, _, _, _, _, _, _, _, _, _, _, _, _, _, _, _, _, _, _, _, _, _, _, _, _, _, _, _, _, _, _, _, _, _, _, _, _, _, _, _, _, _, _, _, _, _, _, _, _, _, _, _, _, _, _, _, _, _, _, _, _, _, _, _, _, _, _, _, _, _, _, _, q.v, _, _, _, _, _, _, _, _, _, _, _], defers := [] } _
              refine anyB_take (i := 73) (Value.agg #[Value.int IntKind.i64 xo, Value.int IntKind.i64 xf, Value.int IntKind.u16 xn, Value.slice sk kn skc]) rfl (by as_aux_lemma => kernel_rfl) (by as_aux_lemma => kernel_rfl) (by as_aux_lemma => kernel_rfl) (fun c a w h => h) (.inl ⟨rfl, fun w' hw' => by obtain ⟨a0, a1, a2, a3⟩ := row4 hw'.ra; go_simp⟩) ?_
              show anyB Try.prog _ _ _ _ _ _ { tmps := #[_, _, _, _, _, _, _, _, _, _, _, _, _, _, _, _, _, _, _, _, _, _, _, _, _, _, _, _, _, _, _, _, _, _, _, _, _, _, _, _, _, _, _, _, _, _, _, _, _, _, _, _, _, _, _, _, _, _, _, _, _, _, _, _, _, _, _, _, _, _, _, _, _, _, _, _, _, _, _, _, _, _, _, _, _, _, _, _, _, _, _, _, _, _, _, _, _, _, _, _, _, _, _, _, _, _, _, _, _, _, _, _, _, _, _, _, _, _, _, _, _, _, _, _, _, _, _, _, _, _, Value.agg #[Value.int IntKind.i64 xo, Value.int IntKind.i64 xf, Value.int IntKind.u16 xn, Value.slice sk kn skc], _, _, _, _, _, _, _, _, _, _], defers := [] } _
              refine anyB_take (i := 74) (Value.agg #[Value.int IntKind.i64 yo, Value.int IntKind.i64 yf, Value.int IntKind.u16 yn, Value.slice tk jn tkc]) rfl (by as_aux_lemma => kernel_rfl) (by as_aux_lemma => kernel_rfl) (by as_aux_lemma => kernel_rfl) (fun c a w h => h) (.inl ⟨rfl, fun w' hw' => by obtain ⟨a0, a1, a2, a3⟩ := row4 hw'.rb; go_simp⟩) ?_
              show anyB Try.prog _ _ _ _ _ _ { tmps := #[_, _, _, _, _, _, _, _, _, _, _, _, _, _, _, _, _, _, _, _, _, _, _, _, _, _, _, _, _, _, _, _, _, _, _, _, _, _, _, _, _, _, _, _, _, _, _, _, _, _, _, _, _, _, _, _, _, _, _, _, _, _, _, _, _, _, _, _, _, _, _, _, _, _, _, _, _, _, _, _, _, _, _, _, _, _, _, _, _, _, _, _, _, _, _, _, _, _, _, _, _, _, _, _, _, _, _, _, _, _, _, _, _, _, _, _, _, _, _, _, _, _, _, _, _, _, _, _, _, _, _, Value.agg #[Value.int IntKind.i64 yo, Value.int IntKind.i64 yf, Value.int IntKind.u16 yn, Value.slice tk jn tkc], _, _, _, _, _, _, _, _, _], defers := [] } _
              refine anyB_take (i := 77) (Value.agg #[Value.int IntKind.i64 yo, Value.int IntKind.i64 yf, Value.int IntKind.u16 yn, Value.slice tk jn tkc]) rfl (by as_aux_lemma => kernel_rfl) (by as_aux_lemma => kernel_rfl) (by as_aux_lemma => kernel_rfl) (fun c a w h => h) (.inl ⟨rfl, fun w' hw' => by obtain ⟨a0, a1, a2, a3⟩ := row4 hw'.rb; go_simp⟩) ?_
              show anyB Try.prog _ _ _ _ _ _ { tmps := #[_, _, _, _, _, _, _, _, _, _, _, _, _, _, _, _, _, _, _, _, _, _, _, _, _, _, _, _, _, _, _, _, _, _, _, _, _, _, _, _, _, _, _, _, _, _, _, _, _, _, _, _, _, _, _, _, _, _, _, _, _, _, _, _, _, _, _, _, _, _, _, _, _, _, _, _, _, _, _, _, _, _, _, _, _, _, _, _, _, _, _, _, _, _, _, _, _, _, _, _, _, _, _, _, _, _, _, _, _, _, _, _, _, _, _, _, _, _, _, _, _, _, _, _, _, _, _, _, _, _, _, _, _, _, Value.agg #[Value.int IntKind.i64 yo, Value.int IntKind.i64 yf, Value.int IntKind.u16 yn, Value.slice tk jn tkc], _, _, _, _, _, _], defers := [] } _
              refine anyB_take (i := 78) (Value.agg #[Value.int IntKind.i64 xo, Value.int IntKind.i64 xf, Value.int IntKind.u16 xn, Value.slice sk kn skc]) rfl (by as_aux_lemma => kernel_rfl) (by as_aux_lemma => kernel_rfl) (by as_aux_lemma => kernel_rfl) (fun c a w h => h) (.inl ⟨rfl, fun w' hw' => by obtain ⟨a0, a1, a2, a3⟩ := row4 hw'.ra; go_simp⟩) ?_
              show anyB Try.prog _ _ _ _ _ _ { tmps := #[_, _, _, _, _, _, _, _, _, _, _, _, _, _, _, _, _, _, _, _, _, _, _, _, _, _, _, _, _, _, _, _, _, _, _, _, _, _, _, _, _, _, _, _, _, _, _, _, _, _, _, _, _, _, _, _, _, _, _, _, _, _, _, _, _, _, _, _, _, _, _, _, _, _, _, _, _, _, _, _, _, _, _, _, _, _, _, _, _, _, _, _, _, _, _, _, _, _, _, _, _, _, _, _, _, _, _, _, _, _, _, _, _, _, _, _, _, _, _, _, _, _, _, _, _, _, _, _, _, _, _, _, _, _, _, Value.agg #[Value.int IntKind.i64 xo, Value.int IntKind.i64 xf, Value.int IntKind.u16 xn, Value.slice sk kn skc], _, _, _, _, _], defers := [] } _
              refine anyB_join (fuel' := 5) (listed' := #[true, true, true, true, true, true, true, true, true, true, true, true, true, true, true, true, true, true, true, true, true, true, true, true, true, true, true, true, true, true, true, true, true, true, true, true, true, true, true, true, true, true, true, true, true, true, true, true, true, true, true, true, true, true, true, true, true, true, true, true, true, true, true, true, true, true, true, true, true, true, true, true, true, true, true, true, true, true, true, true, false, false, false, false, false]) (α := Nat × Nat × Nat) (fun x => { tmps := #[Value.agg #[Value.slice u0 n0 x0, Value.slice u1 n1 x1], Value.slice ss SL ssc, q.v, Value.pointer (some { block := w.heap.size, off := 0 }), undef, Value.pointer (some { block := w.heap.size + 1, off := 0 }), Value.bool false, Value.pointer (some { block := ga, off := 0 }), Value.bool true, Value.pointer (some { block := w3.heap.size, off := 0 }), Value.bool true, Value.pointer (some { block := gi, off := 0 }), Value.pointer (some { block := gi + 1, off := 0 }), Value.bool true, Value.bool false, Value.tuple #[nv { op := xo, f := xf, n := xn, kv := Value.slice sk kn skc }, Value.bool true], Value.pointer (some { block := w.heap.size, off := 0 }), Value.slice u0 n0 x0, Value.tuple #[nv { op := xo, f := xf, n := xn, kv := Value.slice sk kn skc }, Value.bool true], nv { op := xo, f := xf, n := xn, kv := Value.slice sk kn skc }, Value.bool true, Value.tuple #[nv { op := yo, f := yf, n := yn, kv := Value.slice tk jn tkc }, Value.bool true], Value.pointer (some { block := w.heap.size, off := 1 }), Value.slice u1 n1 x1, Value.tuple #[nv { op := yo, f := yf, n := yn, kv := Value.slice tk jn tkc }, Value.bool true], nv { op := yo, f := yf, n := yn, kv := Value.slice tk jn tkc }, Value.bool true, Value.bool true, Value.bool false, Value.bool false, Value.bool true, Value.bool false, Value.bool false, Value.bool false, Value.agg #[Value.int IntKind.i64 xo, Value.int IntKind.i64 xf, Value.int IntKind.u16 xn, Value.slice sk kn skc], Value.agg #[Value.int IntKind.i64 yo, Value.int IntKind.i64 yf, Value.int IntKind.u16 yn, Value.slice tk jn tkc], Value.slice (some { block := w3.heap.size + 1, off := 0 }) 2 2, Value.bool true, Value.bool false, Value.bool false, Value.bool false, Value.agg #[Value.int IntKind.i64 xo, Value.int IntKind.i64 xf, Value.int IntKind.u16 xn, Value.slice sk kn skc], Value.bool true, Value.bool false, Value.bool false, Value.bool false, Value.agg #[Value.int IntKind.i64 yo, Value.int IntKind.i64 yf, Value.int IntKind.u16 yn, Value.slice tk jn tkc], Value.bool true, Value.bool false, Value.bool false, Value.bool false, Value.slice ss SL ssc, Value.int IntKind.i64 (SL : Int), Value.bool false, Value.bool false, Value.agg #[Value.int IntKind.i64 1, Value.int IntKind.i64 0, Value.int IntKind.u16 0, Value.slice none 0 0], Value.agg #[Value.int IntKind.i64 0, Value.int IntKind.i64 0, Value.int IntKind.u16 0, Value.slice none 0 0], Value.slice ss SL ssc, q.v, Value.agg #[Value.int IntKind.i64 xo, Value.int IntKind.i64 xf, Value.int IntKind.u16 xn, Value.slice sk kn skc], Value.agg #[Value.int IntKind.i64 xo, Value.int IntKind.i64 xf, Value.int IntKind.u16 xn, Value.slice sk kn skc], nv ⟨4, 0, 0, .slice (some ⟨g1, 0, none⟩) 1 1⟩, Value.slice (some ⟨r2, 0, none⟩) 2 2, nv ⟨7, 0, 0, Value.slice (some ⟨r2, 0, none⟩) 2 2⟩, Value.agg #[Value.int IntKind.i64 1, Value.int IntKind.i64 0, Value.int IntKind.u16 0, Value.slice none 0 0], Value.slice (some ⟨r3, 0, none⟩) 2 2, Value.bool true, Value.bool true, Value.slice ss SL ssc, q.v, Value.agg #[Value.int IntKind.i64 xo, Value.int IntKind.i64 xf, Value.int IntKind.u16 xn, Value.slice sk kn skc], Value.agg #[Value.int IntKind.i64 xo, Value.int IntKind.i64 xf, Value.int IntKind.u16 xn, Value.slice sk kn skc], nv ⟨4, 0, 0, .slice (some ⟨g4, 0, none⟩) 1 1⟩, Value.slice (some ⟨r5, 0, none⟩) 2 2, nv ⟨6, 0, 0, Value.slice (some ⟨r5, 0, none⟩) 2 2⟩, Value.agg #[Value.int IntKind.i64 0, Value.int IntKind.i64 0, Value.int IntKind.u16 0, Value.slice none 0 0], Value.slice (some ⟨r6, 0, none⟩) 2 2, Value.bool true, Value.bool true, Value.bool true, Value.slice ss SL ssc, q.v, Value.agg #[Value.int IntKind.i64 xo, Value.int IntKind.i64 xf, Value.int IntKind.u16 xn, Value.slice sk kn skc], nv ⟨4, 0, 0, .slice (some ⟨p83, 0, none⟩) 1 1⟩, nv ⟨4, 0, 0, .slice (some ⟨p84, 0, none⟩) 1 1⟩, Value.agg #[Value.int IntKind.i64 xo, Value.int IntKind.i64 xf, Value.int IntKind.u16 xn, Value.slice sk kn skc], Value.agg #[Value.int IntKind.i64 xo, Value.int IntKind.i64 xf, Value.int IntKind.u16 xn, Value.slice sk kn skc], Value.agg #[Value.int IntKind.i64 xo, Value.int IntKind.i64 xf, Value.int IntKind.u16 xn, Value.slice sk kn skc], Value.slice (some ⟨p88, 0, none⟩) 2 2, nv ⟨6, 0, 0, Value.slice (some ⟨p88, 0, none⟩) 2 2⟩, Value.slice (some ⟨r20, 0, none⟩) 3 3, Value.bool true, Value.bool true, Value.bool true, Value.slice ss SL ssc, q.v, Value.agg #[Value.int IntKind.i64 xo, Value.int IntKind.i64 xf, Value.int IntKind.u16 xn, Value.slice sk kn skc], Value.agg #[Value.int IntKind.i64 yo, Value.int IntKind.i64 yf, Value.int IntKind.u16 yn, Value.slice tk jn tkc], Value.slice (some ⟨r21, 0, none⟩) 2 2, nv ⟨7, 0, 0, Value.slice (some ⟨r21, 0, none⟩) 2 2⟩, nv ⟨4, 0, 0, .slice (some ⟨g22, 0, none⟩) 1 1⟩, Value.agg #[Value.int IntKind.i64 xo, Value.int IntKind.i64 xf, Value.int IntKind.u16 xn, Value.slice sk kn skc], nv ⟨4, 0, 0, .slice (some ⟨g23, 0, none⟩) 1 1⟩, Value.agg #[Value.int IntKind.i64 yo, Value.int IntKind.i64 yf, Value.int IntKind.u16 yn, Value.slice tk jn tkc], nv ⟨4, 0, 0, .slice (some ⟨g24, 0, none⟩) 1 1⟩, Value.slice (some ⟨r25, 0, none⟩) 2 2, nv ⟨6, 0, 0, Value.slice (some ⟨r25, 0, none⟩) 2 2⟩, Value.slice (some ⟨r26, 0, none⟩) 2 2, Value.bool true, Value.bool true, Value.bool true, Value.slice ss SL ssc, q.v, Value.agg #[Value.int IntKind.i64 xo, Value.int IntKind.i64 xf, Value.int IntKind.u16 xn, Value.slice sk kn skc], Value.agg #[Value.int IntKind.i64 yo, Value.int IntKind.i64 yf, Value.int IntKind.u16 yn, Value.slice tk jn tkc], Value.slice (some ⟨r27, 0, none⟩) 2 2, nv ⟨6, 0, 0, Value.slice (some ⟨r27, 0, none⟩) 2 2⟩, nv ⟨4, 0, 0, .slice (some ⟨g28, 0, none⟩) 1 1⟩, Value.agg #[Value.int IntKind.i64 xo, Value.int IntKind.i64 xf, Value.int IntKind.u16 xn, Value.slice sk kn skc], nv ⟨4, 0, 0, .slice (some ⟨g29, 0, none⟩) 1 1⟩, Value.agg #[Value.int IntKind.i64 yo, Value.int IntKind.i64 yf, Value.int IntKind.u16 yn, Value.slice tk jn tkc], nv ⟨4, 0, 0, .slice (some ⟨g30, 0, none⟩) 1 1⟩, Value.slice (some ⟨r31, 0, none⟩) 2 2, nv ⟨7, 0, 0, Value.slice (some ⟨r31, 0, none⟩) 2 2⟩, Value.slice (some ⟨r32, 0, none⟩) 2 2, Value.bool true, Value.bool true, Value.bool true, Value.slice ss SL ssc, q.v, Value.agg #[Value.int IntKind.i64 xo, Value.int IntKind.i64 xf, Value.int IntKind.u16 xn, Value.slice sk kn skc], Value.agg #[Value.int IntKind.i64 yo, Value.int IntKind.i64 yf, Value.int IntKind.u16 yn, Value.slice tk jn tkc], Value.slice (some ⟨x.1, 0, none⟩) 2 2, nv ⟨6, 0, 0, Value.slice (some ⟨x.2.1, 0, none⟩) 2 2⟩, Value.agg #[Value.int IntKind.i64 yo, Value.int IntKind.i64 yf, Value.int IntKind.u16 yn, Value.slice tk jn tkc], Value.agg #[Value.int IntKind.i64 xo, Value.int IntKind.i64 xf, Value.int IntKind.u16 xn, Value.slice sk kn skc], Value.slice (some ⟨x.2.2, 0, none⟩) 2 2, undef, undef, undef, undef], defers := [] })
                (fun x z => Hid (NS w st (.slice ss SL ssc) a b ⟨xo, xf, xn, .slice sk kn skc⟩ ⟨yo, yf, yn, .slice tk jn tkc⟩ ga w3.heap.size gi (gi + 1) (w.heap.size + 1) q z) ∧ Hid (PolAt All z (seqP [a, b]) ⟨6, 0, 0, Value.slice (some ⟨x.2.1, 0, none⟩) 2 2⟩) ∧ Hid (PolAt All z (.mk 6 0 0 [a, b]) ⟨6, 0, 0, .slice (some ⟨x.1, 0, none⟩) 2 2⟩) ∧ Hid (PolAt All z (.mk 6 0 0 [b, a]) ⟨6, 0, 0, .slice (some ⟨x.2.2, 0, none⟩) 2 2⟩)) ?_ ?_
              · intro rest
                refine anyB_fork (i := 75) (j := 79) HNS.out (by as_aux_lemma => kernel_rfl) ?_ ?_
                · skip
                  have hL : Hid (PolAt All ((z32).alloc (.cells #[Value.int IntKind.i64 xo, Value.int IntKind.i64 xf, Value.int IntKind.u16 xn, Value.slice sk kn skc, Value.int IntKind.i64 yo, Value.int IntKind.i64 yf, Value.int IntKind.u16 yn, Value.slice tk jn tkc] 30)) (.mk 6 0 0 [a, b]) ⟨6, 0, 0, .slice (some ⟨(z32).heap.size, 0, none⟩) 2 2⟩) := lit2 (w := z32) (a := a) (b := b) (x := ⟨xo, xf, xn, .slice sk kn skc⟩) (y := ⟨yo, yf, yn, .slice tk jn tkc⟩) 6 HNS.out.pa HNS.out.pb
                  refine op_value (v := .slice (some ⟨(z32).heap.size, 0, none⟩) 2 2) (w' := ((z32).alloc (.cells #[Value.int IntKind.i64 xo, Value.int IntKind.i64 xf, Value.int IntKind.u16 xn, Value.slice sk kn skc, Value.int IntKind.i64 yo, Value.int IntKind.i64 yf, Value.int IntKind.u16 yn, Value.slice tk jn tkc] 30))) rfl rfl (by go_simp) ?_
                  show anyB Try.prog _ _ _ _ _ _ { tmps := #[_, _, _, _, _, _, _, _, _, _, _, _, _, _, _, _, _, _, _, _, _, _, _, _, _, _, _, _, _, _, _, _, _, _, _, _, _, _, _, _, _, _, _, _, _, _, _, _, _, _, _, _, _, _, _, _, _, _, _, _, _, _, _, _, _, _, _, _, _, _, _, _, _, _, _, _, _, _, _, _, _, _, _, _, _, _, _, _, _, _, _, _, _, _, _, _, _, _, _, _, _, _, _, _, _, _, _, _, _, _, _, _, _, _, _, _, _, _, _, _, _, _, _, _, _, _, _, _, _, _, _, _, Value.slice (some ⟨(z32).heap.size, 0, none⟩) 2 2, _, _, _, _, _, _, _, _], defers := [] } ((z32).alloc (.cells #[Value.int IntKind.i64 xo, Value.int IntKind.i64 xf, Value.int IntKind.u16 xn, Value.slice sk kn skc, Value.int IntKind.i64 yo, Value.int IntKind.i64 yf, Value.int IntKind.u16 yn, Value.slice tk jn tkc] 30))
                  replace HNS := hide (HNS.out.below (W' := ((z32).alloc (.cells #[Value.int IntKind.i64 xo, Value.int IntKind.i64 xf, Value.int IntKind.u16 xn, Value.slice sk kn skc, Value.int IntKind.i64 yo, Value.int IntKind.i64 yf, Value.int IntKind.u16 yn, Value.slice tk jn tkc] 30))) ((Below.refl _ _).alloc (Nat.le_refl _) _))
                  have HL132 := hL
                  clear hL
                  generalize (z32).heap.size = r36 at *
                  generalize ((z32).alloc (.cells #[Value.int IntKind.i64 xo, Value.int IntKind.i64 xf, Value.int IntKind.u16 xn, Value.slice sk kn skc, Value.int IntKind.i64 yo, Value.int IntKind.i64 yf, Value.int IntKind.u16 yn, Value.slice tk jn tkc] 30)) = z36 at *
                  refine anyB_fork (i := 76) (j := 79) HNS.out (by as_aux_lemma => kernel_rfl) ?_ ?_
                  · skip
                    refine op_call (f := 20) (args := #[Value.slice (some ⟨r36, 0, none⟩) 2 2]) rfl rfl (by go_simp) (Calls.mono (seqF _ _ _ _) ?_)
                    rintro e z37 ⟨rfl, hb⟩
                    refine ⟨_, rfl, ?_⟩
                    have HT133 : Hid (PolAt All z37 (seqP [a, b]) ⟨6, 0, 0, Value.slice (some ⟨r36, 0, none⟩) 2 2⟩) := HL132.out.below hb
                    replace HL132 := hide (HL132.out.below hb)
                    replace HNS := hide (HNS.out.below hb)
                    clear hb
                    show anyB Try.prog _ _ _ _ _ _ { tmps := #[_, _, _, _, _, _, _, _, _, _, _, _, _, _, _, _, _, _, _, _, _, _, _, _, _, _, _, _, _, _, _, _, _, _, _, _, _, _, _, _, _, _, _, _, _, _, _, _, _, _, _, _, _, _, _, _, _, _, _, _, _, _, _, _, _, _, _, _, _, _, _, _, _, _, _, _, _, _, _, _, _, _, _, _, _, _, _, _, _, _, _, _, _, _, _, _, _, _, _, _, _, _, _, _, _, _, _, _, _, _, _, _, _, _, _, _, _, _, _, _, _, _, _, _, _, _, _, _, _, _, _, _, _, nv ⟨6, 0, 0, Value.slice (some ⟨r36, 0, none⟩) 2 2⟩, _, _, _, _, _, _, _], defers := [] } _
                    refine anyB_one (i := 79) HNS.out (by as_aux_lemma => kernel_rfl) ?_
                    have hL : Hid (PolAt All ((z37).alloc (.cells #[Value.int IntKind.i64 yo, Value.int IntKind.i64 yf, Value.int IntKind.u16 yn, Value.slice tk jn tkc, Value.int IntKind.i64 xo, Value.int IntKind.i64 xf, Value.int IntKind.u16 xn, Value.slice sk kn skc] 30)) (.mk 6 0 0 [b, a]) ⟨6, 0, 0, .slice (some ⟨(z37).heap.size, 0, none⟩) 2 2⟩) := lit2 (w := z37) (a := b) (b := a) (x := ⟨yo, yf, yn, .slice tk jn tkc⟩) (y := ⟨xo, xf, xn, .slice sk kn skc⟩) 6 HNS.out.pb HNS.out.pa
                    refine op_value (v := .slice (some ⟨(z37).heap.size, 0, none⟩) 2 2) (w' := ((z37).alloc (.cells #[Value.int IntKind.i64 yo, Value.int IntKind.i64 yf, Value.int IntKind.u16 yn, Value.slice tk jn tkc, Value.int IntKind.i64 xo, Value.int IntKind.i64 xf, Value.int IntKind.u16 xn, Value.slice sk kn skc] 30))) rfl rfl (by go_simp) ?_
                    show anyB Try.prog _ _ _ _ _ _ { tmps := #[_, _, _, _, _, _, _, _, _, _, _, _, _, _, _, _, _, _, _, _, _, _, _, _, _, _, _, _, _, _, _, _, _, _, _, _, _, _, _, _, _, _, _, _, _, _, _, _, _, _, _, _, _, _, _, _, _, _, _, _, _, _, _, _, _, _, _, _, _, _, _, _, _, _, _, _, _, _, _, _, _, _, _, _, _, _, _, _, _, _, _, _, _, _, _, _, _, _, _, _, _, _, _, _, _, _, _, _, _, _, _, _, _, _, _, _, _, _, _, _, _, _, _, _, _, _, _, _, _, _, _, _, _, _, _, _, Value.slice (some ⟨(z37).heap.size, 0, none⟩) 2 2, _, _, _, _], defers := [] } ((z37).alloc (.cells #[Value.int IntKind.i64 yo, Value.int IntKind.i64 yf, Value.int IntKind.u16 yn, Value.slice tk jn tkc, Value.int IntKind.i64 xo, Value.int IntKind.i64 xf, Value.int IntKind.u16 xn, Value.slice sk kn skc] 30))
                    replace HL132 : Hid (PolAt All ((z37).alloc (.cells #[Value.int IntKind.i64 yo, Value.int IntKind.i64 yf, Value.int IntKind.u16 yn, Value.slice tk jn tkc, Value.int IntKind.i64 xo, Value.int IntKind.i64 xf, Value.int IntKind.u16 xn, Value.slice sk kn skc] 30)) _ _) := hide (HL132.out.below ((Below.refl _ _).alloc (Nat.le_refl _) _))
                    replace HT133 : Hid (PolAt All ((z37).alloc (.cells #[Value.int IntKind.i64 yo, Value.int IntKind.i64 yf, Value.int IntKind.u16 yn, Value.slice tk jn tkc, Value.int IntKind.i64 xo, Value.int IntKind.i64 xf, Value.int IntKind.u16 xn, Value.slice sk kn skc] 30)) _ _) := hide (HT133.out.below ((Below.refl _ _).alloc (Nat.le_refl _) _))
                    replace HNS := hide (HNS.out.below (W' := ((z37).alloc (.cells #[Value.int IntKind.i64 yo, Value.int IntKind.i64 yf, Value.int IntKind.u16 yn, Value.slice tk jn tkc, Value.int IntKind.i64 xo, Value.int IntKind.i64 xf, Value.int IntKind.u16 xn, Value.slice sk kn skc] 30))) ((Below.refl _ _).alloc (Nat.le_refl _) _))
                    have HL136 := hL
                    clear hL
                    generalize (z37).heap.size = r38 at *
                    generalize ((z37).alloc (.cells #[Value.int IntKind.i64 yo, Value.int IntKind.i64 yf, Value.int IntKind.u16 yn, Value.slice tk jn tkc, Value.int IntKind.i64 xo, Value.int IntKind.i64 xf, Value.int IntKind.u16 xn, Value.slice sk kn skc] 30)) = z38 at *
                    exact anyB_cast (by as_aux_lemma => kernel_rfl) (rest (r36, r36, r38) _ ⟨HNS, HT133, HL132, HL136⟩)
                  · skip
                    have hL : Hid (PolAt All ((z36).alloc (.cells #[Value.int IntKind.i64 yo, Value.int IntKind.i64 yf, Value.int IntKind.u16 yn, Value.slice tk jn tkc, Value.int IntKind.i64 xo, Value.int IntKind.i64 xf, Value.int IntKind.u16 xn, Value.slice sk kn skc] 30)) (.mk 6 0 0 [b, a]) ⟨6, 0, 0, .slice (some ⟨(z36).heap.size, 0, none⟩) 2 2⟩) := lit2 (w := z36) (a := b) (b := a) (x := ⟨yo, yf, yn, .slice tk jn tkc⟩) (y := ⟨xo, xf, xn, .slice sk kn skc⟩) 6 HNS.out.pb HNS.out.pa
                    refine op_value (v := .slice (some ⟨(z36).heap.size, 0, none⟩) 2 2) (w' := ((z36).alloc (.cells #[Value.int IntKind.i64 yo, Value.int IntKind.i64 yf, Value.int IntKind.u16 yn, Value.slice tk jn tkc, Value.int IntKind.i64 xo, Value.int IntKind.i64 xf, Value.int IntKind.u16 xn, Value.slice sk kn skc] 30))) rfl rfl (by go_simp) ?_
                    show anyB Try.prog _ _ _ _ _ _ { tmps := #[_, _, _, _, _, _, _, _, _, _, _, _, _, _, _, _, _, _, _, _, _, _, _, _, _, _, _, _, _, _, _, _, _, _, _, _, _, _, _, _, _, _, _, _, _, _, _, _, _, _, _, _, _, _, _, _, _, _, _, _, _, _, _, _, _, _, _, _, _, _, _, _, _, _, _, _, _, _, _, _, _, _, _, _, _, _, _, _, _, _, _, _, _, _, _, _, _, _, _, _, _, _, _, _, _, _, _, _, _, _, _, _, _, _, _, _, _, _, _, _, _, _, _, _, _, _, _, _, _, _, _, _, _, _, _, _, Value.slice (some ⟨(z36).heap.size, 0, none⟩) 2 2, _, _, _, _], defers := [] } ((z36).alloc (.cells #[Value.int IntKind.i64 yo, Value.int IntKind.i64 yf, Value.int IntKind.u16 yn, Value.slice tk jn tkc, Value.int IntKind.i64 xo, Value.int IntKind.i64 xf, Value.int IntKind.u16 xn, Value.slice sk kn skc] 30))
                    replace HL132 : Hid (PolAt All ((z36).alloc (.cells #[Value.int IntKind.i64 yo, Value.int IntKind.i64 yf, Value.int IntKind.u16 yn, Value.slice tk jn tkc, Value.int IntKind.i64 xo, Value.int IntKind.i64 xf, Value.int IntKind.u16 xn, Value.slice sk kn skc] 30)) _ _) := hide (HL132.out.below ((Below.refl _ _).alloc (Nat.le_refl _) _))
                    replace HNS := hide (HNS.out.below (W' := ((z36).alloc (.cells #[Value.int IntKind.i64 yo, Value.int IntKind.i64 yf, Value.int IntKind.u16 yn, Value.slice tk jn tkc, Value.int IntKind.i64 xo, Value.int IntKind.i64 xf, Value.int IntKind.u16 xn, Value.slice sk kn skc] 30))) ((Below.refl _ _).alloc (Nat.le_refl _) _))
                    have HL136 := hL
                    clear hL
                    generalize (z36).heap.size = r39 at *
                    generalize ((z36).alloc (.cells #[Value.int IntKind.i64 yo, Value.int IntKind.i64 yf, Value.int IntKind.u16 yn, Value.slice tk jn tkc, Value.int IntKind.i64 xo, Value.int IntKind.i64 xf, Value.int IntKind.u16 xn, Value.slice sk kn skc] 30)) = z39 at *
                    refine anyB_one (i := 76) HNS.out (by as_aux_lemma => kernel_rfl) ?_
                    refine op_call (f := 20) (args := #[Value.slice (some ⟨r36, 0, none⟩) 2 2]) rfl rfl (by go_simp) (Calls.mono (seqF _ _ _ _) ?_)
                    rintro e z40 ⟨rfl, hb⟩
                    refine ⟨_, rfl, ?_⟩
                    have HT133 : Hid (PolAt All z40 (seqP [a, b]) ⟨6, 0, 0, Value.slice (some ⟨r36, 0, none⟩) 2 2⟩) := HL132.out.below hb
                    replace HL132 := hide (HL132.out.below hb)
                    replace HL136 := hide (HL136.out.below hb)
                    replace HNS := hide (HNS.out.below hb)
                    clear hb
                    show anyB Try.prog _ _ _ _ _ _ { tmps := #[_, _, _, _, _, _, _, _, _, _, _, _, _, _, _, _, _, _, _, _, _, _, _, _, _, _, _, _, _, _, _, _, _, _, _, _, _, _, _, _, _, _, _, _, _, _, _, _, _, _, _, _, _, _, _, _, _, _, _, _, _, _, _, _, _, _, _, _, _, _, _, _, _, _, _, _, _, _, _, _, _, _, _, _, _, _, _, _, _, _, _, _, _, _, _, _, _, _, _, _, _, _, _, _, _, _, _, _, _, _, _, _, _, _, _, _, _, _, _, _, _, _, _, _, _, _, _, _, _, _, _, _, _, nv ⟨6, 0, 0, Value.slice (some ⟨r36, 0, none⟩) 2 2⟩, _, _, _, _, _, _, _], defers := [] } _
                    exact anyB_cast (by as_aux_lemma => kernel_rfl) (rest (r36, r36, r39) _ ⟨HNS, HT133, HL132, HL136⟩)
                · skip
                  have hL : Hid (PolAt All ((z32).alloc (.cells #[Value.int IntKind.i64 yo, Value.int IntKind.i64 yf, Value.int IntKind.u16 yn, Value.slice tk jn tkc, Value.int IntKind.i64 xo, Value.int IntKind.i64 xf, Value.int IntKind.u16 xn, Value.slice sk kn skc] 30)) (.mk 6 0 0 [b, a]) ⟨6, 0, 0, .slice (some ⟨(z32).heap.size, 0, none⟩) 2 2⟩) := lit2 (w := z32) (a := b) (b := a) (x := ⟨yo, yf, yn, .slice tk jn tkc⟩) (y := ⟨xo, xf, xn, .slice sk kn skc⟩) 6 HNS.out.pb HNS.out.pa
                  refine op_value (v := .slice (some ⟨(z32).heap.size, 0, none⟩) 2 2) (w' := ((z32).alloc (.cells #[Value.int IntKind.i64 yo, Value.int IntKind.i64 yf, Value.int IntKind.u16 yn, Value.slice tk jn tkc, Value.int IntKind.i64 xo, Value.int IntKind.i64 xf, Value.int IntKind.u16 xn, Value.slice sk kn skc] 30))) rfl rfl (by go_simp) ?_
                  show anyB Try.prog _ _ _ _ _ _ { tmps := #[_, _, _, _, _, _, _, _, _, _, _, _, _, _, _, _, _, _, _, _, _, _, _, _, _, _, _, _, _, _, _, _, _, _, _, _, _, _, _, _, _, _, _, _, _, _, _, _, _, _, _, _, _, _, _, _, _, _, _, _, _, _, _, _, _, _, _, _, _, _, _, _, _, _, _, _, _, _, _, _, _, _, _, _, _, _, _, _, _, _, _, _, _, _, _, _, _, _, _, _, _, _, _, _, _, _, _, _, _, _, _, _, _, _, _, _, _, _, _, _, _, _, _, _, _, _, _, _, _, _, _, _, _, _, _, _, Value.slice (some ⟨(z32).heap.size, 0, none⟩) 2 2, _, _, _, _], defers := [] } ((z32).alloc (.cells #[Value.int IntKind.i64 yo, Value.int IntKind.i64 yf, Value.int IntKind.u16 yn, Value.slice tk jn tkc, Value.int IntKind.i64 xo, Value.int IntKind.i64 xf, Value.int IntKind.u16 xn, Value.slice sk kn skc] 30))
                  replace HNS := hide (HNS.out.below (W' := ((z32).alloc (.cells #[Value.int IntKind.i64 yo, Value.int IntKind.i64 yf, Value.int IntKind.u16 yn, Value.slice tk jn tkc, Value.int IntKind.i64 xo, Value.int IntKind.i64 xf, Value.int IntKind.u16 xn, Value.slice sk kn skc] 30))) ((Below.refl _ _).alloc (Nat.le_refl _) _))
                  have HL136 := hL
                  clear hL
                  generalize (z32).heap.size = r41 at *
                  generalize ((z32).alloc (.cells #[Value.int IntKind.i64 yo, Value.int IntKind.i64 yf, Value.int IntKind.u16 yn, Value.slice tk jn tkc, Value.int IntKind.i64 xo, Value.int IntKind.i64 xf, Value.int IntKind.u16 xn, Value.slice sk kn skc] 30)) = z41 at *
                  refine anyB_one (i := 75) HNS.out (by as_aux_lemma => kernel_rfl) ?_
                  have hL : Hid (PolAt All ((z41).alloc (.cells #[Value.int IntKind.i64 xo, Value.int IntKind.i64 xf, Value.int IntKind.u16 xn, Value.slice sk kn skc, Value.int IntKind.i64 yo, Value.int IntKind.i64 yf, Value.int IntKind.u16 yn, Value.slice tk jn tkc] 30)) (.mk 6 0 0 [a, b]) ⟨6, 0, 0, .slice (some ⟨(z41).heap.size, 0, none⟩) 2 2⟩) := lit2 (w := z41) (a := a) (b := b) (x := ⟨xo, xf, xn, .slice sk kn skc⟩) (y := ⟨yo, yf, yn, .slice tk jn tkc⟩) 6 HNS.out.pa HNS.out.pb
                  refine op_value (v := .slice (some ⟨(z41).heap.size, 0, none⟩) 2 2) (w' := ((z41).alloc (.cells #[Value.int IntKind.i64 xo, Value.int IntKind.i64 xf, Value.int IntKind.u16 xn, Value.slice sk kn skc, Value.int IntKind.i64 yo, Value.int IntKind.i64 yf, Value.int IntKind.u16 yn, Value.slice tk jn tkc] 30))) rfl rfl (by go_simp) ?_
                  show anyB Try.prog _ _ _ _ _ _ { tmps := #[_, _, _, _, _, _, _, _, _, _, _, _, _, _, _, _, _, _, _, _, _, _, _, _, _, _, _, _, _, _, _, _, _, _, _, _, _, _, _, _, _, _, _, _, _, _, _, _, _, _, _, _, _, _, _, _, _, _, _, _, _, _, _, _, _, _, _, _, _, _, _, _, _, _, _, _, _, _, _, _, _, _, _, _, _, _, _, _, _, _, _, _, _, _, _, _, _, _, _, _, _, _, _, _, _, _, _, _, _, _, _, _, _, _, _, _, _, _, _, _, _, _, _, _, _, _, _, _, _, _, _, _, Value.slice (some ⟨(z41).heap.size, 0, none⟩) 2 2, _, _, _, _, _, _, _, _], defers := [] } ((z41).alloc (.cells #[Value.int IntKind.i64 xo, Value.int IntKind.i64 xf, Value.int IntKind.u16 xn, Value.slice sk kn skc, Value.int IntKind.i64 yo, Value.int IntKind.i64 yf, Value.int IntKind.u16 yn, Value.slice tk jn tkc] 30))
                  replace HL136 : Hid (PolAt All ((z41).alloc (.cells #[Value.int IntKind.i64 xo, Value.int IntKind.i64 xf, Value.int IntKind.u16 xn, Value.slice sk kn skc, Value.int IntKind.i64 yo, Value.int IntKind.i64 yf, Value.int IntKind.u16 yn, Value.slice tk jn tkc] 30)) _ _) := hide (HL136.out.below ((Below.refl _ _).alloc (Nat.le_refl _) _))
                  replace HNS := hide (HNS.out.below (W' := ((z41).alloc (.cells #[Value.int IntKind.i64 xo, Value.int IntKind.i64 xf, Value.int IntKind.u16 xn, Value.slice sk kn skc, Value.int IntKind.i64 yo, Value.int IntKind.i64 yf, Value.int IntKind.u16 yn, Value.slice tk jn tkc] 30))) ((Below.refl _ _).alloc (Nat.le_refl _) _))
                  have HL132 := hL
                  clear hL
                  generalize (z41).heap.size = r42 at *
                  generalize ((z41).alloc (.cells #[Value.int IntKind.i64 xo, Value.int IntKind.i64 xf, Value.int IntKind.u16 xn, Value.slice sk kn skc, Value.int IntKind.i64 yo, Value.int IntKind.i64 yf, Value.int IntKind.u16 yn, Value.slice tk jn tkc] 30)) = z42 at *
                  refine anyB_one (i := 76) HNS.out (by as_aux_lemma => kernel_rfl) ?_
                  refine op_call (f := 20) (args := #[Value.slice (some ⟨r42, 0, none⟩) 2 2]) rfl rfl (by go_simp) (Calls.mono (seqF _ _ _ _) ?_)
                  rintro e z43 ⟨rfl, hb⟩
                  refine ⟨_, rfl, ?_⟩
                  have HT133 : Hid (PolAt All z43 (seqP [a, b]) ⟨6, 0, 0, Value.slice (some ⟨r42, 0, none⟩) 2 2⟩) := HL132.out.below hb
                  replace HL136 := hide (HL136.out.below hb)
                  replace HL132 := hide (HL132.out.below hb)
                  replace HNS := hide (HNS.out.below hb)
                  clear hb
                  show anyB Try.prog _ _ _ _ _ _ { tmps := #[_, _, _, _, _, _, _, _, _, _, _, _, _, _, _, _, _, _, _, _, _, _, _, _, _, _, _, _, _, _, _, _, _, _, _, _, _, _, _, _, _, _, _, _, _, _, _, _, _, _, _, _, _, _, _, _, _, _, _, _, _, _, _, _, _, _, _, _, _, _, _, _, _, _, _, _, _, _, _, _, _, _, _, _, _, _, _, _, _, _, _, _, _, _, _, _, _, _, _, _, _, _, _, _, _, _, _, _, _, _, _, _, _, _, _, _, _, _, _, _, _, _, _, _, _, _, _, _, _, _, _, _, _, nv ⟨6, 0, 0, Value.slice (some ⟨r42, 0, none⟩) 2 2⟩, _, _, _, _, _, _, _], defers := [] } _
                  exact anyB_cast (by as_aux_lemma => kernel_rfl) (rest (r42, r42, r41) _ ⟨HNS, HT133, HL132, HL136⟩)
              rintro ⟨p132, p133, p136⟩ z44 ⟨HNS, HT133, HL132, HL136⟩
              show anyB Try.prog _ _ _ _ _ _ { tmps := #[_, _, _, _, _, _, _, _, _, _, _, _, _, _, _, _, _, _, _, _, _, _, _, _, _, _, _, _, _, _, _, _, _, _, _, _, _, _, _, _, _, _, _, _, _, _, _, _, _, _, _, _, _, _, _, _, _, _, _, _, _, _, _, _, _, _, _, _, _, _, _, _, _, _, _, _, _, _, _, _, _, _, _, _, _, _, _, _, _, _, _, _, _, _, _, _, _, _, _, _, _, _, _, _, _, _, _, _, _, _, _, _, _, _, _, _, _, _, _, _, _, _, _, _, _, _, _, _, _, _, _, _, Value.slice (some ⟨p132, 0, none⟩) 2 2, nv ⟨6, 0, 0, Value.slice (some ⟨p133, 0, none⟩) 2 2⟩, _, _, Value.slice (some ⟨p136, 0, none⟩) 2 2, _, _, _, _], defers := [] } _
              refine anyB_one (i := 80) HNS.out (by as_aux_lemma => kernel_rfl) ?_
              refine op_call (f := 20) (args := #[Value.slice (some ⟨p136, 0, none⟩) 2 2]) rfl rfl (by go_simp) (Calls.mono (seqF _ _ _ _) ?_)
              rintro e z45 ⟨rfl, hb⟩
              refine ⟨_, rfl, ?_⟩
              have HT137 : Hid (PolAt All z45 (seqP [b, a]) ⟨6, 0, 0, Value.slice (some ⟨p136, 0, none⟩) 2 2⟩) := HL136.out.below hb
              replace HL132 := hide (HL132.out.below hb)
              replace HL136 := hide (HL136.out.below hb)
              replace HT133 := hide (HT133.out.below hb)
              replace HNS := hide (HNS.out.below hb)
              clear hb
              show anyB Try.prog _ _ _ _ _ _ { tmps := #[_, _, _, _, _, _, _, _, _, _, _, _, _, _, _, _, _, _, _, _, _, _, _, _, _, _, _, _, _, _, _, _, _, _, _, _, _, _, _, _, _, _, _, _, _, _, _, _, _, _, _, _, _, _, _, _, _, _, _, _, _, _, _, _, _, _, _, _, _, _, _, _, _, _, _, _, _, _, _, _, _, _, _, _, _, _, _, _, _, _, _, _, _, _, _, _, _, _, _, _, _, _, _, _, _, _, _, _, _, _, _, _, _, _, _, _, _, _, _, _, _, _, _, _, _, _, _, _, _, _, _, _, _, _, _, _, _, nv ⟨6, 0, 0, Value.slice (some ⟨p136, 0, none⟩) 2 2⟩, _, _, _], defers := [] } _
              have hl := lit2 (w := z45) (a := (seqP [a, b])) (b := (seqP [b, a])) (x := ⟨6, 0, 0, Value.slice (some ⟨p133, 0, none⟩) 2 2⟩) (y := ⟨6, 0, 0, Value.slice (some ⟨p136, 0, none⟩) 2 2⟩) 7 HT133.out HT137.out
              refine anyB_one (i := 81) HNS.out (by as_aux_lemma => kernel_rfl) (op_value (v := .slice (some ⟨(z45).heap.size, 0, none⟩) 2 2) (w' := (z45).alloc (.cells #[Value.int IntKind.i64 6, Value.int IntKind.i64 0, Value.int IntKind.u16 0, Value.slice (some ⟨p133, 0, none⟩) 2 2, Value.int IntKind.i64 6, Value.int IntKind.i64 0, Value.int IntKind.u16 0, Value.slice (some ⟨p136, 0, none⟩) 2 2] 30)) rfl rfl (by go_simp) ?_)
              show anyB Try.prog _ _ _ _ _ _ { tmps := #[_, _, _, _, _, _, _, _, _, _, _, _, _, _, _, _, _, _, _, _, _, _, _, _, _, _, _, _, _, _, _, _, _, _, _, _, _, _, _, _, _, _, _, _, _, _, _, _, _, _, _, _, _, _, _, _, _, _, _, _, _, _, _, _, _, _, _, _, _, _, _, _, _, _, _, _, _, _, _, _, _, _, _, _, _, _, _, _, _, _, _, _, _, _, _, _, _, _, _, _, _, _, _, _, _, _, _, _, _, _, _, _, _, _, _, _, _, _, _, _, _, _, _, _, _, _, _, _, _, _, _, _, _, _, _, _, _, _, Value.slice (some ⟨(z45).heap.size, 0, none⟩) 2 2, _, _], defers := [] } _
              have cL := alike_any st (.slice ss SL ssc) HM.out q HQ.out [(seqP [a, b]), (seqP [b, a])] _ _ (HNS.out.st.below ((Below.refl _ _).alloc (Nat.le_refl _) _)) hl (by simp) (fun p hp => by
                simp only [List.mem_cons, List.not_mem_nil, or_false] at hp
                rcases hp with rfl | rfl
                · exact PrdOK.fit (PrdOK.seq HPPa.out HPPb.out) st (by decide) (by decide)
                · exact PrdOK.fit (PrdOK.seq HPPb.out HPPa.out) st (by decide) (by decide)) (chain2 (nots7 q (HPPa.out.lets st) (HPPb.out.lets st)))
              refine anyB_one (i := 82) (HNS.out.below ((Below.refl _ _).alloc (Nat.le_refl _) _)) (by as_aux_lemma => kernel_rfl) (op_call (f := 18) (args := #[Value.slice ss SL ssc, q.v, Value.slice (some ⟨(z45).heap.size, 0, none⟩) 2 2]) rfl rfl (by go_simp) (Calls.mono cL ?_))
              rintro e z46 ⟨rfl, hb⟩
              refine ⟨_, rfl, ?_⟩
              have hbb : Below (z45).heap.size (z45) z46 := ((Below.refl _ _).alloc (Nat.le_refl _) _).trans (hb.mono (by simp))
              clear hl cL HT133 HT137 HL132 HL136
              replace HNS := hide (HNS.out.below hbb)
              clear hb hbb
              generalize (z45).heap.size = r46 at *
              show anyB Try.prog _ _ _ _ _ _ { tmps := #[_, _, _, _, _, _, _, _, _, _, _, _, _, _, _, _, _, _, _, _, _, _, _, _, _, _, _, _, _, _, _, _, _, _, _, _, _, _, _, _, _, _, _, _, _, _, _, _, _, _, _, _, _, _, _, _, _, _, _, _, _, _, _, _, _, _, _, _, _, _, _, _, _, _, _, _, _, _, _, _, _, _, _, _, _, _, _, _, _, _, _, _, _, _, _, _, _, _, _, _, _, _, _, _, _, _, _, _, _, _, _, _, _, _, _, _, _, _, _, _, _, _, _, _, _, _, _, _, _, _, _, _, _, _, _, _, _, _, _, Value.bool true, _], defers := [] } _
              refine anyB_take (i := 83) (Value.bool true) rfl (by as_aux_lemma => kernel_rfl) (by as_aux_lemma => kernel_rfl) (by as_aux_lemma => kernel_rfl) (fun c a w h => h) (.inl ⟨rfl, fun w' hw' => rfl⟩) ?_
              show anyB Try.prog _ _ _ _ _ _ { tmps := #[_, _, _, _, _, _, _, _, _, _, _, _, _, _, _, _, _, _, _, _, _, _, _, _, _, _, _, _, _, _, _, _, _, _, _, _, _, _, _, _, _, _, _, _, _, _, _, _, _, _, _, _, _, _, _, _, _, _, _, _, _, _, _, _, _, _, _, _, _, _, _, _, _, _, _, _, _, _, _, _, _, _, _, _, _, _, _, _, _, _, _, _, _, _, _, _, _, _, _, _, _, _, _, _, _, _, _, _, _, _, _, _, _, _, _, _, _, _, _, _, _, _, _, _, _, _, _, _, _, _, _, _, _, _, _, _, _, _, _, _, Value.bool true], defers := [] } _
              refine anyB_take (i := 84) (Value.bool true) rfl (by as_aux_lemma => kernel_rfl) (by as_aux_lemma => kernel_rfl) (by as_aux_lemma => kernel_rfl) (fun c a w h => h) (.inl ⟨rfl, fun w' hw' => rfl⟩) ?_
              show anyB Try.prog _ _ _ _ _ _ { tmps := #[_, _, _, _, _, _, Value.bool true, _, _, _, _, _, _, _, _, _, _, _, _, _, _, _, _, _, _, _, _, _, _, _, _, _, _, _, _, _, _, _, _, _, _, _, _, _, _, _, _, _, _, _, _, _, _, _, _, _, _, _, _, _, _, _, _, _, _, _, _, _, _, _, _, _, _, _, _, _, _, _, _, _, _, _, _, _, _, _, _, _, _, _, _, _, _, _, _, _, _, _, _, _, _, _, _, _, _, _, _, _, _, _, _, _, _, _, _, _, _, _, _, _, _, _, _, _, _, _, _, _, _, _, _, _, _, _, _, _, _, _, _, _, _], defers := [] } _
              refine anyB_done HNS.out (by as_aux_lemma => kernel_rfl) ?_
              have HE := hide HNS.out.bel
              clear HNS
              go_wp2
              go_ret
              exact ⟨rfl, HE.out⟩
end Go.Proofs.Ytipiepcbgjceaaa

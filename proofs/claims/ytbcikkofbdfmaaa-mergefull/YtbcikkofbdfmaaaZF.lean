/- The law MergeRight, walked: any table, any tag, any packet. -/
import Derived.Test.YtbcikkofbdfmaaaZE
set_option linter.unusedVariables false
set_option linter.unusedSimpArgs false
namespace Go.Proofs.Ytbcikkofbdfmaaa
open Go.RowKit Go.Joins Go.Sort

set_option maxRecDepth 100000 in
set_option maxHeartbeats 8000000 in
theorem mri_any (x y : Value) (t : Tab) (k : Nat) (hk : k ≤ 65535) (q : P8) (w : World) (h : TabAt w x y t) : Calls Try.prog 4 #[tv x y, .int .u16 (k : Int), q.v] w fun e w' => e = .returned (.bool true) ∧ Below w.heap.size w w' := by
  have HB0 : Hid (Below w.heap.size w ((w.alloc (tob x y)).alloc (pob q))) := two_below w _ _
  have HX0 : Hid (((w.alloc (tob x y)).alloc (pob q)).heap[w.heap.size]? = some (tob x y)) := (((Below.refl _ _).alloc (Nat.le_refl _) (pob q)).block _ (heap_lt (heap_alloc_new w (tob x y)))).trans (heap_alloc_new w (tob x y))
  have HQ0 : Hid (((w.alloc (tob x y)).alloc (pob q)).heap[w.heap.size + 1]? = some (pob q)) := by
    have h2 := heap_alloc_new (w.alloc (tob x y)) (pob q)
    rwa [alloc_size] at h2
  have cA := hid (awake_any ((w.alloc (tob x y)).alloc (pob q)))
  have HT := hid h
  obtain ⟨⟨sa, sc, rfl, hl, hc⟩, ⟨ta, tc, rfl, hm, hd⟩⟩ := h
  obtain ⟨R, hR⟩ : ∃ R, t.n.length = R := ⟨_, rfl⟩
  obtain ⟨S, hS⟩ : ∃ R, t.l.length = R := ⟨_, rfl⟩
  have HR := hid hR
  have HS := hid hS
  rw [hR] at hl cA HX0 HQ0 HB0 HT ⊢
  rw [hS] at hm cA HX0 HQ0 HB0 HT ⊢
  have HC := hid hc
  have HD := hid hd
  clear hc hd hR hS
  go_enter Try.func4, Try.ntmps4
  go_wp2_with fail
  refine cA.out.mono ?_
  rintro e w1 ⟨rfl, hb1⟩
  have HB1 := hid (HB0.out.trans (hb1.mono HB0.out.size))
  have HX1 := hid ((hb1.block _ (heap_lt HX0.out)).trans HX0.out)
  have HQ1 := hid ((hb1.block _ (heap_lt HQ0.out)).trans HQ0.out)
  have HT1 := hid (tab_below HT.out HB1.out)
  have cF := hid (few10_any _ t.l w1 HT1.out.2)
  clear cA hb1 HB0 HX0 HQ0
  obtain ⟨b0, b1⟩ := row2 HX1.out
  by_cases h20 : 20 < R
  · have d20 : decide ((20 : Int) < (R : Int)) = true := by simp; omega
    clear cF
    go_wp2
    go_ret
    exact ⟨rfl, HB1.out⟩
  have d20 : decide ((20 : Int) < (R : Int)) = false := by simp; omega
  cases hq : few10 t.l with
  | false =>
    rw [hq] at cF
    clear hq
    go_wp2_with fail
    refine cF.out.mono ?_
    rintro e w2 ⟨rfl, hb2⟩
    have HB2 := hid (HB1.out.trans (hb2.mono HB1.out.size))
    clear cF hb2 b0 b1
    go_wp2
    go_ret
    exact ⟨rfl, HB2.out⟩
  | true =>
    obtain ⟨hT12, hTX⟩ := few_parts hq
    have HTX := hid hTX
    have HLi : Hid (∀ X ∈ t.l, X.length ≤ 1000) := fun X hX => Nat.le_trans (hTX X hX).1 (by decide)
    have hacts : ∀ X ∈ t.l, ∀ r ∈ X, r.a.length ≤ 500 := fun X hX r hr => Nat.le_trans ((hTX X hX).2 r hr) (by decide)
    have HAc := hid hacts
    rw [hq] at cF
    clear hq hTX hacts
    have hw16 : IntKind.i64.wrap (k : Int) = (k : Int) := wr64 _ (by omega) (by omega)
    go_wp2_with fail
    refine cF.out.mono ?_
    rintro e w2 ⟨rfl, hb2⟩
    have HB2 := hid (HB1.out.trans (hb2.mono HB1.out.size))
    have HX2 := hid ((hb2.block _ (heap_lt HX1.out)).trans HX1.out)
    have HQ2 := hid ((hb2.block _ (heap_lt HQ1.out)).trans HQ1.out)
    have HT2 := hid (tab_below HT1.out hb2)
    have cK := hid (look11_any _ _ t k hk q HAc.out w2 HT2.out)
    clear cF hb2 b0 b1 HB1 HX1 HQ1 HT1
    obtain ⟨b0, b1⟩ := row2 HX2.out
    obtain ⟨⟨r0, r1, r2, r3, r4, r5, r6, r7⟩, -, -⟩ := row8 HQ2.out
    have HCo : Hid (∀ o, listM t k = o → True) := fun _ _ => trivial
    cases hlm : listM t k with
    | none =>
      rw [hlm] at cK
      have HLM := hid hlm
      clear hlm
      go_wp2_with fail
      refine cK.out.mono ?_
      rintro e w3 ⟨he, hb3⟩
      obtain rfl : e = .returned (.tuple #[.slice none 0 0, .int .i64 31]) := he
      have HB3 := hid (HB2.out.trans (hb3.mono HB2.out.size))
      have HX3 := hid ((hb3.block _ (heap_lt HX2.out)).trans HX2.out)
      have HT3 := hid (tab_below HT2.out hb3)
      clear cK hb3 b0 b1 r0 r1 r2 r3 r4 r5 r6 r7 HB2 HX2 HQ2 HT2
      obtain ⟨b0, b1⟩ := row2 HX3.out
      have s0 := cell_regrown b0
      have s1 := cell_regrown b1
      have c12 : Hid (∀ d os, Calls Try.prog 12 #[tv (.slice sa R sc) (.slice ta S tc)] (grow (redrawn w3 d) os) fun e w'' => e = .returned (.bool (rRight t)) ∧ ∃ p : Regrown, w'' = grow (redrawn w3 p.d) p.os) := fun d os => Calls.regrown_of (right12_any _ _ t (by rw [HR.out]; omega) HLi.out _ (tab_below HT3.out (below_regrown w3 d os)))
      have c17 : Hid (∀ d os, Calls Try.prog 17 #[tv (.slice sa R sc) (.slice ta S tc)] (grow (redrawn w3 d) os) fun e w'' => e = .returned (.bool (rRight t)) ∧ ∃ p : Regrown, w'' = grow (redrawn w3 p.d) p.os) := fun d os => Calls.regrown_of (rright10_any _ _ t (by rw [HR.out]; omega) HLi.out _ (tab_below HT3.out (below_regrown w3 d os)))
      generalize rRight t = rt at *
      clear b0 b1
      have drt : (rt != rt) = false := by simp
      go_wp2_with fail
      refine wp_region_quiet_below (by kernel_rfl) (by kernel_rfl) ?_
      repeat (go_big_quiet_step (first | (go_at_call 12; exact c12.out _ _) | (go_at_call 17; exact c17.out _ _)))
      refine wpQuiet_nil ?_
      intro _ hw'
      obtain ⟨⟨dq, osq⟩, hw''⟩ := hw'
      subst hw''
      have HB4 := hid (HB3.out.trans ((below_regrown w3 dq osq).mono HB3.out.size))
      have HX4 := hid (((below_regrown w3 dq osq).block _ (heap_lt HX3.out)).trans HX3.out)
      clear c12 c17 s0 s1 HT3 HX3 HB3
      generalize (grow (redrawn w3 dq) osq) = W at *
      obtain ⟨b0, b1⟩ := row2 HX4.out
      by_cases hkR : R ≤ k
      · go_wp2_with fail
        go_quiet (fail)
        have HB5 := hid (below_drewN HB4.out nq)
        clear b0 b1
        go_wp2
        go_ret
        exact ⟨rfl, HB5.out⟩
      · have hkL : k < t.n.length := by rw [HR.out]; omega
        have hkR3 : k < R := by omega
        have hkR2 : (k : Int) < (R : Int) := by omega
        obtain ⟨b, off, rfl, hb, hu⟩ := HC.out k hkL
        have a0 := (HB4.out.cell (p := ⟨b, off + k, none⟩) hb).trans hu
        have HN : Hid (okI t t.n[k] = true → listM t k = some (atI t t.n[k])) := fun e => listM_some hkL e
        generalize t.n[k] = n at *
        clear hu
        by_cases h0 : n < 0
        · have d0 : decide (n < 0) = true := by simp; omega
          clear h0
          go_wp2_with fail
          go_quiet (fail)
          have HB5 := hid (below_drewN HB4.out nq)
          clear b0 b1 a0
          go_wp2
          go_ret
          exact ⟨rfl, HB5.out⟩
        · have d0 : decide (n < 0) = false := by simp; omega
          obtain ⟨j, rfl⟩ := Int.eq_ofNat_of_zero_le (show 0 ≤ n by omega)
          by_cases h1 : S ≤ j
          · have h9 : ¬ ((j : Int) < 0) := by omega
            clear h0 d0
            go_wp2_with fail
            go_quiet (fail)
            have HB5 := hid (below_drewN HB4.out nq)
            clear b0 b1 a0
            go_wp2
            go_ret
            exact ⟨rfl, HB5.out⟩
          · exfalso
            have h9 := HN.out (by unfold okI; rw [HS.out, decide_eq_true (show (0:Int) ≤ (j : Int) by omega), decide_eq_true (show (j : Int) < (S : Int) by omega)]; rfl)
            rw [HLM.out] at h9
            cases h9
    | some X =>
      have HLM := hid hlm
      have hkR3 : k < R := by
        rcases Nat.lt_or_ge k R with h9 | h9
        · exact h9
        · unfold listM at hlm
          rw [List.getElem?_eq_none (by rw [HR.out]; exact h9)] at hlm
          cases hlm
      have hkL : k < t.n.length := by rw [HR.out]; exact hkR3
      have hok : okI t t.n[k] = true := by
        cases h9 : okI t t.n[k] with
        | true => rfl
        | false => rw [listM_none hkL h9] at hlm; cases hlm
      have hX : atI t t.n[k] = X := by
        rw [listM_some hkL hok] at hlm
        injection hlm
      rw [hlm] at cK
      clear hlm
      obtain ⟨b, off, rfl, hb, hu0⟩ := HC.out k hkL
      generalize t.n[k] = n at *
      unfold okI at hok
      rw [Bool.and_eq_true, decide_eq_true_eq, decide_eq_true_eq, HS.out] at hok
      obtain ⟨hn0, hn1⟩ := hok
      obtain ⟨j, rfl⟩ := Int.eq_ofNat_of_zero_le hn0
      have hjS : j < S := by omega
      have hjT : j < t.l.length := by rw [HS.out]; exact hjS
      have hX2 : t.l[j] = X := by
        rw [← hX]
        unfold atI
        rw [Int.toNat_natCast, List.getD_eq_getElem?_getD, List.getElem?_eq_getElem hjT]
        rfl
      obtain ⟨b', off', rfl, hb', u, hu0', hp0⟩ := HD.out j hjT
      have HAX : Hid (∀ r ∈ t.l[j], r.a.length ≤ 40) := (HTX.out _ (List.getElem_mem hjT)).2
      rw [hX2] at hp0 HAX
      have HU : Hid (∀ W, Below w.heap.size w W → (W.cell? ⟨b, off + k, none⟩ = some (.int .i64 (j : Int)) ∧ W.cell? ⟨b', off' + j, none⟩ = some u) ∧ RowsAt W u X) := fun W hW => ⟨⟨(hW.cell (p := ⟨b, off + k, none⟩) hb).trans hu0, (hW.cell (p := ⟨b', off' + j, none⟩) hb').trans hu0'⟩, hp0.below hW⟩
      obtain ⟨ua, uc, hue, -⟩ := hp0.form
      obtain ⟨xl, hxl⟩ : ∃ xl, X.length = xl := ⟨_, rfl⟩
      rw [hxl] at hue
      subst hue
      clear hu0 hu0' hp0 hX hX2 hjT hkL hxl hn0
      have hnk : ¬ R ≤ k := by omega
      have hnS : ¬ S ≤ j := by omega
      go_wp2_with fail
      refine cK.out.mono ?_
      rintro e w3 ⟨⟨u1, rfl, hp1⟩, hb3⟩
      have HB3 := hid (HB2.out.trans (hb3.mono HB2.out.size))
      have HX3 := hid ((hb3.block _ (heap_lt HX2.out)).trans HX2.out)
      have HQ3 := hid ((hb3.block _ (heap_lt HQ2.out)).trans HQ2.out)
      have HT3 := hid (tab_below HT2.out hb3)
      have HP3 := hid hp1
      clear cK hb3 b0 b1 r0 r1 r2 r3 r4 r5 r6 r7 HB2 HX2 HQ2 HT2 hp1
      obtain ⟨b0, b1⟩ := row2 HX3.out
      have s0 := cell_regrown b0
      have s1 := cell_regrown b1
      have c12 : Hid (∀ d os, Calls Try.prog 12 #[tv (.slice (some ⟨b, off, none⟩) R sc) (.slice (some ⟨b', off', none⟩) S tc)] (grow (redrawn w3 d) os) fun e w'' => e = .returned (.bool (rRight t)) ∧ ∃ p : Regrown, w'' = grow (redrawn w3 p.d) p.os) := fun d os => Calls.regrown_of (right12_any _ _ t (by rw [HR.out]; omega) HLi.out _ (tab_below HT3.out (below_regrown w3 d os)))
      have c17 : Hid (∀ d os, Calls Try.prog 17 #[tv (.slice (some ⟨b, off, none⟩) R sc) (.slice (some ⟨b', off', none⟩) S tc)] (grow (redrawn w3 d) os) fun e w'' => e = .returned (.bool (rRight t)) ∧ ∃ p : Regrown, w'' = grow (redrawn w3 p.d) p.os) := fun d os => Calls.regrown_of (rright10_any _ _ t (by rw [HR.out]; omega) HLi.out _ (tab_below HT3.out (below_regrown w3 d os)))
      generalize rRight t = rt at *
      clear b0 b1
      have drt : (rt != rt) = false := by simp
      go_wp2_with fail
      refine wp_region_quiet_below (by kernel_rfl) (by kernel_rfl) ?_
      repeat (go_big_quiet_step (first | (go_at_call 12; exact c12.out _ _) | (go_at_call 17; exact c17.out _ _)))
      refine wpQuiet_nil ?_
      intro _ hw'
      obtain ⟨⟨dq, osq⟩, hw''⟩ := hw'
      subst hw''
      have HBq := hid (below_regrown w3 dq osq)
      have HB4 := hid (HB3.out.trans (HBq.out.mono HB3.out.size))
      have HX4 := hid ((HBq.out.block _ (heap_lt HX3.out)).trans HX3.out)
      have HQ4 := hid ((HBq.out.block _ (heap_lt HQ3.out)).trans HQ3.out)
      have HP4 := hid (HP3.out.below HBq.out)
      clear c12 c17 s0 s1 HT3 HX3 HB3 HQ3 HP3 HBq drt
      generalize (grow (redrawn w3 dq) osq) = W at *
      obtain ⟨b0, b1⟩ := row2 HX4.out
      obtain ⟨⟨a0, a1⟩, -⟩ := HU.out W HB4.out
      have hj0 : ¬ ((j : Int) < 0) := by omega
      go_wp2_with fail
      go_quiet (fail)
      have HBd : Hid (Below W.heap.size W (W.drewN nq)) := below_drewN (Below.refl _ W) nq
      have HB5 := hid (HB4.out.trans (HBd.out.mono HB4.out.size))
      have HX5 := hid ((HBd.out.block _ (heap_lt HX4.out)).trans HX4.out)
      have HQ5 := hid ((HBd.out.block _ (heap_lt HQ4.out)).trans HQ4.out)
      have HP5 := hid (HP4.out.below HBd.out)
      clear b0 b1 a0 a1 HB4 HX4 HQ4 HP4 HBd
      generalize W.drewN nq = W5 at *
      obtain ⟨b0, b1⟩ := row2 HX5.out
      obtain ⟨⟨a0, a1⟩, -⟩ := HU.out W5 HB5.out
      obtain ⟨⟨r0, r1, r2, r3, r4, r5, r6, r7⟩, -, -⟩ := row8 HQ5.out
      have HBd : Hid (Below W5.heap.size W5 W5.drew) := below_drewN (Below.refl _ W5) 1
      have cD := hid (rlook_any q (.slice ua xl uc) X (fun r hr => Nat.le_trans (HAX.out r hr) (by decide)) W5.drew (HU.out _ (HB5.out.trans (HBd.out.mono HB5.out.size))).2)
      go_wp2_with fail
      go_cut [9, 10] from 67 (fun x9 x10 wx => ∃ u2, u2 = x9 ∧ x10 = .int .i64 (lookI q X) ∧ Hid (Pks wx u2 (lookL q X)) ∧ Hid (Below W5.heap.size W5 wx))
      case first =>
        go_region_law (refine step_call2 rfl 13 76 77 _ rfl (.slice ua xl uc) q.v rfl rfl _ call13 _ cD.out ?_; rintro e W3 ⟨u2, rfl, hp2, hb9⟩; refine ⟨_, rfl, ?_⟩)
        all_goals
          go_wp2_with fail
          go_meet
          exact ⟨_, rfl, rfl, hp2, HBd.out.trans (hb9.mono HBd.out.size)⟩
      case rest =>
        obtain ⟨u2, rfl, rfl, HP6', HB56⟩ := hcut
        have HB6 := hid (HB5.out.trans (HB56.out.mono HB5.out.size))
        have HP6 := hid (HP5.out.below HB56.out)
        have cE := hid (same25 u1 u2 _ (lookL_len q X HAX.out) wc HP6.out HP6'.out)
        clear cD a0 a1 r0 r1 r2 r3 r4 r5 r6 r7 b0 b1
        go_wp2_with fail
        refine cE.out.mono ?_
        rintro e w9 ⟨rfl, hb9⟩
        have HB9 := hid (HB6.out.trans (hb9.mono HB6.out.size))
        clear cE hb9
        go_wp2
        go_ret
        exact ⟨rfl, HB9.out⟩
end Go.Proofs.Ytbcikkofbdfmaaa

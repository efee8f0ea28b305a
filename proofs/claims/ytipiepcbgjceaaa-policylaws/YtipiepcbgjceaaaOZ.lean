/- What the law PolicyMakes answers: true; nothing is asked of the input but what an argument is. -/
import Derived.Test.YtipiepcbgjceaaaOX
import Derived.Test.YtipiepcbgjceaaaOQ
import Derived.Test.YtipiepcbgjceaaaJ3
import Derived.Test.YtipiepcbgjceaaaR9
import Derived.Test.YtipiepcbgjceaaaRow
set_option linter.unusedVariables false
set_option linter.unusedSimpArgs false
namespace Go.Proofs.Ytipiepcbgjceaaa
open Go.RowKit Go.Joins

set_option maxRecDepth 100000 in
set_option maxHeartbeats 16000000 in
theorem pmakes_any (l0 : List Sp) (v0 : Value) (st : List Nat) (sv : Value) (q : P8) (w : World) (h0 : Sps w v0 l0) (hm0 : l0.length ≤ 9223372036854775807) (hs0 : ∀ s ∈ l0, s.n ≤ 65535 ∧ s.k ≤ 255)
    (hst : StAt w sv st) (hm63 : st.length ≤ 9223372036854775807) (hq : Q8 q) :
    Calls Try.prog 3 #[v0, sv, q.v] w fun e w' => e = .returned (.bool true) ∧ Below w.heap.size w w' := by
  have HST := hid hst
  have HQ := hid hq
  have HM := hid hm63
  have CP0 : Hid (∀ W, Below w.heap.size w W → Calls Try.prog 8 #[v0] W fun e w' => PileEnd W e w') := fun W hW => by
    obtain ⟨sa, sc, e, hc⟩ := h0
    refine pile_any l0 v0 W ⟨sa, sc, e, fun k hk => ?_⟩ hm0 hs0
    obtain ⟨b, off, e1, h1, h2⟩ := hc k hk
    exact ⟨b, off, e1, Nat.lt_of_lt_of_le h1 hW.size, fun j h4 => by rw [hW.cell (p := ⟨b, off + k * 4 + j, none⟩) h1]; exact h2 j h4⟩
  have cA := fun W => awake_any W
  obtain ⟨u0, x0, rfl, -⟩ := h0
  obtain ⟨ss, ssc, rfl, -⟩ := hst
  obtain ⟨SL, eSL⟩ : ∃ SL, st.length = SL := ⟨_, rfl⟩
  have HES := hid eSL
  rw [eSL] at HST hm63 ⊢
  generalize l0.length = n0 at *
  clear hq hs0 hm0 eSL
  go_enter Try.func3, Try.ntmps3
  go_wp2_with fail
  have hb0 : Below w.heap.size w (w.alloc (pobj8 q)) := (Below.refl _ w).alloc (Nat.le_refl _) _
  have hrq : (w.alloc (pobj8 q)).heap[w.heap.size]? = some (pobj8 q) := heap_alloc_new w _
  refine (cA _).mono ?_
  rintro e w1 ⟨rfl, hb1⟩
  have HB1 : Hid (Below w.heap.size w w1) := hb0.trans (hb1.mono hb0.size)
  have HRQ1 : Hid (w1.heap[w.heap.size]? = some (pobj8 q)) := (hb1.block _ (heap_lt hrq)).trans hrq
  clear cA hb0 hrq hb1
  go_wp2_with fail
  refine (CP0.out w1 HB1.out).mono ?_
  rintro e w2 ⟨⟨xo, xf, xn, xk⟩, ok0, rfl, hb2, ⟨sk, kn, skc, hkv⟩, hpol⟩
  dsimp only at hkv
  subst hkv
  have HB2 : Hid (Below w.heap.size w w2) := HB1.out.trans (hb2.mono HB1.out.size)
  have HRQ2 : Hid (w2.heap[w.heap.size]? = some (pobj8 q)) := (hb2.block _ (heap_lt HRQ1.out)).trans HRQ1.out
  clear hb2 HRQ1 HB1 CP0
  have hbA : Below w2.heap.size w2 (w2.alloc (pobj ⟨xo, xf, xn, .slice sk kn skc⟩)) := (Below.refl _ _).alloc (Nat.le_refl _) _
  have HBA : Hid (Below w.heap.size w (w2.alloc (pobj ⟨xo, xf, xn, .slice sk kn skc⟩))) := HB2.out.trans (hbA.mono HB2.out.size)
  have HRQA : Hid ((w2.alloc (pobj ⟨xo, xf, xn, .slice sk kn skc⟩)).heap[w.heap.size]? = some (pobj8 q)) := (hbA.block _ (heap_lt HRQ2.out)).trans HRQ2.out
  have HRPA : Hid ((w2.alloc (pobj ⟨xo, xf, xn, .slice sk kn skc⟩)).heap[w2.heap.size]? = some (pobj ⟨xo, xf, xn, .slice sk kn skc⟩)) := heap_alloc_new _ _
  cases ok0 with
  | false =>
    clear hpol hbA
    go_wp2_with fail
    refine bodyPost_ret (v := .bool true) ?_ rfl ⟨rfl, HBA.out⟩
    simp [results, Try.results3, go_sem]
  | true =>
    obtain ⟨T, hT60, hTo, hTp⟩ := hpol rfl
    by_cases h6 : 6 < SL
    · have d6 : decide ((6 : Int) < (SL : Int)) = true := by simp; omega
      clear hTp hbA hpol
      go_wp2_with fail
      refine bodyPost_ret (v := .bool true) ?_ rfl ⟨rfl, HBA.out⟩
      simp [results, Try.results3, go_sem]
    · have d6 : decide ((6 : Int) < (SL : Int)) = false := by simp; omega
      have HTP := hid (hTp.below hbA)
      have cM : Hid (∀ W', Below (w2.alloc (pobj ⟨xo, xf, xn, .slice sk kn skc⟩)).heap.size (w2.alloc (pobj ⟨xo, xf, xn, .slice sk kn skc⟩)) W' → Calls Try.prog 9 #[nv ⟨xo, xf, xn, .slice sk kn skc⟩, .slice ss SL ssc, q.v] W' fun e w' => MkEnd st T q W' e w') := fun W' hW' => make_any st _ HM.out T _ q W' (by omega) hTo HQ.out (HTP.out.below hW') (HST.out.below (HBA.out.trans (hW'.mono HBA.out.size))) (fun _ => .inr fun B G => many_any B G)
      have cD : Hid (∀ W', Below (w2.alloc (pobj ⟨xo, xf, xn, .slice sk kn skc⟩)).heap.size (w2.alloc (pobj ⟨xo, xf, xn, .slice sk kn skc⟩)) W' → Calls Try.prog 10 #[nv ⟨xo, xf, xn, .slice sk kn skc⟩, .slice ss SL ssc, q.v] W' fun e w' => DMkEnd st T q W' e w') := fun W' hW' => dmake_any st _ HM.out T _ q W' (by omega) hTo HQ.out (HTP.out.below hW') (HST.out.below (HBA.out.trans (hW'.mono HBA.out.size)))
      have cL : Hid (∀ W', Below (w2.alloc (pobj ⟨xo, xf, xn, .slice sk kn skc⟩)).heap.size (w2.alloc (pobj ⟨xo, xf, xn, .slice sk kn skc⟩)) W' → Calls Try.prog 12 #[nv ⟨xo, xf, xn, .slice sk kn skc⟩, .slice ss SL ssc, q.v] W' fun e w' => ∃ b : Bool, e = .returned (.bool b) ∧ Below W'.heap.size W' w' ∧ (b = true ↔ okT T = true ∧ ∃ l, mkP st T q = some l ∧ l ≠ [])) := fun W' hW' => letsP_any st _ HM.out T _ q W' (by omega) hTo HQ.out (HTP.out.below hW') (HST.out.below (HBA.out.trans (hW'.mono HBA.out.size))) (fun _ => .inr fun B G => many_any B G)
      clear hTp hbA hpol HTP hTo HRQ2 HB2
      obtain ⟨⟨s0, s1, s2, s3, s4, s5, s6, s7⟩, -, -⟩ := row8 HRQA.out
      go_wp2_with fail
      refine (cM.out _ (Below.refl _ _)).mono ?_
      rintro e w3 ⟨v, z, rfl, hb3, hm⟩
      have HB3 := hid hb3
      clear s0 s1 s2 s3 s4 s5 s6 s7 hb3
      obtain ⟨⟨s0, s1, s2, s3, s4, s5, s6, s7⟩, -, -⟩ := row8 ((HB3.out.block _ (heap_lt HRQA.out)).trans HRQA.out)
      obtain ⟨p0, p1, p2, p3⟩ := row4 ((HB3.out.block _ (heap_lt HRPA.out)).trans HRPA.out)
      have HMM := hid hm
      clear hm
      go_wp2_with fail
      refine (cD.out _ HB3.out).mono ?_
      rintro e w4 ⟨v2, z2, rfl, hb4, hd⟩
      have HB4 := hid (HB3.out.trans (hb4.mono HB3.out.size))
      have key : (∃ B : Prop, ¬B ∧ (B ↔ okT T = true ∧ ∃ l, mkP st T q = some l ∧ l ≠ []) ∧ v = .slice none 0 0 ∧ v2 = .slice none 0 0 ∧ ((z = 11 ∧ z2 = 11) ∨ (z = 24 ∧ z2 = 24))) ∨ (∃ l, z = 0 ∧ z2 = 0 ∧ Pks w4 v l ∧ Pks w4 v2 l ∧ l.length ≤ 64 ∧ (l ≠ [] ↔ okT T = true ∧ ∃ l, mkP st T q = some l ∧ l ≠ [])) := by
        rcases HMM.out with ⟨h1, rfl, rfl⟩ | ⟨h1, h2, rfl, rfl⟩ | ⟨h1, l, h2, rfl, hv⟩ <;> rcases hd with ⟨k1, rfl, rfl⟩ | ⟨k1, k2, rfl, rfl⟩ | ⟨k1, l', k2, rfl, hv'⟩
        · exact .inl ⟨_, (by rw [h1]; rintro ⟨h, _⟩; cases h), Iff.rfl, rfl, rfl, .inl ⟨rfl, rfl⟩⟩
        · rw [h1] at k1; cases k1
        · rw [h1] at k1; cases k1
        · rw [h1] at k1; cases k1
        · exact .inl ⟨_, (by rw [h2]; rintro ⟨_, l, h, _⟩; cases h), Iff.rfl, rfl, rfl, .inr ⟨rfl, rfl⟩⟩
        · rw [h2] at k2; cases k2
        · rw [h1] at k1; cases k1
        · rw [h2] at k2; cases k2
        · rw [h2] at k2
          injection k2 with k2
          subst k2
          exact .inr ⟨l, rfl, rfl, hv.pks.below hb4, hv', mkP_len st T q l h2, fun h => ⟨h1, l, h2, h⟩, fun ⟨_, l2, h3, h4⟩ => by rw [h2] at h3; injection h3 with h3; subst h3; exact h4⟩
      clear s0 s1 s2 s3 s4 s5 s6 s7 p0 p1 p2 p3 hb4 hd HMM
      obtain ⟨⟨s0, s1, s2, s3, s4, s5, s6, s7⟩, -, -⟩ := row8 ((HB4.out.block _ (heap_lt HRQA.out)).trans HRQA.out)
      obtain ⟨p0, p1, p2, p3⟩ := row4 ((HB4.out.block _ (heap_lt HRPA.out)).trans HRPA.out)
      rcases key with ⟨B, hB, hBi, rfl, rfl, ⟨rfl, rfl⟩ | ⟨rfl, rfl⟩⟩ | ⟨l, rfl, rfl, hv1, hv2, hl64, hBi⟩
      · have HBi := hid (fun b : Bool => fun (h : b = true ↔ okT T = true ∧ ∃ l, mkP st T q = some l ∧ l ≠ []) => (show b = false by cases b with | false => rfl | true => exact absurd (hBi.2 (h.1 rfl)) hB))
        clear hB hBi
        go_wp2_with fail
        refine (same25 _ _ [] (by simp) w4 (pks_nil _) (pks_nil _)).mono ?_
        rintro e w5 ⟨rfl, hb5⟩
        have HB5 := hid (HB4.out.trans (hb5.mono HB4.out.size))
        clear s0 s1 s2 s3 s4 s5 s6 s7 p0 p1 p2 p3 hb5
        obtain ⟨⟨s0, s1, s2, s3, s4, s5, s6, s7⟩, -, -⟩ := row8 ((HB5.out.block _ (heap_lt HRQA.out)).trans HRQA.out)
        obtain ⟨p0, p1, p2, p3⟩ := row4 ((HB5.out.block _ (heap_lt HRPA.out)).trans HRPA.out)
        go_wp2_with fail
        refine (cL.out _ HB5.out).mono ?_
        rintro e w6 ⟨b, rfl, hb6, hbi⟩
        obtain rfl : b = false := HBi.out b hbi
        have HB6 := hid (HBA.out.trans ((HB5.out.trans (hb6.mono HB5.out.size)).mono HBA.out.size))
        clear s0 s1 s2 s3 s4 s5 s6 s7 p0 p1 p2 p3 hb6 hbi
        go_wp2_with fail
        refine bodyPost_ret (v := .bool true) ?_ rfl ⟨rfl, HB6.out⟩
        simp [results, Try.results3, go_sem]
      · have HBi := hid (fun b : Bool => fun (h : b = true ↔ okT T = true ∧ ∃ l, mkP st T q = some l ∧ l ≠ []) => (show b = false by cases b with | false => rfl | true => exact absurd (hBi.2 (h.1 rfl)) hB))
        clear hB hBi
        go_wp2_with fail
        refine (same25 _ _ [] (by simp) w4 (pks_nil _) (pks_nil _)).mono ?_
        rintro e w5 ⟨rfl, hb5⟩
        have HB5 := hid (HB4.out.trans (hb5.mono HB4.out.size))
        clear s0 s1 s2 s3 s4 s5 s6 s7 p0 p1 p2 p3 hb5
        obtain ⟨⟨s0, s1, s2, s3, s4, s5, s6, s7⟩, -, -⟩ := row8 ((HB5.out.block _ (heap_lt HRQA.out)).trans HRQA.out)
        obtain ⟨p0, p1, p2, p3⟩ := row4 ((HB5.out.block _ (heap_lt HRPA.out)).trans HRPA.out)
        go_wp2_with fail
        refine (cL.out _ HB5.out).mono ?_
        rintro e w6 ⟨b, rfl, hb6, hbi⟩
        obtain rfl : b = false := HBi.out b hbi
        have HB6 := hid (HBA.out.trans ((HB5.out.trans (hb6.mono HB5.out.size)).mono HBA.out.size))
        clear s0 s1 s2 s3 s4 s5 s6 s7 p0 p1 p2 p3 hb6 hbi
        go_wp2_with fail
        refine bodyPost_ret (v := .bool true) ?_ rfl ⟨rfl, HB6.out⟩
        simp [results, Try.results3, go_sem]
      · obtain ⟨a1, c1, rfl, -⟩ := hv1.form
        obtain ⟨a2, c2, rfl, -⟩ := hv2.form
        have HV1 := hid hv1
        have HV2 := hid hv2
        by_cases hl : l = []
        · have hB : ¬ l ≠ [] := fun h => h hl
          have HBi := hid (fun b : Bool => fun (h : b = true ↔ okT T = true ∧ ∃ l, mkP st T q = some l ∧ l ≠ []) => (show b = false by cases b with | false => rfl | true => exact absurd (hBi.2 (h.1 rfl)) hB))
          have HL := hid (by rw [hl]; rfl : l.length = 0)
          clear hB hBi hv1 hv2 hl
          have cS := hid (same25 _ _ l (by omega) w4 HV1.out HV2.out)
          clear HV1 HV2 hl64
          generalize l.length = LN at *
          obtain rfl : LN = 0 := HL.out
          clear HL
          go_wp2_with fail
          refine (cS.out).mono ?_
          rintro e w5 ⟨rfl, hb5⟩
          have HB5 := hid (HB4.out.trans (hb5.mono HB4.out.size))
          clear s0 s1 s2 s3 s4 s5 s6 s7 p0 p1 p2 p3 hb5
          obtain ⟨⟨s0, s1, s2, s3, s4, s5, s6, s7⟩, -, -⟩ := row8 ((HB5.out.block _ (heap_lt HRQA.out)).trans HRQA.out)
          obtain ⟨p0, p1, p2, p3⟩ := row4 ((HB5.out.block _ (heap_lt HRPA.out)).trans HRPA.out)
          go_wp2_with fail
          refine (cL.out _ HB5.out).mono ?_
          rintro e w6 ⟨b, rfl, hb6, hbi⟩
          obtain rfl : b = false := HBi.out b hbi
          have HB6 := hid (HBA.out.trans ((HB5.out.trans (hb6.mono HB5.out.size)).mono HBA.out.size))
          clear s0 s1 s2 s3 s4 s5 s6 s7 p0 p1 p2 p3 hb6 hbi
          go_wp2_with fail
          refine bodyPost_ret (v := .bool true) ?_ rfl ⟨rfl, HB6.out⟩
          simp [results, Try.results3, go_sem]
        · have HBi := hid (fun b : Bool => fun (h : b = true ↔ okT T = true ∧ ∃ l, mkP st T q = some l ∧ l ≠ []) => (show b = true from h.2 (hBi.1 hl)))
          have hl0 : 0 < l.length := List.length_pos_iff.2 hl
          clear hBi hv1 hv2 hl
          have cS := hid (same25 _ _ l (by omega) w4 HV1.out HV2.out)
          clear HV1 HV2 hl64
          generalize l.length = LN at *
          have dl : decide ((0 : Int) < (LN : Int)) = true := by simp; omega
          go_wp2_with fail
          refine (cS.out).mono ?_
          rintro e w5 ⟨rfl, hb5⟩
          have HB5 := hid (HB4.out.trans (hb5.mono HB4.out.size))
          clear s0 s1 s2 s3 s4 s5 s6 s7 p0 p1 p2 p3 hb5
          obtain ⟨⟨s0, s1, s2, s3, s4, s5, s6, s7⟩, -, -⟩ := row8 ((HB5.out.block _ (heap_lt HRQA.out)).trans HRQA.out)
          obtain ⟨p0, p1, p2, p3⟩ := row4 ((HB5.out.block _ (heap_lt HRPA.out)).trans HRPA.out)
          go_wp2_with fail
          refine (cL.out _ HB5.out).mono ?_
          rintro e w6 ⟨b, rfl, hb6, hbi⟩
          obtain rfl : b = true := HBi.out b hbi
          have HB6 := hid (HBA.out.trans ((HB5.out.trans (hb6.mono HB5.out.size)).mono HBA.out.size))
          clear s0 s1 s2 s3 s4 s5 s6 s7 p0 p1 p2 p3 hb6 hbi
          go_wp2_with fail
          refine bodyPost_ret (v := .bool true) ?_ rfl ⟨rfl, HB6.out⟩
          simp [results, Try.results3, go_sem]
end Go.Proofs.Ytipiepcbgjceaaa
/- The statement PolicyMakesSaid: for every list of steps, every state and every packet the law PolicyMakes returns true and leaves its arguments as they were; nothing is asked of the input. -/
set_option linter.unusedVariables false
set_option linter.unusedSimpArgs false
namespace Go.Proofs.Ytipiepcbgjceaaa
open Go.ChangeShapes Go.WideShapes Go.ChangeAt Go.RowKit Go.ChangeMaps Go.Joins

theorem packet_is {cs : Array Value} {a0 a1 a2 a3 a4 a5 a6 a7 : Int} (h : cs.toList = [.int .u16 a0, .int .u16 a1, .int .u16 a2, .int .u16 a3, .int .u16 a4, .int .u16 a5, .int .u16 a6, .int .u16 a7]) : Value.agg cs = (⟨a0, a1, a2, a3, a4, a5, a6, a7⟩ : P8).v := by
  have : cs = #[.int .u16 a0, .int .u16 a1, .int .u16 a2, .int .u16 a3, .int .u16 a4, .int .u16 a5, .int .u16 a6, .int .u16 a7] := by apply Array.toList_inj.1; exact h
  rw [this]

set_option maxRecDepth 100000 in
theorem pmk_contract (H : Type) (enc : TypeId × Value → H) (W : World) (base : Nat) (args : Array Value) (ds gs : List (DataW H)) (before : List MemPlace)
    (hval : ∀ (j : Nat) t v, Try.f3.params[j]? = some t → args[j]? = some v → Value.okWide Try.prog W .any base t v)
    (hW : DataW.Whole enc Try.prog Try.f3.params.toList Rows.policyMakesSpec.vars false W args.toList ds gs before) :
    Calls Try.prog 3 args W fun e W' => ∃ v, e = .returned v ∧ Rows.policyMakesSpec.post enc Try.prog Try.f3 false true false false W args v W' := by
  have hW' := hW
  obtain ⟨p, q, hA0, hV, rfl, hfz, hnd⟩ := hW
  have hA : DataW.TrodAll enc Try.prog W 0 (fun _ => true) true Try.f3.params.toList args.toList ds p := hA0
  have hA1 := hA
  rw [Try.params3] at hA hval
  obtain ⟨v0, vs0, d0, ds0, p0, q0, hargs, rfl, rfl, h0, r0⟩ := trodAll_cons hA
  obtain ⟨v1, vs1, d1, ds1, p1, q1, rfl, rfl, rfl, h1, r1⟩ := trodAll_cons r0
  obtain ⟨v2, vs2, d2, ds2, p2, q2, rfl, rfl, rfl, h2, r2⟩ := trodAll_cons r1
  obtain ⟨rfl, rfl, rfl⟩ := trodAll_nil r2
  obtain rfl : args = #[v0, v1, v2] := Array.toList_inj.1 hargs
  obtain ⟨rfl, rfl⟩ := trodVars_none hV
  obtain ⟨s0, n0, sc0, rfl⟩ := okWide_slice Try.underlying22 (hval 0 22 v0 rfl rfl)
  obtain ⟨s1, n1, sc1, rfl⟩ := okWide_slice Try.underlying23 (hval 1 23 v1 rfl rfl)
  obtain ⟨ps, rfl⟩ := okWide_array Try.underlying26 (hval 2 26 v2 rfl rfl)
  obtain ⟨m0, hm0⟩ := h0
  obtain ⟨m1, hm1⟩ := h1
  obtain ⟨m2, hm2⟩ := h2
  obtain ⟨l0, k0, k1, k2⟩ := steps_of_trod (show DataW.trod enc Try.prog W 0 _ true m0 22 [.slice s0 n0 sc0] = some _ from hm0)
  obtain ⟨st, rfl, i0, i1, i2⟩ := nums_of_trod (show DataW.trod enc Try.prog W 0 _ true m1 23 [.slice s1 n1 sc1] = some _ from hm1)
  obtain ⟨b0, b1, b2, b3, b4, b5, b6, b7, hps, hbd⟩ := packet_of_trod hm2
  have eps := packet_is (cs := ps) hps
  have walk : Calls Try.prog 3 #[.slice s0 n0 sc0, .slice s1 st.length sc1, .agg ps] W fun e w' => e = .returned (.bool true) ∧ Below W.heap.size W w' := by
    rw [eps]
    exact pmakes_any l0 _ st _ ⟨b0, b1, b2, b3, b4, b5, b6, b7⟩ W k1 k0 k2 i1 i0 hbd
  refine walk.mono fun e W' ⟨he, bel⟩ => ?_
  subst he
  have hback := trodAll_below bel _ _ _ _ (by rw [Try.params3]; intro t ht; simp at ht; rcases ht with rfl | rfl | rfl <;> exact ⟨by kernel_rfl, of_decide_eq_true (by kernel_rfl)⟩) hA1
  exact ⟨_, rfl, _, _, _, [], _, [], hW', trodAll_mk1 (shut_bool Try.underlying4 _), hback, rfl, bel.frame _, fun h => by cases h⟩

set_option maxRecDepth 100000 in
theorem pmk_lifted (os : Os) (started : os.Started) (H : Type) (enc : TypeId × Value → H) :
    ReturnsInHanded {} Try.checked os 3 .any (Rows.policyMakesSpec.pre6 enc Try.prog Try.f3 Rows.policyMakesRow.domain false) (Rows.policyMakesSpec.post enc Try.prog Try.f3 false true false false) := by
  refine returnsInHanded_of_change (C := Try.checked) own started (by kernel_rfl) Try.func3
    (ChangeSpec.witness6 (enc := enc) (C := Try.checked) false ⟨#[], #[.slice none 0 0, .slice none 0 0, pk 0 0 0 0 0 0 0 0], []⟩ 8 (by kernel_rfl) (by kernel_rfl) (by kernel_rfl) (by kernel_rfl)) ?_
  intro W base args ds gs before hval hW _ _
  exact pmk_contract H enc W base args ds gs before hval hW

theorem pmk_holds : Rows.PolicyMakesSaid :=
  OpenClaim.holds_of_wide 3 Try.f3 rfl rfl rfl rfl rfl rfl rfl ⟨rfl, rfl, rfl, rfl, rfl⟩ rfl rfl rfl rfl rfl (by kernel_rfl) Try.func3 (by kernel_rfl)
    (of_decide_eq_true (by kernel_rfl)) (by unfold Func.isWrapper; first | (rw [if_pos (by decide +kernel)]; kernel_rfl) | (rw [if_neg (by decide +kernel)]; exact ⟨rfl, rfl⟩))
    (fun os started H enc _ => pmk_lifted os started H enc)
end Go.Proofs.Ytipiepcbgjceaaa

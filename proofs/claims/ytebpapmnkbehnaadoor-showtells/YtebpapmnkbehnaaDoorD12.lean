/- What the law ShowTells answers: true; no conditions but what the row lists. -/
import Derived.Test.YtebpapmnkbehnaaDoorU1
import Derived.Test.YtebpapmnkbehnaaDoorD8
import Derived.Test.YtebpapmnkbehnaaDoorD11
import Derived.Test.YtebpapmnkbehnaaDoorR9
import Derived.Test.YtebpapmnkbehnaaDoorR6
import Derived.Lib.QuietBelow
set_option linter.unusedVariables false
set_option linter.unusedSimpArgs false
namespace Go.Proofs.YtebpapmnkbehnaaDoor
open Go.RowKit Go.Joins Go.Sort Go.Lib

set_option maxRecDepth 100000 in
set_option maxHeartbeats 8000000 in
theorem tells_any (I : List Nat) (si : Option Addr) (sci : Nat) (hni : I.length ≤ 9223372036854775807) (l : List Sp) (sv : Value) (rs : List Rl) (rv : Value) (w : World) (h : Es w)
    (hI : NmAt w (.slice si I.length sci) I) (hIn : ∀ n ∈ I, n ≤ 65535)
    (hl : Sps w sv l) (hlm : l.length ≤ 9223372036854775807) (hls : ∀ s ∈ l, s.n ≤ 65535 ∧ s.k ≤ 255)
    (hr : RulesAt (fun b => b < w.heap.size) w rv rs) (hrm : rs.length ≤ 9223372036854775807) (hrs : ∀ r ∈ rs, r.when.length ≤ 9223372036854775807 ∧ r.guard.length ≤ 9223372036854775807 ∧ r.thn.length ≤ 9223372036854775807)
    (hrn : ∀ r ∈ rs, (∀ c ∈ r.when, c.2 ≤ 65535) ∧ (∀ c ∈ r.guard, c.2 ≤ 65535) ∧ (∀ c ∈ r.thn, c.2 ≤ 65535))
    (cRule : ∀ (r : Rl) (v1 v2 v3 : Value) (W : World), RlShort r → ((∀ c ∈ r.when, c.2 ≤ 65535) ∧ (∀ c ∈ r.guard, c.2 ≤ 65535) ∧ (∀ c ∈ r.thn, c.2 ≤ 65535)) → RulPv (fun _ => True) W v1 v2 v3 r → Calls Tryd.prog 12 #[.agg #[v1, v2, v3]] W fun e w' => e = .returned (.string ⟨(rulT r).toArray⟩) ∧ Below W.heap.size W w') :
    Calls Tryd.prog 3 #[.slice si I.length sci, sv, rv] w fun e w' => e = .returned (.bool true) ∧ Below w.heap.size w w' := by
  have cA := awake_any w h
  have HEnv : Hid _ := h
  have HRule : Hid _ := cRule
  have HI : Hid (NmAt w (.slice si I.length sci) I) := hI
  have HIn : Hid _ := hIn
  have HRn : Hid _ := hrn
  have CP : Hid (∀ W, Below w.heap.size w W → Calls Tryd.prog 5 #[sv] W fun e w' => PileEnd W e w') := fun W hW => pile_any l sv W (by
    obtain ⟨sa, sc, e, hc⟩ := hl
    refine ⟨sa, sc, e, fun k hk => ?_⟩
    obtain ⟨b, off, e1, hb, hj⟩ := hc k hk
    exact ⟨b, off, e1, Nat.lt_of_lt_of_le hb hW.size, fun j h4 => by rw [hW.cell (p := ⟨b, off + k * 4 + j, none⟩) hb]; exact hj j h4⟩) hlm hls
  have HR : Hid (∀ W, Below w.heap.size w W → RulesAt (fun _ => True) W rv rs) := fun W hW => hr.keep hW.size fun b h1 h2 => ⟨trivial, hW.block b h2⟩
  have CF : Hid (∀ W, Below w.heap.size w W → Calls Tryd.prog 6 #[rv] W fun e w' => e = .returned (.bool (fewB rs)) ∧ Below W.heap.size W w') := fun W hW => few_any rs rv W (HR.out W hW) hrm hrs
  obtain ⟨ssv, scs, rfl, -⟩ := hl
  obtain ⟨srv, scr, rfl, -⟩ := hr
  generalize l.length = nl at *
  have HRL : Hid (rs.length = rs.length) := rfl
  clear h hls hrs hlm hI hIn hrn cRule
  obtain ⟨ni, eI⟩ : ∃ ni, I.length = ni := ⟨_, rfl⟩
  have HEI : Hid (I.length = ni) := eI
  rw [eI] at hni HI ⊢
  clear eI
  go_enter Tryd.func3, Tryd.ntmps3
  go_wp2_with fail
  refine cA.mono ?_
  rintro e w1 ⟨rfl, hb1⟩
  have HB1 : Hid (Below w.heap.size w w1) := hb1
  clear hb1 cA
  go_wp2_with fail
  refine (CP.out w1 HB1.out).mono ?_
  rintro e w2 ⟨x, b, rfl, hb2, ⟨sk, kn, skc, hkv⟩, hpol⟩
  obtain ⟨xo, xf, xn, xk⟩ := x
  dsimp only at hkv
  subst hkv
  have HB2 : Hid (Below w.heap.size w (w2.alloc (pobj ⟨xo, xf, xn, .slice sk kn skc⟩))) := (HB1.out.trans (hb2.mono HB1.out.size)).alloc (HB1.out.trans (hb2.mono HB1.out.size)).size _
  have HPol : Hid _ := hpol
  clear hb2 hpol CP
  cases b with
  | false =>
    go_wp2
    go_ret
    exact ⟨rfl, HB2.out⟩
  | true =>
    obtain ⟨T, hTs, hTn, hTp⟩ := HPol.out rfl
    have HT : Hid (PolAt (fun _ => True) (w2.alloc (pobj ⟨xo, xf, xn, .slice sk kn skc⟩)) T ⟨xo, xf, xn, .slice sk kn skc⟩) := (hTp.mono fun _ _ _ => trivial).below ((Below.refl _ w2).alloc (Nat.le_refl _) _)
    have HTs : Hid (sizeP T ≤ 60) := hTs
    have HTn : Hid (okN T) := hTn
    clear hTp hTs HPol hTn
    by_cases h6 : 6 < ni
    · have d6 : decide (6 < (ni : Int)) = true := by simp; omega
      go_wp2
      go_ret
      exact ⟨rfl, HB2.out⟩
    · have d6 : decide (6 < (ni : Int)) = false := by simp; omega
      have cF := CF.out _ HB2.out
      obtain ⟨fw, hfw⟩ : ∃ fw, fewB rs = fw := ⟨_, rfl⟩
      rw [hfw] at cF
      have HF : Hid (fewB rs = fw) := hfw
      clear hfw CF
      obtain ⟨R, eR⟩ : ∃ R, rs.length = R := ⟨_, rfl⟩
      have HER : Hid (rs.length = R) := eR
      rw [eR] at cF HR hrm ⊢
      clear eR
      go_wp2_with fail
      refine cF.mono ?_
      rintro e w3 ⟨rfl, hb3⟩
      have HB3 : Hid (Below w.heap.size w w3) := HB2.out.trans (hb3.mono HB2.out.size)
      have HR3 : Hid (w3.heap[w2.heap.size]? = some (pobj ⟨xo, xf, xn, .slice sk kn skc⟩)) := row_kept hb3
      have HT3 : Hid (PolAt (fun _ => True) w3 T ⟨xo, xf, xn, .slice sk kn skc⟩) := HT.out.below hb3
      clear hb3 cF HT HB2
      cases fw with
      | false =>
        go_wp2
        go_ret
        exact ⟨rfl, HB3.out⟩
      | true =>
        obtain ⟨hrl, hrr⟩ := few_len HF.out
        have hsh : PgShort ⟨I, T, rs⟩ := ⟨by show I.length ≤ _; have := HEI.out; omega, by show sizeP T ≤ _; have := HTs.out; omega, by show rs.length ≤ _; omega, fun r hr => by have := hrr r hr; exact ⟨by omega, by omega, by omega⟩⟩
        have HSh : Hid _ := hsh
        have HNn : Hid (checkM ⟨I, T, rs⟩ = 0 → PgN ⟨I, T, rs⟩) := fun hc => ⟨hc, HIn.out, HTn.out, HRn.out⟩
        clear hrl hrr hsh HIn
        obtain ⟨W, hW⟩ : ∃ W, W = w3.alloc (gobj (.slice si ni sci) ⟨xo, xf, xn, .slice sk kn skc⟩ (.slice srv R scr)) := ⟨_, rfl⟩
        have hbW : Below w3.heap.size w3 W := by rw [hW]; exact (Below.refl _ w3).alloc (Nat.le_refl _) _
        have HG : Hid (W.heap[w3.heap.size]? = some (gobj (.slice si ni sci) ⟨xo, xf, xn, .slice sk kn skc⟩ (.slice srv R scr))) := by rw [hW]; exact heap_alloc_new _ _
        have HB : Hid (Below w.heap.size w W) := HB3.out.trans (hbW.mono HB3.out.size)
        have HPg : Hid (PgAt (fun _ => True) W (.slice si ni sci) ⟨xo, xf, xn, .slice sk kn skc⟩ (.slice srv R scr) ⟨I, T, rs⟩) := ⟨⟨si, sci, by show _ = Value.slice si I.length sci; rw [HEI.out]⟩, HT3.out.below hbW, HR.out W HB.out⟩
        have HIW : Hid (NmAt W (.slice si ni sci) I) := HI.out.below HB.out
        have HEW : Hid (Es W) := HEnv.out.below HB.out
        have r3 := heap_lt HR3.out
        have HPr := (hbW.block _ (heap_lt HR3.out)).trans HR3.out
        have HTW : Hid (PolAt (fun _ => True) W T ⟨xo, xf, xn, .slice sk kn skc⟩) := HT3.out.below hbW
        have HRW : Hid (RulesAt (fun _ => True) W (.slice srv R scr) rs) := HR.out W HB.out
        have HRl : Hid (∀ r ∈ rs, RlShort r) := HSh.out.l
        obtain ⟨q0, q1, q2, q3⟩ := row4 HR3.out
        go_wp2_with fail
        rw [← hW]
        clear hW hbW HR3 HB3 HT3 HR q0 q1 q2 q3 r3 HEnv HI
        generalize w3.heap.size = G at *
        generalize w2.heap.size = G2 at *
        obtain ⟨q0, q1, q2, q3⟩ := row4 HPr
        obtain ⟨g0, g1, g2, g3, g4, g5⟩ := row6 HG.out
        clear HPr HG
        have s0 := cell_regrown q0; have s1 := cell_regrown q1; have s2 := cell_regrown q2; have s3 := cell_regrown q3
        have t0 := cell_regrown g0; have t1 := cell_regrown g1; have t2 := cell_regrown g2; have t3 := cell_regrown g3; have t4 := cell_regrown g4; have t5 := cell_regrown g5
        clear q0 q1 q2 q3 g0 g1 g2 g3 g4 g5
        have kb : ∀ d os, Below W.heap.size W (grow (redrawn W d) os) := fun d os => below_regrown W d os
        have c7 : Hid (∀ d os, Calls Tryd.prog 7 #[nv ⟨xo, xf, xn, .slice sk kn skc⟩] (grow (redrawn W d) os) fun e w'' => e = .returned (.string ⟨(polT T).toArray⟩) ∧ ∃ p : Regrown, w'' = grow (redrawn W p.d) p.os) := fun d os => Calls.regrown_of (pol_show T _ (by have := HTs.out; omega) HTn.out (grow (redrawn W d) os) (HTW.out.below (kb d os)) (HEW.out.below (kb d os)))
        have c8 : Hid (∀ d os, Calls Tryd.prog 8 #[nv ⟨xo, xf, xn, .slice sk kn skc⟩] (grow (redrawn W d) os) fun e w'' => e = .returned (.string ⟨(polT T).toArray⟩) ∧ ∃ p : Regrown, w'' = grow (redrawn W p.d) p.os) := fun d os => Calls.regrown_of (rpol_any T _ (by have := HTs.out; omega) HTn.out (grow (redrawn W d) os) (HTW.out.below (kb d os)))
        have c9 : Hid (∀ d os, Calls Tryd.prog 9 #[pgv (.slice si ni sci) ⟨xo, xf, xn, .slice sk kn skc⟩ (.slice srv R scr)] (grow (redrawn W d) os) fun e w'' => e = .returned (.string ⟨(progT ⟨I, T, rs⟩).toArray⟩) ∧ ∃ p : Regrown, w'' = grow (redrawn W p.d) p.os) := fun d os => Calls.regrown_of (program_text ⟨I, T, rs⟩ _ _ _ HSh.out HNn.out (grow (redrawn W d) os) (HPg.out.below (kb d os)) (NmAt.below HIW.out (kb d os)) (HEW.out.below (kb d os)))
        have c10 : Hid (∀ d os, Calls Tryd.prog 10 #[pgv (.slice si ni sci) ⟨xo, xf, xn, .slice sk kn skc⟩ (.slice srv R scr)] (grow (redrawn W d) os) fun e w'' => e = .returned (.string ⟨(progT ⟨I, T, rs⟩).toArray⟩) ∧ ∃ p : Regrown, w'' = grow (redrawn W p.d) p.os) := fun d os => Calls.regrown_of (rprogram_any ⟨I, T, rs⟩ _ _ _ HSh.out HNn.out (grow (redrawn W d) os) (HPg.out.below (kb d os)) (NmAt.below HIW.out (kb d os)) HRule.out)
        generalize polT T = A1 at *
        generalize progT ⟨I, T, rs⟩ = A2 at *
        clear HSh HPg HTW HTs kb HF HNn HIW HTn
        refine wp_region_quiet_below (by kernel_rfl) (by kernel_rfl) ?_
        repeat (go_big_quiet_step (first | (go_at_call 7; exact c7.out _ _) | (go_at_call 8; exact c8.out _ _) | (go_at_call 9; exact c9.out _ _) | (go_at_call 10; exact c10.out _ _)))
        refine wpQuiet_nil ?_
        intro _ hw'
        obtain ⟨⟨dq, osq⟩, hw''⟩ := hw'
        subst hw''
        have hbE := below_regrown W dq osq
        have HBE : Hid (Below w.heap.size w (grow (redrawn W dq) osq)) := HB.out.trans (hbE.mono HB.out.size)
        have HRE : Hid (RulesAt (fun _ => True) (grow (redrawn W dq) osq) (.slice srv R scr) rs) := HRW.out.below hbE
        have HEE : Hid (Es (grow (redrawn W dq) osq)) := HEW.out.below hbE
        clear s0 t0 s1 t1 s2 t2 s3 t3 t4 t5 c7 c8 c9 c10 HB HRW HEW hbE
        generalize (grow (redrawn W dq) osq) = WE at *
        obtain ⟨sa', sc', e', hcR⟩ := HRE.out
        simp only [Value.slice.injEq] at e'
        obtain ⟨rfl, eR, rfl⟩ := e'
        have HER2 : Hid (R = rs.length) := eR
        have HCR : Hid _ := hcR
        clear eR hcR HRE
        go_wp2_with fail
        go_loopw [49] (fun i wr => ∃ k : Nat, k ≤ R ∧ i = .int .i64 (k : Int) ∧ Hid (Below WE.heap.size WE wr)) (fun i _ => R - (intOf i).toNat)
        case atStart => exact ⟨0, Nat.zero_le _, rfl, Below.refl _ _⟩
        case round =>
          obtain ⟨k, hkl, rfl, HBw⟩ := hrel
          have hwr := HBw.out.size
          by_cases hlt : k < R
          · have hlr : k < rs.length := by rw [← HER2.out]; exact hlt
            obtain ⟨b, off, v1, v2, v3, rfl, -, hb, ⟨c0, c1, c2⟩, hr⟩ := HCR.out k hlr
            have a0 := (HBw.out.cell (p := ⟨b, off + k * 3, none⟩) hb).trans c0
            have a1 := (HBw.out.cell (p := ⟨b, off + k * 3 + 1, none⟩) hb).trans c1
            have a2 := (HBw.out.cell (p := ⟨b, off + k * 3 + 2, none⟩) hb).trans c2
            obtain ⟨W, hW⟩ : ∃ W, W = wr.alloc (robj3 v1 v2 v3) := ⟨_, rfl⟩
            have HBW : Hid (Below WE.heap.size WE W) := by rw [hW]; exact HBw.out.alloc hwr _
            have hrow : W.heap[wr.heap.size]? = some (robj3 v1 v2 v3) := by rw [hW]; exact heap_alloc_new wr _
            have hrW := rul_below hr HBW.out
            have hrs1 := HRl.out _ (List.getElem_mem hlr)
            have hrn1 := HRn.out _ (List.getElem_mem hlr)
            have kb : ∀ d os, Below W.heap.size W (grow (redrawn W d) os) := fun d os => below_regrown W d os
            have c11 : Hid (∀ d os, Calls Tryd.prog 11 #[.agg #[v1, v2, v3]] (grow (redrawn W d) os) fun e w'' => e = .returned (.string ⟨(rulT rs[k]).toArray⟩) ∧ ∃ p : Regrown, w'' = grow (redrawn W p.d) p.os) := fun d os => Calls.regrown_of (rule_show rs[k] v1 v2 v3 hrs1 hrn1 (grow (redrawn W d) os) (rul_below hrW (kb d os)) ((HEE.out.below HBW.out).below (kb d os)))
            have c12 : Hid (∀ d os, Calls Tryd.prog 12 #[.agg #[v1, v2, v3]] (grow (redrawn W d) os) fun e w'' => e = .returned (.string ⟨(rulT rs[k]).toArray⟩) ∧ ∃ p : Regrown, w'' = grow (redrawn W p.d) p.os) := fun d os => Calls.regrown_of (HRule.out rs[k] v1 v2 v3 (grow (redrawn W d) os) hrs1 hrn1 (rul_below hrW (kb d os)))
            obtain ⟨x1, y1, rfl⟩ := hr.at.p1.shape
            obtain ⟨x2, y2, rfl⟩ := hr.at.p2.shape
            obtain ⟨x3, y3, rfl⟩ := hr.at.p3.shape
            generalize rulT rs[k] = A3 at *
            generalize rs[k].when.length = m1 at *
            generalize rs[k].guard.length = m2 at *
            generalize rs[k].thn.length = m3 at *
            obtain ⟨⟨q0, q1, q2⟩, -⟩ := row3 hrow
            clear hr hrW hrs1 hrn1 kb c0 c1 c2 hrow
            go_wp2_with fail
            rw [← hW]
            clear hW
            have s0 := cell_regrown q0; have s1 := cell_regrown q1; have s2 := cell_regrown q2
            clear q0 q1 q2 a0 a1 a2
            refine wp_region_quiet_below (by kernel_rfl) (by kernel_rfl) ?_
            repeat (go_big_quiet_step (first | (go_at_call 11; exact c11.out _ _) | (go_at_call 12; exact c12.out _ _)))
            refine wpQuiet_nil ?_
            intro _ hw'
            obtain ⟨⟨dq, osq⟩, hw''⟩ := hw'
            subst hw''
            have HBF : Hid (Below WE.heap.size WE (grow (redrawn W dq) osq)) := HBW.out.trans ((below_regrown W dq osq).mono HBW.out.size)
            clear s0 s1 s2 c11 c12 HBW
            generalize (grow (redrawn W dq) osq) = WF at *
            go_wp2
            go_roundw
            case rel => exact ⟨k + 1, by omega, by go_num, HBF⟩
            case measure => simp [intOf]; omega
          · obtain rfl : k = R := by omega
            have HBF : Hid (Below w.heap.size w wr) := HBE.out.trans (HBw.out.mono HBE.out.size)
            go_wp2
            go_ret
            exact ⟨rfl, HBF.out⟩
end Go.Proofs.YtebpapmnkbehnaaDoor

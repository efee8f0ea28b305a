/- What the law SyntaxChecks answers: true; no conditions but what the row lists. -/
import Derived.Test.YtipjmabeenhcgaaGreatDoorR9
import Derived.Test.YtipjmabeenhcgaaGreatDoorR7
import Derived.Test.YtipjmabeenhcgaaGreatDoorR5
import Derived.Test.YtipjmabeenhcgaaGreatDoorR6
import Derived.Test.YtipjmabeenhcgaaGreatDoorS1
import Derived.Lib.QuietBelow
set_option linter.unusedVariables false
set_option linter.unusedSimpArgs false
namespace Go.Proofs.YtipjmabeenhcgaaGreatDoor
open Go.RowKit Go.Joins Go.Sort

set_option maxRecDepth 100000 in
set_option maxHeartbeats 8000000 in
theorem checks_any5 (si : Option Addr) (ni sci : Nat) (hni : ni ≤ 9223372036854775807) (l : List Sp) (sv : Value) (rs : List Rl) (rv : Value) (w : World) (h : Env w)
    (hl : Sps w sv l) (hlm : l.length ≤ 9223372036854775807) (hls : ∀ s ∈ l, s.n ≤ 65535 ∧ s.k ≤ 255)
    (hr : RulesAt (fun b => b < w.heap.size) w rv rs) (hrm : rs.length ≤ 9223372036854775807) (hrs : ∀ r ∈ rs, r.when.length ≤ 9223372036854775807 ∧ r.guard.length ≤ 9223372036854775807 ∧ r.thn.length ≤ 9223372036854775807) :
    Calls Tryz.prog 3 #[.slice si ni sci, sv, rv] w fun e w' => e = .returned (.bool true) ∧ Below w.heap.size w w' := by
  have cA := awake_any w h
  have CP : Hid (∀ W, Below w.heap.size w W → Calls Tryz.prog 7 #[sv] W fun e w' => PileEnd W e w') := fun W hW => pile_any l sv W (by
    obtain ⟨sa, sc, e, hc⟩ := hl
    refine ⟨sa, sc, e, fun k hk => ?_⟩
    obtain ⟨b, off, e1, hb, hj⟩ := hc k hk
    exact ⟨b, off, e1, Nat.lt_of_lt_of_le hb hW.size, fun j h4 => by rw [hW.cell (p := ⟨b, off + k * 4 + j, none⟩) hb]; exact hj j h4⟩) hlm hls
  have HR : Hid (∀ W, Below w.heap.size w W → RulesAt (fun _ => True) W rv rs) := fun W hW => hr.keep hW.size fun b h1 h2 => ⟨trivial, hW.block b h2⟩
  have CF : Hid (∀ W, Below w.heap.size w W → Calls Tryz.prog 8 #[rv] W fun e w' => e = .returned (.bool (fewB rs)) ∧ Below W.heap.size W w') := fun W hW => few_any rs rv W (HR.out W hW) hrm hrs
  obtain ⟨ssv, scs, rfl, -⟩ := hl
  obtain ⟨srv, scr, rfl, -⟩ := hr
  generalize l.length = nl at *
  have HRL : Hid (rs.length = rs.length) := rfl
  clear h hls hrs hlm
  go_enter Tryz.func3, Tryz.ntmps3
  go_wp2_with fail
  refine cA.mono ?_
  rintro e w1 ⟨rfl, hb1⟩
  have HB1 : Hid (Below w.heap.size w w1) := hb1
  clear hb1 cA
  go_wp2_with fail
  refine (CP.out w1 HB1.out).mono ?_
  rintro e w2 ⟨x, b, rfl, hb2, ⟨sk, kn, skc, hkv⟩, hpol⟩
  obtain ⟨xo, xf, xn, xk⟩ := x
  dsimp only at hkv
  subst hkv
  have HB2 : Hid (Below w.heap.size w (w2.alloc (pobj ⟨xo, xf, xn, .slice sk kn skc⟩))) := (HB1.out.trans (hb2.mono HB1.out.size)).alloc (HB1.out.trans (hb2.mono HB1.out.size)).size _
  have HPol : Hid _ := hpol
  clear hb2 hpol CP
  cases b with
  | false =>
    go_wp2
    go_ret
    exact ⟨rfl, HB2.out⟩
  | true =>
    obtain ⟨T, hTs, hTp⟩ := HPol.out rfl
    have HT : Hid (PolAt (fun _ => True) (w2.alloc (pobj ⟨xo, xf, xn, .slice sk kn skc⟩)) T ⟨xo, xf, xn, .slice sk kn skc⟩) := (hTp.mono fun _ _ _ => trivial).below ((Below.refl _ w2).alloc (Nat.le_refl _) _)
    have HTs : Hid (sizeP T ≤ 60) := hTs
    clear hTp hTs HPol
    by_cases h6 : 6 < ni
    · have d6 : decide (6 < (ni : Int)) = true := by simp; omega
      go_wp2
      go_ret
      exact ⟨rfl, HB2.out⟩
    · have d6 : decide (6 < (ni : Int)) = false := by simp; omega
      have cF := CF.out _ HB2.out
      obtain ⟨fw, hfw⟩ : ∃ fw, fewB rs = fw := ⟨_, rfl⟩
      rw [hfw] at cF
      have HF : Hid (fewB rs = fw) := hfw
      clear hfw CF
      obtain ⟨R, eR⟩ : ∃ R, rs.length = R := ⟨_, rfl⟩
      have HER : Hid (rs.length = R) := eR
      rw [eR] at cF HR hrm ⊢
      clear eR
      go_wp2_with fail
      refine cF.mono ?_
      rintro e w3 ⟨rfl, hb3⟩
      have HB3 : Hid (Below w.heap.size w w3) := HB2.out.trans (hb3.mono HB2.out.size)
      have HR3 : Hid (w3.heap[w2.heap.size]? = some (pobj ⟨xo, xf, xn, .slice sk kn skc⟩)) := row_kept hb3
      have HT3 : Hid (PolAt (fun _ => True) w3 T ⟨xo, xf, xn, .slice sk kn skc⟩) := HT.out.below hb3
      clear hb3 cF HT HB2
      cases fw with
      | false =>
        go_wp2
        go_ret
        exact ⟨rfl, HB3.out⟩
      | true =>
        obtain ⟨hrl, hrr⟩ := few_len HF.out
        have hsh : PgShort ⟨List.replicate ni 0, T, rs⟩ := ⟨by simp; omega, by show sizeP T ≤ _; have := HTs.out; omega, by show rs.length ≤ _; omega, fun r hr => by have := hrr r hr; exact ⟨by omega, by omega, by omega⟩⟩
        have HSh : Hid _ := hsh
        clear hrl hrr hsh
        obtain ⟨W, hW⟩ : ∃ W, W = w3.alloc (gobj (.slice si ni sci) ⟨xo, xf, xn, .slice sk kn skc⟩ (.slice srv R scr)) := ⟨_, rfl⟩
        have hbW : Below w3.heap.size w3 W := by rw [hW]; exact (Below.refl _ w3).alloc (Nat.le_refl _) _
        have HG : W.heap[w3.heap.size]? = some (gobj (.slice si ni sci) ⟨xo, xf, xn, .slice sk kn skc⟩ (.slice srv R scr)) := by rw [hW]; exact heap_alloc_new _ _
        have HP := (hbW.block _ (heap_lt HR3.out)).trans HR3.out
        have HB : Hid (Below w.heap.size w W) := HB3.out.trans (hbW.mono HB3.out.size)
        have HTW : Hid (PolAt (fun _ => True) W T ⟨xo, xf, xn, .slice sk kn skc⟩) := HT3.out.below hbW
        have HPg : Hid (PgAt (fun _ => True) W (.slice si ni sci) ⟨xo, xf, xn, .slice sk kn skc⟩ (.slice srv R scr) ⟨List.replicate ni 0, T, rs⟩) := ⟨⟨si, sci, by simp⟩, HTW.out, HR.out W HB.out⟩
        have r3 := heap_lt HR3.out
        obtain ⟨q0, q1, q2, q3⟩ := row4 HR3.out
        go_wp2_with fail
        rw [← hW]
        clear hW hbW HR3 HB3 HT3 HR q0 q1 q2 q3 r3 HER
        generalize w3.heap.size = G at *
        generalize w2.heap.size = G2 at *
        obtain ⟨q0, q1, q2, q3⟩ := row4 HP
        obtain ⟨g0, g1, g2, g3, g4, g5⟩ := row6 HG
        clear HP HG
        have s0 := cell_regrown q0; have s1 := cell_regrown q1; have s2 := cell_regrown q2; have s3 := cell_regrown q3
        have t0 := cell_regrown g0; have t1 := cell_regrown g1; have t2 := cell_regrown g2; have t3 := cell_regrown g3; have t4 := cell_regrown g4; have t5 := cell_regrown g5
        clear q0 q1 q2 q3 g0 g1 g2 g3 g4 g5
        obtain ⟨cv, hcv⟩ : ∃ cv, checkM ⟨List.replicate ni 0, T, rs⟩ = cv := ⟨_, rfl⟩
        obtain ⟨pv, hpv⟩ : ∃ pv, predP T = pv := ⟨_, rfl⟩
        obtain ⟨dv, hdv⟩ : ∃ dv, depthP T = dv := ⟨_, rfl⟩
        obtain ⟨zv, hzv⟩ : ∃ zv, sizeP T = zv := ⟨_, rfl⟩
        have kb : ∀ d os, Below W.heap.size W (grow (redrawn W d) os) := fun d os => below_regrown W d os
        have c9 : Hid (∀ d os, Calls Tryz.prog 9 #[pgv (.slice si ni sci) ⟨xo, xf, xn, .slice sk kn skc⟩ (.slice srv R scr)] (grow (redrawn W d) os) fun e w'' => e = .returned (.int .i64 (cv : Int)) ∧ ∃ p : Regrown, w'' = grow (redrawn W p.d) p.os) := fun d os => Calls.regrown_of (by have h := check_any _ _ _ _ HSh.out (grow (redrawn W d) os) (HPg.out.below (kb d os)); rw [hcv] at h; exact h)
        have c10 : Hid (∀ d os, Calls Tryz.prog 10 #[pgv (.slice si ni sci) ⟨xo, xf, xn, .slice sk kn skc⟩ (.slice srv R scr)] (grow (redrawn W d) os) fun e w'' => e = .returned (.int .i64 (cv : Int)) ∧ ∃ p : Regrown, w'' = grow (redrawn W p.d) p.os) := fun d os => Calls.regrown_of (by have h := rcheck_any _ _ _ _ HSh.out (grow (redrawn W d) os) (HPg.out.below (kb d os)); rw [hcv] at h; exact h)
        have c11 : Hid (∀ d os, Calls Tryz.prog 11 #[nv ⟨xo, xf, xn, .slice sk kn skc⟩] (grow (redrawn W d) os) fun e w'' => e = .returned (.bool pv) ∧ ∃ p : Regrown, w'' = grow (redrawn W p.d) p.os) := fun d os => Calls.regrown_of (by have h := pred_any 60 T _ (grow (redrawn W d) os) HTs.out (by decide) (HTW.out.below (kb d os)); rw [hpv] at h; exact h)
        have c12 : Hid (∀ d os, Calls Tryz.prog 12 #[nv ⟨xo, xf, xn, .slice sk kn skc⟩] (grow (redrawn W d) os) fun e w'' => e = .returned (.bool pv) ∧ ∃ p : Regrown, w'' = grow (redrawn W p.d) p.os) := fun d os => Calls.regrown_of (by have h := rpred_any 60 T _ (grow (redrawn W d) os) HTs.out (by decide) (HTW.out.below (kb d os)); rw [hpv] at h; exact h)
        have c13 : Hid (∀ d os, Calls Tryz.prog 13 #[nv ⟨xo, xf, xn, .slice sk kn skc⟩] (grow (redrawn W d) os) fun e w'' => e = .returned (.int .i64 (dv : Int)) ∧ ∃ p : Regrown, w'' = grow (redrawn W p.d) p.os) := fun d os => Calls.regrown_of (by have h := depth_any 60 T _ (grow (redrawn W d) os) HTs.out (by decide) (HTW.out.below (kb d os)); rw [hdv] at h; exact h)
        have c14 : Hid (∀ d os, Calls Tryz.prog 14 #[nv ⟨xo, xf, xn, .slice sk kn skc⟩] (grow (redrawn W d) os) fun e w'' => e = .returned (.int .i64 (dv : Int)) ∧ ∃ p : Regrown, w'' = grow (redrawn W p.d) p.os) := fun d os => Calls.regrown_of (by have h := rdepth_any 60 T _ (grow (redrawn W d) os) HTs.out (by decide) (HTW.out.below (kb d os)); rw [hdv] at h; exact h)
        have c15 : Hid (∀ d os, Calls Tryz.prog 15 #[nv ⟨xo, xf, xn, .slice sk kn skc⟩] (grow (redrawn W d) os) fun e w'' => e = .returned (.int .i64 (zv : Int)) ∧ ∃ p : Regrown, w'' = grow (redrawn W p.d) p.os) := fun d os => Calls.regrown_of (by have h := size_any 60 T _ (grow (redrawn W d) os) HTs.out (by decide) (HTW.out.below (kb d os)); rw [hzv] at h; exact h)
        have c16 : Hid (∀ d os, Calls Tryz.prog 16 #[nv ⟨xo, xf, xn, .slice sk kn skc⟩] (grow (redrawn W d) os) fun e w'' => e = .returned (.int .i64 (zv : Int)) ∧ ∃ p : Regrown, w'' = grow (redrawn W p.d) p.os) := fun d os => Calls.regrown_of (by have h := rsize_any 60 T _ (grow (redrawn W d) os) HTs.out (by decide) (HTW.out.below (kb d os)); rw [hzv] at h; exact h)
        clear hcv hpv hdv hzv HSh HPg HTW HTs kb HF
        refine wp_region_quiet_below (by kernel_rfl) (by kernel_rfl) ?_
        repeat (go_big_quiet_step (first | (go_at_call 9; exact c9.out _ _) | (go_at_call 10; exact c10.out _ _) | (go_at_call 11; exact c11.out _ _) | (go_at_call 12; exact c12.out _ _) | (go_at_call 13; exact c13.out _ _) | (go_at_call 14; exact c14.out _ _) | (go_at_call 15; exact c15.out _ _) | (go_at_call 16; exact c16.out _ _)))
        refine wpQuiet_nil ?_
        intro _ hw'
        obtain ⟨⟨dq, osq⟩, hw''⟩ := hw'
        subst hw''
        have HBE : Hid (Below w.heap.size w (grow (redrawn W dq) osq)) := HB.out.trans ((below_regrown W dq osq).mono HB.out.size)
        clear s0 t0 s1 t1 s2 t2 s3 t3 t4 t5 c9 c10 c11 c12 c13 c14 c15 c16 HB
        generalize (grow (redrawn W dq) osq) = WE at *
        go_wp2
        go_ret
        exact ⟨rfl, HBE.out⟩
end Go.Proofs.YtipjmabeenhcgaaGreatDoor

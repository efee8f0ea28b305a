/- What the law ShowBack answers: true; no conditions but what the row lists. -/
import Derived.Test.YtebpapmnkbehnaaGreatDoorV7
import Derived.Test.YtebpapmnkbehnaaGreatDoorU2
import Derived.Test.YtebpapmnkbehnaaGreatDoorR9
import Derived.Test.YtebpapmnkbehnaaGreatDoorR5
import Derived.Test.YtebpapmnkbehnaaGreatDoorR6
import Derived.Test.YtebpapmnkbehnaaGreatDoorZ8
import Derived.Lib.QuietBelow
set_option linter.unusedVariables false
set_option linter.unusedSimpArgs false
namespace Go.Proofs.YtebpapmnkbehnaaGreatDoor
open Go.RowKit Go.Joins Go.Sort Go.Lib

theorem nm_of_own {w : World} {lo : Nat} {v : Value} {L : List Nat} (h : w.ownsRow lo 26 1 v L.length (nums L)) : NmAt w v L := by
  rcases h.2 with ⟨rfl, h0⟩ | ⟨g, cap, cur, rfl, hg, hgg, hnc, hcm, hcs, htk⟩
  · exact ⟨none, 0, by rw [h0], fun k hk => by omega⟩
  · refine ⟨_, cap, rfl, fun k hk => ⟨g, 0, rfl, heap_lt hgg, ?_⟩⟩
    rw [cell_of_row _ _ _ _ _ _ hgg]
    have e2 : (nums L)[k]? = some (.int .u16 (L[k] : Int)) := by
      unfold nums
      rw [List.getElem?_map, List.getElem?_eq_getElem hk]
      rfl
    rw [← htk, List.getElem?_take_of_lt (by omega), Array.getElem?_toList] at e2
    rw [Nat.zero_add]
    exact e2

set_option maxRecDepth 100000 in
set_option maxHeartbeats 8000000 in
theorem back_any (I : List Nat) (si : Option Addr) (sci : Nat) (hni : I.length ≤ 9223372036854775807) (l : List Sp) (sv : Value) (rs : List Rl) (rv : Value) (w : World) (h : Env w)
    (hI : NmAt w (.slice si I.length sci) I) (hIn : ∀ n ∈ I, n ≤ 65535)
    (hl : Sps w sv l) (hlm : l.length ≤ 9223372036854775807) (hls : ∀ s ∈ l, s.n ≤ 65535 ∧ s.k ≤ 255)
    (hr : RulesAt (fun b => b < w.heap.size) w rv rs) (hrm : rs.length ≤ 9223372036854775807) (hrs : ∀ r ∈ rs, r.when.length ≤ 9223372036854775807 ∧ r.guard.length ≤ 9223372036854775807 ∧ r.thn.length ≤ 9223372036854775807)
    (hrn : ∀ r ∈ rs, (∀ c ∈ r.when, c.2 ≤ 65535) ∧ (∀ c ∈ r.guard, c.2 ≤ 65535) ∧ (∀ c ∈ r.thn, c.2 ≤ 65535)) :
    Calls Tryz.prog 3 #[.slice si I.length sci, sv, rv] w fun e w' => e = .returned (.bool true) ∧ Below w.heap.size w w' := by
  have cA := awake_any w (Es.of h)
  have HEnv : Hid _ := h
  have HI : Hid (NmAt w (.slice si I.length sci) I) := hI
  have HIn : Hid _ := hIn
  have HRn : Hid _ := hrn
  have CP : Hid (∀ W, Below w.heap.size w W → Calls Tryz.prog 6 #[sv] W fun e w' => PileEnd W e w') := fun W hW => pile_any l sv W (by
    obtain ⟨sa, sc, e, hc⟩ := hl
    refine ⟨sa, sc, e, fun k hk => ?_⟩
    obtain ⟨b, off, e1, hb, hj⟩ := hc k hk
    exact ⟨b, off, e1, Nat.lt_of_lt_of_le hb hW.size, fun j h4 => by rw [hW.cell (p := ⟨b, off + k * 4 + j, none⟩) hb]; exact hj j h4⟩) hlm hls
  have HR : Hid (∀ W, Below w.heap.size w W → RulesAt (fun _ => True) W rv rs) := fun W hW => hr.keep hW.size fun b h1 h2 => ⟨trivial, hW.block b h2⟩
  have CF : Hid (∀ W, Below w.heap.size w W → Calls Tryz.prog 7 #[rv] W fun e w' => e = .returned (.bool (fewB rs)) ∧ Below W.heap.size W w') := fun W hW => few_any rs rv W (HR.out W hW) hrm hrs
  obtain ⟨ssv, scs, rfl, -⟩ := hl
  obtain ⟨srv, scr, rfl, -⟩ := hr
  generalize l.length = nl at *
  have HRL : Hid (rs.length = rs.length) := rfl
  clear h hls hrs hlm hI hIn hrn
  obtain ⟨ni, eI⟩ : ∃ ni, I.length = ni := ⟨_, rfl⟩
  have HEI : Hid (I.length = ni) := eI
  rw [eI] at hni HI ⊢
  clear eI
  go_enter Tryz.func3, Tryz.ntmps3
  go_wp2_with fail
  refine cA.mono ?_
  rintro e w1 ⟨rfl, hb1⟩
  have HB1 : Hid (Below w.heap.size w w1) := hb1
  clear hb1 cA
  go_wp2_with fail
  refine (CP.out w1 HB1.out).mono ?_
  rintro e w2 ⟨x, b, rfl, hb2, ⟨sk, kn, skc, hkv⟩, hpol⟩
  obtain ⟨xo, xf, xn, xk⟩ := x
  dsimp only at hkv
  subst hkv
  have HB2 : Hid (Below w.heap.size w (w2.alloc (pobj ⟨xo, xf, xn, .slice sk kn skc⟩))) := (HB1.out.trans (hb2.mono HB1.out.size)).alloc (HB1.out.trans (hb2.mono HB1.out.size)).size _
  have HPol : Hid _ := hpol
  clear hb2 hpol CP
  cases b with
  | false =>
    go_wp2
    go_ret
    exact ⟨rfl, HB2.out⟩
  | true =>
    obtain ⟨T, hTs, hTn, hTp⟩ := HPol.out rfl
    have HT : Hid (PolAt (fun _ => True) (w2.alloc (pobj ⟨xo, xf, xn, .slice sk kn skc⟩)) T ⟨xo, xf, xn, .slice sk kn skc⟩) := (hTp.mono fun _ _ _ => trivial).below ((Below.refl _ w2).alloc (Nat.le_refl _) _)
    have HTs : Hid (sizeP T ≤ 60) := hTs
    have HTn : Hid (okN T) := hTn
    clear hTp hTs HPol hTn
    by_cases h6 : 6 < ni
    · have d6 : decide (6 < (ni : Int)) = true := by simp; omega
      go_wp2
      go_ret
      exact ⟨rfl, HB2.out⟩
    · have d6 : decide (6 < (ni : Int)) = false := by simp; omega
      have cF := CF.out _ HB2.out
      obtain ⟨fw, hfw⟩ : ∃ fw, fewB rs = fw := ⟨_, rfl⟩
      rw [hfw] at cF
      have HF : Hid (fewB rs = fw) := hfw
      clear hfw CF
      obtain ⟨R, eR⟩ : ∃ R, rs.length = R := ⟨_, rfl⟩
      have HER : Hid (rs.length = R) := eR
      rw [eR] at cF HR hrm ⊢
      clear eR
      go_wp2_with fail
      refine cF.mono ?_
      rintro e w3 ⟨rfl, hb3⟩
      have HB3 : Hid (Below w.heap.size w w3) := HB2.out.trans (hb3.mono HB2.out.size)
      have HR3 : Hid (w3.heap[w2.heap.size]? = some (pobj ⟨xo, xf, xn, .slice sk kn skc⟩)) := row_kept hb3
      have HT3 : Hid (PolAt (fun _ => True) w3 T ⟨xo, xf, xn, .slice sk kn skc⟩) := HT.out.below hb3
      clear hb3 cF HT HB2
      cases fw with
      | false =>
        go_wp2
        go_ret
        exact ⟨rfl, HB3.out⟩
      | true =>
        obtain ⟨hrl, hrr⟩ := few_len HF.out
        have hsh : PgShort ⟨I, T, rs⟩ := ⟨by show I.length ≤ _; have := HEI.out; omega, by show sizeP T ≤ _; have := HTs.out; omega, by show rs.length ≤ _; omega, fun r hr => by have := hrr r hr; exact ⟨by omega, by omega, by omega⟩⟩
        have HSh : Hid _ := hsh
        have HNn : Hid (checkM ⟨I, T, rs⟩ = 0 → PgN ⟨I, T, rs⟩) := fun hc => ⟨hc, HIn.out, HTn.out, HRn.out⟩
        clear hrl hrr hsh HIn HTn HRn
        obtain ⟨W, hW⟩ : ∃ W, W = w3.alloc (gobj (.slice si ni sci) ⟨xo, xf, xn, .slice sk kn skc⟩ (.slice srv R scr)) := ⟨_, rfl⟩
        have hbW : Below w3.heap.size w3 W := by rw [hW]; exact (Below.refl _ w3).alloc (Nat.le_refl _) _
        have HG : Hid (W.heap[w3.heap.size]? = some (gobj (.slice si ni sci) ⟨xo, xf, xn, .slice sk kn skc⟩ (.slice srv R scr))) := by rw [hW]; exact heap_alloc_new _ _
        have HB : Hid (Below w.heap.size w W) := HB3.out.trans (hbW.mono HB3.out.size)
        have HPg : Hid (PgAt (fun _ => True) W (.slice si ni sci) ⟨xo, xf, xn, .slice sk kn skc⟩ (.slice srv R scr) ⟨I, T, rs⟩) := ⟨⟨si, sci, by show _ = Value.slice si I.length sci; rw [HEI.out]⟩, HT3.out.below hbW, HR.out W HB.out⟩
        have HIW : Hid (NmAt W (.slice si ni sci) I) := HI.out.below HB.out
        have HEW : Hid (Env W) := HEnv.out.below HB.out
        have r3 := heap_lt HR3.out
        obtain ⟨q0, q1, q2, q3⟩ := row4 HR3.out
        go_wp2_with fail
        rw [← hW]
        clear hW hbW HR3 HB3 HT3 HR q0 q1 q2 q3 r3 HER HEnv HI
        generalize w3.heap.size = G3 at *
        have cG := program_text ⟨I, T, rs⟩ _ _ _ HSh.out HNn.out W HPg.out HIW.out (Es.of HEW.out)
        have HTx : Hid (checkM ⟨I, T, rs⟩ = 0 → progT ⟨I, T, rs⟩ = textG ⟨I, T, rs⟩) := fun hc => by unfold progT; rw [if_pos hc]
        have HTz : Hid (checkM ⟨I, T, rs⟩ ≠ 0 → progT ⟨I, T, rs⟩ = []) := fun hc => by unfold progT; rw [if_neg hc]
        have CC : Hid (∀ W', Below W.heap.size W W' → Calls Tryz.prog 9 #[pgv (.slice si ni sci) ⟨xo, xf, xn, .slice sk kn skc⟩ (.slice srv R scr)] W' fun e w' => e = .returned (.int .i64 (checkM ⟨I, T, rs⟩ : Int)) ∧ Below W'.heap.size W' w') := fun W' hW' => rcheck_any _ _ _ _ HSh.out W' (HPg.out.below hW')
        have hcl := sh_check_lt ⟨I, T, rs⟩
        generalize hST : progT ⟨I, T, rs⟩ = S at *
        generalize hcv : checkM ⟨I, T, rs⟩ = cv at *
        have HST : Hid _ := hST
        have HCV : Hid _ := hcv
        clear hST hcv
        refine cG.mono ?_
        rintro e w4 ⟨rfl, hb4⟩
        have HB4 : Hid (Below W.heap.size W w4) := hb4
        clear hb4 cG
        obtain ⟨g0, g1, g2, g3, g4, g5⟩ := row6 ((HB4.out.block _ (heap_lt HG.out)).trans HG.out)
        have cC := CC.out w4 HB4.out
        clear CC
        by_cases hz : cv = 0
        · subst hz
          have HS : Hid (S = textG ⟨I, T, rs⟩) := HTx.out rfl
          have HPN : Hid (PgN ⟨I, T, rs⟩) := HNn.out rfl
          have d0 : (((0 : Nat) : Int) != 0) = false := by decide
          by_cases hln : 4000 < S.length
          · have d4 : decide (4000 < (S.length : Int)) = true := by simp; omega
            go_wp2_with fail
            refine cC.mono ?_
            rintro e w5 ⟨rfl, hb5⟩
            have HB5 : Hid (Below w.heap.size w w5) := HB.out.trans ((HB4.out.trans (hb5.mono HB4.out.size)).mono HB.out.size)
            clear hb5 cC g0 g1 g2 g3 g4 g5
            go_wp2
            go_ret
            exact ⟨rfl, HB5.out⟩
          · have d4 : decide (4000 < (S.length : Int)) = false := by simp; omega
            go_wp2_with fail
            refine cC.mono ?_
            rintro e w5 ⟨rfl, hb5⟩
            have HB5 : Hid (Below W.heap.size W w5) := HB4.out.trans (hb5.mono HB4.out.size)
            clear hb5 cC g0 g1 g2 g3 g4 g5
            go_wp2_with fail
            have hsh := shown HPN.out
            have cPa := parse_text S (by omega) (.ok (toksG ⟨I, T, rs⟩)) (by rw [HS.out]; exact hsh.1) w5 (HEW.out.below HB5.out)
            rw [hsh.2.1] at cPa
            have HPE : Hid _ := hsh.2.1
            have HPO : Hid ((progOf (toksG ⟨I, T, rs⟩)).1 = ⟨I, T, rs⟩) := hsh.2.2
            clear hsh HNn
            refine cPa.mono ?_
            rintro e w6 ⟨⟨iv, y, rv', rfl, hshape, hgood⟩, hb6⟩
            obtain ⟨hat, hown⟩ := hgood _ rfl HPE.out
            rw [HPO.out] at hat hown
            obtain ⟨⟨t1, n1, u1, rfl⟩, ⟨t2, n2, u2, hkv⟩, ⟨t3, n3, u3, rfl⟩⟩ := hshape
            obtain ⟨yo, yf, yn, yk⟩ := y
            dsimp only at hkv
            subst hkv
            have HB6 : Hid (Below W.heap.size W w6) := HB5.out.trans (hb6.mono HB5.out.size)
            have HAt : Hid _ := hat
            have HOw : Hid (NmAt w6 (.slice t1 n1 u1) I) := nm_of_own hown
            have hrow6 := (HB6.out.block _ (heap_lt HG.out)).trans HG.out
            have hlt6 := heap_lt hrow6
            obtain ⟨g0, g1, g2, g3, g4, g5⟩ := row6 hrow6
            clear hb6 cPa hgood hat hown HPE HPO HEW HB5 HB4 hrow6
            obtain ⟨W7, hW7⟩ : ∃ W7, W7 = w6.alloc (gobj (.slice t1 n1 u1) ⟨yo, yf, yn, .slice t2 n2 u2⟩ (.slice t3 n3 u3)) := ⟨_, rfl⟩
            have hb7 : Below w6.heap.size w6 W7 := by rw [hW7]; exact (Below.refl _ w6).alloc (Nat.le_refl _) _
            have HB7 : Hid (Below W.heap.size W W7) := HB6.out.trans (hb7.mono HB6.out.size)
            have cSm := same_any ⟨I, T, rs⟩ _ _ _ _ _ _ HSh.out W7 (HPg.out.below HB7.out) (HAt.out.below hb7) (NmAt.below HIW.out HB7.out) (NmAt.below HOw.out hb7)
            go_wp2_with fail
            rw [← hW7]
            refine cSm.mono ?_
            rintro e w8 ⟨rfl, hb8⟩
            have HB8 : Hid (Below w.heap.size w w8) := HB.out.trans ((HB7.out.trans (hb8.mono HB7.out.size)).mono HB.out.size)
            clear hb8 cSm hW7 hb7 g0 g1 g2 g3 g4 g5
            go_wp2
            go_ret
            exact ⟨rfl, HB8.out⟩
        · have hS := HTz.out hz
          have d0 : ((cv : Int) != 0) = true := by simp; omega
          subst hS
          go_wp2_with fail
          refine cC.mono ?_
          rintro e w5 ⟨rfl, hb5⟩
          have HB5 : Hid (Below w.heap.size w w5) := HB.out.trans ((HB4.out.trans (hb5.mono HB4.out.size)).mono HB.out.size)
          clear hb5 cC g0 g1 g2 g3 g4 g5
          go_wp2
          go_ret
          exact ⟨rfl, HB5.out⟩
end Go.Proofs.YtebpapmnkbehnaaGreatDoor

/- What the document's formed answers, for every policy of up to 100000 nodes. -/
import Derived.Test.YtipiepcbgjceaaaR1
import Derived.Test.YtipiepcbgjceaaaK10
set_option linter.unusedVariables false
set_option linter.unusedSimpArgs false
namespace Go.Proofs.Ytipiepcbgjceaaa
open Go.RowKit Go.Joins

set_option maxRecDepth 100000 in
set_option maxHeartbeats 8000000 in
theorem rformed_any {P : Nat → Prop} (parts : Int) : ∀ (m : Nat) (T : Pl) (x : Nd) (w : World), sizeP T ≤ m → m ≤ 100000 → PolAt P w T x → Calls Try.prog 41 #[nv x, .int .i64 parts] w fun e w' => e = .returned (.bool (formP parts T)) ∧ Below w.heap.size w w'
  | 0, T, x, w, h, _, _ => absurd (size_pos T) (by omega)
  | m + 1, .mk op f n kids, x, w, hs, hm, hp => by
    obtain ⟨sa, sc, rfl, hk⟩ := hp.open
    have ih := fun T x w h => rformed_any (P := P) parts m T x w h (by omega)
    rw [sizeP_mk] at hs
    rw [formP_is]
    have hl := len_le kids
    by_cases h0 : op = 0
    · subst h0
      rw [show nodeB parts 0 f n kids = (decide (kids.length = 0) && (decide (f = 0) && decide (n = 0))) by unfold nodeB; simp, formL_0]
      exact rf_0 parts f n kids.length (by omega) sa sc w
    by_cases h1 : op = 1
    · subst h1
      rw [show nodeB parts 1 f n kids = (decide (kids.length = 0) && (decide (f = 0) && decide (n = 0))) by unfold nodeB; simp, formL_0]
      exact rf_1 parts f n kids.length (by omega) sa sc w
    by_cases h2 : op = 2
    · subst h2
      rw [show nodeB parts 2 f n kids = (decide (kids.length = 0) && (decide (0 ≤ f) && decide (f < 8))) by unfold nodeB; simp, formL_0]
      exact rf_2 parts f n kids.length (by omega) sa sc w
    by_cases h3 : op = 3
    · subst h3
      rw [show nodeB parts 3 f n kids = (decide (kids.length = 0) && (decide (0 ≤ f) && decide (f < parts))) by unfold nodeB; simp, formL_0]
      exact rf_3 parts f n kids.length (by omega) sa sc w
    by_cases h5 : op = 5
    · subst h5
      rw [show nodeB parts 5 f n kids = (decide (kids.length = 0) && (decide (1 ≤ f) && decide (f < 8))) by unfold nodeB; simp, formL_0]
      exact rf_5 parts f n kids.length (by omega) sa sc w
    have HK : Hid _ := hk
    have IH : Hid _ := ih
    by_cases h4 : op = 4
    · subst h4
      clear h0 h1 h2 h3 h5
      have hN : nodeB parts 4 f n kids = (decide (kids.length = 1) && (decide (f = 0) && decide (n = 0)) && pred0 kids) := by unfold nodeB; simp
      rw [hN]
      cases hq : (decide (kids.length = 1) && (decide (f = 0) && decide (n = 0))) with
      | false => rw [Bool.false_and, Bool.false_and]; exact rf_4no parts f n kids.length (by omega) sa sc w hq
      | true =>
        rw [Bool.true_and]
        simp only [Bool.and_eq_true, decide_eq_true_eq] at hq
        obtain ⟨hk1, rfl, rfl⟩ := hq
        obtain ⟨p, rfl⟩ := List.length_eq_one_iff.1 hk1
        obtain ⟨b, off, sa2, n2, sc2, y0, y1, y2, rfl, hb, ha, hp1⟩ := HK.out 0 (by simp)
        simp only [List.getElem_cons_zero] at hp1
        have hsz : sizeP p ≤ m := by simp [sizeP.sizeL] at hs; omega
        have hb0 := (Below.refl _ w).alloc (Nat.le_refl _) (pobj ⟨4, 0, 0, .slice (some ⟨b, off, none⟩) 1 sc⟩)
        have cP := rpred_any 100000 p _ (w.alloc (pobj ⟨4, 0, 0, .slice (some ⟨b, off, none⟩) 1 sc⟩)) (by omega) (by omega) (hp1.below hb0)
        have HB0 : Hid _ := hb0
        have HA : Hid (At4 w b (off + 0 * 4) ⟨y0, y1, y2, .slice sa2 n2 sc2⟩) := ha
        have HP1 : Hid _ := hp1
        obtain ⟨a0, a1, a2, a3⟩ := ha.same (hb0.block b hb)
        simp only [Nat.zero_mul, Nat.add_zero] at a0 a1 a2 a3
        rw [show pred0 [p] = predP p from rfl, show formP.formL parts [p] = formP parts p by simp [formP.formL]]
        clear hN hk ih hp ha hp1 hb0 hl hs HK hk1
        simp only [List.length_singleton]
        cases hpp : predP p with
        | false =>
          rw [hpp] at cP
          rw [Bool.false_and]
          clear hpp IH
          go_enter Try.func41, Try.ntmps41
          go_wp2_with fail
          refine cP.mono ?_
          rintro e w1 ⟨rfl, hb1⟩
          have HB1 : Hid (Below w.heap.size w w1) := HB0.out.trans (hb1.mono HB0.out.size)
          clear hb1 cP
          go_wp2
          go_ret
          exact ⟨rfl, HB1.out⟩
        | true =>
          rw [hpp] at cP
          rw [Bool.true_and]
          clear hpp
          generalize hfp : formP parts p = fp at *
          have HFP : Hid (formP parts p = fp) := hfp
          clear hfp
          go_enter Try.func41, Try.ntmps41
          go_wp2_with fail
          refine cP.mono ?_
          rintro e w1 ⟨rfl, hb1⟩
          have HB1 : Hid (Below w.heap.size w w1) := HB0.out.trans (hb1.mono HB0.out.size)
          obtain ⟨r0, r1, r2, r3⟩ := row4 ((hb1.block _ (heap_lt (heap_alloc_new w _))).trans (heap_alloc_new w (pobj ⟨4, 0, 0, .slice (some ⟨b, off, none⟩) 1 sc⟩)))
          have cF := IH.out p _ w1 hsz (HP1.out.below HB1.out)
          rw [HFP.out] at cF
          clear a0 a1 a2 a3
          obtain ⟨a0, a1, a2, a3⟩ := At4.same HA.out (HB1.out.block b hb)
          simp only [Nat.zero_mul, Nat.add_zero] at a0 a1 a2 a3
          clear hb1 cP HB0
          go_wp2_with fail
          refine cF.mono ?_
          rintro e w2 ⟨rfl, hb2⟩
          have HB2 : Hid (Below w.heap.size w w2) := HB1.out.trans (hb2.mono HB1.out.size)
          clear hb2 cF
          go_wp2
          go_ret
          exact ⟨rfl, HB2.out⟩
    by_cases h6 : op = 6
    · subst h6
      clear h0 h1 h2 h3 h4 h5 hk ih hp
      have hN : nodeB parts 6 f n kids = (decide (2 ≤ kids.length) && (decide (f = 0) && decide (n = 0))) := by unfold nodeB; simp
      rw [hN]
      cases hq : (decide (2 ≤ kids.length) && (decide (f = 0) && decide (n = 0))) with
      | false => rw [Bool.false_and]; exact rf_no6 parts f n kids.length (by omega) sa sc w hq
      | true =>
        rw [Bool.true_and]
        simp only [Bool.and_eq_true, decide_eq_true_eq] at hq
        obtain ⟨hk2, rfl, rfl⟩ := hq
        have k3 : decide ((kids.length : Int) < 2) = false := by simp; omega
        clear hN
        go_enter Try.func41, Try.ntmps41
        go_wp2
        go_loopw [6] (fun i wr => ∃ k : Nat, k ≤ kids.length ∧ i = .int .i64 (k : Int) ∧ Hid (formP.formL parts (kids.take k) = true) ∧ Hid (Below w.heap.size w wr) ∧ wr.heap[w.heap.size]? = some (pobj ⟨6, 0, 0, .slice sa kids.length sc⟩)) (fun i _ => kids.length - (intOf i).toNat)
        case atStart => exact ⟨0, Nat.zero_le _, rfl, by show _ = _; simp [formP.formL], (Below.refl _ w).alloc (Nat.le_refl _) _, heap_alloc_new w _⟩
        case round =>
          obtain ⟨k, hkl, rfl, HT, HB, hrow⟩ := hrel
          obtain ⟨r0, r1, r2, r3⟩ := row4 hrow
          have HRow : Hid (wr.heap[w.heap.size]? = some (pobj ⟨6, 0, 0, .slice sa kids.length sc⟩)) := hrow
          clear hrow
          by_cases hlt : k < kids.length
          · obtain ⟨b, off, sa2, n2, sc2, y0, y1, y2, rfl, hb, ha, hp⟩ := HK.out k hlt
            obtain ⟨a0, a1, a2, a3⟩ := ha.same (HB.out.block b hb)
            have hwr := HB.out.size
            have hsz := size_get kids k hlt
            have htk := formL_take parts kids k hlt
            rw [HT.out, Bool.true_and] at htk
            have cS := IH.out kids[k] ⟨y0, y1, y2, .slice sa2 n2 sc2⟩ wr (by omega) (hp.below HB.out)
            have HP : Hid (formP parts kids[k] = false → formP.formL parts kids = false) := formL_false parts kids k hlt
            clear hp ha hsz
            cases hpk : formP parts kids[k] with
            | true =>
              rw [hpk] at cS htk
              have HT2 : Hid (formP.formL parts (kids.take (k + 1)) = true) := htk
              clear hpk htk
              go_wp2_with fail
              refine cS.mono ?_
              rintro e w1 ⟨rfl, hb1⟩
              have HB1 : Hid (Below w.heap.size w w1) := HB.out.trans (hb1.mono hwr)
              have HR1 : Hid (w1.heap[w.heap.size]? = some _) := (hb1.block _ (heap_lt HRow.out)).trans HRow.out
              clear hb1 cS
              go_wp2
              go_roundw
              case rel => exact ⟨k + 1, by omega, by go_num, HT2, HB1, HR1.out⟩
              case measure => simp [intOf]; omega
            | false =>
              rw [hpk] at cS
              have HP2 : Hid (formP.formL parts kids = false) := HP.out hpk
              clear hpk htk
              go_wp2_with fail
              refine cS.mono ?_
              rintro e w1 ⟨rfl, hb1⟩
              have HB1 : Hid (Below w.heap.size w w1) := HB.out.trans (hb1.mono hwr)
              clear hb1 cS
              go_wp2
              go_ret
              exact ⟨by rw [HP2.out]; rfl, HB1.out⟩
          · obtain rfl : k = kids.length := by omega
            have HT2 : Hid (formP.formL parts kids = true) := by have := HT.out; rwa [List.take_length] at this
            go_wp2
            go_ret
            exact ⟨by rw [HT2.out]; rfl, HB.out⟩
    by_cases h7 : op = 7
    · subst h7
      clear h0 h1 h2 h3 h4 h5 h6 hk ih hp
      have hN : nodeB parts 7 f n kids = (decide (2 ≤ kids.length) && (decide (f = 0) && decide (n = 0))) := by unfold nodeB; simp
      rw [hN]
      cases hq : (decide (2 ≤ kids.length) && (decide (f = 0) && decide (n = 0))) with
      | false => rw [Bool.false_and]; exact rf_no7 parts f n kids.length (by omega) sa sc w hq
      | true =>
        rw [Bool.true_and]
        simp only [Bool.and_eq_true, decide_eq_true_eq] at hq
        obtain ⟨hk2, rfl, rfl⟩ := hq
        have k3 : decide ((kids.length : Int) < 2) = false := by simp; omega
        clear hN
        go_enter Try.func41, Try.ntmps41
        go_wp2
        go_loopw [6] (fun i wr => ∃ k : Nat, k ≤ kids.length ∧ i = .int .i64 (k : Int) ∧ Hid (formP.formL parts (kids.take k) = true) ∧ Hid (Below w.heap.size w wr) ∧ wr.heap[w.heap.size]? = some (pobj ⟨7, 0, 0, .slice sa kids.length sc⟩)) (fun i _ => kids.length - (intOf i).toNat)
        case atStart => exact ⟨0, Nat.zero_le _, rfl, by show _ = _; simp [formP.formL], (Below.refl _ w).alloc (Nat.le_refl _) _, heap_alloc_new w _⟩
        case round =>
          obtain ⟨k, hkl, rfl, HT, HB, hrow⟩ := hrel
          obtain ⟨r0, r1, r2, r3⟩ := row4 hrow
          have HRow : Hid (wr.heap[w.heap.size]? = some (pobj ⟨7, 0, 0, .slice sa kids.length sc⟩)) := hrow
          clear hrow
          by_cases hlt : k < kids.length
          · obtain ⟨b, off, sa2, n2, sc2, y0, y1, y2, rfl, hb, ha, hp⟩ := HK.out k hlt
            obtain ⟨a0, a1, a2, a3⟩ := ha.same (HB.out.block b hb)
            have hwr := HB.out.size
            have hsz := size_get kids k hlt
            have htk := formL_take parts kids k hlt
            rw [HT.out, Bool.true_and] at htk
            have cS := IH.out kids[k] ⟨y0, y1, y2, .slice sa2 n2 sc2⟩ wr (by omega) (hp.below HB.out)
            have HP : Hid (formP parts kids[k] = false → formP.formL parts kids = false) := formL_false parts kids k hlt
            clear hp ha hsz
            cases hpk : formP parts kids[k] with
            | true =>
              rw [hpk] at cS htk
              have HT2 : Hid (formP.formL parts (kids.take (k + 1)) = true) := htk
              clear hpk htk
              go_wp2_with fail
              refine cS.mono ?_
              rintro e w1 ⟨rfl, hb1⟩
              have HB1 : Hid (Below w.heap.size w w1) := HB.out.trans (hb1.mono hwr)
              have HR1 : Hid (w1.heap[w.heap.size]? = some _) := (hb1.block _ (heap_lt HRow.out)).trans HRow.out
              clear hb1 cS
              go_wp2
              go_roundw
              case rel => exact ⟨k + 1, by omega, by go_num, HT2, HB1, HR1.out⟩
              case measure => simp [intOf]; omega
            | false =>
              rw [hpk] at cS
              have HP2 : Hid (formP.formL parts kids = false) := HP.out hpk
              clear hpk htk
              go_wp2_with fail
              refine cS.mono ?_
              rintro e w1 ⟨rfl, hb1⟩
              have HB1 : Hid (Below w.heap.size w w1) := HB.out.trans (hb1.mono hwr)
              clear hb1 cS
              go_wp2
              go_ret
              exact ⟨by rw [HP2.out]; rfl, HB1.out⟩
          · obtain rfl : k = kids.length := by omega
            have HT2 : Hid (formP.formL parts kids = true) := by have := HT.out; rwa [List.take_length] at this
            go_wp2
            go_ret
            exact ⟨by rw [HT2.out]; rfl, HB.out⟩
    rw [show nodeB parts op f n kids = false by unfold nodeB; simp [h0, h1, h2, h3, h4, h5, h6, h7], Bool.false_and]
    exact rf_else parts f n kids.length (by omega) sa sc w op h0 h1 h2 h3 h4 h5 h6 h7
end Go.Proofs.Ytipiepcbgjceaaa
/- What the document's Check answers; policies of up to 100000 nodes, lists of up to 100000. -/
set_option linter.unusedVariables false
set_option linter.unusedSimpArgs false
namespace Go.Proofs.Ytipiepcbgjceaaa
open Go.RowKit Go.Joins

theorem row3x {w : World} {g : Nat} {t : TypeId} {x0 x1 x2 : Value} (hg : w.heap[g]? = some (.cells #[x0, x1, x2] t)) :
    w.cell? ⟨g, 0, none⟩ = some x0 ∧ w.cell? ⟨g, 1, none⟩ = some x1 ∧ w.cell? ⟨g, 2, none⟩ = some x2 := by
  have c := fun j => cell_of_row w g j _ _ _ hg
  exact ⟨by simpa using c 0, by simpa using c 1, by simpa using c 2⟩
set_option maxRecDepth 100000 in
set_option maxHeartbeats 8000000 in
theorem rcheck_any {P : Nat → Prop} (p : Pg) (iv : Value) (x : Nd) (rv : Value) (hs : PgShort p) (w : World) (h : PgAt P w iv x rv p) : Calls Try.prog 29 #[pgv iv x rv] w fun e w' => e = .returned (.int .i64 (checkM p : Int)) ∧ Below w.heap.size w w' := by
  have hb0 := (Below.refl _ w).alloc (Nat.le_refl _) (gobj iv x rv)
  have cS := rsize_any 100000 p.pol x _ hs.s (by omega) (h.pol.below hb0)
  have cD := fun W (hW : Below w.heap.size w W) => rdepth_any 100000 p.pol x W hs.s (by omega) (h.pol.below hW)
  have cF := fun W (hW : Below w.heap.size w W) => rformed_any (p.init.length : Int) 100000 p.pol x W hs.s (by omega) (h.pol.below hW)
  have HB0 : Hid (Below w.heap.size w (w.alloc (gobj iv x rv))) := hb0
  have HW : Hid ((w.alloc (gobj iv x rv)).heap[w.heap.size]? = some (gobj iv x rv)) := heap_alloc_new w _
  obtain ⟨sa, sc, rfl⟩ := h.ini
  obtain ⟨sr, scr, rfl, hc⟩ := h.rul
  have HC : Hid _ := hc
  obtain ⟨-, -, -, sk, skc, hkv⟩ := h.pol.shape
  obtain ⟨xo, xf, xn, xk⟩ := x
  dsimp only at hkv
  subst hkv
  have hi := hs.i
  have hr := hs.r
  have hsz := hs.s
  have hdz := depth_le p.pol
  have HL : Hid (∀ r ∈ p.rules, RlShort r) := hs.l
  have h2 : longB p = true → checkM p = 2 := fun h => by unfold checkM; rw [if_pos h]
  have h11 : longB p = false → (formP p.init.length p.pol && p.rules.all (ruleB p.init.length)) = false → checkM p = 11 := fun h h' => by unfold checkM; rw [if_neg (by rw [h]; decide), if_neg (by rw [h']; decide)]
  have h0 : longB p = false → (formP p.init.length p.pol && p.rules.all (ruleB p.init.length)) = true → checkM p = 0 := fun h h' => by unfold checkM; rw [if_neg (by rw [h]; decide), if_pos h']
  have hlB : longB p = (decide (p.init.length = 0) || decide (4 < p.init.length) || decide (24 < p.rules.length) || decide (300 < sizeP p.pol) || decide (20 < depthP p.pol)) := rfl
  rw [hlB] at h2 h11 h0
  clear hlB
  generalize checkM p = cv at *
  generalize p.pol.kids.length = kn at *
  obtain ⟨n, en⟩ : ∃ n, p.init.length = n := ⟨_, rfl⟩
  rw [en] at hi cF HB0 HW h2 h11 h0 cS ⊢
  obtain ⟨R, eR⟩ : ∃ R, p.rules.length = R := ⟨_, rfl⟩
  have HER : Hid (p.rules.length = R) := eR
  rw [eR] at hr HB0 HW h2 h11 h0 cS ⊢
  generalize sizeP p.pol = z at *
  generalize depthP p.pol = d at *
  have hfm : ∀ b, formP (n : Int) p.pol = b → formP (n : Int) p.pol = b := fun _ h => h
  obtain ⟨fm, efm⟩ : ∃ fm, formP (n : Int) p.pol = fm := ⟨_, rfl⟩
  rw [efm] at cF h11 h0
  clear hb0 h hs hc en eR efm hfm
  by_cases g1 : n < 1
  · have d1 : decide ((n : Int) < 1) = true := by simp; omega
    have HV : Hid ((cv : Int) = 2) := by have := h2 (by simp; omega); show _ = _; omega
    clear h2 h11 h0
    go_enter Try.func29, Try.ntmps29
    go_wp2
    go_ret
    exact ⟨by rw [HV.out]; rfl, HB0.out⟩
  have d1 : decide ((n : Int) < 1) = false := by simp; omega
  by_cases g2 : 4 < n
  · have d2 : decide (4 < (n : Int)) = true := by simp; omega
    have HV : Hid ((cv : Int) = 2) := by have := h2 (by simp; omega); show _ = _; omega
    clear h2 h11 h0
    go_enter Try.func29, Try.ntmps29
    go_wp2
    go_ret
    exact ⟨by rw [HV.out]; rfl, HB0.out⟩
  have d2 : decide (4 < (n : Int)) = false := by simp; omega
  by_cases g3 : 300 < z
  · have d3 : decide (300 < (z : Int)) = true := by simp; omega
    have HV : Hid ((cv : Int) = 2) := by have := h2 (by simp; omega); show _ = _; omega
    clear h2 h11 h0
    go_enter Try.func29, Try.ntmps29
    go_wp2_with fail
    refine cS.mono ?_
    rintro e w1 ⟨rfl, hb1⟩
    have HB1 : Hid (Below w.heap.size w w1) := HB0.out.trans (hb1.mono HB0.out.size)
    clear hb1 cS
    go_wp2
    go_ret
    exact ⟨by rw [HV.out]; rfl, HB1.out⟩
  have d3 : decide (300 < (z : Int)) = false := by simp; omega
  by_cases g4 : 20 < d ∨ 24 < R
  · have HV : Hid ((cv : Int) = 2) := by have := h2 (by simp; omega); show _ = _; omega
    clear h2 h11 h0
    by_cases g5 : 20 < d
    · have d4 : decide (20 < (d : Int)) = true := by simp; omega
      go_enter Try.func29, Try.ntmps29
      go_wp2_with fail
      refine cS.mono ?_
      rintro e w1 ⟨rfl, hb1⟩
      have HB1 : Hid (Below w.heap.size w w1) := HB0.out.trans (hb1.mono HB0.out.size)
      obtain ⟨q0, q1, q2, q3, q4, q5⟩ := row6 ((hb1.block _ (heap_lt HW.out)).trans HW.out)
      clear hb1 cS
      go_wp2_with fail
      refine (cD _ HB1.out).mono ?_
      rintro e w2 ⟨rfl, hb2⟩
      have HB2 : Hid (Below w.heap.size w w2) := HB1.out.trans (hb2.mono HB1.out.size)
      clear hb2 cD q0 q1 q2 q3 q4 q5
      go_wp2
      go_ret
      exact ⟨by rw [HV.out]; rfl, HB2.out⟩
    · have d4 : decide (20 < (d : Int)) = false := by simp; omega
      have d5 : decide (24 < (R : Int)) = true := by simp; omega
      go_enter Try.func29, Try.ntmps29
      go_wp2_with fail
      refine cS.mono ?_
      rintro e w1 ⟨rfl, hb1⟩
      have HB1 : Hid (Below w.heap.size w w1) := HB0.out.trans (hb1.mono HB0.out.size)
      have HR1 : Hid _ := (hb1.block _ (heap_lt HW.out)).trans HW.out
      obtain ⟨q0, q1, q2, q3, q4, q5⟩ := row6 HR1.out
      clear hb1 cS
      go_wp2_with fail
      refine (cD _ HB1.out).mono ?_
      rintro e w2 ⟨rfl, hb2⟩
      have HB2 : Hid (Below w.heap.size w w2) := HB1.out.trans (hb2.mono HB1.out.size)
      clear q0 q1 q2 q3 q4 q5
      obtain ⟨q0, q1, q2, q3, q4, q5⟩ := row6 ((hb2.block _ (heap_lt HR1.out)).trans HR1.out)
      clear hb2 cD
      go_wp2
      go_ret
      exact ⟨by rw [HV.out]; rfl, HB2.out⟩
  have d4 : decide (20 < (d : Int)) = false := by simp; omega
  have d5 : decide (24 < (R : Int)) = false := by simp; omega
  replace h11 := h11 (by simp; omega)
  replace h0 := h0 (by simp; omega)
  clear h2
  go_enter Try.func29, Try.ntmps29
  go_wp2_with fail
  refine cS.mono ?_
  rintro e w1 ⟨rfl, hb1⟩
  have HB1 : Hid (Below w.heap.size w w1) := HB0.out.trans (hb1.mono HB0.out.size)
  have HR1 : Hid _ := (hb1.block _ (heap_lt HW.out)).trans HW.out
  obtain ⟨q0, q1, q2, q3, q4, q5⟩ := row6 HR1.out
  clear hb1 cS HB0 HW
  go_wp2_with fail
  refine (cD _ HB1.out).mono ?_
  rintro e w2 ⟨rfl, hb2⟩
  have HB2 : Hid (Below w.heap.size w w2) := HB1.out.trans (hb2.mono HB1.out.size)
  have HR2 : Hid _ := (hb2.block _ (heap_lt HR1.out)).trans HR1.out
  clear q0 q1 q2 q3 q4 q5
  obtain ⟨q0, q1, q2, q3, q4, q5⟩ := row6 HR2.out
  clear hb2 cD HB1 HR1
  go_wp2_with fail
  refine (cF _ HB2.out).mono ?_
  rintro e w3 ⟨rfl, hb3⟩
  have HB3 : Hid (Below w.heap.size w w3) := HB2.out.trans (hb3.mono HB2.out.size)
  have HR3 : Hid (w3.heap[w.heap.size]? = some (gobj (.slice sa n sc) ⟨xo, xf, xn, .slice sk kn skc⟩ (.slice sr R scr))) := (hb3.block _ (heap_lt HR2.out)).trans HR2.out
  clear q0 q1 q2 q3 q4 q5 hb3 cF HB2 HR2
  cases fm with
  | false =>
    have HV : Hid ((cv : Int) = 11) := by have := h11 rfl; show _ = _; omega
    clear h11 h0
    go_wp2
    go_ret
    exact ⟨by rw [HV.out]; rfl, HB3.out⟩
  | true =>
    rw [Bool.true_and] at h11 h0
    have H11 : Hid (p.rules.all (ruleB n) = false → cv = 11) := h11
    have H0 : Hid (p.rules.all (ruleB n) = true → cv = 0) := h0
    clear h11 h0
    go_wp2_with fail
    go_loopw [3] (fun i wr => ∃ k : Nat, k ≤ R ∧ i = .int .i64 (k : Int) ∧ Hid ((p.rules.take k).all (ruleB n) = true) ∧ Hid (Below w.heap.size w wr) ∧ wr.heap[w.heap.size]? = some (gobj (.slice sa n sc) ⟨xo, xf, xn, .slice sk kn skc⟩ (.slice sr R scr))) (fun i _ => R - (intOf i).toNat)
    case atStart => exact ⟨0, Nat.zero_le _, rfl, by show _ = _; simp, HB3, HR3.out⟩
    case round =>
      obtain ⟨k, hkl, rfl, HT, HB, hrow⟩ := hrel
      have HRow : Hid (wr.heap[w.heap.size]? = some (gobj (.slice sa n sc) ⟨xo, xf, xn, .slice sk kn skc⟩ (.slice sr R scr))) := hrow
      obtain ⟨q0, q1, q2, q3, q4, q5⟩ := row6 hrow
      clear hrow
      by_cases hlt : k < R
      · have hlt' : k < p.rules.length := by rw [HER.out]; exact hlt
        obtain ⟨b, off, v1, v2, v3, rfl, -, hb, ⟨a0, a1, a2⟩, hru'⟩ := HC.out k hlt'
        have hru := hru'.at
        clear hru'
        have q : ∀ o, wr.cell? ⟨b, o, none⟩ = w.cell? ⟨b, o, none⟩ := fun o => HB.out.cell (p := ⟨b, o, none⟩) hb
        rw [← q] at a0 a1 a2
        have hwr := HB.out.size
        have htk := all_take (ruleB n) p.rules k hlt'
        rw [HT.out, Bool.true_and] at htk
        obtain ⟨sa1, sc1, rfl⟩ := hru.p1.shape
        obtain ⟨sa2, sc2, rfl⟩ := hru.p2.shape
        obtain ⟨sa3, sc3, rfl⟩ := hru.p3.shape
        have hsh := HL.out _ (List.getElem_mem hlt')
        have hp11 : ruleB n p.rules[k] = false → cv = 11 := fun h => H11.out (all_false _ _ k hlt' h)
        have htk2 : ruleB n p.rules[k] = true → (p.rules.take (k + 1)).all (ruleB n) = true := fun h => by rw [htk]; exact h
        have hrB : ruleB n p.rules[k] = (riseB 0 8 p.rules[k].when && portB p.rules[k].when && riseB 0 n p.rules[k].guard && riseB 0 n p.rules[k].thn && decide (0 < p.rules[k].thn.length)) := rfl
        rw [hrB] at hp11 htk2
        have c2 := fun W (hW : Below w.heap.size w W) => rrising_any p.rules[k].guard (n : Int) _ hsh.2.1 W (hru.below hW).p2
        have c3 := fun W (hW : Below w.heap.size w W) => rrising_any p.rules[k].thn (n : Int) _ hsh.2.2 W (hru.below hW).p3
        have c1 := fun W (hW : Below w.heap.size w W) => rrising_any p.rules[k].when 8 _ hsh.1 W (hru.below hW).p1
        obtain ⟨_, _, ew, hcw⟩ := hru.p1
        simp only [Value.slice.injEq, true_and] at ew
        obtain ⟨rfl, rfl⟩ := ew
        have hwl := hsh.1
        have hgl := hsh.2.1
        have htl := hsh.2.2
        generalize riseB 0 8 p.rules[k].when = b1 at *
        generalize riseB 0 (n : Int) p.rules[k].guard = b2 at *
        generalize riseB 0 (n : Int) p.rules[k].thn = b3 at *
        generalize p.rules[k].guard.length = n2 at *
        generalize p.rules[k].thn.length = n3 at *
        generalize p.rules[k].when = wl at *
        obtain ⟨n1, en1⟩ : ∃ n1, wl.length = n1 := ⟨_, rfl⟩
        have HCw : Hid _ := hcw
        clear hcw hru q hrB htk hsh hlt'
        rw [en1] at c1 hwl a0
        have hbR : Below w.heap.size w (wr.alloc (robj3 (.slice sa1 n1 sc1) (.slice sa2 n2 sc2) (.slice sa3 n3 sc3))) := HB.out.alloc hwr _
        have HBR : Hid (Below w.heap.size w (wr.alloc (robj3 (.slice sa1 n1 sc1) (.slice sa2 n2 sc2) (.slice sa3 n3 sc3)))) := hbR
        have HPR : Hid ((wr.alloc (robj3 (.slice sa1 n1 sc1) (.slice sa2 n2 sc2) (.slice sa3 n3 sc3))).heap[w.heap.size]? = some (gobj (.slice sa n sc) ⟨xo, xf, xn, .slice sk kn skc⟩ (.slice (some ⟨b, off, none⟩) R scr))) := (((Below.refl _ wr).alloc (Nat.le_refl _) (robj3 (.slice sa1 n1 sc1) (.slice sa2 n2 sc2) (.slice sa3 n3 sc3))).block _ (heap_lt HRow.out)).trans HRow.out
        have HRR : Hid ((wr.alloc (robj3 (.slice sa1 n1 sc1) (.slice sa2 n2 sc2) (.slice sa3 n3 sc3))).heap[wr.heap.size]? = some (robj3 (.slice sa1 n1 sc1) (.slice sa2 n2 sc2) (.slice sa3 n3 sc3))) := heap_alloc_new wr _
        by_cases hn1 : n1 < 2
        · have dn : decide ((n1 : Int) < 2) = true := by simp; omega
          have hpo : portB wl = false := by
            match wl, en1 with
            | [], _ => rfl
            | [_], _ => rfl
            | _ :: _ :: _, h => simp at h; omega
          rw [hpo] at hp11
          have HV : Hid ((cv : Int) = 11) := by have := hp11 (by simp); show _ = _; omega
          clear hp11 htk2 c1 c2 c3 hbR hpo
          go_wp2
          go_ret
          exact ⟨by rw [HV.out]; rfl, HBR.out⟩
        · have dn : decide ((n1 : Int) < 2) = false := by simp; omega
          obtain ⟨x0, x1, wr', rfl⟩ : ∃ x0 x1 r, wl = x0 :: x1 :: r := by
            match wl, en1 with
            | [], h => exact absurd h (by simp; omega)
            | [_], h => exact absurd h (by simp; omega)
            | a :: b :: r, _ => exact ⟨a, b, r, rfl⟩
          obtain ⟨g, o1, e1, hg, ha0⟩ := HCw.out 0 (by simp)
          obtain ⟨g2, o2, e2, hg2, ha1⟩ := HCw.out 1 (by simp)
          subst e1
          simp only [Option.some.injEq, Addr.mk.injEq, and_true] at e2
          obtain ⟨rfl, rfl⟩ := e2
          obtain ⟨u0, u1⟩ := ha0.same (hbR.block g hg)
          obtain ⟨u2, u3⟩ := ha1.same (hbR.block g hg)
          simp only [Nat.zero_mul, Nat.add_zero, List.getElem_cons_zero, List.getElem_cons_succ, Nat.one_mul] at u0 u1 u2 u3
          rw [show portB (x0 :: x1 :: wr') = (decide (x0.1 = 0) && decide (x1.1 = 1)) from rfl] at hp11 htk2
          clear HCw ha0 ha1 hbR hg hg2 en1
          generalize x0.1 = y0 at *
          generalize x1.1 = y1 at *
          by_cases hy0 : y0 = 0
          · subst hy0
            by_cases hy1 : y1 = 1
            · subst hy1
              simp only [decide_true, Bool.and_true] at hp11 htk2
              have HP : Hid _ := hp11
              have HTk : Hid _ := htk2
              clear hp11 htk2
              go_wp2_with fail
              refine (c1 _ HBR.out).mono ?_
              rintro e s1 ⟨rfl, hbs1⟩
              have HBs1 : Hid (Below w.heap.size w s1) := HBR.out.trans (hbs1.mono HBR.out.size)
              have HPs1 : Hid (s1.heap[w.heap.size]? = some (gobj (.slice sa n sc) ⟨xo, xf, xn, .slice sk kn skc⟩ (.slice (some ⟨b, off, none⟩) R scr))) := (hbs1.block _ (heap_lt HPR.out)).trans HPR.out
              have HRs1 : Hid (s1.heap[wr.heap.size]? = some (robj3 (.slice (some ⟨g, o1, none⟩) n1 sc1) (.slice sa2 n2 sc2) (.slice sa3 n3 sc3))) := (hbs1.block _ (heap_lt HRR.out)).trans HRR.out
              clear hbs1
              clear q0 q1 q2 q3 q4 q5 a0 a1 a2 u0 u1 u2 u3 c1 HBR HPR HRR
              obtain ⟨q0, q1, q2, q3, q4, q5⟩ := row6 HPs1.out
              obtain ⟨r0, r1, r2⟩ := row3x HRs1.out
              cases b1 with
              | false =>
                have HV : Hid ((cv : Int) = 11) := by have := HP.out (by simp); show _ = _; omega
                go_wp2
                go_ret
                exact ⟨by rw [HV.out]; rfl, HBs1.out⟩
              | true =>
                go_wp2_with fail
                refine (c2 _ HBs1.out).mono ?_
                rintro e s2 ⟨rfl, hbs2⟩
                have HBs2 : Hid (Below w.heap.size w s2) := HBs1.out.trans (hbs2.mono HBs1.out.size)
                have HPs2 : Hid (s2.heap[w.heap.size]? = some (gobj (.slice sa n sc) ⟨xo, xf, xn, .slice sk kn skc⟩ (.slice (some ⟨b, off, none⟩) R scr))) := (hbs2.block _ (heap_lt HPs1.out)).trans HPs1.out
                have HRs2 : Hid (s2.heap[wr.heap.size]? = some (robj3 (.slice (some ⟨g, o1, none⟩) n1 sc1) (.slice sa2 n2 sc2) (.slice sa3 n3 sc3))) := (hbs2.block _ (heap_lt HRs1.out)).trans HRs1.out
                clear hbs2
                clear q0 q1 q2 q3 q4 q5 r0 r1 r2 c2 HBs1 HPs1 HRs1
                obtain ⟨q0, q1, q2, q3, q4, q5⟩ := row6 HPs2.out
                obtain ⟨r0, r1, r2⟩ := row3x HRs2.out
                cases b2 with
                | false =>
                  have HV : Hid ((cv : Int) = 11) := by have := HP.out (by simp); show _ = _; omega
                  go_wp2
                  go_ret
                  exact ⟨by rw [HV.out]; rfl, HBs2.out⟩
                | true =>
                  go_wp2_with fail
                  refine (c3 _ HBs2.out).mono ?_
                  rintro e s3 ⟨rfl, hbs3⟩
                  have HBs3 : Hid (Below w.heap.size w s3) := HBs2.out.trans (hbs3.mono HBs2.out.size)
                  have HPs3 : Hid (s3.heap[w.heap.size]? = some (gobj (.slice sa n sc) ⟨xo, xf, xn, .slice sk kn skc⟩ (.slice (some ⟨b, off, none⟩) R scr))) := (hbs3.block _ (heap_lt HPs2.out)).trans HPs2.out
                  have HRs3 : Hid (s3.heap[wr.heap.size]? = some (robj3 (.slice (some ⟨g, o1, none⟩) n1 sc1) (.slice sa2 n2 sc2) (.slice sa3 n3 sc3))) := (hbs3.block _ (heap_lt HRs2.out)).trans HRs2.out
                  clear hbs3
                  clear q0 q1 q2 q3 q4 q5 r0 r1 r2 c3 HBs2 HPs2 HRs2
                  obtain ⟨q0, q1, q2, q3, q4, q5⟩ := row6 HPs3.out
                  obtain ⟨r0, r1, r2⟩ := row3x HRs3.out
                  cases b3 with
                  | false =>
                    have HV : Hid ((cv : Int) = 11) := by have := HP.out (by simp); show _ = _; omega
                    go_wp2
                    go_ret
                    exact ⟨by rw [HV.out]; rfl, HBs3.out⟩
                  | true =>
                    by_cases h3 : n3 = 0
                    · have d3 : ((n3 : Int) == 0) = true := by simpa using h3
                      have HV : Hid ((cv : Int) = 11) := by have := HP.out (by simp [h3]); show _ = _; omega
                      clear h3
                      go_wp2
                      go_ret
                      exact ⟨by rw [HV.out]; rfl, HBs3.out⟩
                    · have d3 : ((n3 : Int) == 0) = false := by simpa using h3
                      have HT2 : Hid ((p.rules.take (k + 1)).all (ruleB n) = true) := HTk.out (by simp; omega)
                      clear h3
                      go_wp2
                      go_roundw
                      case rel => exact ⟨k + 1, by omega, by go_num, HT2, HBs3, HPs3.out⟩
                      case measure => simp [intOf]; omega
            · have dy : (y1 != 1) = true := by simpa using hy1
              rw [decide_eq_false hy1] at hp11
              have HV : Hid ((cv : Int) = 11) := by have := hp11 (by simp); show _ = _; omega
              clear hp11 htk2 c1 c2 c3 hy1
              go_wp2
              go_ret
              exact ⟨by rw [HV.out]; rfl, HBR.out⟩
          · have dy : (y0 != 0) = true := by simpa using hy0
            rw [decide_eq_false hy0] at hp11
            have HV : Hid ((cv : Int) = 11) := by have := hp11 (by simp); show _ = _; omega
            clear hp11 htk2 c1 c2 c3 hy0
            go_wp2
            go_ret
            exact ⟨by rw [HV.out]; rfl, HBR.out⟩
      · obtain rfl : k = R := by omega
        have HV : Hid ((cv : Int) = 0) := by
          have ht := HT.out
          rw [← HER.out, List.take_length] at ht
          have := H0.out ht
          show _ = _
          omega
        go_wp2
        go_ret
        exact ⟨by rw [HV.out]; rfl, HB.out⟩
end Go.Proofs.Ytipiepcbgjceaaa

/- The table of lists: merge.Of; up to 1000 lists of up to 1000 rows. -/
import Derived.Test.YtbcikkofbdfmaaaZ8
set_option linter.unusedVariables false
set_option linter.unusedSimpArgs false
namespace Go.Proofs.Ytbcikkofbdfmaaa
open Go.RowKit Go.Joins Go.Sort

theorem LSt.start {w : World} {r : Nat} {zw zl : Value} {t : Tab} {U : List Value} {W : World} (h : LSt w zw zl t U W) (hr : r < w.heap.size) (hres : w.heap[r]? = some (.cells #[.slice none 0 0, .slice none 0 0] 30)) :
    OSt w r W.heap.size zw zl t 0 U (W.alloc (.cells #[zw, zl] 30)) := by
  have hb : Below W.heap.size W (W.alloc (.cells #[zw, zl] 30)) := (Below.refl _ _).alloc (Nat.le_refl _) _
  have hres' : W.heap[r]? = some (.cells #[.slice none 0 0, .slice none 0 0] 30) := (h.bel.block _ hr).trans hres
  exact ⟨h.bel.trans (hb.mono h.bel.size), heap_alloc_new _ _, h.bel.size, hr, (hb.block _ (hlt hres')).trans hres', own_below h.nums hb, own_below h.rows hb, fun k _ hk => absurd hk (Nat.not_lt_zero _), fun k hk _ => h.each k hk⟩
theorem LSt.listsAt {w : World} {zw zl : Value} {t : Tab} {U : List Value} {W : World} (h : LSt w zw zl t U W) : ListsAt W zl t.l := by
  rcases h.rows.2 with ⟨hv, hn⟩ | ⟨b, cap, cur, hv, hB, hgg, hcap, hmax, hsz, htk⟩
  · exact ⟨none, 0, by rw [hv, hn], by rw [hn]; exact Nat.zero_le _, fun k hk => absurd hk (by omega)⟩
  · refine ⟨_, cap, hv, by unfold maxLen at hmax; omega, fun k hk => ?_⟩
    obtain ⟨u, hu, hr⟩ := h.each k hk
    refine ⟨b, 0, rfl, hlt hgg, u, ?_, hr.below h.bel⟩
    have hrow := h.rows
    rw [hv] at hrow
    rw [Nat.zero_add, hrow.cellAt k (by omega), hu]

theorem OSt.ne {w : World} {r g i a n c : Nat} {zw : Value} {t : Tab} {U : List Value} {W : World} (h : OSt w r g zw (.slice (some ⟨a, 0, none⟩) n c) t i U W) : g ≠ a := by
  intro e
  subst e
  rcases h.rows.2 with ⟨e, -⟩ | ⟨b, cap, cur, e, _, k2, _⟩
  · cases e
  · injection e with e
    injection e with e
    injection e with e
    subst e
    have k1 := h.box
    rw [k1] at k2
    injection k2 with k2
    injection k2 with _ k2 _
    exact absurd k2 (by decide)
theorem OSt.cell {w : World} {r g i a n c : Nat} {zw u : Value} {t : Tab} {U : List Value} {W : World} (h : OSt w r g zw (.slice (some ⟨a, 0, none⟩) n c) t i U W) (k : Nat) (hk : k < t.l.length) (hu : U[k]? = some u) : W.cell? ⟨a, k, none⟩ = some u ∧ W.frozen? ⟨a, k, none⟩ = false := by
  have hn : n = t.l.length := by
    rcases h.rows.2 with ⟨e, -⟩ | ⟨b, cap, cur, e, -⟩
    · cases e
    · injection e
  subst hn
  refine ⟨by rw [h.rows.cellAt k (by omega), hu], ?_⟩
  rcases h.rows.2 with ⟨e, -⟩ | ⟨b, cap, cur, e, _, k2, _⟩
  · cases e
  · injection e with e
    injection e with e
    injection e with e
    subst e
    exact frozen_of_row W _ _ _ _ k2
theorem call22 : ∀ (x : Value) (w : World), (callFunc 22 #[x]).run Try.prog w = .ok (.enter 22 #[x]) w := by
  intro x w
  kernel_rfl
set_option maxRecDepth 100000 in
set_option maxHeartbeats 8000000 in
theorem of_any (v : Value) (T : List Lst) (hT : T.length ≤ 1000) (hR : ∀ x ∈ T, x.length ≤ 1000) (w : World) (h : ListsAt w v T) :
    Calls Try.prog 8 #[v] w fun e w' => ∃ x y, e = .returned (.tuple #[tv x y, .int .i64 (ofRes T).2]) ∧ TabAt w' x y (ofRes T).1 ∧ Below w.heap.size w w' := by
  have hb1 : Below w.heap.size w (w.alloc (.cells #[.slice none 0 0, .slice none 0 0] 30)) := (Below.refl _ _).alloc (Nat.le_refl _) _
  have HB1 := hid hb1
  have HX1 := hid (heap_alloc_new w (.cells #[.slice none 0 0, .slice none 0 0] 30))
  have cL := hid (laid_any v T hT hR _ (h.below hb1))
  obtain ⟨sa, sc, rfl, hl, -⟩ := h
  obtain ⟨R, hRl⟩ : ∃ R, T.length = R := ⟨_, rfl⟩
  have HRl := hid hRl
  rw [hRl] at hl hT cL ⊢
  clear hR hRl hb1
  go_enter Try.func8, Try.ntmps8
  go_wp2_with fail
  refine cL.out.mono ?_
  rintro e W (⟨hbig, rfl, hb2⟩ | ⟨hsmall, zw, zl, U, rfl, hS⟩)
  · have HE : Hid (ofRes T = (⟨[], []⟩, 24)) := by show _ = _; unfold ofRes; rw [if_pos hbig]
    have HB2 := hid (HB1.out.trans (hb2.mono HB1.out.size))
    have HX2 := hid ((hb2.block _ (heap_lt HX1.out)).trans HX1.out)
    have hr := heap_lt HX2.out
    have HX3 : Hid (∀ o, (W.alloc o).heap[w.heap.size]? = some (.cells #[.slice none 0 0, .slice none 0 0] 30)) := fun o => (((Below.refl _ W).alloc (Nat.le_refl _) o).block _ hr).trans HX2.out
    obtain ⟨f0, f1⟩ := free2 HX2.out
    obtain ⟨e0, e1⟩ := row2 HX2.out
    clear cL hbig hb2
    go_wp2
    have hs := set2 (.slice none 0 0) (.slice none 0 0) HX2.out
    have hs2 := (((Below.refl _ _).alloc (Nat.le_refl _) (.cells #[.slice none 0 0, .slice none 0 0] 30)).block _ (heap_lt hs)).trans hs
    obtain ⟨g0, g1⟩ := row2 hs2
    have HB5 := hid ((HB2.out.setCell (p := ⟨w.heap.size, 0, none⟩) (Nat.le_refl _) (.slice none 0 0)).setCell (p := ⟨w.heap.size, 1, none⟩) (Nat.le_refl _) (.slice none 0 0))
    refine bodyPost_ret (v := .tuple #[tv (.slice none 0 0) (.slice none 0 0), .int .i64 24]) ?_ rfl ?_
    · simp [results, Try.results8, go_sem, g0, g1]
    · exact ⟨_, _, by rw [HE.out], by rw [HE.out]; exact tab_nil _, HB5.out.alloc HB5.out.size _⟩
  · have HS := hid (hS.start (r := w.heap.size) (heap_lt HX1.out) HX1.out)
    have HLs := hid (hS.listsAt.below ((Below.refl _ W).alloc (Nat.le_refl _) (.cells #[zw, zl] 30)))
    have HXW := hid ((hS.bel.block _ (heap_lt HX1.out)).trans HX1.out)
    have HBW := hid (HB1.out.trans (hS.bel.mono HB1.out.size))
    have HFl := hid (ofT_all T rightM)
    have HMem : Hid (∀ x ∈ (ofT T).l, x ∈ T) := fun x hx => ofT_mem T T.length (Nat.le_refl _) x (by rw [List.take_length]; exact hx)
    have HE : Hid (ofRes T = if (decide (256 < R) || !(ofT T).l.all rightM) = true then (⟨[], []⟩, 1) else (ofT T, 0)) := by
      show _ = _
      unfold ofRes
      rw [if_neg (by omega), ofT_all, HRl.out]
    generalize hOT : ofT T = t at *
    have HOT := hid hOT
    clear hOT hsmall cL HFl
    obtain ⟨wa, wc, rfl⟩ := own_shape hS.nums
    obtain ⟨la, lc, rfl⟩ := own_shape hS.rows
    clear hS
    have hgs : (W.alloc (.cells #[.slice wa t.n.length wc, .slice la t.l.length lc] 30)).heap.size = W.heap.size + 1 := alloc_size _ _
    obtain ⟨b0, b1⟩ := row2 HS.out.box
    by_cases h256 : 256 < R
    · have d256 : decide ((256 : Int) < (R : Int)) = true := by simp; omega
      have HE2 : Hid (ofRes T = (⟨[], []⟩, 1)) := by show _ = _; rw [HE.out, decide_eq_true h256]; simp
      clear HE
      obtain ⟨f0, f1⟩ := free2 HXW.out
      obtain ⟨e0, e1⟩ := row2 HXW.out
      clear hgs b0 b1
      have hrW := heap_lt HXW.out
      go_wp2
      have hs := set2 (.slice none 0 0) (.slice none 0 0) HXW.out
      have hs2 := (((Below.refl _ _).alloc (Nat.le_refl _) (.cells #[.slice wa t.n.length wc, .slice la t.l.length lc] 30)).block _ (heap_lt hs)).trans hs
      obtain ⟨g0, g1⟩ := row2 hs2
      have HB5 := hid ((HBW.out.setCell (p := ⟨w.heap.size, 0, none⟩) (Nat.le_refl _) (.slice none 0 0)).setCell (p := ⟨w.heap.size, 1, none⟩) (Nat.le_refl _) (.slice none 0 0))
      refine bodyPost_ret (v := .tuple #[tv (.slice none 0 0) (.slice none 0 0), .int .i64 1]) ?_ rfl ?_
      · simp [results, Try.results8, go_sem, g0, g1]
      · exact ⟨_, _, by rw [HE2.out], by rw [HE2.out]; exact tab_nil _, HB5.out.alloc HB5.out.size _⟩
    · have d256 : decide ((256 : Int) < (R : Int)) = false := by simp; omega
      have cC := hid (con20 _ _ _ HLs.out)
      have HA : Hid ((t.l.any fun c => !rightM c) = !t.l.all rightM) := by show _ = _; rw [List.not_all_eq_any_not]
      rw [HA.out] at cC
      have HAll : Hid (t.l.all rightM = true → ∀ x ∈ t.l, x.length ≤ 1000 ∧ ∀ r ∈ x, smallR r) := fun e x hx => right_small (List.all_eq_true.1 e x hx)
      cases hq : t.l.all rightM with
      | false =>
        have HE2 : Hid (ofRes T = (⟨[], []⟩, 1)) := by show _ = _; rw [HE.out, hq]; simp
        rw [hq] at cC
        clear HE hq HA HAll
        go_wp2_with fail
        refine cC.out.mono ?_
        rintro e W2 ⟨rfl, hb2⟩
        have HS2 := hid (HS.out.below hb2)
        obtain ⟨f0, f1⟩ := free2 HS2.out.res
        obtain ⟨e0, e1⟩ := row2 HS2.out.res
        clear hb2 HS cC b0 b1 hgs
        go_wp2
        obtain ⟨g0, g1⟩ := row2 (set2 (.slice none 0 0) (.slice none 0 0) HS2.out.res)
        have HBx := hid (HB1.out.trans (HS2.out.bel.mono HB1.out.size))
        refine bodyPost_ret (v := .tuple #[tv (.slice none 0 0) (.slice none 0 0), .int .i64 1]) ?_ rfl ?_
        · simp [results, Try.results8, go_sem, g0, g1]
        · exact ⟨_, _, by rw [HE2.out], by rw [HE2.out]; exact tab_nil _, (HBx.out.setCell (p := ⟨w.heap.size, 0, none⟩) (Nat.le_refl _) _).setCell (p := ⟨w.heap.size, 1, none⟩) (Nat.le_refl _) _⟩
      | true =>
        have HE2 : Hid (ofRes T = (t, 0)) := by show _ = _; rw [HE.out, hq]; simp; omega
        have HAll2 := hid (HAll.out hq)
        rw [hq] at cC
        clear HE hq HA HAll
        go_wp2_with fail
        refine cC.out.mono ?_
        rintro e W2 ⟨rfl, hb2⟩
        have HS2 := hid (HS.out.below hb2)
        clear hb2 HS cC b0 b1 hgs
        obtain ⟨b0, b1⟩ := row2 HS2.out.box
        obtain ⟨R2, hR2⟩ : ∃ R2, t.l.length = R2 := ⟨_, rfl⟩
        have HR2 := hid hR2
        have hlen2 : R2 ≤ 9223372036854775807 := by
          obtain ⟨_, _, _, h9, -⟩ := HLs.out
          omega
        rw [hR2] at HS2 b1 ⊢
        generalize hN2 : t.n.length = N2 at *
        clear hR2 HLs
        go_wp2
        go_loopw [28] (fun i wr => ∃ (k : Nat) (U : List Value), k ≤ R2 ∧ i = .int .i64 (k : Int) ∧ Hid (OSt (w.alloc (.cells #[.slice none 0 0, .slice none 0 0] 30)) w.heap.size W.heap.size (.slice wa N2 wc) (.slice la R2 lc) t k U wr)) (fun i _ => R2 - (intOf i).toNat)
        case atStart => exact ⟨0, _, Nat.zero_le _, rfl, HS2⟩
        case round =>
          clear HS2 b0 b1
          obtain ⟨k, V, hk, rfl, HD⟩ := hrel
          obtain ⟨b0, b1⟩ := row2 HD.out.box
          by_cases hlt' : k < R2
          · have hkL : k < t.l.length := by rw [HR2.out]; exact hlt'
            have dk : decide ((k : Int) < (R2 : Int)) = true := by simp; omega
            have hk1 : (k : Int) < (R2 : Int) := by omega
            obtain ⟨a, rfl⟩ : ∃ a, la = some ⟨a, 0, none⟩ := by
              obtain ⟨g, c, e, -⟩ := HD.out.rows.form (by omega)
              injection e with e
              exact ⟨g, e⟩
            obtain ⟨u, hu, hru⟩ := HD.out.rest k hkL (Nat.le_refl _)
            obtain ⟨a0, f0⟩ := HD.out.cell k hkL hu
            obtain ⟨hx1, hx2⟩ := HAll2.out _ (List.getElem_mem hkL)
            have HDd := hid (HD.out.below (below_drewN (Below.refl _ wr) 1))
            have cC := hid (cloned_any u t.l[k] hx1 hx2 wr.drew (hru.below HDd.out.bel))
            have HPut : Hid (∀ (W3 : World) (u : Value), Below wr.drew.heap.size wr.drew W3 → In (wr.drew.heap.size ≤ ·) W3 (fun W => RowsAt W u t.l[k]) → W3.cell? ⟨a, k, none⟩ = W3.cell? ⟨a, k, none⟩ ∧ OSt (w.alloc (.cells #[.slice none 0 0, .slice none 0 0] 30)) w.heap.size W.heap.size (.slice wa N2 wc) (.slice (some ⟨a, 0, none⟩) R2 lc) t (k + 1) (V.set k u) (W3.setCell ⟨a, k, none⟩ u)) := fun W3 u hb hin => by
              have hD := HDd.out.below hb
              have hlt2 := HDd.out.rows.lt a rfl
              refine ⟨rfl, hD.put hkL hD.ne u (hin.mono fun b _ e => ⟨Nat.le_trans HDd.out.bel.size e, fun e2 => ?_⟩)⟩
              have e3 : a = b := by simpa [Value.ownBlock] using e2
              exact absurd (show wr.drew.heap.size ≤ b from e) (by rw [← e3]; exact Nat.not_le.2 hlt2.2)
            have HCell : Hid (∀ (W3 : World), Below wr.drew.heap.size wr.drew W3 → (W3.cell? ⟨W.heap.size, 0, none⟩ = some (.slice wa N2 wc) ∧ W3.cell? ⟨W.heap.size, 1, none⟩ = some (.slice (some ⟨a, 0, none⟩) R2 lc)) ∧ W3.cell? ⟨a, k, none⟩ = some u ∧ W3.frozen? ⟨a, k, none⟩ = false) := fun W3 hb => by
              have hD := HDd.out.below hb
              exact ⟨row2 hD.box, hD.cell k hkL hu⟩
            obtain ⟨ua, uc, hue, -⟩ := hru.form
            generalize t.l[k] = X at *
            obtain ⟨xl, hxl⟩ : ∃ xl, X.length = xl := ⟨_, rfl⟩
            rw [hxl] at hue
            have HXL := hid hxl
            clear hxl hx1 hx2
            subst hue
            have hne := HD.out.ne
            go_wp2_with fail
            go_region_law (refine step_call1 rfl 22 36 _ rfl (.slice ua xl uc) rfl _ call22 _ cC.out ?_; rintro e W3 ⟨u', rfl, hin3, hb3⟩; obtain ⟨ua', uc', hue3, -⟩ := hin3.now.form; rw [HXL.out] at hue3; subst hue3; obtain ⟨⟨c0, c1⟩, e3, f3⟩ := HCell.out W3 hb3; have HP3 := hid (HPut.out _ _ hb3 hin3).2; refine ⟨_, rfl, ?_⟩)
            all_goals
              clear b0 b1 a0 f0 cC hin3 hb3 c0 c1 e3 f3 HD HDd HPut HCell hru
              go_wp2
              go_roundw
              case rel => exact ⟨k + 1, _, by omega, by go_num, HP3⟩
              case measure => simp [intOf]; omega
          · obtain rfl : k = R2 := by omega
            have dk : decide ((k : Int) < (k : Int)) = false := by simp
            rw [← HR2.out] at HD
            have HO := hid (HD.out.out (.slice wa N2 wc) (.slice la t.l.length lc))
            have hres := HD.out.res
            have HB3 := hid (HB1.out.trans (HD.out.bel.mono HB1.out.size))
            rw [HR2.out] at HO HD
            obtain ⟨f0, f1⟩ := free2 hres
            obtain ⟨e0, e1⟩ := row2 hres
            have HX3 := hid (set2 (.slice wa N2 wc) (.slice la k lc) hres)
            clear hres
            go_wp2
            obtain ⟨g0, g1⟩ := row2 HX3.out
            refine bodyPost_ret (v := .tuple #[tv (.slice wa N2 wc) (.slice la k lc), .int .i64 0]) ?_ rfl ?_
            · simp [results, Try.results8, go_sem, g0, g1]
            · exact ⟨_, _, by rw [HE2.out], by rw [HE2.out]; exact HO.out, (HB3.out.setCell (p := ⟨w.heap.size, 0, none⟩) (Nat.le_refl _) _).setCell (p := ⟨w.heap.size, 1, none⟩) (Nat.le_refl _) _⟩
end Go.Proofs.Ytbcikkofbdfmaaa

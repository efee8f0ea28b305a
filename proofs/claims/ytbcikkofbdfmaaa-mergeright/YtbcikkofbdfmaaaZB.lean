/- Whether a table is right: merge.Right; up to 1000 tags, lists of up to 1000 rows. -/
import Derived.Test.YtbcikkofbdfmaaaZA
set_option linter.unusedVariables false
set_option linter.unusedSimpArgs false
namespace Go.Proofs.Ytbcikkofbdfmaaa
open Go.RowKit Go.Joins Go.Sort

theorem listM_some {t : Tab} {k : Nat} (h : k < t.n.length) (ho : okI t t.n[k] = true) : listM t k = some (atI t t.n[k]) := by
  unfold listM; rw [List.getElem?_eq_getElem h]; simp [ho]
theorem listM_none {t : Tab} {k : Nat} (h : k < t.n.length) (ho : okI t t.n[k] = false) : listM t k = none := by
  unfold listM; rw [List.getElem?_eq_getElem h]; simp [ho]
theorem tab_alloc {W : World} {x y : Value} {t : Tab} (h : TabAt W x y t) (o : Obj) : TabAt (W.alloc o) x y t := tab_below h ((Below.refl _ _).alloc (Nat.le_refl _) o)

set_option maxRecDepth 100000 in
set_option maxHeartbeats 8000000 in
theorem right12_any (x y : Value) (t : Tab) (hn : t.n.length ≤ 1000) (hl1 : ∀ z ∈ t.l, z.length ≤ 1000) (w : World) (h : TabAt w x y t) :
    Calls Try.prog 12 #[tv x y] w fun e w' => e = .returned (.bool (rRight t)) ∧ Below w.heap.size w w' := by
  obtain ⟨i43, hi43, hz430, hz431, hz432⟩ := info_parts info43i
  have HT := hid h
  obtain ⟨⟨sa, sc, rfl, hl, hc⟩, ⟨ta, tc, rfl, hm, hd⟩⟩ := h
  have HL1 := hid hl1
  clear hc hd hl1
  obtain ⟨R, hR⟩ : ∃ R, t.n.length = R := ⟨_, rfl⟩
  obtain ⟨S, hS⟩ : ∃ R, t.l.length = R := ⟨_, rfl⟩
  have HR := hid hR
  have HS := hid hS
  rw [hR] at hl hn HT ⊢
  rw [hS] at hm HT ⊢
  clear hR hS
  have HCE := hid (cRight_eq t)
  have HS0 : Hid (RSt w (.slice sa R sc) (.slice ta S tc) (.slice none 0 0) ((t.n.take 0).map (atI t)) [] (w.alloc (.cells #[.slice sa R sc, .slice ta S tc] 30))) :=
    ⟨(Below.refl _ _).alloc (Nat.le_refl _) _, heap_alloc_new w _, World.ownsRow_nil _ _ _ _, fun k hk => absurd hk (by simp)⟩
  by_cases h256 : 256 < R
  · have d256 : decide ((256 : Int) < (R : Int)) = true := by simp; omega
    have HE : Hid (rRight t = false) := by show _ = _; rw [← HCE.out]; unfold cRight; rw [HR.out, decide_eq_false (by omega), Bool.false_and]
    go_enter Try.func12, Try.ntmps12
    go_wp2
    go_ret
    exact ⟨by rw [HE.out]; rfl, HS0.out.bel⟩
  have d256 : decide ((256 : Int) < (R : Int)) = false := by simp; omega
  have h256' : R ≤ 256 := by omega
  go_enter Try.func12, Try.ntmps12
  go_wp2
  go_loopw [3, 16] (fun o i wr => ∃ (k : Nat) (zl : Value) (U : List Value), k ≤ R ∧ zl = o ∧ i = .int .i64 (k : Int) ∧ Hid (∀ j (h : j < t.n.length), j < k → okI t t.n[j] = true) ∧ Hid (RSt w (.slice sa R sc) (.slice ta S tc) zl ((t.n.take k).map (atI t)) U wr)) (fun _ i _ => R - (intOf i).toNat)
  case atStart => exact ⟨0, _, _, Nat.zero_le _, rfl, rfl, fun j _ hj => absurd hj (by omega), HS0⟩
  case round =>
    clear HS0
    obtain ⟨k, zl, U, hk, rfl, rfl, HN, HQ⟩ := hrel
    obtain ⟨b0, b1⟩ := row2 HQ.out.box
    by_cases hlt' : k < R
    · have hltT : k < t.n.length := by rw [HR.out]; exact hlt'
      have dk : decide ((k : Int) < (R : Int)) = true := by simp; omega
      have hk1 : (k : Int) < (R : Int) := by omega
      have HN2 : Hid (okI t t.n[k] = true → ∀ j (h : j < t.n.length), j < k + 1 → okI t t.n[j] = true) := fun e j h hj => by
        by_cases e2 : j = k
        · subst e2; exact e
        · exact HN.out j h (by omega)
      have HNO : Hid (okI t t.n[k] = false → rRight t = false) := fun e => by
        unfold rRight
        rw [show t.n.all (okI t) = false from List.all_eq_false.2 ⟨_, List.getElem_mem hltT, by simp [e]⟩, Bool.false_and]
      have HX : Hid ((t.n.take (k + 1)).map (atI t) = (t.n.take k).map (atI t) ++ [atI t t.n[k]]) := by
        show _ = _
        rw [List.take_succ_eq_append_getElem hltT, List.map_append]; rfl
      have HLn : Hid (((t.n.take k).map (atI t)).length = k) := by show _ = _; rw [List.length_map, List.length_take]; omega
      have cL := hid (list_any _ _ t k (by omega) w wr HT.out HQ.out.bel)
      have HM1 : Hid (okI t t.n[k] = true → listM t k = some (atI t t.n[k])) := fun e => listM_some hltT e
      have HM0 : Hid (okI t t.n[k] = false → listM t k = none) := fun e => listM_none hltT e
      generalize t.n[k] = n at *
      cases hq : okI t n with
      | false =>
        have HE := hid (HNO.out hq)
        rw [HM0.out hq] at cL
        clear hq HN2 HNO HX HM1 HM0
        go_wp2_with fail
        refine cL.out.mono ?_
        rintro e w2 ⟨he, hb2⟩
        obtain rfl : e = .returned (.tuple #[.slice none 0 0, .bool false]) := he
        have HB2 := hid (HQ.out.bel.trans (hb2.mono HQ.out.bel.size))
        clear hb2 cL HQ b0 b1
        go_wp2
        go_ret
        exact ⟨by rw [HE.out]; rfl, HB2.out⟩
      | true =>
        have HN3 := hid (HN2.out hq)
        rw [HM1.out hq] at cL
        clear hq HN2 HNO HM1 HM0
        generalize atI t n = X at *
        go_wp2_with fail
        refine cL.out.mono ?_
        rintro e W ⟨⟨u, rfl, hp⟩, hb2⟩
        obtain ⟨ua, uc, hue, -⟩ := hp.form
        generalize hxl : X.length = xl at *
        subst hue
        have HP := hid hp
        clear hp
        have HQ2 := hid (HQ.out.below hb2)
        have hsz := hlt HQ2.out.box
        have HQ2a : Hid (∀ o, RSt w (.slice sa R sc) (.slice ta S tc) zl ((t.n.take k).map (atI t)) U (W.alloc o)) := fun o => HQ2.out.below ((Below.refl _ _).alloc (Nat.le_refl _) o)
        have HO3 : Hid (∀ o, (W.alloc o).ownsRow (w.heap.size + 1) 43 1 zl k U) := fun o => by have h9 := (HQ2a.out o).rows; rwa [HLn.out] at h9
        clear hb2 cL HQ b0 b1
        obtain ⟨b0, b1⟩ := row2 HQ2.out.box
        go_wp2_with (at_builtin; refine wpList_append_own _ rfl _ _ 22 rfl (w.heap.size + 1) 43 i43 (.slice none 0 0) 1 24 Try.underlying22 hi43 hz430 hz431 hz432 rfl (by decide) zl _ _ rfl (HO3.out _) ⟨W.heap.size, 0, none⟩ 1 1 [.slice ua xl uc] rfl rfl (cell_one _ _ _) (fun x hx => by simp at hx; subst hx; rfl) (by unfold maxLen; (try simp); omega) (by (try simp); omega) (by simp; omega) ?_; intro v4 w4 hown4 hgrow4 hnil4; obtain ⟨g4, cap4, rfl, -, -⟩ := hown4.form (by omega))
        have HS4 : Hid (RSt w (.slice sa R sc) (.slice ta S tc) (.slice (some ⟨g4, 0, none⟩) (k + 1) cap4) ((t.n.take (k + 1)).map (atI t)) (U ++ [.slice ua xl uc]) w4) := by
          show RSt _ _ _ _ _ _ _
          rw [HX.out]
          exact RSt.push (W := W.alloc (.cells #[.slice ua xl uc] 43)) (HQ2a.out _) HP.out (by rw [HLn.out]; exact hown4) hgrow4
        clear hown4 hgrow4 b0 b1 HO3 HQ2a HQ2 hsz hnil4
        go_roundw
        case rel => exact ⟨k + 1, _, _, by omega, rfl, by go_num, HN3, HS4⟩
        case measure => simp [intOf]; omega
    · obtain rfl : k = R := by omega
      have dk : decide ((k : Int) < (k : Int)) = false := by simp
      have hTk : t.n.take k = t.n := List.take_of_length_le (by rw [HR.out]; exact Nat.le_refl _)
      rw [hTk] at HQ
      have hall : t.n.all (okI t) = true := List.all_eq_true.2 fun z hz => by
        obtain ⟨j, hj, hje⟩ := List.getElem_of_mem hz
        rw [← hje]
        exact HN.out j hj (by rw [HR.out] at hj; exact hj)
      have hLl : (t.n.map (atI t)).length ≤ 1000 := by rw [List.length_map, HR.out]; exact hn
      have hLx : ∀ z ∈ t.n.map (atI t), z.length ≤ 1000 := fun z hz => by
        obtain ⟨i, _, rfl⟩ := List.mem_map.1 hz
        unfold atI
        rw [List.getD_eq_getElem?_getD]
        cases hg : t.l[i.toNat]? with
        | none => simp
        | some v => exact HL1.out v (List.mem_of_getElem? hg)
      have HE : Hid (rRight t = (decide ((ofRes (t.n.map (atI t))).2 = 0) && (decide ((ofRes (t.n.map (atI t))).1.n = t.n) && decide ((ofRes (t.n.map (atI t))).1.l.length = S)))) := by
        show _ = _
        rw [← HCE.out]
        unfold cRight
        rw [hall, Bool.true_and, HR.out, decide_eq_true h256', Bool.true_and, HS.out]
      have cO := hid (of_any zl (t.n.map (atI t)) hLl hLx wr HQ.out.lists)
      generalize ofRes (t.n.map (atI t)) = q at *
      obtain ⟨t', n⟩ := q
      clear hTk hall hLl hLx HN HCE
      go_wp2_with fail
      refine cO.out.mono ?_
      rintro e w2 ⟨x', y', rfl, htab, hb2⟩
      have HQ2 := hid (HQ.out.below hb2)
      obtain ⟨xa, xc, rfl, -, -⟩ := htab.1
      obtain ⟨ya, yc, rfl, -, -⟩ := htab.2
      have HTab := hid htab
      generalize hn1 : t'.n.length = n1 at *
      generalize hn2 : t'.l.length = n2 at *
      have HN1 := hid hn1
      have HN2 := hid hn2
      have HQ3 := hid (HQ2.out.below ((Below.refl _ w2).alloc (Nat.le_refl _) (.cells #[.slice xa n1 xc, .slice ya n2 yc] 30)))
      have HT3 := hid (tab_below HT.out HQ3.out.bel)
      have HTab3 := hid (tab_below HTab.out ((Below.refl _ w2).alloc (Nat.le_refl _) (.cells #[.slice xa n1 xc, .slice ya n2 yc] 30)))
      have cE := hid (eq28 _ _ t'.n t.n _ HTab3.out.1 HT3.out.1)
      have HX7 := hid (heap_alloc_new w2 (.cells #[.slice xa n1 xc, .slice ya n2 yc] 30))
      clear b0 b1 HQ cO hb2 htab HTab hn1 hn2
      have hsz2 := hlt HQ2.out.box
      obtain ⟨b0, b1⟩ := row2 HQ3.out.box
      obtain ⟨c0, c1⟩ := row2 HX7.out
      by_cases hn0 : n = 0
      · subst hn0
        cases hq : decide (t'.n = t.n) with
        | false =>
          have HE2 : Hid (rRight t = false) := by show _ = _; rw [HE.out]; simp [hq]
          rw [hq] at cE
          clear HE hq
          go_wp2_with fail
          refine cE.out.mono ?_
          rintro e w4 ⟨rfl, hb4⟩
          have HB4 := hid (HQ3.out.bel.trans (hb4.mono HQ3.out.bel.size))
          clear b0 b1 c0 c1 cE hb4
          go_wp2
          go_ret
          exact ⟨by rw [HE2.out]; rfl, HB4.out⟩
        | true =>
          have HE2 : Hid (rRight t = decide (n2 = S)) := by show _ = _; rw [HE.out]; simp [of_decide_eq_true hq]
          rw [hq] at cE
          clear HE hq
          go_wp2_with fail
          refine cE.out.mono ?_
          rintro e w4 ⟨rfl, hb4⟩
          have HB4 := hid (HQ3.out.bel.trans (hb4.mono HQ3.out.bel.size))
          have HX4 := hid ((hb4.block _ (hlt HX7.out)).trans HX7.out)
          have HX5 := hid ((hb4.block _ (hlt HQ3.out.box)).trans HQ3.out.box)
          clear b0 b1 c0 c1 cE hb4
          obtain ⟨b0, b1⟩ := row2 HX5.out
          obtain ⟨c0, c1⟩ := row2 HX4.out
          have dS : ((n2 : Int) == (S : Int)) = decide (n2 = S) := by
            rw [Bool.eq_iff_iff]; simp; omega
          go_wp2
          go_ret
          exact ⟨by rw [HE2.out]; first | rfl | (rw [dS]), HB4.out⟩
      · have dn : (n == 0) = false := by simp [hn0]
        have HE2 : Hid (rRight t = false) := by show _ = _; rw [HE.out]; simp [hn0]
        clear HE hn0 cE
        go_wp2
        go_ret
        exact ⟨by rw [HE2.out]; rfl, HQ3.out.bel⟩
end Go.Proofs.Ytbcikkofbdfmaaa

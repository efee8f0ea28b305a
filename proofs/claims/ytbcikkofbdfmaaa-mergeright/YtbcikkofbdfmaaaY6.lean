/- Whether a table is one of lists, as the document has it: pointsmanref10.Right. -/
import Derived.Test.YtbcikkofbdfmaaaY5
set_option linter.unusedVariables false
set_option linter.unusedSimpArgs false
namespace Go.Proofs.Ytbcikkofbdfmaaa
open Go.RowKit Go.Joins Go.Sort

def okI (t : Tab) (i : Int) : Bool := decide (0 ≤ i) && decide (i < (t.l.length : Int))
def atI (t : Tab) (i : Int) : Lst := t.l.getD i.toNat []
def rRight (t : Tab) : Bool := t.n.all (okI t) && (decide ((ofRes (t.n.map (atI t))).2 = 0) && sameT t (ofRes (t.n.map (atI t))).1)
structure RSt (w : World) (x y zl : Value) (L : List Lst) (U : List Value) (W : World) : Prop where
  bel : Below w.heap.size w W
  box : W.heap[w.heap.size]? = some (.cells #[x, y] 30)
  rows : W.ownsRow (w.heap.size + 1) 43 1 zl L.length U
  each : ∀ k (h : k < L.length), ∃ u, U[k]? = some u ∧ RowsAt w u L[k]
theorem RSt.below {w : World} {x y zl : Value} {L : List Lst} {U : List Value} {W W' : World} (h : RSt w x y zl L U W) (hb : Below W.heap.size W W') : RSt w x y zl L U W' :=
  ⟨h.bel.trans (hb.mono h.bel.size), (hb.block _ (hlt h.box)).trans h.box, own_below h.rows hb, h.each⟩
theorem RSt.lists {w : World} {x y zl : Value} {L : List Lst} {U : List Value} {W : World} (h : RSt w x y zl L U W) : ListsAt W zl L := by
  rcases h.rows.2 with ⟨hv, hn⟩ | ⟨b, cap, cur, hv, hB, hgg, hcap, hmax, hsz, htk⟩
  · exact ⟨none, 0, by rw [hv, hn], by rw [hn]; exact Nat.zero_le _, fun k hk => absurd hk (by omega)⟩
  · refine ⟨_, cap, hv, by unfold maxLen at hmax; omega, fun k hk => ?_⟩
    obtain ⟨u, hu, hr⟩ := h.each k hk
    have hb := hlt hgg
    refine ⟨b, 0, rfl, hb, u, ?_, hr.below h.bel⟩
    have hrow := h.rows
    rw [hv] at hrow
    rw [Nat.zero_add, hrow.cellAt k (by omega), hu]
theorem RSt.push {w : World} {x y zl zl' u : Value} {L : List Lst} {X : Lst} {U : List Value} {W W' : World} (h : RSt w x y zl L U W) (hu : RowsAt w u X) (own : W'.ownsRow (w.heap.size + 1) 43 1 zl' (L.length + 1) (U ++ [u])) (gr : W.grownBy W' zl.ownBlock) : RSt w x y zl' (L ++ [X]) (U ++ [u]) W' := by
  have hUl : U.length = L.length := by have := h.rows.1; omega
  refine ⟨Below.grown h.bel gr h.bel.size fun k e => by have := (h.rows.lt k e).1; omega, (gr.block _ (hlt h.box) fun e => by have := (h.rows.lt _ e.symm).1; omega).trans h.box, by simpa using own, fun k hk => ?_⟩
  by_cases e : k < L.length
  · obtain ⟨v, h1, h2⟩ := h.each k e
    exact ⟨v, by rw [List.getElem?_append_left (by omega)]; exact h1, by rw [List.getElem_append_left e]; exact h2⟩
  · have ek : k = L.length := by simp at hk; omega
    subst ek
    exact ⟨u, by rw [List.getElem?_append_right (by omega), hUl]; simp, by rw [List.getElem_append_right (Nat.le_refl _)]; simpa using hu⟩

set_option maxRecDepth 100000 in
set_option maxHeartbeats 8000000 in
theorem rright10_any (x y : Value) (t : Tab) (hn : t.n.length ≤ 1000) (hl1 : ∀ z ∈ t.l, z.length ≤ 1000) (w : World) (h : TabAt w x y t) :
    Calls Try.prog 17 #[tv x y] w fun e w' => e = .returned (.bool (rRight t)) ∧ Below w.heap.size w w' := by
  obtain ⟨i43, hi43, hz430, hz431, hz432⟩ := info_parts info43i
  have HT := hid h
  obtain ⟨⟨sa, sc, rfl, hl, hc⟩, ⟨ta, tc, rfl, hm, hd⟩⟩ := h
  have HC := hid hc
  have HD := hid hd
  have HL1 := hid hl1
  clear hc hd hl1
  obtain ⟨R, hR⟩ : ∃ R, t.n.length = R := ⟨_, rfl⟩
  obtain ⟨S, hS⟩ : ∃ R, t.l.length = R := ⟨_, rfl⟩
  have HR := hid hR
  have HS := hid hS
  rw [hR] at hl hn HT ⊢
  rw [hS] at hm HT ⊢
  clear hR hS
  have HS0 : Hid (RSt w (.slice sa R sc) (.slice ta S tc) (.slice none 0 0) ((t.n.take 0).map (atI t)) [] (w.alloc (.cells #[.slice sa R sc, .slice ta S tc] 30))) :=
    ⟨(Below.refl _ _).alloc (Nat.le_refl _) _, heap_alloc_new w _, World.ownsRow_nil _ _ _ _, fun k hk => absurd hk (by simp)⟩
  go_enter Try.func17, Try.ntmps17
  go_wp2
  go_loopw [3, 4] (fun o i wr => ∃ (k : Nat) (zl : Value) (U : List Value), k ≤ R ∧ zl = o ∧ i = .int .i64 (k : Int) ∧ Hid (∀ j (h : j < t.n.length), j < k → okI t t.n[j] = true) ∧ Hid (RSt w (.slice sa R sc) (.slice ta S tc) zl ((t.n.take k).map (atI t)) U wr)) (fun _ i _ => R - (intOf i).toNat)
  case atStart => exact ⟨0, _, _, Nat.zero_le _, rfl, rfl, fun j _ hj => absurd hj (by omega), HS0⟩
  case round =>
    clear HS0
    obtain ⟨k, zl, U, hk, rfl, rfl, HN, HQ⟩ := hrel
    obtain ⟨b0, b1⟩ := row2 HQ.out.box
    by_cases hlt' : k < R
    · have hltT : k < t.n.length := by rw [HR.out]; exact hlt'
      have dk : decide ((k : Int) < (R : Int)) = true := by simp; omega
      have hk1 : (k : Int) < (R : Int) := by omega
      obtain ⟨b, off, rfl, hb, hu⟩ := HC.out k hltT
      have a0 := (HQ.out.bel.cell (p := ⟨b, off + k, none⟩) hb).trans hu
      have HN2 : Hid (okI t t.n[k] = true → ∀ j (h : j < t.n.length), j < k + 1 → okI t t.n[j] = true) := fun e j h hj => by
        by_cases e2 : j = k
        · subst e2; exact e
        · exact HN.out j h (by omega)
      have HNO : Hid (okI t t.n[k] = false → rRight t = false) := fun e => by
        unfold rRight
        rw [show t.n.all (okI t) = false from List.all_eq_false.2 ⟨_, List.getElem_mem hltT, by simp [e]⟩, Bool.false_and]
      have HX : Hid ((t.n.take (k + 1)).map (atI t) = (t.n.take k).map (atI t) ++ [atI t t.n[k]]) := by
        show _ = _
        rw [List.take_succ_eq_append_getElem hltT, List.map_append]; rfl
      have HLn : Hid (((t.n.take k).map (atI t)).length = k) := by show _ = _; rw [List.length_map, List.length_take]; omega
      generalize t.n[k] = n at *
      have HUn := hid hu
      clear hu
      by_cases h0 : n < 0
      · have d0 : decide (n < 0) = true := by simp; omega
        have HE : Hid (rRight t = false) := HNO.out (by unfold okI; rw [decide_eq_false (by omega), Bool.false_and])
        go_wp2_with fail
        go_quiet (fail)
        have HQ2 : Hid (Below w.heap.size w (wr.drewN nq)) := below_drewN HQ.out.bel nq
        clear b0 b1 a0 HQ
        go_wp2
        go_ret
        exact ⟨by rw [HE.out]; rfl, HQ2.out⟩
      · have d0 : decide (n < 0) = false := by simp; omega
        obtain ⟨j, rfl⟩ := Int.eq_ofNat_of_zero_le (show 0 ≤ n by omega)
        by_cases h1 : S ≤ j
        · have d1 : decide ((S : Int) ≤ (j : Int)) = true := by simp; omega
          have HE : Hid (rRight t = false) := HNO.out (by unfold okI; rw [HS.out, decide_eq_false (show ¬ (j : Int) < (S : Int) by omega), Bool.and_false])
          go_wp2_with fail
          go_quiet (fail)
          have HQ2 : Hid (Below w.heap.size w (wr.drewN nq)) := below_drewN HQ.out.bel nq
          clear b0 b1 a0 HQ
          go_wp2
          go_ret
          exact ⟨by rw [HE.out]; rfl, HQ2.out⟩
        · have d1 : decide ((S : Int) ≤ (j : Int)) = false := by simp; omega
          have hj1 : j < S := by omega
          have hj2 : (j : Int) < (S : Int) := by omega
          have hjT : j < t.l.length := by rw [HS.out]; exact hj1
          have HN3 := hid (HN2.out (by unfold okI; rw [HS.out, decide_eq_true (show (0:Int) ≤ (j : Int) by omega), decide_eq_true hj2]; rfl))
          have HA : Hid (atI t (j : Int) = t.l[j]) := by show _ = _; unfold atI; rw [Int.toNat_natCast, List.getD_eq_getElem?_getD, List.getElem?_eq_getElem hjT]; rfl
          obtain ⟨b', off', rfl, hb', u, hu, hp⟩ := HD.out j hjT
          rw [← HA.out] at hp
          generalize atI t (j : Int) = X at *
          obtain ⟨ua, uc, hue, -⟩ := hp.form
          generalize X.length = xl at *
          subst hue
          have HP := hid hp
          clear hp HN2 HNO HA
          go_wp2_with fail
          go_quiet (fail)
          have HQ2 : Hid (RSt w (.slice (some ⟨b, off, none⟩) R sc) (.slice (some ⟨b', off', none⟩) S tc) zl ((t.n.take k).map (atI t)) U (wr.drewN nq)) := HQ.out.below (below_drewN (Below.refl _ _) nq)
          clear b0 b1 a0 HQ
          generalize wr.drewN nq = W at *
          obtain ⟨b0, b1⟩ := row2 HQ2.out.box
          have a0 := (HQ2.out.bel.cell (p := ⟨b, off + k, none⟩) hb).trans HUn.out
          have a1 := (HQ2.out.bel.cell (p := ⟨b', off' + j, none⟩) hb').trans hu
          have hsz := hlt HQ2.out.box
          have HS3b : Hid (∀ v, RSt w (.slice (some ⟨b, off, none⟩) R sc) (.slice (some ⟨b', off', none⟩) S tc) zl ((t.n.take k).map (atI t)) U (W.drew.alloc v)) := fun v => HQ2.out.below ((below_drewN (Below.refl _ W) 1).alloc (Nat.le_refl _) v)
          have HO3 : Hid (∀ v, (W.drew.alloc v).ownsRow (w.heap.size + 1) 43 1 zl k U) := fun v => by have h9 := (HS3b.out v).rows; rwa [HLn.out] at h9
          go_wp2_with fail
          go_region_law (first
            | (refine step_append_lies _ (by rfl) _ _ _ (by rfl) (w.heap.size + 1) 43 i43 (.slice none 0 0) 1 24 Try.underlying22 hi43 hz430 hz431 hz432 rfl (by decide) zl k _ (by rfl) (HO3.out _) ⟨W.heap.size, 0, none⟩ 1 1 [.slice ua xl uc] (by rfl) rfl (cell_one W.drew _ _) (fun x hx => by simp at hx; rw [hx]; rfl) (by decide) (by unfold maxLen; omega) (by omega) (by simp; omega) (W.heap.size + 1) (by simp) ?_; intro g4 cap4 w4 hown4 hgrow4 hloc4 hlt4))
          all_goals
            have HS4 : Hid (RSt w (.slice (some ⟨b, off, none⟩) R sc) (.slice (some ⟨b', off', none⟩) S tc) (.slice (some ⟨g4, 0, none⟩) (k + 1) cap4) ((t.n.take (k + 1)).map (atI t)) (U ++ [.slice ua xl uc]) w4) := by
              show RSt _ _ _ _ _ _ _
              rw [HX.out]
              exact RSt.push (W := W.drew.alloc (.cells #[.slice ua xl uc] 43)) (HS3b.out _) HP.out (by rw [HLn.out]; exact hown4) hgrow4
            clear hown4 hgrow4 hloc4 hlt4 b0 b1 a0 a1 HO3 HS3b HQ2 hsz
            go_wp2
            go_roundw
            case rel => exact ⟨k + 1, _, _, by omega, rfl, by go_num, HN3, HS4⟩
            case measure => simp [intOf]; omega
    · obtain rfl : k = R := by omega
      have dk : decide ((k : Int) < (k : Int)) = false := by simp
      have hTk : t.n.take k = t.n := List.take_of_length_le (by rw [HR.out]; exact Nat.le_refl _)
      rw [hTk] at HQ
      have hall : t.n.all (okI t) = true := List.all_eq_true.2 fun z hz => by
        obtain ⟨j, hj, hje⟩ := List.getElem_of_mem hz
        rw [← hje]
        exact HN.out j hj (by rw [HR.out] at hj; exact hj)
      have hLl : (t.n.map (atI t)).length ≤ 1000 := by rw [List.length_map, HR.out]; exact hn
      have hLx : ∀ z ∈ t.n.map (atI t), z.length ≤ 1000 := fun z hz => by
        obtain ⟨i, _, rfl⟩ := List.mem_map.1 hz
        unfold atI
        rw [List.getD_eq_getElem?_getD]
        cases hg : t.l[i.toNat]? with
        | none => simp
        | some v => exact HL1.out v (List.mem_of_getElem? hg)
      have HE : Hid (rRight t = (decide ((ofRes (t.n.map (atI t))).2 = 0) && sameT t (ofRes (t.n.map (atI t))).1)) := by show _ = _; unfold rRight; rw [hall, Bool.true_and]
      have cO := hid (rof_any zl (t.n.map (atI t)) hLl hLx wr HQ.out.lists)
      generalize ofRes (t.n.map (atI t)) = q at *
      obtain ⟨t', n⟩ := q
      clear hTk hall hLl hLx HN
      go_wp2_with fail
      refine cO.out.mono ?_
      rintro e w2 ⟨x', y', rfl, htab, hb2⟩
      have HQ2 := hid (HQ.out.below hb2)
      obtain ⟨xa, xc, rfl, -, -⟩ := htab.1
      obtain ⟨ya, yc, rfl, -, -⟩ := htab.2
      have HTab := hid htab
      generalize t'.n.length = n1 at *
      generalize t'.l.length = n2 at *
      have HQ3 := hid (HQ2.out.below ((Below.refl _ w2).alloc (Nat.le_refl _) (.cells #[.slice xa n1 xc, .slice ya n2 yc] 30)))
      have HT3 := hid (tab_below HT.out HQ3.out.bel)
      have HTab3 := hid (tab_below HTab.out ((Below.refl _ w2).alloc (Nat.le_refl _) (.cells #[.slice xa n1 xc, .slice ya n2 yc] 30)))
      have cS := hid (rsameT_any _ _ _ _ t t' _ HT3.out HTab3.out)
      clear b0 b1 HQ cO hb2 htab HT HTab HQ2
      obtain ⟨b0, b1⟩ := row2 HQ3.out.box
      by_cases hn0 : n = 0
      · subst hn0
        have HE2 : Hid (rRight t = sameT t t') := by show _ = _; rw [HE.out]; simp
        clear HE
        go_wp2_with fail
        refine cS.out.mono ?_
        rintro e w4 ⟨rfl, hb4⟩
        have HB4 := hid (HQ3.out.bel.trans (hb4.mono HQ3.out.bel.size))
        clear b0 b1 cS hb4
        go_wp2
        go_ret
        exact ⟨by rw [HE2.out]; rfl, HB4.out⟩
      · have dn : (n == 0) = false := by simp [hn0]
        have HE2 : Hid (rRight t = false) := by show _ = _; rw [HE.out]; simp [hn0]
        clear HE hn0 cS
        go_wp2
        go_ret
        exact ⟨by rw [HE2.out]; rfl, HQ3.out.bel⟩
end Go.Proofs.Ytbcikkofbdfmaaa

/- The law MergeOf, walked: any lists, any tag, any packet. -/
import Derived.Test.YtbcikkofbdfmaaaZD
import Derived.BigRegion
import Derived.Deep.Cut
set_option linter.unusedVariables false
set_option linter.unusedSimpArgs false
namespace Go.Proofs.Ytbcikkofbdfmaaa
open Go.RowKit Go.Joins Go.Sort

theorem few_parts {T : List Lst} (h : few10 T = true) : T.length ≤ 12 ∧ ∀ X ∈ T, X.length ≤ 20 ∧ ∀ r ∈ X, r.a.length ≤ 40 := by
  unfold few10 at h
  rw [Bool.and_eq_true, decide_eq_true_eq, List.all_eq_true] at h
  refine ⟨h.1, fun X hX => ?_⟩
  have h1 := h.2 X hX
  unfold fewM at h1
  rw [Bool.and_eq_true, decide_eq_true_eq, List.all_eq_true] at h1
  refine ⟨h1.1, fun r hr => ?_⟩
  have h2 := h1.2 r hr
  unfold fewR at h2
  rw [Bool.and_eq_true, Bool.and_eq_true, decide_eq_true_eq, decide_eq_true_eq] at h2
  exact h2.2.1
theorem lookL_len (q : P8) (X : Lst) (h : ∀ r ∈ X, r.a.length ≤ 40) : (lookL q X).length ≤ 1000 := by
  unfold lookL
  split
  · rename_i k hk
    unfold madeL
    refine Nat.le_trans (sortL_len' _) ?_
    rw [List.length_map, List.getD_eq_getElem?_getD]
    cases hg : (X.map Rx.a)[k]? with
    | none => simp
    | some v =>
      obtain ⟨r, hr, rfl⟩ := List.mem_map.1 (List.mem_of_getElem? hg)
      have := h r hr
      simp; omega
  · simp
theorem Fits.list {T : List Lst} {t : Tab} (h : Fits T t) (k : Nat) (hk : k < T.length) : listM t k = some T[k] := by
  have hkn : k < t.n.length := by rw [h.len]; exact hk
  have hok := List.all_eq_true.1 h.ok _ (List.getElem_mem hkn)
  rw [listM_some hkn hok]
  have hb := h.back
  congr 1
  have : (t.n.map (atI t))[k]'(by simpa using hkn) = T[k] := by
    have := List.getElem_of_eq hb (i := k) (by simpa using hkn)
    exact this
  rw [← this, List.getElem_map]
theorem Fits.no {T : List Lst} {t : Tab} (h : Fits T t) (k : Nat) (hk : T.length ≤ k) : listM t k = none := by
  unfold listM
  rw [List.getElem?_eq_none (by rw [h.len]; exact hk)]

/-- A call of two arguments, as one step of a region that draws. -/
theorem step_call2 {ops : Array Oper} {o : Oper} {a : Act} {K : Act → World → Prop} {Q : Exit → Act → World → Prop} {E : Prop} (hgd : o.guard = none) (f s s' : Nat) (ats : Array TypeId) (ho : o.op = .call { callee := .value (.func f), args := #[.tmp s, .tmp s'], argTypes := ats })
    (v v' : Value) (hs : a.eval (.tmp s) = v) (hs' : a.eval (.tmp s') = v') (w : World) (hrun : ∀ x y w, (callFunc f #[x, y]).run Try.prog w = .ok (.enter f #[x, y]) w) (post : Ending → World → Prop) (hc : Calls Try.prog f #[v, v'] w post)
    (h : ∀ e w', post e w' → ∃ r, e = .returned r ∧ K (a.put o.dst r) w') : if Region.wanted o (yielded ops a.tmps) = true then Oper.wp Try.prog o a w K Q else E := by
  have hw : Region.wanted o (yielded ops a.tmps) = true := by simp [Region.wanted, hgd]
  rw [if_pos hw]
  have hr : (execOp a.eval o).run Try.prog w = .ok (.enter f #[v, v']) w := by
    have e' : a.tmps[s]?.getD undef = v := by rw [← hs]; unfold Act.eval; simp
    have e2 : a.tmps[s']?.getD undef = v' := by rw [← hs']; unfold Act.eval; simp
    have h2 := hrun v v' w
    simp only [execOp, ho]
    go_simp
  unfold Oper.wp
  rw [hr]
  refine Calls.mono hc ?_
  intro e w' hp
  obtain ⟨r, rfl, hk⟩ := h e w' hp
  exact hk
theorem call13 : ∀ (x y : Value) (w : World), (callFunc 13 #[x, y]).run Try.prog w = .ok (.enter 13 #[x, y]) w := by
  intro x y w
  kernel_rfl
set_option maxRecDepth 100000 in
set_option maxHeartbeats 8000000 in
theorem mof_any (v : Value) (T : List Lst) (k : Nat) (hk : k ≤ 65535) (q : P8) (w : World) (h : ListsAt w v T) : Calls Try.prog 3 #[v, .int .u16 (k : Int), q.v] w fun e w' => e = .returned (.bool true) ∧ Below w.heap.size w w' := by
  have hb0 : Below w.heap.size w (w.alloc (pob q)) := (Below.refl _ _).alloc (Nat.le_refl _) _
  have HB0 := hid hb0
  have HQ0 := hid (heap_alloc_new w (pob q))
  have cA := hid (awake_any (w.alloc (pob q)))
  have HL : Hid (∀ W, Below w.heap.size w W → ListsAt W v T) := fun W hW => h.below hW
  clear hb0
  cases hq : few10 T with
  | false =>
    go_enter Try.func3, Try.ntmps3
    go_wp2_with fail
    refine cA.out.mono ?_
    rintro e w1 ⟨rfl, hb1⟩
    have HB1 := hid (HB0.out.trans (hb1.mono HB0.out.size))
    have cF := hid (few10_any v T w1 (HL.out _ HB1.out))
    rw [hq] at cF
    clear cA hb1 hq
    obtain ⟨sa, sc, rfl, -⟩ := h
    go_wp2_with fail
    refine cF.out.mono ?_
    rintro e w2 ⟨rfl, hb2⟩
    have HB2 := hid (HB1.out.trans (hb2.mono HB1.out.size))
    clear cF hb2
    go_wp2
    go_ret
    exact ⟨rfl, HB2.out⟩
  | true =>
    obtain ⟨hT12, hTX⟩ := few_parts hq
    have HTX := hid hTX
    have hR1 : ∀ X ∈ T, X.length ≤ 1000 := fun X hX => Nat.le_trans (hTX X hX).1 (by decide)
    have HR1 := hid hR1
    obtain ⟨R, hR⟩ : ∃ R, T.length = R := ⟨_, rfl⟩
    have HR := hid hR
    go_enter Try.func3, Try.ntmps3
    go_wp2_with fail
    refine cA.out.mono ?_
    rintro e w1 ⟨rfl, hb1⟩
    have HB1 := hid (HB0.out.trans (hb1.mono HB0.out.size))
    have HQ1 := hid ((hb1.block _ (heap_lt HQ0.out)).trans HQ0.out)
    have cF := hid (few10_any v T w1 (HL.out _ HB1.out))
    rw [hq] at cF
    clear cA hb1 hq hTX hR1
    obtain ⟨sa, sc, rfl, hl, -⟩ := h
    rw [hR] at hl hT12 cF HL ⊢
    clear hR
    go_wp2_with fail
    refine cF.out.mono ?_
    rintro e w2 ⟨rfl, hb2⟩
    have HB2 := hid (HB1.out.trans (hb2.mono HB1.out.size))
    have HQ2 := hid ((hb2.block _ (heap_lt HQ1.out)).trans HQ1.out)
    have cO := hid (of_any _ T (by rw [HR.out]; omega) HR1.out w2 (HL.out _ HB2.out))
    clear cF hb2
    go_wp2_with fail
    refine cO.out.mono ?_
    rintro e w3 ⟨x, y, rfl, htab, hb3⟩
    have HB3 := hid (HB2.out.trans (hb3.mono HB2.out.size))
    have HQ3 := hid ((hb3.block _ (heap_lt HQ2.out)).trans HQ2.out)
    have HB4 : Hid (Below w3.heap.size w3 (w3.alloc (tob x y))) := (Below.refl _ _).alloc (Nat.le_refl _) _
    have HX4 := hid (heap_alloc_new w3 (tob x y))
    have HT4 := hid (tab_below htab HB4.out)
    have HBw4 := hid (HB3.out.trans (HB4.out.mono HB3.out.size))
    have cP := hid (rof_any _ T (by rw [HR.out]; omega) HR1.out _ (HL.out _ HBw4.out))
    obtain ⟨xa, xc, hxe, -, -⟩ := htab.1
    obtain ⟨ya, yc, hye, -, -⟩ := htab.2
    generalize hor : ofRes T = o at *
    have HOR := hid hor
    obtain ⟨t, n⟩ := o
    clear cO hb3 htab hor
    subst hxe hye
    generalize hn1 : t.n.length = n1 at *
    generalize hn2 : t.l.length = n2 at *
    have HN1 := hid hn1
    have HN2 := hid hn2
    clear hn1 hn2
    go_wp2_with fail
    refine cP.out.mono ?_
    rintro e w5 ⟨x', y', rfl, htab', hb5⟩
    have HB5 := hid (HBw4.out.trans (hb5.mono HBw4.out.size))
    have HT5 := hid (tab_below HT4.out hb5)
    have HX5 := hid ((hb5.block _ (heap_lt HX4.out)).trans HX4.out)
    have HQ5 := hid ((hb5.block _ (heap_lt ((HB4.out.block _ (heap_lt HQ3.out)).trans HQ3.out))).trans ((HB4.out.block _ (heap_lt HQ3.out)).trans HQ3.out))
    have HB6 : Hid (Below w5.heap.size w5 (w5.alloc (tob x' y'))) := (Below.refl _ _).alloc (Nat.le_refl _) _
    have HBw6 := hid (HB5.out.trans (HB6.out.mono HB5.out.size))
    have HT6 := hid (tab_below HT5.out HB6.out)
    have HT6' := hid (tab_below htab' HB6.out)
    have HX6 := hid ((HB6.out.block _ (heap_lt HX5.out)).trans HX5.out)
    have HX6' := hid (heap_alloc_new w5 (tob x' y'))
    have HQ6 := hid ((HB6.out.block _ (heap_lt HQ5.out)).trans HQ5.out)
    have cS := hid (rsameT_any _ _ _ _ t t _ HT6.out HT6'.out)
    rw [sameT_iff.2 rfl] at cS
    obtain ⟨xa', xc', hxe', -, -⟩ := htab'.1
    obtain ⟨ya', yc', hye', -, -⟩ := htab'.2
    rw [HN1.out] at hxe'
    rw [HN2.out] at hye'
    subst hxe' hye'
    have dnn : (n != n) = false := by simp
    have hw3 := heap_lt HX4.out
    have hw35 := HB6.out.size
    have hsz35 : w3.heap.size < w5.heap.size := heap_lt HX5.out
    obtain ⟨b0, b1⟩ := row2 HX5.out
    obtain ⟨c0, c1⟩ := row2 HX6'.out
    clear cP hb5 htab' HT4 HX4 HBw4 HB4 HB5 HT5 HX5 HQ5 HB6 hw3 hw35
    go_wp2_with fail
    refine cS.out.mono ?_
    rintro e w7 ⟨rfl, hb7⟩
    have HB7 := hid (HBw6.out.trans (hb7.mono HBw6.out.size))
    have HT7 := hid (tab_below HT6.out hb7)
    have HT7' := hid (tab_below HT6'.out hb7)
    have HX7 := hid ((hb7.block _ (heap_lt HX6.out)).trans HX6.out)
    have HX7' := hid ((hb7.block _ (heap_lt HX6'.out)).trans HX6'.out)
    have HQ7 := hid ((hb7.block _ (heap_lt HQ6.out)).trans HQ6.out)
    clear cS hb7 HBw6 HT6 HT6' HX6 HX6' HQ6 b0 b1 c0 c1
    by_cases hn0 : n = 0
    · subst hn0
      have hrt := right_of (T := T) (by rw [HOR.out])
      rw [HOR.out] at hrt
      obtain ⟨hto, hrt⟩ := hrt
      have hto' : t = ofT T := hto
      rw [← hto'] at hrt
      have HF : Hid (Fits T t) := by rw [hto']; exact fits T
      have HRt := hid hrt
      clear hto hrt
      have hacts : ∀ X ∈ t.l, ∀ r ∈ X, r.a.length ≤ 500 := fun X hX r hr => by
        have h8 : X ∈ T := ofT_mem T T.length (Nat.le_refl _) X (by rw [List.take_length, ← hto']; exact hX)
        have h9 := (HTX.out X h8).2 r hr
        omega
      have hlists : ∀ X ∈ t.l, X.length ≤ 1000 := fun X hX => HR1.out X (ofT_mem T T.length (Nat.le_refl _) X (by rw [List.take_length, ← hto']; exact hX))
      have HLi := hid hlists
      have hrows : ∀ k, rowsM (t.l.take k) ≤ 9223372036854775807 := fun k => by
        have h1 := rowsM_le t.l hlists
        have h2 := rowsM_take_le t.l k
        have h3 := (ofT_lens T T.length (Nat.le_refl _)).2
        rw [List.take_length, ← hto', HR.out] at h3
        omega
      have HRo := hid hrows
      have cK := hid (look11_any _ _ t k hk q hacts w7 HT7.out)
      obtain ⟨b0, b1⟩ := row2 HX7.out
      obtain ⟨⟨r0, r1, r2, r3, r4, r5, r6, r7⟩, -, -⟩ := row8 HQ7.out
      have hw16 : IntKind.i64.wrap (k : Int) = (k : Int) := wr64 _ (by omega) (by omega)
      clear hacts hlists hrows hto'
      by_cases hkR : R ≤ k
      · have dkR : decide ((R : Int) ≤ (k : Int)) = true := by simp; omega
        rw [HF.out.no k (by rw [HR.out]; exact hkR)] at cK
        clear dkR dnn
        go_wp2_with fail
        refine cK.out.mono ?_
        rintro e w8 ⟨he, hb8⟩
        obtain rfl : e = .returned (.tuple #[.slice none 0 0, .int .i64 31]) := he
        have HB8 := hid (HB7.out.trans (hb8.mono HB7.out.size))
        have HT8 := hid (tab_below HT7.out hb8)
        have HX8 := hid ((hb8.block _ (heap_lt HX7.out)).trans HX7.out)
        have cR := hid (right12_any _ _ t (by rw [HF.out.len, HR.out]; omega) HLi.out w8 HT8.out)
        rw [HRt.out] at cR
        clear cK hb8 b0 b1 r0 r1 r2 r3 r4 r5 r6 r7
        obtain ⟨b0, b1⟩ := row2 HX8.out
        go_wp2_with fail
        refine cR.out.mono ?_
        rintro e w9 ⟨rfl, hb9⟩
        have HB9 := hid (HB8.out.trans (hb9.mono HB8.out.size))
        clear cR hb9 b0 b1
        go_wp2
        go_ret
        exact ⟨rfl, HB9.out⟩
      · have dkR : decide ((R : Int) ≤ (k : Int)) = false := by simp; omega
        have hkT : k < T.length := by rw [HR.out]; omega
        rw [HF.out.list k hkT] at cK
        obtain ⟨sa', sc', hse, -, hcell⟩ := HL.out w (Below.refl _ _)
        rw [HR.out] at hse
        injection hse with hse1 hse2 hse3
        subst hse1 hse3
        obtain ⟨b, off, rfl, hb, u, hu, hp⟩ := hcell k hkT
        have HU : Hid (∀ W, Below w.heap.size w W → W.cell? ⟨b, off + k, none⟩ = some u ∧ RowsAt W u T[k]) := fun W hW => ⟨(hW.cell (p := ⟨b, off + k, none⟩) hb).trans hu, hp.below hW⟩
        have HAc : Hid (∀ r ∈ T[k], r.a.length ≤ 40) := (HTX.out _ (List.getElem_mem hkT)).2
        obtain ⟨ua, uc, hue, -⟩ := hp.form
        clear hu hp hcell hse2
        generalize T[k] = X at *
        obtain ⟨xl, hxl⟩ : ∃ xl, X.length = xl := ⟨_, rfl⟩
        rw [hxl] at hue
        subst hue
        have hkR2 : (k : Int) < (R : Int) := by omega
        have hkR3 : k < R := by omega
        clear dkR dnn hkT hxl
        go_wp2_with fail
        refine cK.out.mono ?_
        rintro e w8 ⟨⟨u1, rfl, hp1⟩, hb8⟩
        have HB8 := hid (HB7.out.trans (hb8.mono HB7.out.size))
        have HT8 := hid (tab_below HT7.out hb8)
        have HT8' := hid (tab_below HT7'.out hb8)
        have HX8 := hid ((hb8.block _ (heap_lt HX7.out)).trans HX7.out)
        have HX8' := hid ((hb8.block _ (heap_lt HX7'.out)).trans HX7'.out)
        have HQ8 := hid ((hb8.block _ (heap_lt HQ7.out)).trans HQ7.out)
        have HP8 := hid hp1
        clear cK hb8 b0 b1 r0 r1 r2 r3 r4 r5 r6 r7 hp1 HT7 HT7' HX7 HX7' HQ7
        obtain ⟨⟨r0, r1, r2, r3, r4, r5, r6, r7⟩, -, -⟩ := row8 HQ8.out
        have a0 := (HU.out w8 HB8.out).1
        have HBd : Hid (Below w8.heap.size w8 w8.drew) := below_drewN (Below.refl _ w8) 1
        have cD := hid (rlook_any q (.slice ua xl uc) X (fun r hr => Nat.le_trans (HAc.out r hr) (by decide)) w8.drew (HU.out _ (HB8.out.trans (HBd.out.mono HB8.out.size))).2)
        go_wp2_with fail
        go_cut [13, 14] from 64 (fun x13 x14 wx => ∃ u2, u2 = x13 ∧ x14 = .int .i64 (lookI q X) ∧ Hid (Pks wx u2 (lookL q X)) ∧ Hid (Below w8.heap.size w8 wx))
        case first =>
          go_region_law (refine step_call2 rfl 13 68 69 _ rfl (.slice ua xl uc) q.v rfl rfl _ call13 _ cD.out ?_; rintro e W3 ⟨u2, rfl, hp2, hb9⟩; refine ⟨_, rfl, ?_⟩)
          all_goals
            go_wp2_with fail
            go_meet
            exact ⟨_, rfl, rfl, hp2, HBd.out.trans (hb9.mono HBd.out.size)⟩
        case rest =>
          obtain ⟨u2, rfl, rfl, HP9', HB89⟩ := hcut
          have HB9 := hid (HB8.out.trans (HB89.out.mono HB8.out.size))
          have HT9 := hid (tab_below HT8.out HB89.out)
          have HT9' := hid (tab_below HT8'.out HB89.out)
          have HX9 := hid ((HB89.out.block _ (heap_lt HX8.out)).trans HX8.out)
          have HX9' := hid ((HB89.out.block _ (heap_lt HX8'.out)).trans HX8'.out)
          have HP9 := hid (HP8.out.below HB89.out)
          clear cD a0 r0 r1 r2 r3 r4 r5 r6 r7
          obtain ⟨b0, b1⟩ := row2 HX9.out
          obtain ⟨c0, c1⟩ := row2 HX9'.out
          have s0 := cell_regrown b0
          have s1 := cell_regrown b1
          have s2 := cell_regrown c1
          have hlk := lookL_len q X HAc.out
          have c14 : Hid (∀ d os, Calls Try.prog 14 #[u1, u2] (grow (redrawn wc d) os) fun e w'' => e = .returned (.bool true) ∧ ∃ p : Regrown, w'' = grow (redrawn wc p.d) p.os) := fun d os => Calls.regrown_of (same25 u1 u2 _ hlk _ (HP9.out.below (below_regrown wc d os)) (HP9'.out.below (below_regrown wc d os)))
          have c12 : Hid (∀ d os, Calls Try.prog 12 #[tv (.slice xa n1 xc) (.slice ya n2 yc)] (grow (redrawn wc d) os) fun e w'' => e = .returned (.bool true) ∧ ∃ p : Regrown, w'' = grow (redrawn wc p.d) p.os) := fun d os => Calls.regrown_of (by
            have h9 := right12_any _ _ t (by rw [HF.out.len, HR.out]; omega) HLi.out _ (tab_below HT9.out (below_regrown wc d os))
            rw [HRt.out] at h9
            exact h9)
          have c15 : Hid (∀ d os, Calls Try.prog 15 #[tv (.slice xa n1 xc) (.slice ya n2 yc)] (grow (redrawn wc d) os) fun e w'' => e = .returned (.int .i64 (rowsM t.l : Int)) ∧ ∃ p : Regrown, w'' = grow (redrawn wc p.d) p.os) := fun d os => Calls.regrown_of (rows_any _ _ t _ (tab_below HT9.out (below_regrown wc d os)) HRo.out)
          have c16 : Hid (∀ d os, Calls Try.prog 16 #[.slice ya' n2 yc'] (grow (redrawn wc d) os) fun e w'' => e = .returned (.int .i64 (rowsM t.l : Int)) ∧ ∃ p : Regrown, w'' = grow (redrawn wc p.d) p.os) := fun d os => Calls.regrown_of (rrowsN_any _ t.l _ (HT9'.out.2.below (below_regrown wc d os)) HRo.out)
          generalize (rowsM t.l : Int) = N at *
          have dN : (N == N) = true := by simp
          clear hlk b0 b1 c0 c1
          go_wp2_with fail
          refine wp_region_quiet_below (by kernel_rfl) (by kernel_rfl) ?_
          repeat (go_big_quiet_step (first | (go_at_call 14; exact c14.out _ _) | (go_at_call 12; exact c12.out _ _) | (go_at_call 15; exact c15.out _ _) | (go_at_call 16; exact c16.out _ _)))
          refine wpQuiet_nil ?_
          intro _ hw'
          obtain ⟨⟨dq, osq⟩, hw''⟩ := hw'
          subst hw''
          have HBq := hid (HB9.out.trans ((below_regrown wc dq osq).mono HB9.out.size))
          clear c14 c12 c15 c16 s0 s1 s2
          go_wp2
          go_ret
          exact ⟨rfl, HBq.out⟩
    · have dn : (n != 0) = true := by simp [hn0]
      clear hn0
      go_wp2
      go_ret
      exact ⟨rfl, HB7.out⟩
end Go.Proofs.Ytbcikkofbdfmaaa

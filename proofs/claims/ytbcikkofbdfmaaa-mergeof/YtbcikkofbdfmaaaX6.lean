/- By which row a packet goes, and what is made of it, as the document has it: pointsmanref09.Lookup; rows of up to 400 acts. -/
import Derived.Test.YtbcikkofbdfmaaaX5
set_option linter.unusedVariables false
set_option linter.unusedSimpArgs false
namespace Go.Proofs.Ytbcikkofbdfmaaa
open Go.RowKit Go.Joins Go.Sort

/-- Packets, and a word. -/
abbrev fL (l : List P8) : Fc := ⟨fun v w => ∃ u b, v = .tuple #[u, b] ∧ Pks w u l, fun _ _ _ hg ⟨u, b, e, h⟩ => ⟨u, b, e, h.below hg⟩⟩
structure LS9 (w : World) (q : P8) (v : Value) (l : List Rx) (W : World) : Prop where
  bel : Below w.heap.size w W
  box : W.heap[w.heap.size]? = some (pob q)
  rows : RowsAt W v l
theorem LS9.below {w : World} {q : P8} {v : Value} {l : List Rx} {W W' : World} (h : LS9 w q v l W) (hb : Below W.heap.size W W') : LS9 w q v l W' :=
  ⟨h.bel.trans (hb.mono h.bel.size), (hb.block _ (heap_lt h.box)).trans h.box, h.rows.below hb⟩

set_option maxRecDepth 100000 in
set_option maxHeartbeats 8000000 in
theorem rlook_any (q : P8) (v : Value) (L : List Rx) (ha : ∀ r ∈ L, r.a.length ≤ 400) (w : World) (h : RowsAt w v L) :
    Calls Try.prog 13 #[v, q.v] w fun e w' => ∃ u, e = .returned (.tuple #[u, .int .i64 (lookI q L)]) ∧ Pks w' u (lookL q L) ∧ Below w.heap.size w w' := by
  have HRows := hid h
  obtain ⟨sa, sc, rfl, hl, hcap, hc⟩ := h
  have HC := hid hc
  have HA := hid ha
  obtain ⟨R, hR⟩ : ∃ R, L.length = R := ⟨_, rfl⟩
  have HR := hid hR
  rw [hR] at hl hcap HRows ⊢
  obtain ⟨hcap1, hcap2⟩ := hcap
  clear hc hR ha
  go_enter Try.func13, Try.ntmps13
  go_wp2
  go_loopw [6] (fun i wr => ∃ (k : Nat), k ≤ R ∧ i = .int .i64 (k : Int) ∧ Hid (∀ j (h : j < L.length), j < k → hasAll q.l L[j].m = false) ∧ Hid (Below w.heap.size w wr) ∧ Hid (wr.heap[w.heap.size]? = some (pob q))) (fun i _ => R - (intOf i).toNat)
  case atStart => exact ⟨0, Nat.zero_le _, rfl, fun j h hj => absurd hj (by omega), (Below.refl _ _).alloc (Nat.le_refl _) _, heap_alloc_new _ _⟩
  case round =>
    obtain ⟨k, hk, rfl, HN, HB, HQ⟩ := hrel
    by_cases hlt : k < R
    · have hlt' : k < L.length := by rw [HR.out]; exact hlt
      have dk : decide ((k : Int) < (R : Int)) = true := by simp; omega
      obtain ⟨b, off, rfl, hb, x, y, hx, hy, hr⟩ := HC.out k hlt'
      have hx2 := (HB.out.cell (p := ⟨b, off + k * 2, none⟩) hb).trans hx
      have HCY : Hid (∀ W, Below w.heap.size w W → W.cell? ⟨b, off + k * 2 + 1, none⟩ = some y) := fun W hW => (hW.cell (p := ⟨b, off + k * 2 + 1, none⟩) hb).trans hy
      have hak := HA.out _ (List.getElem_mem hlt')
      have HRow := hid (hr.below HB.out)
      obtain ⟨xa, xc, hxe, -⟩ := hr.1.form
      obtain ⟨ya, yc, hye⟩ := hr.2.form
      clear hx hy hr
      obtain ⟨⟨r0, r1, r2, r3, r4, r5, r6, r7⟩, -, -⟩ := row8 HQ.out
      have sx := cell_regrown hx2
      have t0 := cell_regrown r0
      have t1 := cell_regrown r1
      have t2 := cell_regrown r2
      have t3 := cell_regrown r3
      have t4 := cell_regrown r4
      have t5 := cell_regrown r5
      have t6 := cell_regrown r6
      have t7 := cell_regrown r7
      have cH : Hid (∀ d os, Calls Try.prog 29 #[q.v, x] (grow (redrawn wr d) os) fun e w'' => e = .returned (.bool (hasAll q.l L[k].m)) ∧ ∃ p : Regrown, w'' = grow (redrawn wr p.d) p.os) := fun d os => Calls.regrown_of (rhas_v q _ x L[k].m (HRow.out.1.below (below_regrown wr d os)))
      obtain ⟨xn, hxn⟩ : ∃ xn, (L[k].m).length = xn := ⟨_, rfl⟩
      obtain ⟨yn, hyn⟩ : ∃ yn, (L[k].a).length = yn := ⟨_, rfl⟩
      have HYN := hid hyn
      rw [hxn] at hxe
      rw [hyn] at hye hak
      subst hxe hye
      clear hxn hyn
      go_wp2
      clear hx2 r0 r1 r2 r3 r4 r5 r6 r7
      refine wp_region_quiet_below (by kernel_rfl) (by kernel_rfl) ?_
      repeat (go_big_quiet_step (first | (go_at_call 29; exact cH.out _ _)))
      refine wpQuiet_nil ?_
      intro _ hw'
      obtain ⟨⟨dq, osq⟩, hw''⟩ := hw'
      subst hw''
      have HB2 : Hid (Below w.heap.size w (grow (redrawn wr dq) osq)) := HB.out.trans ((below_regrown wr dq osq).mono HB.out.size)
      have HQ2 : Hid ((grow (redrawn wr dq) osq).heap[w.heap.size]? = some (pob q)) := ((below_regrown wr dq osq).block _ (heap_lt HQ.out)).trans HQ.out
      have HRow2 := hid (HRow.out.below (below_regrown wr dq osq))
      generalize (grow (redrawn wr dq) osq) = W at *
      clear sx t0 t1 t2 t3 t4 t5 t6 t7 cH HB HQ HRow
      cases hh : hasAll q.l L[k].m with
      | true =>
        have HK : Hid (lookK q L = some k) := lookK_hit q L k hlt' (fun j hj => HN.out j (by omega) hj) hh
        have HSub : Hid (RowsAt W (.slice (some ⟨b, off + k * 2, none⟩) 1 (sc - k)) [L[k]]) := by
          have := (HRows.out.sub k 1 (by omega)).below HB2.out
          rwa [List.drop_eq_getElem_cons hlt', List.take_succ_cons, List.take_zero] at this
        have HL1 : Hid (lookL q [L[k]] = lookL q L) := by
          have h1 : lookK q [L[k]] = some 0 := lookK_hit q [L[k]] 0 (by simp) (fun j hj => by omega) hh
          show _ = _
          rw [lookL_hit h1 (by simp), lookL_hit HK.out hlt']
          rfl
        have HD : Hid (LS9 w q (.slice (some ⟨b, off + k * 2, none⟩) 1 (sc - k)) [L[k]] W.drew) := LS9.below ⟨HB2.out, HQ2.out, HSub.out⟩ (below_drewN (Below.refl _ _) 1)
        have hk1 : (k : Int) < (R : Int) := by omega
        have hcp : k + 1 ≤ sc := by omega
        have hwk : IntKind.i64.wrap ((k : Int) + 1) = (k : Int) + 1 := by rw [IntKind.wrap_i64]; omega
        have hrg : 0 ≤ (k : Int) + 1 ∧ (k : Int) + 1 ≤ (sc : Int) := by omega
        have hne : ¬ sc = k := by omega
        clear hh HB2 HQ2 HRow2 HSub
        go_wp2
        refine region_slots (fun W => LS9 w q (.slice (some ⟨b, off + k * 2, none⟩) 1 (sc - k)) [L[k]] W) Gr (fun d => (if d = 7 then fK (lookL q L) else if d = 8 then fT else ([fL (lookL q L), fV (.slice (some ⟨b, off, none⟩) R sc), fV (.int .i64 (k : Int)), fV (.int .i64 (k : Int)), fV (.int .i64 ((k : Int) + 1)), fV (.slice (some ⟨b, off + k * 2, none⟩) 1 (sc - k)), fV q.v, fL (lookL q L), fK (lookL q L), fT] : List Fc).getD (d - 22) fT).p) (by as_aux_lemma => kernel_rfl) (fun d v W W' hg h => Fc.up _ _ _ _ hg h) (fun W W' hg h => h.below hg) (by as_aux_lemma => kernel_rfl) (by as_aux_lemma => kernel_rfl) (by as_aux_lemma => kernel_rfl) HD.out ?_ ?_
        · refine ⟨st_old 0 (.slice (some ⟨b, off, none⟩) R sc) 23 rfl (by as_aux_lemma => kernel_rfl) (wanted_free rfl) rfl (by as_aux_lemma => kernel_rfl) rfl (fun _ => rfl), ?_⟩
          refine ⟨st_old 6 (.int .i64 (k : Int)) 24 rfl (by as_aux_lemma => kernel_rfl) (wanted_free rfl) rfl (by as_aux_lemma => kernel_rfl) rfl (fun _ => rfl), ?_⟩
          refine ⟨st_old 6 (.int .i64 (k : Int)) 25 rfl (by as_aux_lemma => kernel_rfl) (wanted_free rfl) rfl (by as_aux_lemma => kernel_rfl) rfl (fun _ => rfl), ?_⟩
          refine ⟨st_on 25 (.int .i64 (k : Int)) (.int .i64 ((k : Int) + 1)) 26 rfl (by as_aux_lemma => kernel_rfl) (wanted_free rfl) (by as_aux_lemma => kernel_rfl) (fun _ _ h => h) (fun a W hB e => by simp only [execOp, e]; go_simp) (fun _ => rfl), ?_⟩
          refine ⟨st_fn (fun a W hB hold hd => by
            obtain ⟨v1, e1, h1⟩ := (hd 23 (by as_aux_lemma => kernel_rfl)).eval
            obtain ⟨v2, e2, h2⟩ := (hd 24 (by as_aux_lemma => kernel_rfl)).eval
            obtain ⟨v3, e3, h3⟩ := (hd 26 (by as_aux_lemma => kernel_rfl)).eval
            obtain rfl : v1 = (.slice (some ⟨b, off, none⟩) R sc) := h1
            obtain rfl : v2 = .int .i64 (k : Int) := h2
            obtain rfl : v3 = .int .i64 ((k : Int) + 1) := h3
            refine ⟨.slice (some ⟨b, off + k * 2, none⟩) 1 (sc - k), ?_, dst_is (F := fun d v W => ((if d = 7 then fK (lookL q L) else if d = 8 then fT else ([fL (lookL q L), fV (.slice (some ⟨b, off, none⟩) R sc), fV (.int .i64 (k : Int)), fV (.int .i64 (k : Int)), fV (.int .i64 ((k : Int) + 1)), fV (.slice (some ⟨b, off + k * 2, none⟩) 1 (sc - k)), fV q.v, fL (lookL q L), fK (lookL q L), fT] : List Fc).getD (d - 22) fT).p v W)) (c := 27) rfl rfl⟩
            simp only [execOp, e1, e2, e3, Option.map_some, Option.map_none]
            go_simp) (by as_aux_lemma => kernel_rfl) (wanted_free rfl), ?_⟩
          refine ⟨st_load 25 3 (.pointer (some ⟨w.heap.size, 0, none⟩)) q.v 28 rfl (by as_aux_lemma => kernel_rfl) (wanted_free rfl) rfl (by as_aux_lemma => kernel_rfl) rfl (fun W h => load8 q h.box) (fun _ _ => rfl), ?_⟩
          refine ⟨st_call2 30 27 28 (fun _ _ _ => by go_simp) 29 rfl (by as_aux_lemma => kernel_rfl) (wanted_free rfl) _ rfl (by as_aux_lemma => kernel_rfl) (by as_aux_lemma => kernel_rfl) (fun v u W hB h h' => ?_), ?_⟩
          · obtain rfl : v = .slice (some ⟨b, off + k * 2, none⟩) 1 (sc - k) := h
            obtain rfl : u = q.v := h'
            refine (rrows_any q _ [L[k]] (fun r hr => by simp only [List.mem_cons, List.not_mem_nil, or_false] at hr; subst hr; exact HA.out _ (List.getElem_mem hlt')) W hB.rows).mono ?_
            rintro e W' ⟨u, rfl, hp, hb2⟩
            rw [HL1.out] at hp
            exact ⟨_, rfl, hb2, ⟨u, _, rfl, hp⟩⟩
          refine ⟨st_move 29 22 rfl (by as_aux_lemma => kernel_rfl) (wanted_free rfl) (.inl rfl) (by as_aux_lemma => kernel_rfl) (fun _ _ h => h), ?_⟩
          refine ⟨st_fn (fun a W hB hold hd => by
            obtain ⟨v, e, u, bb, rfl, hp⟩ := (hd 22 (by as_aux_lemma => kernel_rfl)).eval
            exact ⟨u, by simp only [execOp, e]; rfl, fun d hd => by cases hd; exact hp⟩) (by as_aux_lemma => kernel_rfl) (wanted_free rfl), ?_⟩
          refine ⟨st_fn (fun a W hB hold hd => by
            obtain ⟨v, e, u, bb, rfl, hp⟩ := (hd 22 (by as_aux_lemma => kernel_rfl)).eval
            exact ⟨bb, by simp only [execOp, e]; rfl, fun d hd => by cases hd; trivial⟩) (by as_aux_lemma => kernel_rfl) (wanted_free rfl), ?_⟩
          refine ⟨st_move 30 7 rfl (by as_aux_lemma => kernel_rfl) (wanted_free rfl) (.inr rfl) (by as_aux_lemma => kernel_rfl) (fun _ _ h => h), ?_⟩
          refine ⟨st_move 31 8 rfl (by as_aux_lemma => kernel_rfl) (wanted_free rfl) (.inr rfl) (by as_aux_lemma => kernel_rfl) (fun _ _ h => trivial), ?_⟩
          trivial
        · intro a w4 hB hO hD
          obtain ⟨v23, e23, -⟩ := Slot.getD (hD 0 _ 23 rfl rfl)
          obtain ⟨v24, e24, -⟩ := Slot.getD (hD 1 _ 24 rfl rfl)
          obtain ⟨v25, e25, -⟩ := Slot.getD (hD 2 _ 25 rfl rfl)
          obtain ⟨v26, e26, -⟩ := Slot.getD (hD 3 _ 26 rfl rfl)
          obtain ⟨v27, e27, -⟩ := Slot.getD (hD 4 _ 27 rfl rfl)
          obtain ⟨v28, e28, -⟩ := Slot.getD (hD 5 _ 28 rfl rfl)
          obtain ⟨v29, e29, -⟩ := Slot.getD (hD 6 _ 29 rfl rfl)
          obtain ⟨v22, e22, -⟩ := Slot.getD (hD 7 _ 22 rfl rfl)
          obtain ⟨v30, e30, -⟩ := Slot.getD (hD 8 _ 30 rfl rfl)
          obtain ⟨v31, e31, -⟩ := Slot.getD (hD 9 _ 31 rfl rfl)
          obtain ⟨v7, e7, h7⟩ := Slot.getD (hD 10 _ 7 rfl rfl)
          obtain ⟨v8, e8, -⟩ := Slot.getD (hD 11 _ 8 rfl rfl)
          have ha := hO.lit [23, 24, 25, 26, 27, 28, 29, 22, 30, 31, 7, 8] (by as_aux_lemma => kernel_rfl)
          simp only [List.foldl_cons, List.foldl_nil, e23, e24, e25, e26, e27, e28, e29, e22, e30, e31, e7, e8, List.setIfInBounds_toArray, List.set_cons_succ, List.set_cons_zero] at ha
          clear hD hO e23 e24 e25 e26 e27 e28 e29 e22 e30 e31 e7 e8
          subst ha
          have HB4 := hid hB
          have HP4 : Hid (Pks w4 v7 (lookL q L)) := h7
          clear hB h7 HD
          go_wp2_with fail
          refine bodyPost_ret (v := .tuple #[v7, .int .i64 (k : Int)]) (by simp [results, Try.results13, go_sem]) rfl ⟨v7, by rw [lookI_hit HK.out], HP4.out, HB4.out.bel⟩
      | false =>
        have HN2 : Hid (∀ j (h : j < L.length), j < k + 1 → hasAll q.l L[j].m = false) := fun j h hj => by
          by_cases e : j = k
          · subst e; exact hh
          · exact HN.out j h (by omega)
        clear hh
        go_wp2_with fail
        go_roundw
        case rel => exact ⟨k + 1, by omega, by go_num, HN2, HB2, HQ2⟩
        case measure => simp [intOf]; omega
    · obtain rfl : k = R := by omega
      have dk : decide ((k : Int) < (k : Int)) = false := by simp
      have HK : Hid (lookK q L = none) := lookK_miss q L fun j hj => HN.out j hj (by rw [HR.out] at hj; omega)
      go_wp2_with fail
      refine bodyPost_ret (v := .tuple #[.slice none 0 0, .int .i64 (-1)]) (by simp [results, Try.results13, go_sem]) rfl ⟨_, by rw [lookI_miss HK.out], ?_, HB.out⟩
      rw [lookL_miss HK.out]
      exact pks_nil _
end Go.Proofs.Ytbcikkofbdfmaaa

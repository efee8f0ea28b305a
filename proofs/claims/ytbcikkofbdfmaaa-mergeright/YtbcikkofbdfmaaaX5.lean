/- By which row a packet goes, and what is made of it, as the document has it: pointsmanref08.Rows, pointsmanref09.Lookup; rows of up to 400 acts. -/
import Derived.Test.YtbcikkofbdfmaaaX4
import Derived.Test.YtbcikkofbdfmaaaQG
set_option linter.unusedVariables false
set_option linter.unusedSimpArgs false
namespace Go.Proofs.Ytbcikkofbdfmaaa
open Go.RowKit Go.Joins Go.Sort

abbrev fK (l : List P8) : Fc := ⟨fun v w => Pks w v l, fun _ _ _ hg h => h.below hg⟩
/-- What the document's rows have made up to an act. -/
def upto (q : P8) (a : List Prs) (m : Nat) : List P8 := sortL ((a.take m).map (doP q))
theorem upto_zero (q : P8) (a : List Prs) : upto q a 0 = [] := rfl
theorem upto_succ (q : P8) (a : List Prs) (m : Nat) (h : m < a.length) : upto q a (m + 1) = addL (upto q a m) (doP q a[m]) := by
  unfold upto
  rw [List.map_take, List.map_take, sortL_snoc (a.map (doP q)) m (by simpa using h)]
  simp
theorem upto_all (q : P8) (a : List Prs) : upto q a a.length = madeL q a := by unfold upto madeL; rw [List.take_length]
theorem upto_len (q : P8) (a : List Prs) (m : Nat) : (upto q a m).length ≤ a.length := by
  unfold upto
  have := sortL_len ((a.take m).map (doP q))
  simp only [List.length_map, List.length_take] at this
  omega
theorem load8 {w : World} {g : Nat} (q : P8) (h : w.heap[g]? = some (pob q)) : (Instr.loadAt 25 (.pointer (some ⟨g, 0, none⟩))).run Try.prog w = .ok q.v w := by
  obtain ⟨⟨c0, c1, c2, c3, c4, c5, c6, c7⟩, -, -⟩ := row8 h
  go_simp

/-- What lies there while an act is done. -/
structure DS (w : World) (q : P8) (b o : Nat) (x y : Value) (b2 o2 : Nat) (z : Value) (c : Prs) (u : Value) (l : List P8) (r : Rx) (W : World) : Prop where
  bel : Below w.heap.size w W
  box : W.heap[w.heap.size]? = some (pob q)
  cy : W.cell? ⟨b, o, none⟩ = some y
  cz : W.cell? ⟨b2, o2, none⟩ = some z
  pz : PairsAny W z c
  pk : Pks W u l
  row : RowAt W x y r
theorem DS.below {w : World} {q : P8} {b o : Nat} {x y : Value} {b2 o2 : Nat} {z : Value} {c : Prs} {u : Value} {l : List P8} {r : Rx} {W W' : World} (h : DS w q b o x y b2 o2 z c u l r W) (hb : Below W.heap.size W W') : DS w q b o x y b2 o2 z c u l r W' :=
  ⟨h.bel.trans (hb.mono h.bel.size), (hb.block _ (heap_lt h.box)).trans h.box, (hb.cell (p := ⟨b, o, none⟩) (block_lt_of_cell h.cy)).trans h.cy, (hb.cell (p := ⟨b2, o2, none⟩) (block_lt_of_cell h.cz)).trans h.cz, h.pz.below hb, h.pk.below hb, h.row.below hb⟩

set_option maxRecDepth 100000 in
set_option maxHeartbeats 8000000 in
theorem rrows_any (q : P8) (v : Value) (L : List Rx) (ha : ∀ r ∈ L, r.a.length ≤ 400) (w : World) (h : RowsAt w v L) :
    Calls Try.prog 30 #[v, q.v] w fun e w' => ∃ u, e = .returned (.tuple #[u, .bool (lookK q L).isSome]) ∧ Pks w' u (lookL q L) ∧ Below w.heap.size w w' := by
  obtain ⟨sa, sc, rfl, hl, hcap, hc⟩ := h
  have HC := hid hc
  have HA := hid ha
  obtain ⟨R, hR⟩ : ∃ R, L.length = R := ⟨_, rfl⟩
  have HR := hid hR
  rw [hR] at hl ⊢
  clear hc hR ha hcap
  go_enter Try.func30, Try.ntmps30
  go_wp2
  go_loopw [6] (fun i wr => ∃ (k : Nat), k ≤ R ∧ i = .int .i64 (k : Int) ∧ Hid (∀ j (h : j < L.length), j < k → hasAll q.l L[j].m = false) ∧ Hid (Below w.heap.size w wr) ∧ Hid (wr.heap[w.heap.size]? = some (pob q))) (fun i _ => R - (intOf i).toNat)
  case atStart => exact ⟨0, Nat.zero_le _, rfl, fun j h hj => absurd hj (by omega), (Below.refl _ _).alloc (Nat.le_refl _) _, heap_alloc_new _ _⟩
  case round =>
    obtain ⟨k, hk, rfl, HN, HB, HQ⟩ := hrel
    by_cases hlt : k < R
    · have hlt' : k < L.length := by rw [HR.out]; exact hlt
      have dk : decide ((k : Int) < (R : Int)) = true := by simp; omega
      obtain ⟨b, off, rfl, hb, x, y, hx, hy, hr⟩ := HC.out k hlt'
      have hx2 := (HB.out.cell (p := ⟨b, off + k * 2, none⟩) hb).trans hx
      have HCY : Hid (∀ W, Below w.heap.size w W → W.cell? ⟨b, off + k * 2 + 1, none⟩ = some y) := fun W hW => (hW.cell (p := ⟨b, off + k * 2 + 1, none⟩) hb).trans hy
      have hak := HA.out _ (List.getElem_mem hlt')
      have HRow := hid (hr.below HB.out)
      obtain ⟨xa, xc, hxe, -⟩ := hr.1.form
      obtain ⟨ya, yc, hye⟩ := hr.2.form
      clear hx hy hr
      obtain ⟨⟨r0, r1, r2, r3, r4, r5, r6, r7⟩, -, -⟩ := row8 HQ.out
      have sx := cell_regrown hx2
      have t0 := cell_regrown r0
      have t1 := cell_regrown r1
      have t2 := cell_regrown r2
      have t3 := cell_regrown r3
      have t4 := cell_regrown r4
      have t5 := cell_regrown r5
      have t6 := cell_regrown r6
      have t7 := cell_regrown r7
      have cH : Hid (∀ d os, Calls Try.prog 29 #[q.v, x] (grow (redrawn wr d) os) fun e w'' => e = .returned (.bool (hasAll q.l L[k].m)) ∧ ∃ p : Regrown, w'' = grow (redrawn wr p.d) p.os) := fun d os => Calls.regrown_of (rhas_v q _ x L[k].m (HRow.out.1.below (below_regrown wr d os)))
      obtain ⟨xn, hxn⟩ : ∃ xn, (L[k].m).length = xn := ⟨_, rfl⟩
      obtain ⟨yn, hyn⟩ : ∃ yn, (L[k].a).length = yn := ⟨_, rfl⟩
      have HYN := hid hyn
      rw [hxn] at hxe
      rw [hyn] at hye hak
      subst hxe hye
      clear hxn hyn
      go_wp2
      clear hx2 r0 r1 r2 r3 r4 r5 r6 r7
      refine wp_region_quiet_below (by kernel_rfl) (by kernel_rfl) ?_
      repeat (go_big_quiet_step (first | (go_at_call 29; exact cH.out _ _)))
      refine wpQuiet_nil ?_
      intro _ hw'
      obtain ⟨⟨dq, osq⟩, hw''⟩ := hw'
      subst hw''
      have HB2 : Hid (Below w.heap.size w (grow (redrawn wr dq) osq)) := HB.out.trans ((below_regrown wr dq osq).mono HB.out.size)
      have HQ2 : Hid ((grow (redrawn wr dq) osq).heap[w.heap.size]? = some (pob q)) := ((below_regrown wr dq osq).block _ (heap_lt HQ.out)).trans HQ.out
      have HRow2 := hid (HRow.out.below (below_regrown wr dq osq))
      generalize (grow (redrawn wr dq) osq) = W at *
      clear sx t0 t1 t2 t3 t4 t5 t6 t7 cH HB HQ HRow
      cases hh : hasAll q.l L[k].m with
      | true =>
        have HK : Hid (lookK q L = some k) := lookK_hit q L k hlt' (fun j hj => HN.out j (by omega) hj) hh
        have hy3 := HCY.out W HB2.out
        clear hh
        go_wp2
        go_loopw [7, 8] (fun sv mi wx => ∃ (m : Nat), m ≤ yn ∧ mi = .int .i64 (m : Int) ∧ Hid (Pks wx sv (upto q L[k].a m)) ∧ Hid (Below w.heap.size w wx) ∧ Hid (wx.heap[w.heap.size]? = some (pob q)) ∧ Hid (RowAt wx (.slice xa xn xc) (.slice ya yn yc) L[k])) (fun _ mi _ => yn - (intOf mi).toNat)
        case atStart => exact ⟨0, Nat.zero_le _, rfl, pks_nil _, HB2, HQ2, HRow2⟩
        case round =>
          clear HB2 HQ2 HRow2 hy3
          obtain ⟨m, hm, rfl, HP, HB, HQ, HRow⟩ := hrel
          have hy4 := HCY.out _ HB.out
          by_cases hlm : m < yn
          · have dm : decide ((m : Int) < (yn : Int)) = true := by simp; omega
            have hlm' : m < L[k].a.length := by rw [HYN.out]; exact hlm
            obtain ⟨b2, off2, e2, hb2, z, hz, hpz⟩ : ∃ b2 off2, ya = some ⟨b2, off2, none⟩ ∧ b2 < wr.heap.size ∧ ∃ z, wr.cell? ⟨b2, off2 + m, none⟩ = some z ∧ PairsAny wr z L[k].a[m] := by
              obtain ⟨sa', sc', e, -, hcc⟩ := HRow.out.2
              obtain ⟨b2, off2, e2, h2, z, h3, h4⟩ := hcc m hlm'
              injection e with e _ _
              subst e
              exact ⟨b2, off2, e2, h2, z, h3, h4⟩
            subst e2
            have HUS := hid (upto_succ q L[k].a m hlm')
            have HUL := hid (upto_len q L[k].a m)
            obtain ⟨c, hcE⟩ : ∃ c, L[k].a[m] = c := ⟨_, rfl⟩
            rw [hcE] at HUS hpz
            have HD : Hid (DS w q b (off + k * 2 + 1) (.slice xa xn xc) (.slice (some ⟨b2, off2, none⟩) yn yc) b2 (off2 + m) z c u7 (upto q L[k].a m) L[k] wr.drew) := DS.below ⟨HB.out, HQ.out, hy4, hz, hpz, HP.out, HRow.out⟩ (below_drewN (Below.refl _ _) 1)
            have hk1 : (k : Int) < (R : Int) := by omega
            have hm1 : (m : Int) < (yn : Int) := by omega
            have hbb := hb
            clear hpz hcE HP HB HQ HRow hb2
            go_wp2_with fail
            clear hy4 hz
            refine region_slots (fun W => DS w q b (off + k * 2 + 1) (.slice xa xn xc) (.slice (some ⟨b2, off2, none⟩) yn yc) b2 (off2 + m) z c u7 (upto q L[k].a m) L[k] W) Gr (fun d => (if d = 7 then fK (upto q L[k].a (m + 1)) else ([fV u7, fV q.v, fV (.slice (some ⟨b, off, none⟩) R sc), fV (.int .i64 (k : Int)), fV (.pointer (some ⟨b, off + k * 2, none⟩)), fV (.pointer (some ⟨b, off + k * 2 + 1, none⟩)), fV (.slice (some ⟨b2, off2, none⟩) yn yc), fV (.int .i64 (m : Int)), fV (.pointer (some ⟨b2, off2 + m, none⟩)), fV z, fV (doP q c).v, fK (upto q L[k].a (m + 1))] : List Fc).getD (d - 32) fT).p) (by as_aux_lemma => kernel_rfl) (fun d v W W' hg h => Fc.up _ _ _ _ hg h) (fun W W' hg h => h.below hg) (by as_aux_lemma => kernel_rfl) (by as_aux_lemma => kernel_rfl) (by as_aux_lemma => kernel_rfl) HD.out ?_ ?_
            · refine ⟨st_old 7 u7 32 rfl (by as_aux_lemma => kernel_rfl) (wanted_free rfl) rfl (by as_aux_lemma => kernel_rfl) rfl (fun _ => rfl), ?_⟩
              refine ⟨st_load 25 3 (.pointer (some ⟨w.heap.size, 0, none⟩)) q.v 33 rfl (by as_aux_lemma => kernel_rfl) (wanted_free rfl) rfl (by as_aux_lemma => kernel_rfl) rfl (fun W h => load8 q h.box) (fun _ _ => rfl), ?_⟩
              refine ⟨st_old 0 (.slice (some ⟨b, off, none⟩) R sc) 34 rfl (by as_aux_lemma => kernel_rfl) (wanted_free rfl) rfl (by as_aux_lemma => kernel_rfl) rfl (fun _ => rfl), ?_⟩
              refine ⟨st_old 6 (.int .i64 (k : Int)) 35 rfl (by as_aux_lemma => kernel_rfl) (wanted_free rfl) rfl (by as_aux_lemma => kernel_rfl) rfl (fun _ => rfl), ?_⟩
              refine ⟨st_on2 34 35 (.slice (some ⟨b, off, none⟩) R sc) (.int .i64 (k : Int)) (.pointer (some ⟨b, off + k * 2, none⟩)) 36 rfl (by as_aux_lemma => kernel_rfl) (wanted_free rfl) (by as_aux_lemma => kernel_rfl) (by as_aux_lemma => kernel_rfl) (fun _ _ h => h) (fun _ _ h => h) (fun a W hB e e' => by simp only [execOp, e, e']; go_simp) (fun _ => rfl), ?_⟩
              refine ⟨st_on 36 (.pointer (some ⟨b, off + k * 2, none⟩)) (.pointer (some ⟨b, off + k * 2 + 1, none⟩)) 37 rfl (by as_aux_lemma => kernel_rfl) (wanted_free rfl) (by as_aux_lemma => kernel_rfl) (fun _ _ h => h) (fun a W hB e => by simp only [execOp, e]; go_simp) (fun _ => rfl), ?_⟩
              refine ⟨st_loadAt 52 37 (.pointer (some ⟨b, off + k * 2 + 1, none⟩)) (.slice (some ⟨b2, off2, none⟩) yn yc) 38 rfl (by as_aux_lemma => kernel_rfl) (wanted_free rfl) rfl (by as_aux_lemma => kernel_rfl) (fun _ _ h => h) (fun W h => by have := h.cy; go_simp) (fun _ _ => rfl), ?_⟩
              refine ⟨st_old 8 (.int .i64 (m : Int)) 39 rfl (by as_aux_lemma => kernel_rfl) (wanted_free rfl) rfl (by as_aux_lemma => kernel_rfl) rfl (fun _ => rfl), ?_⟩
              refine ⟨st_on2 38 39 (.slice (some ⟨b2, off2, none⟩) yn yc) (.int .i64 (m : Int)) (.pointer (some ⟨b2, off2 + m, none⟩)) 40 rfl (by as_aux_lemma => kernel_rfl) (wanted_free rfl) (by as_aux_lemma => kernel_rfl) (by as_aux_lemma => kernel_rfl) (fun _ _ h => h) (fun _ _ h => h) (fun a W hB e e' => by simp only [execOp, e, e']; go_simp) (fun _ => rfl), ?_⟩
              refine ⟨st_loadAt 56 40 (.pointer (some ⟨b2, off2 + m, none⟩)) z 41 rfl (by as_aux_lemma => kernel_rfl) (wanted_free rfl) rfl (by as_aux_lemma => kernel_rfl) (fun _ _ h => h) (fun W h => by have := h.cz; go_simp) (fun _ _ => rfl), ?_⟩
              refine ⟨st_call2 42 33 41 (fun _ _ _ => by go_simp) 42 rfl (by as_aux_lemma => kernel_rfl) (wanted_free rfl) _ rfl (by as_aux_lemma => kernel_rfl) (by as_aux_lemma => kernel_rfl) (fun v u W hB h h' => ?_), ?_⟩
              · obtain rfl : v = q.v := h
                obtain rfl : u = z := h'
                refine (rdo_v q W u c hB.pz).mono ?_
                rintro e W' ⟨rfl, hb2⟩
                exact ⟨_, rfl, hb2, rfl⟩
              refine ⟨st_call2 41 32 42 (fun _ _ _ => by go_simp) 43 rfl (by as_aux_lemma => kernel_rfl) (wanted_free rfl) _ rfl (by as_aux_lemma => kernel_rfl) (by as_aux_lemma => kernel_rfl) (fun v u W hB h h' => ?_), ?_⟩
              · obtain rfl : v = u7 := h
                obtain rfl : u = (doP q c).v := h'
                refine (add42 v (upto q L[k].a m) (doP q c) (by have := HUL.out; have := HYN.out; omega) W hB.pk).mono ?_
                rintro e W' ⟨v', rfl, hp, hb2⟩
                refine ⟨_, rfl, hb2, ?_⟩
                show Pks W' v' (upto q L[k].a (m + 1))
                rw [HUS.out]
                exact hp
              refine ⟨st_move 43 7 rfl (by as_aux_lemma => kernel_rfl) (wanted_free rfl) (.inr rfl) (by as_aux_lemma => kernel_rfl) (fun _ _ h => h), ?_⟩
              trivial
            · intro a w4 hB hO hD
              obtain ⟨v32, e32, -⟩ := Slot.getD (hD 0 _ 32 rfl rfl)
              obtain ⟨v33, e33, -⟩ := Slot.getD (hD 1 _ 33 rfl rfl)
              obtain ⟨v34, e34, -⟩ := Slot.getD (hD 2 _ 34 rfl rfl)
              obtain ⟨v35, e35, -⟩ := Slot.getD (hD 3 _ 35 rfl rfl)
              obtain ⟨v36, e36, -⟩ := Slot.getD (hD 4 _ 36 rfl rfl)
              obtain ⟨v37, e37, -⟩ := Slot.getD (hD 5 _ 37 rfl rfl)
              obtain ⟨v38, e38, -⟩ := Slot.getD (hD 6 _ 38 rfl rfl)
              obtain ⟨v39, e39, -⟩ := Slot.getD (hD 7 _ 39 rfl rfl)
              obtain ⟨v40, e40, -⟩ := Slot.getD (hD 8 _ 40 rfl rfl)
              obtain ⟨v41, e41, -⟩ := Slot.getD (hD 9 _ 41 rfl rfl)
              obtain ⟨v42, e42, -⟩ := Slot.getD (hD 10 _ 42 rfl rfl)
              obtain ⟨v43, e43, -⟩ := Slot.getD (hD 11 _ 43 rfl rfl)
              obtain ⟨v7, e7, h7⟩ := Slot.getD (hD 12 _ 7 rfl rfl)
              have ha := hO.lit [32, 33, 34, 35, 36, 37, 38, 39, 40, 41, 42, 43, 7] (by as_aux_lemma => kernel_rfl)
              simp only [List.foldl_cons, List.foldl_nil, e32, e33, e34, e35, e36, e37, e38, e39, e40, e41, e42, e43, e7, List.setIfInBounds_toArray, List.set_cons_succ, List.set_cons_zero] at ha
              clear hD hO e32 e33 e34 e35 e36 e37 e38 e39 e40 e41 e42 e43 e7
              subst ha
              have HB4 := hid hB
              have HP4 : Hid (Pks w4 v7 (upto q L[k].a (m + 1))) := h7
              clear hB h7 HD
              go_wp2_with fail
              go_roundw
              case rel => exact ⟨m + 1, by omega, by go_num, HP4, HB4.out.bel, HB4.out.box, HB4.out.row⟩
              case measure => simp [intOf]; omega
          · obtain rfl : m = yn := by omega
            have dm : decide ((m : Int) < (m : Int)) = false := by simp
            have HU : Hid (upto q L[k].a m = madeL q L[k].a) := by show _ = _; rw [← HYN.out]; exact upto_all q _
            rw [HU.out] at HP
            go_wp2_with fail
            refine bodyPost_ret (v := .tuple #[u7, .bool true]) (by simp [results, Try.results30, go_sem]) rfl ⟨u7, by rw [HK.out]; rfl, by rw [lookL_hit HK.out hlt']; exact HP.out, HB.out⟩
      | false =>
        have HN2 : Hid (∀ j (h : j < L.length), j < k + 1 → hasAll q.l L[j].m = false) := fun j h hj => by
          by_cases e : j = k
          · subst e; exact hh
          · exact HN.out j h (by omega)
        clear hh
        go_wp2_with fail
        go_roundw
        case rel => exact ⟨k + 1, by omega, by go_num, HN2, HB2, HQ2⟩
        case measure => simp [intOf]; omega
    · obtain rfl : k = R := by omega
      have dk : decide ((k : Int) < (k : Int)) = false := by simp
      have HK : Hid (lookK q L = none) := lookK_miss q L fun j hj => HN.out j hj (by rw [HR.out] at hj; omega)
      go_wp2_with fail
      refine bodyPost_ret (v := .tuple #[.slice none 0 0, .bool false]) (by simp [results, Try.results30, go_sem]) rfl ⟨_, by rw [HK.out]; rfl, ?_, HB.out⟩
      rw [lookL_miss HK.out]
      exact pks_nil _
end Go.Proofs.Ytbcikkofbdfmaaa

/- The document's union, and what goes before its bound is asked; no conditions but the rows' lengths. -/
import Derived.Test.YtipiepcbgjceaaaL4
import Derived.Test.YtipiepcbgjceaaaS0
import Derived.Test.YtipiepcbgjceaaaOE
set_option linter.unusedVariables false
set_option linter.unusedSimpArgs false
namespace Go.Proofs.Ytipiepcbgjceaaa
open Go.RowKit Go.Joins

theorem fold_uni (A L : List P8) (h : SS A) : L.foldl addL A = uni A L := by
  obtain ⟨h1, h2⟩ := sort_go L A h
  exact ss_unique _ _ h1 (uni_ss _ _) fun z => by rw [h2, mem_uni]
theorem fold_take (A L : List P8) (k : Nat) (hk : k < L.length) : (L.take (k + 1)).foldl addL A = addL ((L.take k).foldl addL A) L[k] := by
  rw [List.take_succ_eq_append_getElem hk, List.foldl_append]
  rfl
theorem fold_len (A L : List P8) (h : SS A) : (L.foldl addL A).length ≤ A.length + L.length := by
  rw [fold_uni A L h, ← List.length_append]
  exact len_le_of _ _ (ss_nodup (uni_ss A L)) fun z hz => List.mem_append.2 ((mem_uni A L z).1 hz)
set_option maxRecDepth 100000 in
set_option maxHeartbeats 2000000 in
theorem union_any (v1 v2 : Value) (A L : List P8) (w : World) (h1 : Pks w v1 A) (h2 : Pks w v2 L) (hl : A.length + L.length ≤ 400) (hs : SS A) :
    Calls Try.prog 37 #[v1, v2] w fun e w' => ∃ v', e = .returned v' ∧ Pks w' v' (uni A L) ∧ Below w.heap.size w w' := by
  rw [← fold_uni A L hs]
  obtain ⟨sa, sc, rfl, hc⟩ := h2.form
  obtain ⟨R, hR⟩ : ∃ R, L.length = R := ⟨_, rfl⟩
  have HR : Hid (L.length = R) := hR
  have H1 : Hid (Pks w v1 A) := h1
  have HC : Hid _ := hc
  rw [hR]
  have hR4 : R ≤ 400 := by omega
  have HLn : Hid (A.length + L.length ≤ 400) := hl
  clear h1 h2 hR hl hc
  go_enter Try.func37, Try.ntmps37
  go_wp2
  go_loopw [0, 5] (fun v i wr => ∃ k : Nat, k ≤ R ∧ i = .int .i64 (k : Int) ∧ Hid (Pks wr v ((L.take k).foldl addL A)) ∧ Hid (Below w.heap.size w wr)) (fun _ i _ => R - (intOf i).toNat)
  case atStart => exact ⟨0, Nat.zero_le _, rfl, H1, Below.refl _ w⟩
  case round =>
    obtain ⟨k, hk, rfl, HP, HB⟩ := hrel
    by_cases hlt : k < R
    · have hlt' : k < L.length := by rw [HR.out]; exact hlt
      obtain ⟨b, off, rfl, hb, hat⟩ := HC.out k hlt'
      have hat2 : At8 wr b (off + k * 8) L[k] := At8.below hat HB.out hb
      obtain ⟨y, hy⟩ : ∃ y, L[k] = y := ⟨_, rfl⟩
      have HY := hid hy
      rw [hy] at hat2
      obtain ⟨a0, a1, a2, a3, a4, a5, a6, a7⟩ := hat2
      have hfl : ((L.take k).foldl addL A).length ≤ 500 := by
        have h1 := fold_len A (L.take k) hs
        have h2 := HLn.out
        rw [List.length_take] at h1
        omega
      have cA := add42 _ _ y hfl wr HP.out
      clear hy hat hfl
      go_wp2_with fail
      refine cA.mono ?_
      rintro e w1 ⟨v', rfl, hp1, hb1⟩
      have HP1 : Hid (Pks w1 v' ((L.take (k + 1)).foldl addL A)) := by
        unfold Hid
        rw [fold_take A L k hlt', HY.out]
        exact hp1
      have HB1 : Hid (Below w.heap.size w w1) := HB.out.trans (hb1.mono HB.out.size)
      clear cA hp1 hb1
      go_wp2
      go_roundw
      case rel => exact ⟨k + 1, by omega, by go_num, HP1, HB1⟩
      case measure => simp [intOf]; omega
    · obtain rfl : k = R := by omega
      go_wp2
      go_ret
      refine ⟨_, rfl, ?_, HB.out⟩
      have := HP.out
      rw [List.take_of_length_le (by rw [HR.out]; exact Nat.le_refl _)] at this
      exact this
end Go.Proofs.Ytipiepcbgjceaaa
/- Add and union of greater rows: up to 5000 packets; no conditions but the rows' lengths. -/
set_option linter.unusedVariables false
set_option linter.unusedSimpArgs false
namespace Go.Proofs.Ytipiepcbgjceaaa
open Go.RowKit Go.Joins Go.Sort

set_option maxRecDepth 100000 in
set_option maxHeartbeats 1000000 in
theorem add42g (v : Value) (L : List P8) (p : P8) (hlen : L.length ≤ 5000) (w : World) (h : Pks w v L) :
    Calls Try.prog 48 #[v, p.v] w fun e w' => ∃ v', e = .returned v' ∧ Pks w' v' (addL L p) ∧ Below w.heap.size w w' := by
  obtain ⟨sa, sc, rfl, hc⟩ := h.form
  clear h
  obtain ⟨i0, hi, hz0, hz1, hz2⟩ := info_parts info24'
  unfold P8.v pk
  go_enter Try.func48, Try.ntmps48
  go_wp2
  go_loopw [5, 6, 7] (fun v dn i wr => ∃ (k : Nat) (out : List P8) (d : Bool), k ≤ L.length ∧ i = .int .i64 k ∧ dn = .bool d ∧ out.length ≤ 2 * k ∧ Hid (addTo p (L.take k) = (out, d)) ∧ Hid (ASt w p v out wr)) (fun _ _ i _ => L.length - (intOf i).toNat)
  case atStart => exact ⟨0, [], false, Nat.zero_le _, rfl, rfl, Nat.le_refl _, rfl, ⟨World.ownsRow_nil _ _ _ _, heap_alloc_new _ _, (Below.refl _ _).alloc (Nat.le_refl _) _⟩⟩
  case round =>
    obtain ⟨k, out, d, hk, rfl, rfl, hol, HA, HS⟩ := hrel
    by_cases hlt : k < L.length
    · obtain ⟨b, off, rfl, hb, hat⟩ := hc k hlt
      have HA2 : Hid (addTo p (L.take (k + 1)) = addStep p (addTo p (L.take k)) L[k]) := addTo_snoc p L k hlt
      have hx := hat.below HS.out.bel hb
      have hxx : Hid (∀ w', Below w.heap.size w w' → At8 w' b (off + k * 8) L[k]) := fun w' hB => hat.below hB hb
      generalize L[k] = x at *
      clear hat hc
      obtain ⟨q0, q1, q2, q3, q4, q5, q6, q7⟩ := hx
      obtain ⟨⟨r0, r1, r2, r3, r4, r5, r6, r7⟩, -, -⟩ := row8 HS.out.box
      have s0 := cell_regrown q0
      have s1 := cell_regrown q1
      have s2 := cell_regrown q2
      have s3 := cell_regrown q3
      have s4 := cell_regrown q4
      have s5 := cell_regrown q5
      have s6 := cell_regrown q6
      have s7 := cell_regrown q7
      have t0 := cell_regrown r0
      have t1 := cell_regrown r1
      have t2 := cell_regrown r2
      have t3 := cell_regrown r3
      have t4 := cell_regrown r4
      have t5 := cell_regrown r5
      have t6 := cell_regrown r6
      have t7 := cell_regrown r7
      have cC : Hid (∀ d os, Calls Try.prog 57 #[p.v, x.v] (grow (redrawn wr d) os) fun e w'' => e = .returned (.int .i64 (cf p x)) ∧ ∃ p : Regrown, w'' = grow (redrawn wr p.d) p.os) := fun d os => Calls.regrown_of ((cmp28 p x _).mono fun e w' ⟨he, q, os', hw⟩ => ⟨he, by rw [hw]; exact below_grown q os'⟩)
      go_wp2
      clear q0 q1 q2 q3 q4 q5 q6 q7 r0 r1 r2 r3 r4 r5 r6 r7
      refine wp_region_quiet_below (by kernel_rfl) (by kernel_rfl) ?_
      repeat (go_big_quiet_step (first | (go_at_call 57; exact cC.out _ _)))
      refine wpQuiet_nil ?_
      intro _ hw'
      obtain ⟨⟨dq, osq⟩, hw''⟩ := hw'
      subst hw''
      have HS2 : Hid (ASt w p u5 out (grow (redrawn wr dq) osq)) := HS.out.below (below_regrown wr dq osq)
      generalize (grow (redrawn wr dq) osq) = W at *
      clear s0 s1 s2 s3 s4 s5 s6 s7 t0 t1 t2 t3 t4 t5 t6 t7 cC HS
      have hsz := heap_lt HS2.out.box
      have hk5k : k < 5000 := by omega
      obtain ⟨c, hc⟩ : ∃ c, cf p x = c := ⟨_, rfl⟩
      have HC : Hid (cf p x = c) := hc
      rw [hc]
      clear hc
      cases d with
      | true =>
        by_cases hc0 : c = 0
        · have dne : (c != 0) = false := by simp; omega
          have hcz : Hid (c = 0) := hc0
          clear hc0
          go_wp2
          go_roundw
          case rel => exact ⟨k + 1, out, true, by omega, by go_num, rfl, by omega, HA2.out.trans (addStep_tt HA.out (HC.out.trans hcz.out)), HS2⟩
          case measure => simp [intOf]; omega
        · have dne : (c != 0) = true := by simp; omega
          have hcz : Hid ((cf p x == 0) = false) := by show _ = _; rw [HC.out]; simp; omega
          clear hc0
          obtain ⟨q0, q1, q2, q3, q4, q5, q6, q7⟩ := hxx.out _ HS2.out.bel
          go_wp2_with (at_builtin; refine wpList_append_own _ rfl _ _ 33 rfl (w.heap.size + 1) 26 i0 (pk 0 0 0 0 0 0 0 0) 8 16 Try.underlying33 hi hz0 hz1 hz2 rfl (by decide) u5 _ _ rfl (HS2.out.own.alloc _) ⟨W.heap.size, 0, none⟩ 1 1 (enc8 x) rfl rfl (cell_new8 _ _ _) (enc8_one x) (by unfold maxLen; (try simp); omega) (by (try simp); omega) (by simp; omega) ?_; intro v3 w3 hown3 hgrow3 hnil3)
          have HS3 : Hid (ASt w p v3 (out ++ [x]) w3) := HS2.out.app x _ hown3 hgrow3
          clear hown3 hgrow3 hnil3
          go_wp2
          go_roundw
          case rel => exact ⟨k + 1, out ++ [x], true, by omega, by go_num, rfl, by simp; omega, HA2.out.trans (addStep_tf HA.out hcz.out), HS3⟩
          case measure => simp [intOf]; omega
      | false =>
        rcases Int.lt_trichotomy c 0 with hc0 | hc0 | hc0
        · have dne : (c != 0) = true := by simp; omega
          have dle : decide (c ≤ 0) = true := by simp; omega
          have hcz : Hid (cf p x < 0) := by show _ < _; rw [HC.out]; exact hc0
          clear hc0
          obtain ⟨⟨r0, r1, r2, r3, r4, r5, r6, r7⟩, -, -⟩ := row8 HS2.out.box
          go_wp2_with (first | (at_builtin; refine wpList_append_own _ rfl _ _ 33 rfl (w.heap.size + 1) 26 i0 (pk 0 0 0 0 0 0 0 0) 8 16 Try.underlying33 hi hz0 hz1 hz2 rfl (by decide) u5 _ _ rfl (HS2.out.own.alloc _) ⟨W.heap.size, 0, none⟩ 1 1 (enc8 p) rfl rfl (cell_new8 _ _ _) (enc8_one p) (by unfold maxLen; (try simp); omega) (by (try simp); omega) (by simp; omega) ?_; intro v3 w3 hown3 hgrow3 hnil3; have HS3 : Hid (ASt w p v3 (out ++ [p]) w3) := HS2.out.app p _ hown3 hgrow3; have hsz3 := heap_lt HS3.out.box; obtain ⟨q0, q1, q2, q3, q4, q5, q6, q7⟩ := hxx.out _ HS3.out.bel) | (at_builtin; refine wpList_append_own _ rfl _ _ 33 rfl (w.heap.size + 1) 26 i0 (pk 0 0 0 0 0 0 0 0) 8 16 Try.underlying33 hi hz0 hz1 hz2 rfl (by decide) v3 _ _ rfl (HS3.out.own.alloc _) ⟨w3.heap.size, 0, none⟩ 1 1 (enc8 x) rfl rfl (cell_new8 _ _ _) (enc8_one x) (by unfold maxLen; (try simp); omega) (by (try simp); omega) (by simp; omega) ?_; intro v4 w4 hown4 hgrow4 hnil4))
          clear hown3 hgrow3 hnil3
          have HS4 : Hid (ASt w p v4 (out ++ [p] ++ [x]) w4) := HS3.out.app x _ hown4 hgrow4
          clear hown4 hgrow4 hnil4
          go_wp2
          go_roundw
          case rel => exact ⟨k + 1, out ++ [p] ++ [x], true, by omega, by go_num, rfl, by simp; omega, HA2.out.trans (addStep_fl HA.out hcz.out), HS4⟩
          case measure => simp [intOf]; omega
        · have dne : (c != 0) = false := by simp; omega
          have dle : decide (c ≤ 0) = true := by simp; omega
          have hcz : Hid (cf p x = 0) := by show _ = _; rw [HC.out]; exact hc0
          clear hc0
          obtain ⟨⟨r0, r1, r2, r3, r4, r5, r6, r7⟩, -, -⟩ := row8 HS2.out.box
          go_wp2_with (at_builtin; refine wpList_append_own _ rfl _ _ 33 rfl (w.heap.size + 1) 26 i0 (pk 0 0 0 0 0 0 0 0) 8 16 Try.underlying33 hi hz0 hz1 hz2 rfl (by decide) u5 _ _ rfl (HS2.out.own.alloc _) ⟨W.heap.size, 0, none⟩ 1 1 (enc8 p) rfl rfl (cell_new8 _ _ _) (enc8_one p) (by unfold maxLen; (try simp); omega) (by (try simp); omega) (by simp; omega) ?_; intro v3 w3 hown3 hgrow3 hnil3)
          have HS3 : Hid (ASt w p v3 (out ++ [p]) w3) := HS2.out.app p _ hown3 hgrow3
          clear hown3 hgrow3 hnil3
          go_wp2
          go_roundw
          case rel => exact ⟨k + 1, out ++ [p], true, by omega, by go_num, rfl, by simp; omega, HA2.out.trans (addStep_fe HA.out hcz.out), HS3⟩
          case measure => simp [intOf]; omega
        · have dne : (c != 0) = true := by simp; omega
          have dle : decide (c ≤ 0) = false := by simp; omega
          have hcz : Hid (0 < cf p x) := by show _ < _; rw [HC.out]; exact hc0
          clear hc0
          obtain ⟨q0, q1, q2, q3, q4, q5, q6, q7⟩ := hxx.out _ HS2.out.bel
          go_wp2_with (at_builtin; refine wpList_append_own _ rfl _ _ 33 rfl (w.heap.size + 1) 26 i0 (pk 0 0 0 0 0 0 0 0) 8 16 Try.underlying33 hi hz0 hz1 hz2 rfl (by decide) u5 _ _ rfl (HS2.out.own.alloc _) ⟨W.heap.size, 0, none⟩ 1 1 (enc8 x) rfl rfl (cell_new8 _ _ _) (enc8_one x) (by unfold maxLen; (try simp); omega) (by (try simp); omega) (by simp; omega) ?_; intro v3 w3 hown3 hgrow3 hnil3)
          have HS3 : Hid (ASt w p v3 (out ++ [x]) w3) := HS2.out.app x _ hown3 hgrow3
          clear hown3 hgrow3 hnil3
          go_wp2
          go_roundw
          case rel => exact ⟨k + 1, out ++ [x], false, by omega, by go_num, rfl, by simp; omega, HA2.out.trans (addStep_fg HA.out hcz.out), HS3⟩
          case measure => simp [intOf]; omega
    · have hkl : k = L.length := by omega
      subst hkl
      have hsz := heap_lt HS.out.box
      have HA1 : Hid (addTo p L = (out, d)) := by have := HA.out; rwa [List.take_length] at this
      clear HA
      cases d with
      | true =>
        go_wp2
        go_ret
        refine ⟨_, rfl, ?_, HS.out.bel⟩
        have e : addL L p = out := by unfold addL; rw [HA1.out]; rfl
        rw [e]
        exact pks_of_own HS.out.own
      | false =>
        obtain ⟨⟨r0, r1, r2, r3, r4, r5, r6, r7⟩, -, -⟩ := row8 HS.out.box
        go_wp2_with (at_builtin; refine wpList_append_own _ rfl _ _ 33 rfl (w.heap.size + 1) 26 i0 (pk 0 0 0 0 0 0 0 0) 8 16 Try.underlying33 hi hz0 hz1 hz2 rfl (by decide) u5 _ _ rfl (HS.out.own.alloc _) ⟨wr.heap.size, 0, none⟩ 1 1 (enc8 p) rfl rfl (cell_new8 _ _ _) (enc8_one p) (by unfold maxLen; (try simp); omega) (by (try simp); omega) (by simp; omega) ?_; intro v3 w3 hown3 hgrow3 hnil3)
        have HS3 : Hid (ASt w p v3 (out ++ [p]) w3) := HS.out.app p _ hown3 hgrow3
        clear hown3 hgrow3 hnil3
        go_wp2
        go_ret
        refine ⟨_, rfl, ?_, HS3.out.bel⟩
        have e : addL L p = out ++ [p] := by unfold addL; rw [HA1.out]; rfl
        rw [e]
        exact pks_of_own HS3.out.own

set_option maxRecDepth 100000 in
set_option maxHeartbeats 2000000 in
theorem union_g (v1 v2 : Value) (A L : List P8) (w : World) (h1 : Pks w v1 A) (h2 : Pks w v2 L) (hl : A.length + L.length ≤ 4900) (hs : SS A) :
    Calls Try.prog 37 #[v1, v2] w fun e w' => ∃ v', e = .returned v' ∧ Pks w' v' (uni A L) ∧ Below w.heap.size w w' := by
  rw [← fold_uni A L hs]
  obtain ⟨sa, sc, rfl, hc⟩ := h2.form
  obtain ⟨R, hR⟩ : ∃ R, L.length = R := ⟨_, rfl⟩
  have HR : Hid (L.length = R) := hR
  have H1 : Hid (Pks w v1 A) := h1
  have HC : Hid _ := hc
  rw [hR]
  have hR4 : R ≤ 4900 := by omega
  have HLn : Hid (A.length + L.length ≤ 4900) := hl
  clear h1 h2 hR hl hc
  go_enter Try.func37, Try.ntmps37
  go_wp2
  go_loopw [0, 5] (fun v i wr => ∃ k : Nat, k ≤ R ∧ i = .int .i64 (k : Int) ∧ Hid (Pks wr v ((L.take k).foldl addL A)) ∧ Hid (Below w.heap.size w wr)) (fun _ i _ => R - (intOf i).toNat)
  case atStart => exact ⟨0, Nat.zero_le _, rfl, H1, Below.refl _ w⟩
  case round =>
    obtain ⟨k, hk, rfl, HP, HB⟩ := hrel
    by_cases hlt : k < R
    · have hlt' : k < L.length := by rw [HR.out]; exact hlt
      obtain ⟨b, off, rfl, hb, hat⟩ := HC.out k hlt'
      have hat2 : At8 wr b (off + k * 8) L[k] := At8.below hat HB.out hb
      obtain ⟨y, hy⟩ : ∃ y, L[k] = y := ⟨_, rfl⟩
      have HY := hid hy
      rw [hy] at hat2
      obtain ⟨a0, a1, a2, a3, a4, a5, a6, a7⟩ := hat2
      have hfl : ((L.take k).foldl addL A).length ≤ 5000 := by
        have h1 := fold_len A (L.take k) hs
        have h2 := HLn.out
        rw [List.length_take] at h1
        omega
      have cA := add42g _ _ y hfl wr HP.out
      clear hy hat hfl
      go_wp2_with fail
      refine cA.mono ?_
      rintro e w1 ⟨v', rfl, hp1, hb1⟩
      have HP1 : Hid (Pks w1 v' ((L.take (k + 1)).foldl addL A)) := by
        unfold Hid
        rw [fold_take A L k hlt', HY.out]
        exact hp1
      have HB1 : Hid (Below w.heap.size w w1) := HB.out.trans (hb1.mono HB.out.size)
      clear cA hp1 hb1
      go_wp2
      go_roundw
      case rel => exact ⟨k + 1, by omega, by go_num, HP1, HB1⟩
      case measure => simp [intOf]; omega
    · obtain rfl : k = R := by omega
      go_wp2
      go_ret
      refine ⟨_, rfl, ?_, HB.out⟩
      have := HP.out
      rw [List.take_of_length_le (by rw [HR.out]; exact Nat.le_refl _)] at this
      exact this
end Go.Proofs.Ytipiepcbgjceaaa

/- What the document's Add and Sort leave, for every list of at most 60 packets; no conditions of mine but what each contract states. -/
import Derived.Test.YtbcikkofbdfmaaaS2
set_option linter.unusedVariables false
set_option linter.unusedSimpArgs false
namespace Go.Proofs.Ytbcikkofbdfmaaa
open Go.RowKit Go.Joins Go.Sort

theorem info24' : (Try.prog.info? 25).map (fun i => (i.zero, i.size, i.bytes)) = some (some (pk 0 0 0 0 0 0 0 0), 8, 16) := by kernel_rfl
theorem addTo_len1 (p : P8) (l : List P8) : (addTo p l).1.length ≤ l.length + (if (addTo p l).2 = true then 1 else 0) := by
  unfold addTo
  have key : ∀ (l : List P8) (s : List P8 × Bool) (n : Nat), s.1.length ≤ n + (if s.2 = true then 1 else 0) → (l.foldl (addStep p) s).1.length ≤ n + l.length + (if (l.foldl (addStep p) s).2 = true then 1 else 0) := by
    intro l
    induction l with
    | nil => intro s n h; exact h
    | cons x r ih =>
      intro s n h
      have h1 := ih (addStep p s x) (n + 1) (by
        obtain ⟨out, d⟩ := s
        simp only [addStep] at h ⊢
        cases d <;> simp at h ⊢ <;> (repeat' split) <;> (try simp) <;> omega)
      rw [List.foldl_cons, List.length_cons]
      omega
  have := key l ([], false) 0 (by simp)
  simpa using this
theorem addL_len (l : List P8) (p : P8) : (addL l p).length ≤ l.length + 1 := by
  have := addTo_len1 p l
  unfold addL
  split
  · rename_i h; rw [if_pos h] at this; exact this
  · rename_i h; rw [if_neg h] at this; simp; omega
theorem sortL_len (l : List P8) : (sortL l).length ≤ l.length := by
  have key : ∀ (l u : List P8), (l.foldl addL u).length ≤ u.length + l.length := by
    intro l
    induction l with
    | nil => intro u; simp
    | cons x r ih =>
      intro u
      have h1 := ih (addL u x)
      have h2 := addL_len u x
      rw [List.foldl_cons, List.length_cons]
      omega
  have := key l []
  show (l.foldl addL []).length ≤ _
  simpa using this

theorem cell_new8 (w : World) (vs : List Value) (t : TypeId) : ∀ j u, vs[j]? = some u → (w.alloc (.cells vs.toArray t)).cell? ((⟨w.heap.size, 0, none⟩ : Addr).add j) = some u := by
  intro j u hj
  rw [show (⟨w.heap.size, 0, none⟩ : Addr).add j = ⟨w.heap.size, j, none⟩ by unfold Addr.add; split <;> simp_all, cell_of_row _ _ _ _ _ _ (heap_alloc_new w (.cells vs.toArray t))]
  simpa using hj
theorem enc8_one (x : P8) : ∀ u ∈ enc8 x, u.oneCell' = true := by
  intro u hu
  simp [enc8] at hu
  rcases hu with rfl | rfl | rfl | rfl | rfl | rfl | rfl | rfl <;> rfl

/-- What stands in memory while the document's Add goes on. -/
structure ASt (w : World) (p : P8) (v : Value) (out : List P8) (wr : World) : Prop where
  own : wr.ownsRow (w.heap.size + 1) 25 8 v out.length (flat8 out)
  box : wr.heap[w.heap.size]? = some (.cells #[.int .u16 p.a0, .int .u16 p.a1, .int .u16 p.a2, .int .u16 p.a3, .int .u16 p.a4, .int .u16 p.a5, .int .u16 p.a6, .int .u16 p.a7] 25)
  bel : Below w.heap.size w wr
theorem ASt.below {w wr w' : World} {p : P8} {v : Value} {out : List P8} (h : ASt w p v out wr) (hb : Below wr.heap.size wr w') : ASt w p v out w' :=
  ⟨own_below h.own hb, (hb.block _ (heap_lt h.box)).trans h.box, h.bel.trans (hb.mono h.bel.size)⟩
theorem ASt.app {w wr w' : World} {p : P8} {v v' : Value} {out : List P8} (h : ASt w p v out wr) (x : P8) (o : Obj) (ho : w'.ownsRow (w.heap.size + 1) 25 8 v' (out.length + 1) (flat8 out ++ enc8 x)) (hg : (wr.alloc o).grownBy w' v.ownBlock) : ASt w p v' (out ++ [x]) w' := by
  have hlt := heap_lt h.box
  refine ⟨?_, ?_, ?_⟩
  · rw [flat8_append, List.length_append, show flat8 [x] = enc8 x by simp [flat8]]; exact ho
  · have hfar : some w.heap.size ≠ v.ownBlock := fun e => by have := (h.own.lt _ e.symm).1; omega
    rw [hg.block w.heap.size (by simp; omega) hfar, Below.heap_alloc _ _ _ hlt]; exact h.box
  · exact Below.grown (h.bel.alloc (by omega) _) hg (by simp; omega) (fun j hj => by have := (h.own.lt _ hj).1; omega)
theorem Pks.form {w : World} {v : Value} {L : List P8} (h : Pks w v L) : ∃ sa sc, v = .slice sa L.length sc ∧ ∀ k (hk : k < L.length), ∃ b off, sa = some ⟨b, off, none⟩ ∧ b < w.heap.size ∧ At8 w b (off + k * 8) L[k] := by
  rcases h with ⟨b, off, cap, hv, hb, hc⟩ | ⟨rfl, a, c, hv⟩
  · exact ⟨_, _, hv, fun k hk => ⟨b, off, rfl, hb, hc k hk⟩⟩
  · exact ⟨a, c, hv, fun k hk => by simp at hk⟩
theorem addStep_tf {p x : P8} {out : List P8} {s : List P8 × Bool} (h : s = (out, true)) (hc : (cf p x == 0) = false) : addStep p s x = (out ++ [x], true) := by
  have : ¬ cf p x = 0 := by simpa using hc
  subst h; simp [addStep, this]
theorem addStep_tt {p x : P8} {out : List P8} {s : List P8 × Bool} (h : s = (out, true)) (hc : cf p x = 0) : addStep p s x = (out, true) := by
  subst h; simp [addStep, hc]
theorem addStep_fl {p x : P8} {out : List P8} {s : List P8 × Bool} (h : s = (out, false)) (hc : cf p x < 0) : addStep p s x = (out ++ [p] ++ [x], true) := by
  have h1 : ¬ cf p x = 0 := by omega
  have h2 : cf p x ≤ 0 := by omega
  subst h; simp [addStep, h1, h2]
theorem addStep_fe {p x : P8} {out : List P8} {s : List P8 × Bool} (h : s = (out, false)) (hc : cf p x = 0) : addStep p s x = (out ++ [p], true) := by
  subst h; simp [addStep, hc]
theorem addStep_fg {p x : P8} {out : List P8} {s : List P8 × Bool} (h : s = (out, false)) (hc : 0 < cf p x) : addStep p s x = (out ++ [x], false) := by
  have h1 : ¬ cf p x = 0 := by omega
  have h2 : ¬ cf p x ≤ 0 := by omega
  subst h; simp [addStep, h1, h2]

set_option maxRecDepth 100000 in
set_option maxHeartbeats 1000000 in
theorem add42 (v : Value) (L : List P8) (p : P8) (hlen : L.length ≤ 500) (w : World) (h : Pks w v L) :
    Calls Try.prog 41 #[v, p.v] w fun e w' => ∃ v', e = .returned v' ∧ Pks w' v' (addL L p) ∧ Below w.heap.size w w' := by
  obtain ⟨sa, sc, rfl, hc⟩ := h.form
  clear h
  obtain ⟨i0, hi, hz0, hz1, hz2⟩ := info_parts info24'
  unfold P8.v pk
  go_enter Try.func41, Try.ntmps41
  go_wp2
  go_loopw [5, 6, 7] (fun v dn i wr => ∃ (k : Nat) (out : List P8) (d : Bool), k ≤ L.length ∧ i = .int .i64 k ∧ dn = .bool d ∧ out.length ≤ 2 * k ∧ Hid (addTo p (L.take k) = (out, d)) ∧ Hid (ASt w p v out wr)) (fun _ _ i _ => L.length - (intOf i).toNat)
  case atStart => exact ⟨0, [], false, Nat.zero_le _, rfl, rfl, Nat.le_refl _, rfl, ⟨World.ownsRow_nil _ _ _ _, heap_alloc_new _ _, (Below.refl _ _).alloc (Nat.le_refl _) _⟩⟩
  case round =>
    obtain ⟨k, out, d, hk, rfl, rfl, hol, HA, HS⟩ := hrel
    by_cases hlt : k < L.length
    · obtain ⟨b, off, rfl, hb, hat⟩ := hc k hlt
      have HA2 : Hid (addTo p (L.take (k + 1)) = addStep p (addTo p (L.take k)) L[k]) := addTo_snoc p L k hlt
      have hx := hat.below HS.out.bel hb
      have hxx : Hid (∀ w', Below w.heap.size w w' → At8 w' b (off + k * 8) L[k]) := fun w' hB => hat.below hB hb
      generalize L[k] = x at *
      clear hat hc
      obtain ⟨q0, q1, q2, q3, q4, q5, q6, q7⟩ := hx
      obtain ⟨⟨r0, r1, r2, r3, r4, r5, r6, r7⟩, -, -⟩ := row8 HS.out.box
      have s0 := cell_regrown q0
      have s1 := cell_regrown q1
      have s2 := cell_regrown q2
      have s3 := cell_regrown q3
      have s4 := cell_regrown q4
      have s5 := cell_regrown q5
      have s6 := cell_regrown q6
      have s7 := cell_regrown q7
      have t0 := cell_regrown r0
      have t1 := cell_regrown r1
      have t2 := cell_regrown r2
      have t3 := cell_regrown r3
      have t4 := cell_regrown r4
      have t5 := cell_regrown r5
      have t6 := cell_regrown r6
      have t7 := cell_regrown r7
      have cC : Hid (∀ d os, Calls Try.prog 50 #[p.v, x.v] (grow (redrawn wr d) os) fun e w'' => e = .returned (.int .i64 (cf p x)) ∧ ∃ p : Regrown, w'' = grow (redrawn wr p.d) p.os) := fun d os => Calls.regrown_of ((cmp28 p x _).mono fun e w' ⟨he, q, os', hw⟩ => ⟨he, by rw [hw]; exact below_grown q os'⟩)
      go_wp2
      clear q0 q1 q2 q3 q4 q5 q6 q7 r0 r1 r2 r3 r4 r5 r6 r7
      refine wp_region_quiet_below (by kernel_rfl) (by kernel_rfl) ?_
      repeat (go_big_quiet_step (first | (go_at_call 50; exact cC.out _ _)))
      refine wpQuiet_nil ?_
      intro _ hw'
      obtain ⟨⟨dq, osq⟩, hw''⟩ := hw'
      subst hw''
      have HS2 : Hid (ASt w p u5 out (grow (redrawn wr dq) osq)) := HS.out.below (below_regrown wr dq osq)
      generalize (grow (redrawn wr dq) osq) = W at *
      clear s0 s1 s2 s3 s4 s5 s6 s7 t0 t1 t2 t3 t4 t5 t6 t7 cC HS
      have hsz := heap_lt HS2.out.box
      have hk60 : k < 500 := by omega
      obtain ⟨c, hc⟩ : ∃ c, cf p x = c := ⟨_, rfl⟩
      have HC : Hid (cf p x = c) := hc
      rw [hc]
      clear hc
      cases d with
      | true =>
        by_cases hc0 : c = 0
        · have dne : (c != 0) = false := by simp; omega
          have hcz : Hid (c = 0) := hc0
          clear hc0
          go_wp2
          go_roundw
          case rel => exact ⟨k + 1, out, true, by omega, by go_num, rfl, by omega, HA2.out.trans (addStep_tt HA.out (HC.out.trans hcz.out)), HS2⟩
          case measure => simp [intOf]; omega
        · have dne : (c != 0) = true := by simp; omega
          have hcz : Hid ((cf p x == 0) = false) := by show _ = _; rw [HC.out]; simp; omega
          clear hc0
          obtain ⟨q0, q1, q2, q3, q4, q5, q6, q7⟩ := hxx.out _ HS2.out.bel
          go_wp2_with (at_builtin; refine wpList_append_own _ rfl _ _ 37 rfl (w.heap.size + 1) 25 i0 (pk 0 0 0 0 0 0 0 0) 8 16 Try.underlying37 hi hz0 hz1 hz2 rfl (by decide) u5 _ _ rfl (HS2.out.own.alloc _) ⟨W.heap.size, 0, none⟩ 1 1 (enc8 x) rfl rfl (cell_new8 _ _ _) (enc8_one x) (by unfold maxLen; (try simp); omega) (by (try simp); omega) (by simp; omega) ?_; intro v3 w3 hown3 hgrow3 hnil3)
          have HS3 : Hid (ASt w p v3 (out ++ [x]) w3) := HS2.out.app x _ hown3 hgrow3
          clear hown3 hgrow3 hnil3
          go_wp2
          go_roundw
          case rel => exact ⟨k + 1, out ++ [x], true, by omega, by go_num, rfl, by simp; omega, HA2.out.trans (addStep_tf HA.out hcz.out), HS3⟩
          case measure => simp [intOf]; omega
      | false =>
        rcases Int.lt_trichotomy c 0 with hc0 | hc0 | hc0
        · have dne : (c != 0) = true := by simp; omega
          have dle : decide (c ≤ 0) = true := by simp; omega
          have hcz : Hid (cf p x < 0) := by show _ < _; rw [HC.out]; exact hc0
          clear hc0
          obtain ⟨⟨r0, r1, r2, r3, r4, r5, r6, r7⟩, -, -⟩ := row8 HS2.out.box
          go_wp2_with (first | (at_builtin; refine wpList_append_own _ rfl _ _ 37 rfl (w.heap.size + 1) 25 i0 (pk 0 0 0 0 0 0 0 0) 8 16 Try.underlying37 hi hz0 hz1 hz2 rfl (by decide) u5 _ _ rfl (HS2.out.own.alloc _) ⟨W.heap.size, 0, none⟩ 1 1 (enc8 p) rfl rfl (cell_new8 _ _ _) (enc8_one p) (by unfold maxLen; (try simp); omega) (by (try simp); omega) (by simp; omega) ?_; intro v3 w3 hown3 hgrow3 hnil3; have HS3 : Hid (ASt w p v3 (out ++ [p]) w3) := HS2.out.app p _ hown3 hgrow3; have hsz3 := heap_lt HS3.out.box; obtain ⟨q0, q1, q2, q3, q4, q5, q6, q7⟩ := hxx.out _ HS3.out.bel) | (at_builtin; refine wpList_append_own _ rfl _ _ 37 rfl (w.heap.size + 1) 25 i0 (pk 0 0 0 0 0 0 0 0) 8 16 Try.underlying37 hi hz0 hz1 hz2 rfl (by decide) v3 _ _ rfl (HS3.out.own.alloc _) ⟨w3.heap.size, 0, none⟩ 1 1 (enc8 x) rfl rfl (cell_new8 _ _ _) (enc8_one x) (by unfold maxLen; (try simp); omega) (by (try simp); omega) (by simp; omega) ?_; intro v4 w4 hown4 hgrow4 hnil4))
          clear hown3 hgrow3 hnil3
          have HS4 : Hid (ASt w p v4 (out ++ [p] ++ [x]) w4) := HS3.out.app x _ hown4 hgrow4
          clear hown4 hgrow4 hnil4
          go_wp2
          go_roundw
          case rel => exact ⟨k + 1, out ++ [p] ++ [x], true, by omega, by go_num, rfl, by simp; omega, HA2.out.trans (addStep_fl HA.out hcz.out), HS4⟩
          case measure => simp [intOf]; omega
        · have dne : (c != 0) = false := by simp; omega
          have dle : decide (c ≤ 0) = true := by simp; omega
          have hcz : Hid (cf p x = 0) := by show _ = _; rw [HC.out]; exact hc0
          clear hc0
          obtain ⟨⟨r0, r1, r2, r3, r4, r5, r6, r7⟩, -, -⟩ := row8 HS2.out.box
          go_wp2_with (at_builtin; refine wpList_append_own _ rfl _ _ 37 rfl (w.heap.size + 1) 25 i0 (pk 0 0 0 0 0 0 0 0) 8 16 Try.underlying37 hi hz0 hz1 hz2 rfl (by decide) u5 _ _ rfl (HS2.out.own.alloc _) ⟨W.heap.size, 0, none⟩ 1 1 (enc8 p) rfl rfl (cell_new8 _ _ _) (enc8_one p) (by unfold maxLen; (try simp); omega) (by (try simp); omega) (by simp; omega) ?_; intro v3 w3 hown3 hgrow3 hnil3)
          have HS3 : Hid (ASt w p v3 (out ++ [p]) w3) := HS2.out.app p _ hown3 hgrow3
          clear hown3 hgrow3 hnil3
          go_wp2
          go_roundw
          case rel => exact ⟨k + 1, out ++ [p], true, by omega, by go_num, rfl, by simp; omega, HA2.out.trans (addStep_fe HA.out hcz.out), HS3⟩
          case measure => simp [intOf]; omega
        · have dne : (c != 0) = true := by simp; omega
          have dle : decide (c ≤ 0) = false := by simp; omega
          have hcz : Hid (0 < cf p x) := by show _ < _; rw [HC.out]; exact hc0
          clear hc0
          obtain ⟨q0, q1, q2, q3, q4, q5, q6, q7⟩ := hxx.out _ HS2.out.bel
          go_wp2_with (at_builtin; refine wpList_append_own _ rfl _ _ 37 rfl (w.heap.size + 1) 25 i0 (pk 0 0 0 0 0 0 0 0) 8 16 Try.underlying37 hi hz0 hz1 hz2 rfl (by decide) u5 _ _ rfl (HS2.out.own.alloc _) ⟨W.heap.size, 0, none⟩ 1 1 (enc8 x) rfl rfl (cell_new8 _ _ _) (enc8_one x) (by unfold maxLen; (try simp); omega) (by (try simp); omega) (by simp; omega) ?_; intro v3 w3 hown3 hgrow3 hnil3)
          have HS3 : Hid (ASt w p v3 (out ++ [x]) w3) := HS2.out.app x _ hown3 hgrow3
          clear hown3 hgrow3 hnil3
          go_wp2
          go_roundw
          case rel => exact ⟨k + 1, out ++ [x], false, by omega, by go_num, rfl, by simp; omega, HA2.out.trans (addStep_fg HA.out hcz.out), HS3⟩
          case measure => simp [intOf]; omega
    · have hkl : k = L.length := by omega
      subst hkl
      have hsz := heap_lt HS.out.box
      have HA1 : Hid (addTo p L = (out, d)) := by have := HA.out; rwa [List.take_length] at this
      clear HA
      cases d with
      | true =>
        go_wp2
        go_ret
        refine ⟨_, rfl, ?_, HS.out.bel⟩
        have e : addL L p = out := by unfold addL; rw [HA1.out]; rfl
        rw [e]
        exact pks_of_own HS.out.own
      | false =>
        obtain ⟨⟨r0, r1, r2, r3, r4, r5, r6, r7⟩, -, -⟩ := row8 HS.out.box
        go_wp2_with (at_builtin; refine wpList_append_own _ rfl _ _ 37 rfl (w.heap.size + 1) 25 i0 (pk 0 0 0 0 0 0 0 0) 8 16 Try.underlying37 hi hz0 hz1 hz2 rfl (by decide) u5 _ _ rfl (HS.out.own.alloc _) ⟨wr.heap.size, 0, none⟩ 1 1 (enc8 p) rfl rfl (cell_new8 _ _ _) (enc8_one p) (by unfold maxLen; (try simp); omega) (by (try simp); omega) (by simp; omega) ?_; intro v3 w3 hown3 hgrow3 hnil3)
        have HS3 : Hid (ASt w p v3 (out ++ [p]) w3) := HS.out.app p _ hown3 hgrow3
        clear hown3 hgrow3 hnil3
        go_wp2
        go_ret
        refine ⟨_, rfl, ?_, HS3.out.bel⟩
        have e : addL L p = out ++ [p] := by unfold addL; rw [HA1.out]; rfl
        rw [e]
        exact pks_of_own HS3.out.own

end Go.Proofs.Ytbcikkofbdfmaaa

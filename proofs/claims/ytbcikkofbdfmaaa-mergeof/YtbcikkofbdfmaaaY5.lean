/- The table of lists, as the document has it: pointsmanref10.Of; up to 1000 lists of up to 1000 rows. -/
import Derived.Test.YtbcikkofbdfmaaaY4
import Derived.Test.YtbcikkofbdfmaaaXB
import Derived.Lib.QuietBelow
import Derived.BigQuiet
set_option linter.unusedVariables false
set_option linter.unusedSimpArgs false
namespace Go.Proofs.Ytbcikkofbdfmaaa
open Go.RowKit Go.Joins Go.Sort

theorem info3i : (Try.prog.info? 3).map (fun i => (i.zero, i.size, i.bytes)) = some (some (.int .i64 0), 1, 8) := by kernel_rfl
theorem info43i : (Try.prog.info? 43).map (fun i => (i.zero, i.size, i.bytes)) = some (some (.slice none 0 0), 1, 24) := by kernel_rfl
def wrongB (T : List Lst) (k : Nat) : Bool := decide (256 < T.length) || !(T.take k).all rightM
theorem wrongB_succ (T : List Lst) (k : Nat) (h : k < T.length) : wrongB T (k + 1) = (wrongB T k || !rightM T[k]) := by
  unfold wrongB
  rw [List.take_succ_eq_append_getElem h, List.all_append]
  cases decide (256 < T.length) <;> cases (T.take k).all rightM <;> cases hq : rightM T[k] <;> simp [hq]
theorem ofT_mem (T : List Lst) : ∀ k, k ≤ T.length → ∀ x ∈ (ofT (T.take k)).l, x ∈ T
  | 0, _ => fun x hx => by simp [ofT] at hx
  | k + 1, h => fun x hx => by
    rw [ofT_succ T k (by omega)] at hx
    unfold ofStep at hx
    split at hx
    · exact ofT_mem T k (by omega) x hx
    · rcases List.mem_append.1 hx with hx | hx
      · exact ofT_mem T k (by omega) x hx
      · rw [List.mem_singleton] at hx; subst hx; exact List.getElem_mem _
theorem rowsM_le : ∀ (l : List Lst), (∀ x ∈ l, x.length ≤ 1000) → rowsM l ≤ 1000 * l.length
  | [], _ => by simp [rowsM]
  | x :: l, h => by
    have h1 := h x (List.mem_cons_self ..)
    have h2 := rowsM_le l fun y hy => h y (List.mem_cons_of_mem _ hy)
    rw [rowsM, List.length_cons]
    omega
theorem ofStep_some {t : Tab} {x : Lst} {j : Nat} (h : findM t.l x = some j) : ofStep t x = ⟨t.n ++ [(j : Int)], t.l⟩ := by unfold ofStep; rw [h]
theorem ofStep_none {t : Tab} {x : Lst} (h : findM t.l x = none) : ofStep t x = ⟨t.n ++ [(t.l.length : Int)], t.l ++ [x]⟩ := by unfold ofStep; rw [h]
theorem cell_one (W : World) (u : Value) (t : TypeId) : ∀ j v, [u][j]? = some v → (W.alloc (.cells #[u] t)).cell? ((⟨W.heap.size, 0, none⟩ : Addr).add j) = some v := cell_one_new W _ _

set_option maxRecDepth 100000 in
set_option maxHeartbeats 8000000 in
theorem rof_any (v : Value) (T : List Lst) (hT : T.length ≤ 1000) (hR : ∀ x ∈ T, x.length ≤ 1000) (w : World) (h : ListsAt w v T) :
    Calls Try.prog 9 #[v] w fun e w' => ∃ x y, e = .returned (.tuple #[tv x y, .int .i64 (ofRes T).2]) ∧ TabAt w' x y (ofRes T).1 ∧ Below w.heap.size w w' := by
  obtain ⟨i3, hi3, hz30, hz31, hz32⟩ := info_parts info3i
  obtain ⟨i43, hi43, hz430, hz431, hz432⟩ := info_parts info43i
  obtain ⟨sa, sc, rfl, hl, hc⟩ := h
  have HC := hid hc
  have HR1 := hid hR
  obtain ⟨R, hRl⟩ : ∃ R, T.length = R := ⟨_, rfl⟩
  have HRl := hid hRl
  rw [hRl] at hl hT ⊢
  have HW0 : Hid (wrongB T 0 = decide (256 < R)) := by show _ = _; unfold wrongB; rw [hRl]; simp
  clear hc hR hRl
  obtain ⟨q0, hq0⟩ : ∃ q, decide ((256 : Int) < (R : Int)) = q := ⟨_, rfl⟩
  have HQ0 : Hid (wrongB T 0 = q0) := by
    show _ = _
    rw [HW0.out, ← hq0]
    congr 1
    exact propext ⟨fun h => by omega, fun h => by omega⟩
  have HS0 : Hid (TSt w (w.heap.size + 1) (.slice none 0 0) (.slice none 0 0) ⟨[], []⟩ [] ((w.alloc (.cells #[.slice none 0 0, .slice none 0 0] 30)).alloc (.cells #[.slice none 0 0, .slice none 0 0] 30))) := by
    have h1 := heap_alloc_new w (.cells #[.slice none 0 0, .slice none 0 0] 30)
    have h2 := heap_alloc_new (w.alloc (.cells #[.slice none 0 0, .slice none 0 0] 30)) (.cells #[.slice none 0 0, .slice none 0 0] 30)
    rw [alloc_size] at h2
    have hb : Below (w.alloc (.cells #[.slice none 0 0, .slice none 0 0] 30)).heap.size (w.alloc (.cells #[.slice none 0 0, .slice none 0 0] 30)) ((w.alloc (.cells #[.slice none 0 0, .slice none 0 0] 30)).alloc (.cells #[.slice none 0 0, .slice none 0 0] 30)) := (Below.refl _ _).alloc (Nat.le_refl _) _
    exact ⟨two_below w _ _, h2, Nat.lt_succ_self _, (hb.block _ (hlt h1)).trans h1, World.ownsRow_nil _ _ _ _, World.ownsRow_nil _ _ _ _, fun k hk => absurd hk (by simp)⟩
  go_enter Try.func9, Try.ntmps9
  go_wp2
  go_loopw [5, 6] (fun o i wr => ∃ (k : Nat) (zw zl : Value) (U : List Value) (q : Bool), k ≤ R ∧ o = .bool q ∧ i = .int .i64 (k : Int) ∧ Hid (wrongB T k = q) ∧ Hid (TSt w (w.heap.size + 1) zw zl (ofT (T.take k)) U wr)) (fun _ i _ => R - (intOf i).toNat)
  case atStart => exact ⟨0, _, _, _, _, Nat.zero_le _, rfl, rfl, HQ0, HS0⟩
  case round =>
    clear HS0 HQ0 HW0 hq0
    obtain ⟨k, zw, zl, U, q, hk, rfl, rfl, HQ, HS⟩ := hrel
    by_cases hlt' : k < R
    · have hltT : k < T.length := by rw [HRl.out]; exact hlt'
      have dk : decide ((k : Int) < (R : Int)) = true := by simp; omega
      have hk1 : (k : Int) < (R : Int) := by omega
      obtain ⟨b, off, rfl, hb, u, hu, hp⟩ := HC.out k hltT
      have HLen := hid (ofT_lens T k (Nat.le_of_lt hltT))
      have HNx := hid (ofT_succ T k hltT)
      have HQx := hid (wrongB_succ T k hltT)
      rw [HQ.out] at HQx
      have HU : Hid (∀ W, Below w.heap.size w W → W.cell? ⟨b, off + k, none⟩ = some u ∧ RowsAt W u T[k]) := fun W hW => ⟨(hW.cell (p := ⟨b, off + k, none⟩) hb).trans hu, hp.below hW⟩
      have HP := hid hp
      obtain ⟨ua, uc, hue, -⟩ := hp.form
      obtain ⟨za, zc, rfl, hzl, -⟩ := HS.out.lists
      generalize T[k] = X at *
      generalize ofT (T.take k) = t at *
      obtain ⟨hnl, hll⟩ := HLen.out
      generalize hxl : X.length = xl at *
      subst hue
      clear hu hp
      have a0 := (HU.out wr HS.out.bel).1
      have cR := hid (rright_any (.slice ua xl uc) X wr (HU.out wr HS.out.bel).2)
      have step : (q = true) ∨ (q = false ∧ rightM X = true) ∨ (q = false ∧ rightM X = false) := by cases q <;> cases rightM X <;> simp
      rcases step with rfl | ⟨rfl, hq⟩ | ⟨rfl, hq⟩
      · have HQ2 : Hid (wrongB T (k + 1) = true) := by show _ = _; rw [HQx.out]; rfl
        have HS2 := HS
        obtain ⟨b0, b1⟩ := HS2.out.cells
        have c0 := (HU.out _ HS2.out.bel).1
        clear HQx HS HQ cR a0
        go_wp2_with fail
        have s0 := cell_regrown c0
        have s1 := cell_regrown b1
        have cF : Hid (∀ d os, Calls Try.prog 24 #[.slice za t.l.length zc, .slice ua xl uc] (grow (redrawn wr d) os) fun e w'' => e = .returned (.int .i64 (findI t.l X)) ∧ ∃ p : Regrown, w'' = grow (redrawn wr p.d) p.os) := fun d os => Calls.regrown_of (find_any _ _ t.l X _ (HS2.out.lists.below (below_regrown wr d os)) ((HU.out _ HS2.out.bel).2.below (below_regrown wr d os)))
        cases hf : findM t.l X with
        | some j =>
          rw [show findI t.l X = (j : Int) from by unfold findI; rw [hf]] at cF
          have dj : decide ((j : Int) < 0) = false := by simp
          have HT2 : Hid (ofT (T.take (k + 1)) = ⟨t.n ++ [(j : Int)], t.l⟩) := HNx.out.trans (ofStep_some hf)
          clear hf
          refine wp_region_quiet_below (by kernel_rfl) (by kernel_rfl) ?_
          repeat (go_big_quiet_step (first | (go_at_call 24; exact cF.out _ _)))
          refine wpQuiet_nil ?_
          intro _ hw'
          obtain ⟨⟨dq, osq⟩, hw''⟩ := hw'
          subst hw''
          have HS3 := hid (HS2.out.below (below_regrown wr dq osq))
          have c1 := s0 dq osq
          clear s0 s1 cF HS2 b0 b1 c0
          generalize (grow (redrawn wr dq) osq) = W at *
          have hsz := hlt HS3.out.box
          have HS3a : Hid (∀ o, TSt w (w.heap.size + 1) zw (.slice za t.l.length zc) t U (W.alloc o)) := fun o => HS3.out.below ((Below.refl _ _).alloc (Nat.le_refl _) o)
          have HS3b : Hid (∀ o, TSt w (w.heap.size + 1) zw (.slice za t.l.length zc) t U (W.drew.alloc o)) := fun o => HS3.out.below ((below_drewN (Below.refl _ W) 1).alloc (Nat.le_refl _) o)
          obtain ⟨b0, b1⟩ := HS3.out.cells
          go_wp2_with (at_builtin; refine wpList_append_own _ rfl _ _ 28 rfl (w.heap.size + 1 + 1) 3 i3 (.int .i64 0) 1 8 Try.underlying28 hi3 hz30 hz31 hz32 rfl (by decide) zw _ _ rfl ((HS3a.out _).nums) ⟨W.heap.size, 0, none⟩ 1 1 [.int .i64 (j : Int)] rfl rfl (cell_one _ _ _) (fun x hx => by simp at hx; subst hx; rfl) (by unfold maxLen; (try simp); omega) (by (try simp); omega) (by simp; omega) ?_; intro v3 w3 hown3 hgrow3 hnil3; obtain ⟨g3, cap3, rfl, -, -⟩ := hown3.form (by omega); have hbx3 := (HS3a.out _).boxN hgrow3; obtain ⟨f30, f31⟩ := free2 hbx3; obtain ⟨e30, e31⟩ := row2 hbx3)
          have HS4 := hid ((HS3a.out _).pushN hown3 hgrow3)
          rw [← HT2.out, hnl] at HS4
          clear hown3 hgrow3 hnil3 hbx3 b0 b1 c1 HS3 HS3a
          go_wp2
          go_roundw
          case rel => exact ⟨k + 1, _, _, _, _, by omega, rfl, by go_num, HQ2, HS4⟩
          case measure => simp [intOf]; omega
        | none =>
          rw [show findI t.l X = -1 from by unfold findI; rw [hf]] at cF
          have HT2 : Hid (ofT (T.take (k + 1)) = ⟨t.n ++ [(t.l.length : Int)], t.l ++ [X]⟩) := HNx.out.trans (ofStep_none hf)
          clear hf
          refine wp_region_quiet_below (by kernel_rfl) (by kernel_rfl) ?_
          repeat (go_big_quiet_step (first | (go_at_call 24; exact cF.out _ _)))
          refine wpQuiet_nil ?_
          intro _ hw'
          obtain ⟨⟨dq, osq⟩, hw''⟩ := hw'
          subst hw''
          have HS3 := hid (HS2.out.below (below_regrown wr dq osq))
          have c1 := s0 dq osq
          clear s0 s1 cF HS2 b0 b1 c0
          generalize (grow (redrawn wr dq) osq) = W at *
          have hsz := hlt HS3.out.box
          have HS3a : Hid (∀ o, TSt w (w.heap.size + 1) zw (.slice za t.l.length zc) t U (W.alloc o)) := fun o => HS3.out.below ((Below.refl _ _).alloc (Nat.le_refl _) o)
          have HS3b : Hid (∀ o, TSt w (w.heap.size + 1) zw (.slice za t.l.length zc) t U (W.drew.alloc o)) := fun o => HS3.out.below ((below_drewN (Below.refl _ W) 1).alloc (Nat.le_refl _) o)
          obtain ⟨b0, b1⟩ := HS3.out.cells
          go_wp2_with fail
          go_region_law (first
            | (refine step_append_lies _ (by rfl) _ _ _ (by rfl) (w.heap.size + 1 + 1) 43 i43 (.slice none 0 0) 1 24 Try.underlying22 hi43 hz430 hz431 hz432 rfl (by decide) (.slice za t.l.length zc) _ _ (by rfl) ((HS3b.out _).rows) ⟨W.heap.size, 0, none⟩ 1 1 [.slice ua xl uc] (by rfl) rfl (cell_one W.drew _ _) (fun x hx => by simp at hx; rw [hx]; rfl) (by decide) (by unfold maxLen; omega) (by omega) (by simp; omega) (W.heap.size + 1) (by simp) ?_; intro g4 cap4 w4 hown4 hgrow4 hloc4 hlt4; have hbx4 := (HS3b.out _).boxL hgrow4; obtain ⟨f40, f41⟩ := free2 hbx4; obtain ⟨e40, e41⟩ := row2 hbx4))
          all_goals
            have HS4 : Hid (TSt w (w.heap.size + 1) zw (.slice (some ⟨g4, 0, none⟩) (t.l.length + 1) cap4) ⟨t.n, t.l ++ [X]⟩ (U ++ [.slice ua xl uc]) (w4.setCell ⟨w.heap.size + 1, 1, none⟩ (.slice (some ⟨g4, 0, none⟩) (t.l.length + 1) cap4))) := TSt.pushL (W := W.drew.alloc (.cells #[.slice ua xl uc] 43)) (HS3b.out _) HP.out hown4 hgrow4
            clear hown4 hgrow4 hloc4 hlt4 hbx4 f40 f41 e40 e41 b0 b1 c1 HS3 HS3a HS3b hsz
            generalize (w4.setCell ⟨w.heap.size + 1, 1, none⟩ (.slice (some ⟨g4, 0, none⟩) (t.l.length + 1) cap4)) = W5 at *
            have hsz := hlt HS4.out.box
            have HS4a : Hid (∀ o, TSt w (w.heap.size + 1) zw (.slice (some ⟨g4, 0, none⟩) (t.l.length + 1) cap4) ⟨t.n, t.l ++ [X]⟩ (U ++ [.slice ua xl uc]) (W5.alloc o)) := fun o => HS4.out.below ((Below.refl _ _).alloc (Nat.le_refl _) o)
            obtain ⟨b0, b1⟩ := HS4.out.cells
            go_wp2_with (at_builtin; refine wpList_append_own _ rfl _ _ 28 rfl (w.heap.size + 1 + 1) 3 i3 (.int .i64 0) 1 8 Try.underlying28 hi3 hz30 hz31 hz32 rfl (by decide) zw _ _ rfl ((HS4a.out _).nums) ⟨W5.heap.size, 0, none⟩ 1 1 [.int .i64 (t.l.length : Int)] rfl rfl (cell_one _ _ _) (fun x hx => by simp at hx; subst hx; rfl) (by unfold maxLen; (try simp); omega) (by (try simp); omega) (by simp; omega) ?_; intro v3 w3 hown3 hgrow3 hnil3; obtain ⟨g3, cap3, rfl, -, -⟩ := hown3.form (by omega); have hbx3 := (HS4a.out _).boxN hgrow3; obtain ⟨f30, f31⟩ := free2 hbx3; obtain ⟨e30, e31⟩ := row2 hbx3)
            have HS5 := hid ((HS4a.out _).pushN hown3 hgrow3)
            rw [← HT2.out, hnl] at HS5
            clear hown3 hgrow3 hnil3 hbx3 b0 b1 HS4 HS4a
            go_wp2
            go_roundw
            case rel => exact ⟨k + 1, _, _, _, _, by omega, rfl, by go_num, HQ2, HS5⟩
            case measure => simp [intOf]; omega
      · have HQ2 : Hid (wrongB T (k + 1) = false) := by show _ = _; rw [HQx.out, hq]; rfl
        rw [hq] at cR
        clear HQx HQ
        go_wp2_with fail
        refine cR.out.mono ?_
        rintro e w2 ⟨rfl, hb2⟩
        have HS2 := hid (HS.out.below hb2)
        obtain ⟨b0, b1⟩ := HS2.out.cells
        have c0 := (HU.out _ HS2.out.bel).1
        clear hb2 cR HS a0
        go_wp2_with fail
        have s0 := cell_regrown c0
        have s1 := cell_regrown b1
        have cF : Hid (∀ d os, Calls Try.prog 24 #[.slice za t.l.length zc, .slice ua xl uc] (grow (redrawn w2 d) os) fun e w'' => e = .returned (.int .i64 (findI t.l X)) ∧ ∃ p : Regrown, w'' = grow (redrawn w2 p.d) p.os) := fun d os => Calls.regrown_of (find_any _ _ t.l X _ (HS2.out.lists.below (below_regrown w2 d os)) ((HU.out _ HS2.out.bel).2.below (below_regrown w2 d os)))
        cases hf : findM t.l X with
        | some j =>
          rw [show findI t.l X = (j : Int) from by unfold findI; rw [hf]] at cF
          have dj : decide ((j : Int) < 0) = false := by simp
          have HT2 : Hid (ofT (T.take (k + 1)) = ⟨t.n ++ [(j : Int)], t.l⟩) := HNx.out.trans (ofStep_some hf)
          clear hf
          refine wp_region_quiet_below (by kernel_rfl) (by kernel_rfl) ?_
          repeat (go_big_quiet_step (first | (go_at_call 24; exact cF.out _ _)))
          refine wpQuiet_nil ?_
          intro _ hw'
          obtain ⟨⟨dq, osq⟩, hw''⟩ := hw'
          subst hw''
          have HS3 := hid (HS2.out.below (below_regrown w2 dq osq))
          have c1 := s0 dq osq
          clear s0 s1 cF HS2 b0 b1 c0
          generalize (grow (redrawn w2 dq) osq) = W at *
          have hsz := hlt HS3.out.box
          have HS3a : Hid (∀ o, TSt w (w.heap.size + 1) zw (.slice za t.l.length zc) t U (W.alloc o)) := fun o => HS3.out.below ((Below.refl _ _).alloc (Nat.le_refl _) o)
          have HS3b : Hid (∀ o, TSt w (w.heap.size + 1) zw (.slice za t.l.length zc) t U (W.drew.alloc o)) := fun o => HS3.out.below ((below_drewN (Below.refl _ W) 1).alloc (Nat.le_refl _) o)
          obtain ⟨b0, b1⟩ := HS3.out.cells
          go_wp2_with (at_builtin; refine wpList_append_own _ rfl _ _ 28 rfl (w.heap.size + 1 + 1) 3 i3 (.int .i64 0) 1 8 Try.underlying28 hi3 hz30 hz31 hz32 rfl (by decide) zw _ _ rfl ((HS3a.out _).nums) ⟨W.heap.size, 0, none⟩ 1 1 [.int .i64 (j : Int)] rfl rfl (cell_one _ _ _) (fun x hx => by simp at hx; subst hx; rfl) (by unfold maxLen; (try simp); omega) (by (try simp); omega) (by simp; omega) ?_; intro v3 w3 hown3 hgrow3 hnil3; obtain ⟨g3, cap3, rfl, -, -⟩ := hown3.form (by omega); have hbx3 := (HS3a.out _).boxN hgrow3; obtain ⟨f30, f31⟩ := free2 hbx3; obtain ⟨e30, e31⟩ := row2 hbx3)
          have HS4 := hid ((HS3a.out _).pushN hown3 hgrow3)
          rw [← HT2.out, hnl] at HS4
          clear hown3 hgrow3 hnil3 hbx3 b0 b1 c1 HS3 HS3a
          go_wp2
          go_roundw
          case rel => exact ⟨k + 1, _, _, _, _, by omega, rfl, by go_num, HQ2, HS4⟩
          case measure => simp [intOf]; omega
        | none =>
          rw [show findI t.l X = -1 from by unfold findI; rw [hf]] at cF
          have HT2 : Hid (ofT (T.take (k + 1)) = ⟨t.n ++ [(t.l.length : Int)], t.l ++ [X]⟩) := HNx.out.trans (ofStep_none hf)
          clear hf
          refine wp_region_quiet_below (by kernel_rfl) (by kernel_rfl) ?_
          repeat (go_big_quiet_step (first | (go_at_call 24; exact cF.out _ _)))
          refine wpQuiet_nil ?_
          intro _ hw'
          obtain ⟨⟨dq, osq⟩, hw''⟩ := hw'
          subst hw''
          have HS3 := hid (HS2.out.below (below_regrown w2 dq osq))
          have c1 := s0 dq osq
          clear s0 s1 cF HS2 b0 b1 c0
          generalize (grow (redrawn w2 dq) osq) = W at *
          have hsz := hlt HS3.out.box
          have HS3a : Hid (∀ o, TSt w (w.heap.size + 1) zw (.slice za t.l.length zc) t U (W.alloc o)) := fun o => HS3.out.below ((Below.refl _ _).alloc (Nat.le_refl _) o)
          have HS3b : Hid (∀ o, TSt w (w.heap.size + 1) zw (.slice za t.l.length zc) t U (W.drew.alloc o)) := fun o => HS3.out.below ((below_drewN (Below.refl _ W) 1).alloc (Nat.le_refl _) o)
          obtain ⟨b0, b1⟩ := HS3.out.cells
          go_wp2_with fail
          go_region_law (first
            | (refine step_append_lies _ (by rfl) _ _ _ (by rfl) (w.heap.size + 1 + 1) 43 i43 (.slice none 0 0) 1 24 Try.underlying22 hi43 hz430 hz431 hz432 rfl (by decide) (.slice za t.l.length zc) _ _ (by rfl) ((HS3b.out _).rows) ⟨W.heap.size, 0, none⟩ 1 1 [.slice ua xl uc] (by rfl) rfl (cell_one W.drew _ _) (fun x hx => by simp at hx; rw [hx]; rfl) (by decide) (by unfold maxLen; omega) (by omega) (by simp; omega) (W.heap.size + 1) (by simp) ?_; intro g4 cap4 w4 hown4 hgrow4 hloc4 hlt4; have hbx4 := (HS3b.out _).boxL hgrow4; obtain ⟨f40, f41⟩ := free2 hbx4; obtain ⟨e40, e41⟩ := row2 hbx4))
          all_goals
            have HS4 : Hid (TSt w (w.heap.size + 1) zw (.slice (some ⟨g4, 0, none⟩) (t.l.length + 1) cap4) ⟨t.n, t.l ++ [X]⟩ (U ++ [.slice ua xl uc]) (w4.setCell ⟨w.heap.size + 1, 1, none⟩ (.slice (some ⟨g4, 0, none⟩) (t.l.length + 1) cap4))) := TSt.pushL (W := W.drew.alloc (.cells #[.slice ua xl uc] 43)) (HS3b.out _) HP.out hown4 hgrow4
            clear hown4 hgrow4 hloc4 hlt4 hbx4 f40 f41 e40 e41 b0 b1 c1 HS3 HS3a HS3b hsz
            generalize (w4.setCell ⟨w.heap.size + 1, 1, none⟩ (.slice (some ⟨g4, 0, none⟩) (t.l.length + 1) cap4)) = W5 at *
            have hsz := hlt HS4.out.box
            have HS4a : Hid (∀ o, TSt w (w.heap.size + 1) zw (.slice (some ⟨g4, 0, none⟩) (t.l.length + 1) cap4) ⟨t.n, t.l ++ [X]⟩ (U ++ [.slice ua xl uc]) (W5.alloc o)) := fun o => HS4.out.below ((Below.refl _ _).alloc (Nat.le_refl _) o)
            obtain ⟨b0, b1⟩ := HS4.out.cells
            go_wp2_with (at_builtin; refine wpList_append_own _ rfl _ _ 28 rfl (w.heap.size + 1 + 1) 3 i3 (.int .i64 0) 1 8 Try.underlying28 hi3 hz30 hz31 hz32 rfl (by decide) zw _ _ rfl ((HS4a.out _).nums) ⟨W5.heap.size, 0, none⟩ 1 1 [.int .i64 (t.l.length : Int)] rfl rfl (cell_one _ _ _) (fun x hx => by simp at hx; subst hx; rfl) (by unfold maxLen; (try simp); omega) (by (try simp); omega) (by simp; omega) ?_; intro v3 w3 hown3 hgrow3 hnil3; obtain ⟨g3, cap3, rfl, -, -⟩ := hown3.form (by omega); have hbx3 := (HS4a.out _).boxN hgrow3; obtain ⟨f30, f31⟩ := free2 hbx3; obtain ⟨e30, e31⟩ := row2 hbx3)
            have HS5 := hid ((HS4a.out _).pushN hown3 hgrow3)
            rw [← HT2.out, hnl] at HS5
            clear hown3 hgrow3 hnil3 hbx3 b0 b1 HS4 HS4a
            go_wp2
            go_roundw
            case rel => exact ⟨k + 1, _, _, _, _, by omega, rfl, by go_num, HQ2, HS5⟩
            case measure => simp [intOf]; omega
      · have HQ2 : Hid (wrongB T (k + 1) = true) := by show _ = _; rw [HQx.out, hq]; rfl
        rw [hq] at cR
        clear HQx HQ
        go_wp2_with fail
        refine cR.out.mono ?_
        rintro e w2 ⟨rfl, hb2⟩
        have HS2 := hid (HS.out.below hb2)
        obtain ⟨b0, b1⟩ := HS2.out.cells
        have c0 := (HU.out _ HS2.out.bel).1
        clear hb2 cR HS a0
        go_wp2_with fail
        have s0 := cell_regrown c0
        have s1 := cell_regrown b1
        have cF : Hid (∀ d os, Calls Try.prog 24 #[.slice za t.l.length zc, .slice ua xl uc] (grow (redrawn w2 d) os) fun e w'' => e = .returned (.int .i64 (findI t.l X)) ∧ ∃ p : Regrown, w'' = grow (redrawn w2 p.d) p.os) := fun d os => Calls.regrown_of (find_any _ _ t.l X _ (HS2.out.lists.below (below_regrown w2 d os)) ((HU.out _ HS2.out.bel).2.below (below_regrown w2 d os)))
        cases hf : findM t.l X with
        | some j =>
          rw [show findI t.l X = (j : Int) from by unfold findI; rw [hf]] at cF
          have dj : decide ((j : Int) < 0) = false := by simp
          have HT2 : Hid (ofT (T.take (k + 1)) = ⟨t.n ++ [(j : Int)], t.l⟩) := HNx.out.trans (ofStep_some hf)
          clear hf
          refine wp_region_quiet_below (by kernel_rfl) (by kernel_rfl) ?_
          repeat (go_big_quiet_step (first | (go_at_call 24; exact cF.out _ _)))
          refine wpQuiet_nil ?_
          intro _ hw'
          obtain ⟨⟨dq, osq⟩, hw''⟩ := hw'
          subst hw''
          have HS3 := hid (HS2.out.below (below_regrown w2 dq osq))
          have c1 := s0 dq osq
          clear s0 s1 cF HS2 b0 b1 c0
          generalize (grow (redrawn w2 dq) osq) = W at *
          have hsz := hlt HS3.out.box
          have HS3a : Hid (∀ o, TSt w (w.heap.size + 1) zw (.slice za t.l.length zc) t U (W.alloc o)) := fun o => HS3.out.below ((Below.refl _ _).alloc (Nat.le_refl _) o)
          have HS3b : Hid (∀ o, TSt w (w.heap.size + 1) zw (.slice za t.l.length zc) t U (W.drew.alloc o)) := fun o => HS3.out.below ((below_drewN (Below.refl _ W) 1).alloc (Nat.le_refl _) o)
          obtain ⟨b0, b1⟩ := HS3.out.cells
          go_wp2_with (at_builtin; refine wpList_append_own _ rfl _ _ 28 rfl (w.heap.size + 1 + 1) 3 i3 (.int .i64 0) 1 8 Try.underlying28 hi3 hz30 hz31 hz32 rfl (by decide) zw _ _ rfl ((HS3a.out _).nums) ⟨W.heap.size, 0, none⟩ 1 1 [.int .i64 (j : Int)] rfl rfl (cell_one _ _ _) (fun x hx => by simp at hx; subst hx; rfl) (by unfold maxLen; (try simp); omega) (by (try simp); omega) (by simp; omega) ?_; intro v3 w3 hown3 hgrow3 hnil3; obtain ⟨g3, cap3, rfl, -, -⟩ := hown3.form (by omega); have hbx3 := (HS3a.out _).boxN hgrow3; obtain ⟨f30, f31⟩ := free2 hbx3; obtain ⟨e30, e31⟩ := row2 hbx3)
          have HS4 := hid ((HS3a.out _).pushN hown3 hgrow3)
          rw [← HT2.out, hnl] at HS4
          clear hown3 hgrow3 hnil3 hbx3 b0 b1 c1 HS3 HS3a
          go_wp2
          go_roundw
          case rel => exact ⟨k + 1, _, _, _, _, by omega, rfl, by go_num, HQ2, HS4⟩
          case measure => simp [intOf]; omega
        | none =>
          rw [show findI t.l X = -1 from by unfold findI; rw [hf]] at cF
          have HT2 : Hid (ofT (T.take (k + 1)) = ⟨t.n ++ [(t.l.length : Int)], t.l ++ [X]⟩) := HNx.out.trans (ofStep_none hf)
          clear hf
          refine wp_region_quiet_below (by kernel_rfl) (by kernel_rfl) ?_
          repeat (go_big_quiet_step (first | (go_at_call 24; exact cF.out _ _)))
          refine wpQuiet_nil ?_
          intro _ hw'
          obtain ⟨⟨dq, osq⟩, hw''⟩ := hw'
          subst hw''
          have HS3 := hid (HS2.out.below (below_regrown w2 dq osq))
          have c1 := s0 dq osq
          clear s0 s1 cF HS2 b0 b1 c0
          generalize (grow (redrawn w2 dq) osq) = W at *
          have hsz := hlt HS3.out.box
          have HS3a : Hid (∀ o, TSt w (w.heap.size + 1) zw (.slice za t.l.length zc) t U (W.alloc o)) := fun o => HS3.out.below ((Below.refl _ _).alloc (Nat.le_refl _) o)
          have HS3b : Hid (∀ o, TSt w (w.heap.size + 1) zw (.slice za t.l.length zc) t U (W.drew.alloc o)) := fun o => HS3.out.below ((below_drewN (Below.refl _ W) 1).alloc (Nat.le_refl _) o)
          obtain ⟨b0, b1⟩ := HS3.out.cells
          go_wp2_with fail
          go_region_law (first
            | (refine step_append_lies _ (by rfl) _ _ _ (by rfl) (w.heap.size + 1 + 1) 43 i43 (.slice none 0 0) 1 24 Try.underlying22 hi43 hz430 hz431 hz432 rfl (by decide) (.slice za t.l.length zc) _ _ (by rfl) ((HS3b.out _).rows) ⟨W.heap.size, 0, none⟩ 1 1 [.slice ua xl uc] (by rfl) rfl (cell_one W.drew _ _) (fun x hx => by simp at hx; rw [hx]; rfl) (by decide) (by unfold maxLen; omega) (by omega) (by simp; omega) (W.heap.size + 1) (by simp) ?_; intro g4 cap4 w4 hown4 hgrow4 hloc4 hlt4; have hbx4 := (HS3b.out _).boxL hgrow4; obtain ⟨f40, f41⟩ := free2 hbx4; obtain ⟨e40, e41⟩ := row2 hbx4))
          all_goals
            have HS4 : Hid (TSt w (w.heap.size + 1) zw (.slice (some ⟨g4, 0, none⟩) (t.l.length + 1) cap4) ⟨t.n, t.l ++ [X]⟩ (U ++ [.slice ua xl uc]) (w4.setCell ⟨w.heap.size + 1, 1, none⟩ (.slice (some ⟨g4, 0, none⟩) (t.l.length + 1) cap4))) := TSt.pushL (W := W.drew.alloc (.cells #[.slice ua xl uc] 43)) (HS3b.out _) HP.out hown4 hgrow4
            clear hown4 hgrow4 hloc4 hlt4 hbx4 f40 f41 e40 e41 b0 b1 c1 HS3 HS3a HS3b hsz
            generalize (w4.setCell ⟨w.heap.size + 1, 1, none⟩ (.slice (some ⟨g4, 0, none⟩) (t.l.length + 1) cap4)) = W5 at *
            have hsz := hlt HS4.out.box
            have HS4a : Hid (∀ o, TSt w (w.heap.size + 1) zw (.slice (some ⟨g4, 0, none⟩) (t.l.length + 1) cap4) ⟨t.n, t.l ++ [X]⟩ (U ++ [.slice ua xl uc]) (W5.alloc o)) := fun o => HS4.out.below ((Below.refl _ _).alloc (Nat.le_refl _) o)
            obtain ⟨b0, b1⟩ := HS4.out.cells
            go_wp2_with (at_builtin; refine wpList_append_own _ rfl _ _ 28 rfl (w.heap.size + 1 + 1) 3 i3 (.int .i64 0) 1 8 Try.underlying28 hi3 hz30 hz31 hz32 rfl (by decide) zw _ _ rfl ((HS4a.out _).nums) ⟨W5.heap.size, 0, none⟩ 1 1 [.int .i64 (t.l.length : Int)] rfl rfl (cell_one _ _ _) (fun x hx => by simp at hx; subst hx; rfl) (by unfold maxLen; (try simp); omega) (by (try simp); omega) (by simp; omega) ?_; intro v3 w3 hown3 hgrow3 hnil3; obtain ⟨g3, cap3, rfl, -, -⟩ := hown3.form (by omega); have hbx3 := (HS4a.out _).boxN hgrow3; obtain ⟨f30, f31⟩ := free2 hbx3; obtain ⟨e30, e31⟩ := row2 hbx3)
            have HS5 := hid ((HS4a.out _).pushN hown3 hgrow3)
            rw [← HT2.out, hnl] at HS5
            clear hown3 hgrow3 hnil3 hbx3 b0 b1 HS4 HS4a
            go_wp2
            go_roundw
            case rel => exact ⟨k + 1, _, _, _, _, by omega, rfl, by go_num, HQ2, HS5⟩
            case measure => simp [intOf]; omega
    · obtain rfl : k = R := by omega
      have dk : decide ((k : Int) < (k : Int)) = false := by simp
      have hTk : T.take k = T := List.take_of_length_le (by rw [HRl.out]; exact Nat.le_refl _)
      have hmem := ofT_mem T k (by rw [HRl.out]; exact Nat.le_refl _)
      have hlen := (ofT_lens T k (by rw [HRl.out]; exact Nat.le_refl _)).2
      rw [hTk] at HS hmem hlen
      have hbnd : ∀ m, rowsM ((ofT T).l.take m) ≤ 9223372036854775807 := fun m => by
        have h1 := rowsM_le ((ofT T).l.take m) fun x hx => HR1.out x (hmem x (List.mem_of_mem_take hx))
        have h2 : ((ofT T).l.take m).length ≤ (ofT T).l.length := by rw [List.length_take]; exact Nat.min_le_right _ _
        omega
      have cN := hid (rrowsN_any zl (ofT T).l wr HS.out.lists hbnd)
      obtain ⟨b0, b1⟩ := HS.out.cells
      clear hTk hmem hlen hbnd
      obtain ⟨N, hN⟩ : ∃ N, rowsM (ofT T).l = N := ⟨_, rfl⟩
      rw [hN] at cN
      have HN := hid hN
      clear hN
      have hWB : (decide (256 < T.length) || !T.all rightM) = q := by
        have h1 := HQ.out
        unfold wrongB at h1
        rwa [List.take_of_length_le (by rw [HRl.out]; exact Nat.le_refl _)] at h1
      have HWB := hid hWB
      clear hWB HQ
      by_cases h1 : 1000 < N
      · have d1 : decide ((1000 : Int) < (N : Int)) = true := by rw [decide_eq_true_eq]; omega
        have HE : Hid (ofRes T = (⟨[], []⟩, 24)) := by show _ = _; unfold ofRes; rw [HN.out, if_pos h1]
        go_wp2_with fail
        refine cN.out.mono ?_
        rintro e w2 ⟨rfl, hb2⟩
        have HS2 := hid (HS.out.below hb2)
        obtain ⟨f0, f1⟩ := free2 HS2.out.res
        obtain ⟨e0, e1⟩ := row2 HS2.out.res
        obtain ⟨b0, b1⟩ := HS2.out.cells
        clear hb2 HS cN
        go_wp2
        obtain ⟨g0, g1⟩ := row2 (set2 (.slice none 0 0) (.slice none 0 0) HS2.out.res)
        refine bodyPost_ret (v := .tuple #[tv (.slice none 0 0) (.slice none 0 0), .int .i64 24]) ?_ rfl ?_
        · simp [results, Try.results9, go_sem, g0, g1]
        · exact ⟨_, _, by rw [HE.out], by rw [HE.out]; exact tab_nil _, (HS2.out.out _ _).2⟩
      · have d1 : decide ((1000 : Int) < (N : Int)) = false := by rw [decide_eq_false_iff_not]; omega
        cases q with
        | true =>
          have HE : Hid (ofRes T = (⟨[], []⟩, 1)) := by show _ = _; unfold ofRes; rw [HN.out, if_neg h1, HWB.out, if_pos rfl]
          go_wp2_with fail
          refine cN.out.mono ?_
          rintro e w2 ⟨rfl, hb2⟩
          have HS2 := hid (HS.out.below hb2)
          obtain ⟨f0, f1⟩ := free2 HS2.out.res
          obtain ⟨e0, e1⟩ := row2 HS2.out.res
          obtain ⟨b0, b1⟩ := HS2.out.cells
          clear hb2 HS cN
          go_wp2
          obtain ⟨g0, g1⟩ := row2 (set2 (.slice none 0 0) (.slice none 0 0) HS2.out.res)
          refine bodyPost_ret (v := .tuple #[tv (.slice none 0 0) (.slice none 0 0), .int .i64 1]) ?_ rfl ?_
          · simp [results, Try.results9, go_sem, g0, g1]
          · exact ⟨_, _, by rw [HE.out], by rw [HE.out]; exact tab_nil _, (HS2.out.out _ _).2⟩
        | false =>
          obtain ⟨wa, wc, rfl, -, -⟩ := HS.out.numbers
          obtain ⟨za, zc, rfl, -, -⟩ := HS.out.lists
          have HE : Hid (ofRes T = (ofT T, 0)) := by show _ = _; unfold ofRes; rw [HN.out, if_neg h1, HWB.out, if_neg (by decide)]
          go_wp2_with fail
          refine cN.out.mono ?_
          rintro e w2 ⟨rfl, hb2⟩
          have HS2 := hid (HS.out.below hb2)
          obtain ⟨f0, f1⟩ := free2 HS2.out.res
          obtain ⟨e0, e1⟩ := row2 HS2.out.res
          obtain ⟨b0, b1⟩ := HS2.out.cells
          clear hb2 HS cN
          go_wp2
          obtain ⟨g0, g1⟩ := row2 (set2 (.slice wa (ofT T).n.length wc) (.slice za (ofT T).l.length zc) HS2.out.res)
          refine bodyPost_ret (v := .tuple #[tv (.slice wa (ofT T).n.length wc) (.slice za (ofT T).l.length zc), .int .i64 0]) ?_ rfl ?_
          · simp [results, Try.results9, go_sem, g0, g1]
          · exact ⟨_, _, by rw [HE.out], by rw [HE.out]; exact (HS2.out.out _ _).1, (HS2.out.out _ _).2⟩
end Go.Proofs.Ytbcikkofbdfmaaa

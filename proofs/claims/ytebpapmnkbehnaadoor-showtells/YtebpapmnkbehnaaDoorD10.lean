/- What the document's Rule answers: a rule's line, and the empty text of one that isn't well formed with four parts; numbers of 16 bits. -/
import Derived.Test.YtebpapmnkbehnaaDoorD9
import Derived.Test.YtebpapmnkbehnaaDoorD6
import Derived.Test.YtebpapmnkbehnaaDoorD7
import Derived.Laws.AppendOwnNone
import Derived.Deep.DeepCutAuto
import Derived.Test.YtebpapmnkbehnaaDoorQC
set_option linter.unusedVariables false
set_option linter.unusedSimpArgs false
namespace Go.Proofs.YtebpapmnkbehnaaDoor
open Go.RowKit Go.Joins Go.Lib Go.Sort

/-- What stands behind one round of the loop over When. -/
theorem when_step {w wr w3 w4 : World} {u : Value} {k g4 cap4 : Nat} {o R : Obj} {L : List Pr} {c : Pr} {X : List UInt8} {cn : Nat} {Z : ByteArray} (HB : Below w.heap.size w wr) (HB3 : Below wr.heap.size wr w3)
    (hO : wr.ownsRow (w.heap.size + 1) 9 1 u k (strs ((L.take k).map whenT))) (hgrow4 : (w3.alloc o).grownBy w4 u.ownBlock) (hR : wr.heap[w.heap.size]? = some R)
    (hTk : (L.take (k + 1)).map whenT = (L.take k).map whenT ++ [whenT c]) (hX : whenT c = X ++ 61 :: decDigits cn) (hZ : (⟨X.toArray⟩ : ByteArray) ++ ⟨#[61]⟩ ++ ⟨(decDigits cn).toArray⟩ = Z)
    (hown4 : w4.ownsRow (w.heap.size + 1) 9 1 (.slice (some ⟨g4, 0, none⟩) (k + 1) cap4) (k + 1) (strs ((L.take k).map whenT) ++ [.string Z])) :
    w4.ownsRow (w.heap.size + 1) 9 1 (.slice (some ⟨g4, 0, none⟩) (k + 1) cap4) (k + 1) (strs ((L.take (k + 1)).map whenT)) ∧ Below w.heap.size w w4 ∧ w4.heap[w.heap.size]? = some R := by
  have hlr := heap_lt hR
  have h3 := HB3.size
  have hwr := HB.size
  have hown3 := own_below hO HB3
  have HBw3 : Below w.heap.size w w3 := HB.trans (HB3.mono hwr)
  refine ⟨?_, Below.grown (HBw3.alloc HBw3.size _) hgrow4 (by have := HBw3.size; simp; omega) (fun j hj => by have := (hown3.lt _ hj).1; omega), (hgrow4.block _ (by simp; omega) (fun e => by have := (hown3.lt _ e.symm).1; omega)).trans ((Below.heap_alloc _ _ _ (by omega)).trans ((HB3.block _ hlr).trans hR))⟩
  rw [hTk, strs_app]
  have e : strs [whenT c] = [.string Z] := by
    rw [← hZ, hX]
    unfold strs
    simp only [List.map_cons, List.map_nil]
    rw [show X ++ 61 :: decDigits cn = X ++ [61] ++ decDigits cn by simp, ← sh_cat, ← sh_cat]
  rw [e]
  exact hown4

set_option maxRecDepth 100000 in
set_option maxHeartbeats 8000000 in
theorem rrule_any {P : Nat → Prop} (r : Rl) (v1 v2 v3 : Value) (hs : RlShort r) (hn : (∀ c ∈ r.when, c.2 ≤ 65535) ∧ (∀ c ∈ r.guard, c.2 ≤ 65535) ∧ (∀ c ∈ r.thn, c.2 ≤ 65535)) (w : World) (h : RulPv P w v1 v2 v3 r) :
    Calls Tryd.prog 12 #[.agg #[v1, v2, v3]] w fun e w' => e = .returned (.string ⟨(rulT r).toArray⟩) ∧ Below w.heap.size w w' := by
  have HR : Hid (∀ W, Below w.heap.size w W → RulPv (fun _ => True) W v1 v2 v3 r) := fun W hW => rul_below h hW
  have HSh : Hid (PgShort ⟨[0, 0, 0, 0], .mk 0 0 0 [], [r]⟩) := ⟨by simp, by show sizeP (.mk 0 0 0 []) ≤ _; decide +kernel, by simp, fun q hq => by simp at hq; rw [hq]; exact hs⟩
  obtain ⟨cv, hcv⟩ : ∃ cv, checkM ⟨[0, 0, 0, 0], .mk 0 0 0 [], [r]⟩ = cv := ⟨_, rfl⟩
  have HF : Hid (∀ W (B g : Nat), W.heap[g]? = some (robj3 v1 v2 v3) → Below w.heap.size w W → Calls Tryd.prog 16 #[pgv (.slice (some ⟨B, 0, none⟩) 4 4) ⟨0, 0, 0, .slice none 0 0⟩ (.slice (some ⟨g, 0, none⟩) 1 1)] W fun e w' => e = .returned (.int .i64 (cv : Int)) ∧ Below W.heap.size W w') := fun W B g hg hW => by
    have := rcheck_any (P := fun _ => True) ⟨[0, 0, 0, 0], .mk 0 0 0 [], [r]⟩ (.slice (some ⟨B, 0, none⟩) 4 4) ⟨0, 0, 0, .slice none 0 0⟩ (.slice (some ⟨g, 0, none⟩) 1 1) HSh.out W ⟨⟨_, _, rfl⟩, PolAt.leaf _ _ _ _ _, rules_one hg (HR.out W hW)⟩
    rw [hcv] at this
    exact this
  have hcl := sh_check_lt ⟨[0, 0, 0, 0], .mk 0 0 0 [], [r]⟩
  rw [hcv] at hcl
  have hchk := chk_rule _ (.inl rfl) r
  rw [hcv] at hchk
  have HCh : Hid _ := hchk
  have HNn : Hid _ := hn
  obtain ⟨sa1, sc1, rfl, hc1⟩ := h.at.p1
  have HC1 : Hid (∀ k (hk : k < r.when.length), ∃ b off, sa1 = some ⟨b, off, none⟩ ∧ b < w.heap.size ∧ At2 w b (off + k * 2) r.when[k]) := hc1
  obtain ⟨sa2, sc2, rfl⟩ := h.at.p2.shape
  obtain ⟨sa3, sc3, rfl⟩ := h.at.p3.shape
  clear hs hn h HSh hcv hchk hc1
  obtain ⟨m1, e1⟩ : ∃ m1, r.when.length = m1 := ⟨_, rfl⟩
  obtain ⟨m2, e2⟩ : ∃ m2, r.guard.length = m2 := ⟨_, rfl⟩
  obtain ⟨m3, e3⟩ : ∃ m3, r.thn.length = m3 := ⟨_, rfl⟩
  have E1 : Hid _ := e1
  have E2 : Hid _ := e2
  have E3 : Hid _ := e3
  rw [e1, e2, e3] at HR HF
  rw [e1, e2, e3]
  clear e1 e2 e3
  have hmkA := run_make4 (w.alloc (robj3 (.slice sa1 m1 sc1) (.slice sa2 m2 sc2) (.slice sa3 m3 sc3))).drew
  have hmkB := run_make4 ((w.alloc (robj3 (.slice sa1 m1 sc1) (.slice sa2 m2 sc2) (.slice sa3 m3 sc3))).alloc (robj3 (.slice sa1 m1 sc1) (.slice sa2 m2 sc2) (.slice sa3 m3 sc3))).drew
  have HWd : Hid ((w.alloc (robj3 (.slice sa1 m1 sc1) (.slice sa2 m2 sc2) (.slice sa3 m3 sc3))).drew.heap[w.heap.size]? = some (robj3 (.slice sa1 m1 sc1) (.slice sa2 m2 sc2) (.slice sa3 m3 sc3))) := heap_alloc_new w _
  obtain ⟨⟨q0, q1, q2⟩, -⟩ := row3 HWd.out
  obtain ⟨⟨p0, p1, p2⟩, -⟩ := row3 ((Below.heap_alloc _ _ _ (heap_lt HWd.out) : ((w.alloc (robj3 (.slice sa1 m1 sc1) (.slice sa2 m2 sc2) (.slice sa3 m3 sc3))).drew.alloc o4).heap[w.heap.size]? = _).trans HWd.out)
  have hA1 : Below w.heap.size w (((w.alloc (robj3 (.slice sa1 m1 sc1) (.slice sa2 m2 sc2) (.slice sa3 m3 sc3))).alloc o4).alloc (robj3 (.slice sa1 m1 sc1) (.slice sa2 m2 sc2) (.slice sa3 m3 sc3))).drew := below_drewN ((((Below.refl _ w).alloc (Nat.le_refl _) _).alloc (by simp) _).alloc (by simp; omega) _) 1
  have hB1 : Below w.heap.size w (((w.alloc (robj3 (.slice sa1 m1 sc1) (.slice sa2 m2 sc2) (.slice sa3 m3 sc3))).alloc (robj3 (.slice sa1 m1 sc1) (.slice sa2 m2 sc2) (.slice sa3 m3 sc3))).alloc o4).drew := below_drewN ((((Below.refl _ w).alloc (Nat.le_refl _) _).alloc (by simp) _).alloc (by simp; omega) _) 1
  have rA : (((w.alloc (robj3 (.slice sa1 m1 sc1) (.slice sa2 m2 sc2) (.slice sa3 m3 sc3))).alloc o4).alloc (robj3 (.slice sa1 m1 sc1) (.slice sa2 m2 sc2) (.slice sa3 m3 sc3))).drew.heap[w.heap.size]? = some (robj3 (.slice sa1 m1 sc1) (.slice sa2 m2 sc2) (.slice sa3 m3 sc3)) := (Below.heap_alloc _ _ _ (by simp; omega)).trans ((Below.heap_alloc _ _ _ (by simp)).trans (heap_alloc_new w _))
  have rB : (((w.alloc (robj3 (.slice sa1 m1 sc1) (.slice sa2 m2 sc2) (.slice sa3 m3 sc3))).alloc (robj3 (.slice sa1 m1 sc1) (.slice sa2 m2 sc2) (.slice sa3 m3 sc3))).alloc o4).drew.heap[w.heap.size]? = some (robj3 (.slice sa1 m1 sc1) (.slice sa2 m2 sc2) (.slice sa3 m3 sc3)) := (Below.heap_alloc _ _ _ (by simp; omega)).trans ((Below.heap_alloc _ _ _ (by simp)).trans (heap_alloc_new w _))
  have gA : (((w.alloc (robj3 (.slice sa1 m1 sc1) (.slice sa2 m2 sc2) (.slice sa3 m3 sc3))).alloc o4).alloc (robj3 (.slice sa1 m1 sc1) (.slice sa2 m2 sc2) (.slice sa3 m3 sc3))).drew.heap[w.heap.size + 1 + 1]? = some (robj3 (.slice sa1 m1 sc1) (.slice sa2 m2 sc2) (.slice sa3 m3 sc3)) := by
    have := heap_new2 (w.alloc (robj3 (.slice sa1 m1 sc1) (.slice sa2 m2 sc2) (.slice sa3 m3 sc3))) o4 (robj3 (.slice sa1 m1 sc1) (.slice sa2 m2 sc2) (.slice sa3 m3 sc3))
    rw [show (w.alloc (robj3 (.slice sa1 m1 sc1) (.slice sa2 m2 sc2) (.slice sa3 m3 sc3))).heap.size = w.heap.size + 1 by simp] at this
    exact this
  have gB : (((w.alloc (robj3 (.slice sa1 m1 sc1) (.slice sa2 m2 sc2) (.slice sa3 m3 sc3))).alloc (robj3 (.slice sa1 m1 sc1) (.slice sa2 m2 sc2) (.slice sa3 m3 sc3))).alloc o4).drew.heap[w.heap.size + 1]? = some (robj3 (.slice sa1 m1 sc1) (.slice sa2 m2 sc2) (.slice sa3 m3 sc3)) := (Below.heap_alloc _ _ _ (by simp)).trans (heap_new2 w _ _)
  have CA : Hid (Calls Tryd.prog 16 #[pgv (.slice (some ⟨w.heap.size + 1, 0, none⟩) 4 4) ⟨0, 0, 0, .slice none 0 0⟩ (.slice (some ⟨w.heap.size + 1 + 1, 0, none⟩) 1 1)] (((w.alloc (robj3 (.slice sa1 m1 sc1) (.slice sa2 m2 sc2) (.slice sa3 m3 sc3))).alloc o4).alloc (robj3 (.slice sa1 m1 sc1) (.slice sa2 m2 sc2) (.slice sa3 m3 sc3))).drew fun e w' => e = .returned (.int .i64 (cv : Int)) ∧ Below w.heap.size w w' ∧ w'.heap[w.heap.size]? = some (robj3 (.slice sa1 m1 sc1) (.slice sa2 m2 sc2) (.slice sa3 m3 sc3))) := (HF.out _ _ _ gA hA1).mono fun e w' h => ⟨h.1, hA1.trans (h.2.mono hA1.size), (h.2.block _ (heap_lt rA)).trans rA⟩
  have CB : Hid (Calls Tryd.prog 16 #[pgv (.slice (some ⟨w.heap.size + 1 + 1, 0, none⟩) 4 4) ⟨0, 0, 0, .slice none 0 0⟩ (.slice (some ⟨w.heap.size + 1, 0, none⟩) 1 1)] (((w.alloc (robj3 (.slice sa1 m1 sc1) (.slice sa2 m2 sc2) (.slice sa3 m3 sc3))).alloc (robj3 (.slice sa1 m1 sc1) (.slice sa2 m2 sc2) (.slice sa3 m3 sc3))).alloc o4).drew fun e w' => e = .returned (.int .i64 (cv : Int)) ∧ Below w.heap.size w w' ∧ w'.heap[w.heap.size]? = some (robj3 (.slice sa1 m1 sc1) (.slice sa2 m2 sc2) (.slice sa3 m3 sc3))) := (HF.out _ _ _ gB hB1).mono fun e w' h => ⟨h.1, hB1.trans (h.2.mono hB1.size), (h.2.block _ (heap_lt rB)).trans rB⟩
  clear HF gA gB rA rB hA1 hB1
  go_enter Tryd.func12, Tryd.ntmps12
  go_wp2_with fail
  go_cut [10] (fun s10 wx => s10 = .bool ((cv : Int) != 0) ∧ Hid (Below w.heap.size w wx) ∧ Hid (wx.heap[w.heap.size]? = some (robj3 (.slice sa1 m1 sc1) (.slice sa2 m2 sc2) (.slice sa3 m3 sc3))))
  case first =>
    go_region_with (first
      | (go_at_call 16; (with_reducible refine Calls.mono CA.out ?_); rintro e w1 ⟨rfl, hb1, hr1⟩; have HB1 : Hid (Below w.heap.size w w1) := hb1; have HR1 : Hid (w1.heap[w.heap.size]? = some (robj3 (.slice sa1 m1 sc1) (.slice sa2 m2 sc2) (.slice sa3 m3 sc3))) := hr1; clear hb1 hr1)
      | (go_at_call 16; (with_reducible refine Calls.mono CB.out ?_); rintro e w1 ⟨rfl, hb1, hr1⟩; have HB1 : Hid (Below w.heap.size w w1) := hb1; have HR1 : Hid (w1.heap[w.heap.size]? = some (robj3 (.slice sa1 m1 sc1) (.slice sa2 m2 sc2) (.slice sa3 m3 sc3))) := hr1; clear hb1 hr1))
    all_goals
      go_wp2_with fail
      go_meet
      exact ⟨rfl, HB1, HR1⟩
  case rest =>
    clear CA CB hmkA hmkB q0 q1 q2 p0 p1 p2 HWd
    obtain ⟨rfl, HB, HRw⟩ := hcut
    obtain ⟨⟨q0, q1, q2⟩, -⟩ := row3 HRw.out
    by_cases hc0 : cv = 0
    · have d0 : ((cv : Int) != 0) = false := by simp [hc0]
      have HRB : Hid (ruleB 4 r = true) := HCh.out.1 hc0
      have HT : Hid (rulT r = ruleT r) := by show _ = _; unfold rulT; rw [if_pos HRB.out]
      rw [d0]
      clear hc0 hcl d0 HCh
      obtain ⟨hr1, hr0, hr2, hr3, hr4⟩ := RlN.open (parts := 4) ⟨HRB.out, HNn.out.1, HNn.out.2.1, HNn.out.2.2⟩
      have hl0 := port_len hr0
      have hl1 := rise_le hr1 (by omega)
      have hl2 := rise_le hr2 (by omega)
      have hl3 := rise_le hr3 (by omega)
      have H1 : Hid (∀ c ∈ r.when, (0 ≤ c.1 ∧ c.1 < 8) ∧ c.2 ≤ 65535) := fun c hc => ⟨(rise_in _ _ _ hr1).1 c hc, HNn.out.1 c hc⟩
      have H2 : Hid (∀ c ∈ r.guard, (0 ≤ c.1 ∧ c.1 < 4) ∧ c.2 ≤ 65535) := fun c hc => ⟨(rise_in _ _ _ hr2).1 c hc, HNn.out.2.1 c hc⟩
      have H3 : Hid (∀ c ∈ r.thn, (0 ≤ c.1 ∧ c.1 < 4) ∧ c.2 ≤ 65535) := fun c hc => ⟨(rise_in _ _ _ hr3).1 c hc, HNn.out.2.2 c hc⟩
      rw [E1.out] at hl0 hl1
      rw [E2.out] at hl2
      rw [E3.out] at hl3 hr4
      obtain ⟨i0, hi, hz0, hz1, hz2⟩ := info_parts info9s
      clear hr1 hr0 hr2 hr3 HRB HNn
      go_wp2_with fail
      clear q0 q1 q2
      go_loopw [3, 4] (fun o i wr => ∃ k : Nat, k ≤ m1 ∧ i = .int .i64 (k : Int) ∧ Hid (wr.ownsRow (w.heap.size + 1) 9 1 o k (strs ((r.when.take k).map whenT))) ∧ Hid (Below w.heap.size w wr) ∧ Hid (wr.heap[w.heap.size]? = some (robj3 (.slice sa1 m1 sc1) (.slice sa2 m2 sc2) (.slice sa3 m3 sc3)))) (fun _ i _ => m1 - (intOf i).toNat)
      case atStart => exact ⟨0, Nat.zero_le _, rfl, World.ownsRow_nil _ _ _ _, HB, HRw⟩
      case round =>
        clear HB HRw
        obtain ⟨k, hkl, rfl, HO, HB, HRw⟩ := hrel
        obtain ⟨⟨q0, q1, q2⟩, -⟩ := row3 HRw.out
        have hwr := HB.out.size
        have hlr := heap_lt HRw.out
        by_cases hlt : k < m1
        · have hltr : k < r.when.length := by rw [E1.out]; exact hlt
          obtain ⟨b, off, rfl, hb, ha⟩ := HC1.out k hltr
          obtain ⟨a0, a1⟩ := ha.same (HB.out.block b hb)
          obtain ⟨⟨h0, h8⟩, hn⟩ := H1.out _ (List.getElem_mem hltr)
          have HTk : Hid _ := map_take whenT r.when k hltr
          generalize hcc : r.when[k] = c at *
          obtain ⟨cf, cn⟩ := c
          dsimp only at a0 a1 h0 h8 hn
          obtain ⟨F, rfl⟩ := Int.eq_ofNat_of_zero_le h0
          have hF : F < 8 := by omega
          have CNm : Hid _ := rnames_at F hF
          have CDn : Hid _ := digits_any cn hn
          have hnl : (nm8.getD F []).length ≤ 3 := by have := nmB_len (F : Int); unfold nmB at this; simpa using this
          have hdn := digits_len5 cn hn
          have HX : Hid (whenT ((F : Int), cn) = nm8.getD F [] ++ 61 :: decDigits cn) := rfl
          obtain ⟨X, hXn⟩ : ∃ X, nm8.getD F [] = X := ⟨_, rfl⟩
          rw [hXn] at hnl CNm HX
          have CNm2 : Hid (∀ W : World, Calls Tryd.prog 23 #[] W fun e w' => ∃ B : Nat, e = .returned (.slice (some ⟨B, 0, none⟩) 8 8) ∧ w'.cell? ⟨B, F, none⟩ = some (.string ⟨X.toArray⟩) ∧ Below W.heap.size W w') := CNm
          clear CNm
          have CNm3 : Hid (∀ W : World, Calls Tryd.prog 23 #[] W fun e w' => ∃ B : Nat, e = .returned (.slice (some ⟨B, 0, none⟩) 8 8) ∧ w'.cell? ⟨B, F, none⟩ = some (.string ⟨X.toArray⟩) ∧ W.heap.size ≤ B ∧ Below W.heap.size W w') := fun W => (rnames_any W).mono fun e w' h => by
            obtain ⟨rfl, rfl⟩ := h
            refine ⟨W.heap.size, rfl, ?_, Nat.le_refl _, (Below.refl _ W).alloc (Nat.le_refl _) _⟩
            rw [cell_of_row _ _ _ _ _ _ (heap_alloc_new W _), ← hXn]
            exact nmCells_at F hF
          have HBd : Hid (Below wr.heap.size wr wr.drew) := below_drewN (Below.refl _ wr) 1
          have hbw : b < wr.heap.size := by omega
          have ew : IntKind.i64.wrap (cn : Int) = (cn : Int) := wr64 _ (by omega) (by omega)
          have z1 : ¬ 9223372036854775807 < X.length + 1 := by omega
          have z2 : ¬ 9223372036854775807 < X.length + 1 + (decDigits cn).length := by omega
          obtain ⟨Z, hZ⟩ : ∃ Z : ByteArray, (⟨X.toArray⟩ : ByteArray) ++ ⟨#[61]⟩ ++ ⟨(decDigits cn).toArray⟩ = Z := ⟨_, rfl⟩
          have hnew : ∀ W : World, ∀ j u, [Value.string Z][j]? = some u → (W.alloc (.cells #[.string Z] 9)).cell? ((⟨W.heap.size, 0, none⟩ : Addr).add j) = some u := fun W => cell_one_new W _ _
          have HNew : Hid _ := hnew
          clear hnew ha hcc
          have hk1 : k + 1 ≤ m1 := by omega
          have HM : Hid (m1 - (k + 1) < m1 - k) := by show _ < _; omega
          go_wp2_with fail
          have hki : (k : Int) < (m1 : Int) := by omega
          refine wp_region_any (by kernel_rfl) (any_of_B (B := fun w' => (w'.cell? ⟨w.heap.size, 0, none⟩ = some (.slice (some ⟨b, off, none⟩) m1 sc1) ∧ w'.cell? ⟨b, off + k * 2, none⟩ = some (.int .i64 (F : Int)) ∧ w'.cell? ⟨b, off + k * 2 + 1, none⟩ = some (.int .u16 (cn : Int)))) _ _ _ _ ?_)
          refine anyB_take (i := 0) (u3) rfl (by kernel_rfl) (by kernel_rfl) (by kernel_rfl) (fun c a w h => h) (.inl ⟨rfl, fun w' hw' => rfl⟩) ?_
          show anyB Tryd.prog _ _ _ _ _ _ { tmps := #[.agg #[.slice (some ⟨b, off, none⟩) m1 sc1, .slice sa2 m2 sc2, .slice sa3 m3 sc3], .pointer (some ⟨w.heap.size, 0, none⟩), .string ⟨#[]⟩, u3, .int .i64 (k : Int), u5, u6, u7, u8, u9, .bool false, .int .i64 (k : Int), .pointer (some ⟨w.heap.size, 0, none⟩), .slice (some ⟨b, off, none⟩) m1 sc1, .int .i64 (m1 : Int), .bool true, u16, u17, u3, u19, u20, u21, u22, u23, u24, u25, u26, u27, u28, u29, u30, u31, u32, u33, u34, u35, u36, u37, u38, u39, u40, u41, u42, u43, u44, u45, u46, u47, u48, u49, u50, u51, u52, u53, u54], defers := [] } _
          refine anyB_take (i := 2) (.pointer (some ⟨w.heap.size, 0, none⟩)) rfl (by kernel_rfl) (by kernel_rfl) (by kernel_rfl) (fun c a w h => h) (.inl ⟨rfl, fun w' hw' => rfl⟩) ?_
          show anyB Tryd.prog _ _ _ _ _ _ { tmps := #[.agg #[.slice (some ⟨b, off, none⟩) m1 sc1, .slice sa2 m2 sc2, .slice sa3 m3 sc3], .pointer (some ⟨w.heap.size, 0, none⟩), .string ⟨#[]⟩, u3, .int .i64 (k : Int), u5, u6, u7, u8, u9, .bool false, .int .i64 (k : Int), .pointer (some ⟨w.heap.size, 0, none⟩), .slice (some ⟨b, off, none⟩) m1 sc1, .int .i64 (m1 : Int), .bool true, u16, u17, u3, u19, .pointer (some ⟨w.heap.size, 0, none⟩), u21, u22, u23, u24, u25, u26, u27, u28, u29, u30, u31, u32, u33, u34, u35, u36, u37, u38, u39, u40, u41, u42, u43, u44, u45, u46, u47, u48, u49, u50, u51, u52, u53, u54], defers := [] } _
          refine anyB_take (i := 3) (.slice (some ⟨b, off, none⟩) m1 sc1) rfl (by kernel_rfl) (by kernel_rfl) (by kernel_rfl) (fun c a w h => h) (.inl ⟨rfl, fun w' hw' => by obtain ⟨y0, y1, y2⟩ := hw'; clear q0 a0 a1; go_simp⟩) ?_
          show anyB Tryd.prog _ _ _ _ _ _ { tmps := #[.agg #[.slice (some ⟨b, off, none⟩) m1 sc1, .slice sa2 m2 sc2, .slice sa3 m3 sc3], .pointer (some ⟨w.heap.size, 0, none⟩), .string ⟨#[]⟩, u3, .int .i64 (k : Int), u5, u6, u7, u8, u9, .bool false, .int .i64 (k : Int), .pointer (some ⟨w.heap.size, 0, none⟩), .slice (some ⟨b, off, none⟩) m1 sc1, .int .i64 (m1 : Int), .bool true, u16, u17, u3, u19, .pointer (some ⟨w.heap.size, 0, none⟩), .slice (some ⟨b, off, none⟩) m1 sc1, u22, u23, u24, u25, u26, u27, u28, u29, u30, u31, u32, u33, u34, u35, u36, u37, u38, u39, u40, u41, u42, u43, u44, u45, u46, u47, u48, u49, u50, u51, u52, u53, u54], defers := [] } _
          refine anyB_take (i := 4) (.int .i64 (k : Int)) rfl (by kernel_rfl) (by kernel_rfl) (by kernel_rfl) (fun c a w h => h) (.inl ⟨rfl, fun w' hw' => rfl⟩) ?_
          show anyB Tryd.prog _ _ _ _ _ _ { tmps := #[.agg #[.slice (some ⟨b, off, none⟩) m1 sc1, .slice sa2 m2 sc2, .slice sa3 m3 sc3], .pointer (some ⟨w.heap.size, 0, none⟩), .string ⟨#[]⟩, u3, .int .i64 (k : Int), u5, u6, u7, u8, u9, .bool false, .int .i64 (k : Int), .pointer (some ⟨w.heap.size, 0, none⟩), .slice (some ⟨b, off, none⟩) m1 sc1, .int .i64 (m1 : Int), .bool true, u16, u17, u3, u19, .pointer (some ⟨w.heap.size, 0, none⟩), .slice (some ⟨b, off, none⟩) m1 sc1, .int .i64 (k : Int), u23, u24, u25, u26, u27, u28, u29, u30, u31, u32, u33, u34, u35, u36, u37, u38, u39, u40, u41, u42, u43, u44, u45, u46, u47, u48, u49, u50, u51, u52, u53, u54], defers := [] } _
          refine anyB_take (i := 5) (.pointer (some ⟨b, off + k * 2, none⟩)) rfl (by kernel_rfl) (by kernel_rfl) (by kernel_rfl) (fun c a w h => h) (.inl ⟨rfl, fun w' hw' => by obtain ⟨y0, y1, y2⟩ := hw'; clear q0 a0 a1; go_simp⟩) ?_
          show anyB Tryd.prog _ _ _ _ _ _ { tmps := #[.agg #[.slice (some ⟨b, off, none⟩) m1 sc1, .slice sa2 m2 sc2, .slice sa3 m3 sc3], .pointer (some ⟨w.heap.size, 0, none⟩), .string ⟨#[]⟩, u3, .int .i64 (k : Int), u5, u6, u7, u8, u9, .bool false, .int .i64 (k : Int), .pointer (some ⟨w.heap.size, 0, none⟩), .slice (some ⟨b, off, none⟩) m1 sc1, .int .i64 (m1 : Int), .bool true, u16, u17, u3, u19, .pointer (some ⟨w.heap.size, 0, none⟩), .slice (some ⟨b, off, none⟩) m1 sc1, .int .i64 (k : Int), .pointer (some ⟨b, off + k * 2, none⟩), u24, u25, u26, u27, u28, u29, u30, u31, u32, u33, u34, u35, u36, u37, u38, u39, u40, u41, u42, u43, u44, u45, u46, u47, u48, u49, u50, u51, u52, u53, u54], defers := [] } _
          refine anyB_take (i := 6) (.pointer (some ⟨b, off + k * 2, none⟩)) rfl (by kernel_rfl) (by kernel_rfl) (by kernel_rfl) (fun c a w h => h) (.inl ⟨rfl, fun w' hw' => rfl⟩) ?_
          show anyB Tryd.prog _ _ _ _ _ _ { tmps := #[.agg #[.slice (some ⟨b, off, none⟩) m1 sc1, .slice sa2 m2 sc2, .slice sa3 m3 sc3], .pointer (some ⟨w.heap.size, 0, none⟩), .string ⟨#[]⟩, u3, .int .i64 (k : Int), u5, u6, u7, u8, u9, .bool false, .int .i64 (k : Int), .pointer (some ⟨w.heap.size, 0, none⟩), .slice (some ⟨b, off, none⟩) m1 sc1, .int .i64 (m1 : Int), .bool true, u16, u17, u3, u19, .pointer (some ⟨w.heap.size, 0, none⟩), .slice (some ⟨b, off, none⟩) m1 sc1, .int .i64 (k : Int), .pointer (some ⟨b, off + k * 2, none⟩), .pointer (some ⟨b, off + k * 2, none⟩), u25, u26, u27, u28, u29, u30, u31, u32, u33, u34, u35, u36, u37, u38, u39, u40, u41, u42, u43, u44, u45, u46, u47, u48, u49, u50, u51, u52, u53, u54], defers := [] } _
          refine anyB_take (i := 7) (.int .i64 (F : Int)) rfl (by kernel_rfl) (by kernel_rfl) (by kernel_rfl) (fun c a w h => h) (.inl ⟨rfl, fun w' hw' => by obtain ⟨y0, y1, y2⟩ := hw'; clear q0 a0 a1; go_simp⟩) ?_
          show anyB Tryd.prog _ _ _ _ _ _ { tmps := #[.agg #[.slice (some ⟨b, off, none⟩) m1 sc1, .slice sa2 m2 sc2, .slice sa3 m3 sc3], .pointer (some ⟨w.heap.size, 0, none⟩), .string ⟨#[]⟩, u3, .int .i64 (k : Int), u5, u6, u7, u8, u9, .bool false, .int .i64 (k : Int), .pointer (some ⟨w.heap.size, 0, none⟩), .slice (some ⟨b, off, none⟩) m1 sc1, .int .i64 (m1 : Int), .bool true, u16, u17, u3, u19, .pointer (some ⟨w.heap.size, 0, none⟩), .slice (some ⟨b, off, none⟩) m1 sc1, .int .i64 (k : Int), .pointer (some ⟨b, off + k * 2, none⟩), .pointer (some ⟨b, off + k * 2, none⟩), .int .i64 (F : Int), u26, u27, u28, u29, u30, u31, u32, u33, u34, u35, u36, u37, u38, u39, u40, u41, u42, u43, u44, u45, u46, u47, u48, u49, u50, u51, u52, u53, u54], defers := [] } _
          refine anyB_take (i := 11) (.pointer (some ⟨w.heap.size, 0, none⟩)) rfl (by kernel_rfl) (by kernel_rfl) (by kernel_rfl) (fun c a w h => h) (.inl ⟨rfl, fun w' hw' => rfl⟩) ?_
          show anyB Tryd.prog _ _ _ _ _ _ { tmps := #[.agg #[.slice (some ⟨b, off, none⟩) m1 sc1, .slice sa2 m2 sc2, .slice sa3 m3 sc3], .pointer (some ⟨w.heap.size, 0, none⟩), .string ⟨#[]⟩, u3, .int .i64 (k : Int), u5, u6, u7, u8, u9, .bool false, .int .i64 (k : Int), .pointer (some ⟨w.heap.size, 0, none⟩), .slice (some ⟨b, off, none⟩) m1 sc1, .int .i64 (m1 : Int), .bool true, u16, u17, u3, u19, .pointer (some ⟨w.heap.size, 0, none⟩), .slice (some ⟨b, off, none⟩) m1 sc1, .int .i64 (k : Int), .pointer (some ⟨b, off + k * 2, none⟩), .pointer (some ⟨b, off + k * 2, none⟩), .int .i64 (F : Int), u26, u27, u28, .pointer (some ⟨w.heap.size, 0, none⟩), u30, u31, u32, u33, u34, u35, u36, u37, u38, u39, u40, u41, u42, u43, u44, u45, u46, u47, u48, u49, u50, u51, u52, u53, u54], defers := [] } _
          refine anyB_take (i := 12) (.slice (some ⟨b, off, none⟩) m1 sc1) rfl (by kernel_rfl) (by kernel_rfl) (by kernel_rfl) (fun c a w h => h) (.inl ⟨rfl, fun w' hw' => by obtain ⟨y0, y1, y2⟩ := hw'; clear q0 a0 a1; go_simp⟩) ?_
          show anyB Tryd.prog _ _ _ _ _ _ { tmps := #[.agg #[.slice (some ⟨b, off, none⟩) m1 sc1, .slice sa2 m2 sc2, .slice sa3 m3 sc3], .pointer (some ⟨w.heap.size, 0, none⟩), .string ⟨#[]⟩, u3, .int .i64 (k : Int), u5, u6, u7, u8, u9, .bool false, .int .i64 (k : Int), .pointer (some ⟨w.heap.size, 0, none⟩), .slice (some ⟨b, off, none⟩) m1 sc1, .int .i64 (m1 : Int), .bool true, u16, u17, u3, u19, .pointer (some ⟨w.heap.size, 0, none⟩), .slice (some ⟨b, off, none⟩) m1 sc1, .int .i64 (k : Int), .pointer (some ⟨b, off + k * 2, none⟩), .pointer (some ⟨b, off + k * 2, none⟩), .int .i64 (F : Int), u26, u27, u28, .pointer (some ⟨w.heap.size, 0, none⟩), .slice (some ⟨b, off, none⟩) m1 sc1, u31, u32, u33, u34, u35, u36, u37, u38, u39, u40, u41, u42, u43, u44, u45, u46, u47, u48, u49, u50, u51, u52, u53, u54], defers := [] } _
          refine anyB_take (i := 13) (.int .i64 (k : Int)) rfl (by kernel_rfl) (by kernel_rfl) (by kernel_rfl) (fun c a w h => h) (.inl ⟨rfl, fun w' hw' => rfl⟩) ?_
          show anyB Tryd.prog _ _ _ _ _ _ { tmps := #[.agg #[.slice (some ⟨b, off, none⟩) m1 sc1, .slice sa2 m2 sc2, .slice sa3 m3 sc3], .pointer (some ⟨w.heap.size, 0, none⟩), .string ⟨#[]⟩, u3, .int .i64 (k : Int), u5, u6, u7, u8, u9, .bool false, .int .i64 (k : Int), .pointer (some ⟨w.heap.size, 0, none⟩), .slice (some ⟨b, off, none⟩) m1 sc1, .int .i64 (m1 : Int), .bool true, u16, u17, u3, u19, .pointer (some ⟨w.heap.size, 0, none⟩), .slice (some ⟨b, off, none⟩) m1 sc1, .int .i64 (k : Int), .pointer (some ⟨b, off + k * 2, none⟩), .pointer (some ⟨b, off + k * 2, none⟩), .int .i64 (F : Int), u26, u27, u28, .pointer (some ⟨w.heap.size, 0, none⟩), .slice (some ⟨b, off, none⟩) m1 sc1, .int .i64 (k : Int), u32, u33, u34, u35, u36, u37, u38, u39, u40, u41, u42, u43, u44, u45, u46, u47, u48, u49, u50, u51, u52, u53, u54], defers := [] } _
          refine anyB_take (i := 14) (.pointer (some ⟨b, off + k * 2, none⟩)) rfl (by kernel_rfl) (by kernel_rfl) (by kernel_rfl) (fun c a w h => h) (.inl ⟨rfl, fun w' hw' => by obtain ⟨y0, y1, y2⟩ := hw'; clear q0 a0 a1; go_simp⟩) ?_
          show anyB Tryd.prog _ _ _ _ _ _ { tmps := #[.agg #[.slice (some ⟨b, off, none⟩) m1 sc1, .slice sa2 m2 sc2, .slice sa3 m3 sc3], .pointer (some ⟨w.heap.size, 0, none⟩), .string ⟨#[]⟩, u3, .int .i64 (k : Int), u5, u6, u7, u8, u9, .bool false, .int .i64 (k : Int), .pointer (some ⟨w.heap.size, 0, none⟩), .slice (some ⟨b, off, none⟩) m1 sc1, .int .i64 (m1 : Int), .bool true, u16, u17, u3, u19, .pointer (some ⟨w.heap.size, 0, none⟩), .slice (some ⟨b, off, none⟩) m1 sc1, .int .i64 (k : Int), .pointer (some ⟨b, off + k * 2, none⟩), .pointer (some ⟨b, off + k * 2, none⟩), .int .i64 (F : Int), u26, u27, u28, .pointer (some ⟨w.heap.size, 0, none⟩), .slice (some ⟨b, off, none⟩) m1 sc1, .int .i64 (k : Int), .pointer (some ⟨b, off + k * 2, none⟩), u33, u34, u35, u36, u37, u38, u39, u40, u41, u42, u43, u44, u45, u46, u47, u48, u49, u50, u51, u52, u53, u54], defers := [] } _
          refine anyB_take (i := 15) (.pointer (some ⟨b, off + k * 2 + 1, none⟩)) rfl (by kernel_rfl) (by kernel_rfl) (by kernel_rfl) (fun c a w h => h) (.inl ⟨rfl, fun w' hw' => rfl⟩) ?_
          show anyB Tryd.prog _ _ _ _ _ _ { tmps := #[.agg #[.slice (some ⟨b, off, none⟩) m1 sc1, .slice sa2 m2 sc2, .slice sa3 m3 sc3], .pointer (some ⟨w.heap.size, 0, none⟩), .string ⟨#[]⟩, u3, .int .i64 (k : Int), u5, u6, u7, u8, u9, .bool false, .int .i64 (k : Int), .pointer (some ⟨w.heap.size, 0, none⟩), .slice (some ⟨b, off, none⟩) m1 sc1, .int .i64 (m1 : Int), .bool true, u16, u17, u3, u19, .pointer (some ⟨w.heap.size, 0, none⟩), .slice (some ⟨b, off, none⟩) m1 sc1, .int .i64 (k : Int), .pointer (some ⟨b, off + k * 2, none⟩), .pointer (some ⟨b, off + k * 2, none⟩), .int .i64 (F : Int), u26, u27, u28, .pointer (some ⟨w.heap.size, 0, none⟩), .slice (some ⟨b, off, none⟩) m1 sc1, .int .i64 (k : Int), .pointer (some ⟨b, off + k * 2, none⟩), .pointer (some ⟨b, off + k * 2 + 1, none⟩), u34, u35, u36, u37, u38, u39, u40, u41, u42, u43, u44, u45, u46, u47, u48, u49, u50, u51, u52, u53, u54], defers := [] } _
          refine anyB_take (i := 16) (.int .u16 (cn : Int)) rfl (by kernel_rfl) (by kernel_rfl) (by kernel_rfl) (fun c a w h => h) (.inl ⟨rfl, fun w' hw' => by obtain ⟨y0, y1, y2⟩ := hw'; clear q0 a0 a1; go_simp⟩) ?_
          show anyB Tryd.prog _ _ _ _ _ _ { tmps := #[.agg #[.slice (some ⟨b, off, none⟩) m1 sc1, .slice sa2 m2 sc2, .slice sa3 m3 sc3], .pointer (some ⟨w.heap.size, 0, none⟩), .string ⟨#[]⟩, u3, .int .i64 (k : Int), u5, u6, u7, u8, u9, .bool false, .int .i64 (k : Int), .pointer (some ⟨w.heap.size, 0, none⟩), .slice (some ⟨b, off, none⟩) m1 sc1, .int .i64 (m1 : Int), .bool true, u16, u17, u3, u19, .pointer (some ⟨w.heap.size, 0, none⟩), .slice (some ⟨b, off, none⟩) m1 sc1, .int .i64 (k : Int), .pointer (some ⟨b, off + k * 2, none⟩), .pointer (some ⟨b, off + k * 2, none⟩), .int .i64 (F : Int), u26, u27, u28, .pointer (some ⟨w.heap.size, 0, none⟩), .slice (some ⟨b, off, none⟩) m1 sc1, .int .i64 (k : Int), .pointer (some ⟨b, off + k * 2, none⟩), .pointer (some ⟨b, off + k * 2 + 1, none⟩), .int .u16 (cn : Int), u35, u36, u37, u38, u39, u40, u41, u42, u43, u44, u45, u46, u47, u48, u49, u50, u51, u52, u53, u54], defers := [] } _
          refine anyB_take (i := 17) (.int .i64 (cn : Int)) rfl (by kernel_rfl) (by kernel_rfl) (by kernel_rfl) (fun c a w h => h) (.inl ⟨rfl, fun w' hw' => by obtain ⟨y0, y1, y2⟩ := hw'; clear q0 a0 a1; go_simp⟩) ?_
          show anyB Tryd.prog _ _ _ _ _ _ { tmps := #[.agg #[.slice (some ⟨b, off, none⟩) m1 sc1, .slice sa2 m2 sc2, .slice sa3 m3 sc3], .pointer (some ⟨w.heap.size, 0, none⟩), .string ⟨#[]⟩, u3, .int .i64 (k : Int), u5, u6, u7, u8, u9, .bool false, .int .i64 (k : Int), .pointer (some ⟨w.heap.size, 0, none⟩), .slice (some ⟨b, off, none⟩) m1 sc1, .int .i64 (m1 : Int), .bool true, u16, u17, u3, u19, .pointer (some ⟨w.heap.size, 0, none⟩), .slice (some ⟨b, off, none⟩) m1 sc1, .int .i64 (k : Int), .pointer (some ⟨b, off + k * 2, none⟩), .pointer (some ⟨b, off + k * 2, none⟩), .int .i64 (F : Int), u26, u27, u28, .pointer (some ⟨w.heap.size, 0, none⟩), .slice (some ⟨b, off, none⟩) m1 sc1, .int .i64 (k : Int), .pointer (some ⟨b, off + k * 2, none⟩), .pointer (some ⟨b, off + k * 2 + 1, none⟩), .int .u16 (cn : Int), .int .i64 (cn : Int), u36, u37, u38, u39, u40, u41, u42, u43, u44, u45, u46, u47, u48, u49, u50, u51, u52, u53, u54], defers := [] } _
          refine anyB_one (i := 1) ⟨q0, a0, a1⟩ (by kernel_rfl) (op_call (f := 23) (args := #[]) rfl rfl (by go_simp) (Calls.mono (CNm3.out _) ?_))
          rintro e w2 ⟨Bk, rfl, hcB, hBk, hb2⟩
          have HB2 : Hid (Below wr.heap.size wr w2) := HBd.out.trans (hb2.mono HBd.out.size)
          have hBl := block_lt_of_cell hcB
          have hFi : (F : Int) < 8 := by omega
          have hBk2 : wr.heap.size ≤ Bk := by have := HBd.out.size; omega
          refine ⟨_, rfl, anyB_mono (B := fun w' => (w'.cell? ⟨w.heap.size, 0, none⟩ = some (.slice (some ⟨b, off, none⟩) m1 sc1) ∧ w'.cell? ⟨b, off + k * 2, none⟩ = some (.int .i64 (F : Int)) ∧ w'.cell? ⟨b, off + k * 2 + 1, none⟩ = some (.int .u16 (cn : Int))) ∧ w'.cell? ⟨Bk, F, none⟩ = some (.string ⟨X.toArray⟩)) (fun w' h => h.1) _ _ _ _ ?_⟩
          show anyB Tryd.prog _ _ _ _ _ _ { tmps := #[.agg #[.slice (some ⟨b, off, none⟩) m1 sc1, .slice sa2 m2 sc2, .slice sa3 m3 sc3], .pointer (some ⟨w.heap.size, 0, none⟩), .string ⟨#[]⟩, u3, .int .i64 (k : Int), u5, u6, u7, u8, u9, .bool false, .int .i64 (k : Int), .pointer (some ⟨w.heap.size, 0, none⟩), .slice (some ⟨b, off, none⟩) m1 sc1, .int .i64 (m1 : Int), .bool true, u16, u17, u3, .slice (some ⟨Bk, 0, none⟩) 8 8, .pointer (some ⟨w.heap.size, 0, none⟩), .slice (some ⟨b, off, none⟩) m1 sc1, .int .i64 (k : Int), .pointer (some ⟨b, off + k * 2, none⟩), .pointer (some ⟨b, off + k * 2, none⟩), .int .i64 (F : Int), u26, u27, u28, .pointer (some ⟨w.heap.size, 0, none⟩), .slice (some ⟨b, off, none⟩) m1 sc1, .int .i64 (k : Int), .pointer (some ⟨b, off + k * 2, none⟩), .pointer (some ⟨b, off + k * 2 + 1, none⟩), .int .u16 (cn : Int), .int .i64 (cn : Int), u36, u37, u38, u39, u40, u41, u42, u43, u44, u45, u46, u47, u48, u49, u50, u51, u52, u53, u54], defers := [] } _
          refine anyB_take (i := 8) (.pointer (some ⟨Bk, F, none⟩)) rfl (by kernel_rfl) (by kernel_rfl) (by kernel_rfl) (fun c a w h => h) (.inl ⟨rfl, fun w' hw' => by have q := hw'.2; clear hcB; go_simp⟩) ?_
          show anyB Tryd.prog _ _ _ _ _ _ { tmps := #[.agg #[.slice (some ⟨b, off, none⟩) m1 sc1, .slice sa2 m2 sc2, .slice sa3 m3 sc3], .pointer (some ⟨w.heap.size, 0, none⟩), .string ⟨#[]⟩, u3, .int .i64 (k : Int), u5, u6, u7, u8, u9, .bool false, .int .i64 (k : Int), .pointer (some ⟨w.heap.size, 0, none⟩), .slice (some ⟨b, off, none⟩) m1 sc1, .int .i64 (m1 : Int), .bool true, u16, u17, u3, .slice (some ⟨Bk, 0, none⟩) 8 8, .pointer (some ⟨w.heap.size, 0, none⟩), .slice (some ⟨b, off, none⟩) m1 sc1, .int .i64 (k : Int), .pointer (some ⟨b, off + k * 2, none⟩), .pointer (some ⟨b, off + k * 2, none⟩), .int .i64 (F : Int), .pointer (some ⟨Bk, F, none⟩), u27, u28, .pointer (some ⟨w.heap.size, 0, none⟩), .slice (some ⟨b, off, none⟩) m1 sc1, .int .i64 (k : Int), .pointer (some ⟨b, off + k * 2, none⟩), .pointer (some ⟨b, off + k * 2 + 1, none⟩), .int .u16 (cn : Int), .int .i64 (cn : Int), u36, u37, u38, u39, u40, u41, u42, u43, u44, u45, u46, u47, u48, u49, u50, u51, u52, u53, u54], defers := [] } _
          refine anyB_take (i := 9) (.string ⟨X.toArray⟩) rfl (by kernel_rfl) (by kernel_rfl) (by kernel_rfl) (fun c a w h => h) (.inl ⟨rfl, fun w' hw' => by have q := hw'.2; clear hcB; go_simp⟩) ?_
          show anyB Tryd.prog _ _ _ _ _ _ { tmps := #[.agg #[.slice (some ⟨b, off, none⟩) m1 sc1, .slice sa2 m2 sc2, .slice sa3 m3 sc3], .pointer (some ⟨w.heap.size, 0, none⟩), .string ⟨#[]⟩, u3, .int .i64 (k : Int), u5, u6, u7, u8, u9, .bool false, .int .i64 (k : Int), .pointer (some ⟨w.heap.size, 0, none⟩), .slice (some ⟨b, off, none⟩) m1 sc1, .int .i64 (m1 : Int), .bool true, u16, u17, u3, .slice (some ⟨Bk, 0, none⟩) 8 8, .pointer (some ⟨w.heap.size, 0, none⟩), .slice (some ⟨b, off, none⟩) m1 sc1, .int .i64 (k : Int), .pointer (some ⟨b, off + k * 2, none⟩), .pointer (some ⟨b, off + k * 2, none⟩), .int .i64 (F : Int), .pointer (some ⟨Bk, F, none⟩), .string ⟨X.toArray⟩, u28, .pointer (some ⟨w.heap.size, 0, none⟩), .slice (some ⟨b, off, none⟩) m1 sc1, .int .i64 (k : Int), .pointer (some ⟨b, off + k * 2, none⟩), .pointer (some ⟨b, off + k * 2 + 1, none⟩), .int .u16 (cn : Int), .int .i64 (cn : Int), u36, u37, u38, u39, u40, u41, u42, u43, u44, u45, u46, u47, u48, u49, u50, u51, u52, u53, u54], defers := [] } _
          refine anyB_take (i := 10) (.string (⟨X.toArray⟩ ++ ⟨#[61]⟩)) rfl (by kernel_rfl) (by kernel_rfl) (by kernel_rfl) (fun c a w h => h) (.inl ⟨rfl, fun w' hw' => by have q := hw'.2; clear hcB; go_simp⟩) ?_
          show anyB Tryd.prog _ _ _ _ _ _ { tmps := #[.agg #[.slice (some ⟨b, off, none⟩) m1 sc1, .slice sa2 m2 sc2, .slice sa3 m3 sc3], .pointer (some ⟨w.heap.size, 0, none⟩), .string ⟨#[]⟩, u3, .int .i64 (k : Int), u5, u6, u7, u8, u9, .bool false, .int .i64 (k : Int), .pointer (some ⟨w.heap.size, 0, none⟩), .slice (some ⟨b, off, none⟩) m1 sc1, .int .i64 (m1 : Int), .bool true, u16, u17, u3, .slice (some ⟨Bk, 0, none⟩) 8 8, .pointer (some ⟨w.heap.size, 0, none⟩), .slice (some ⟨b, off, none⟩) m1 sc1, .int .i64 (k : Int), .pointer (some ⟨b, off + k * 2, none⟩), .pointer (some ⟨b, off + k * 2, none⟩), .int .i64 (F : Int), .pointer (some ⟨Bk, F, none⟩), .string ⟨X.toArray⟩, .string (⟨X.toArray⟩ ++ ⟨#[61]⟩), .pointer (some ⟨w.heap.size, 0, none⟩), .slice (some ⟨b, off, none⟩) m1 sc1, .int .i64 (k : Int), .pointer (some ⟨b, off + k * 2, none⟩), .pointer (some ⟨b, off + k * 2 + 1, none⟩), .int .u16 (cn : Int), .int .i64 (cn : Int), u36, u37, u38, u39, u40, u41, u42, u43, u44, u45, u46, u47, u48, u49, u50, u51, u52, u53, u54], defers := [] } _
          have x2 : ∀ W, Below wr.heap.size wr W → (W.cell? ⟨w.heap.size, 0, none⟩ = some (.slice (some ⟨b, off, none⟩) m1 sc1) ∧ W.cell? ⟨b, off + k * 2, none⟩ = some (.int .i64 (F : Int)) ∧ W.cell? ⟨b, off + k * 2 + 1, none⟩ = some (.int .u16 (cn : Int))) := fun W hW => ⟨(hW.cell (p := ⟨w.heap.size, 0, none⟩) hlr).trans q0, (hW.cell (p := ⟨b, off + k * 2, none⟩) hbw).trans a0, (hW.cell (p := ⟨b, off + k * 2 + 1, none⟩) hbw).trans a1⟩
          refine anyB_one (i := 18) ⟨x2 w2 HB2.out, hcB⟩ (by kernel_rfl) (op_call (f := 22) (args := #[.int .i64 (cn : Int)]) rfl rfl (by go_simp) (Calls.mono (CDn.out _) ?_))
          rintro e w3 ⟨rfl, hb3⟩
          have HB3 : Hid (Below wr.heap.size wr w3) := HB2.out.trans (hb3.mono HB2.out.size)
          have hcB3 := (hb3.cell (p := ⟨Bk, F, none⟩) hBl).trans hcB
          have hown3 := own_below HO.out HB3.out
          have hw3 := HB3.out.size
          refine ⟨_, rfl, ?_⟩
          show anyB Tryd.prog _ _ _ _ _ _ { tmps := #[.agg #[.slice (some ⟨b, off, none⟩) m1 sc1, .slice sa2 m2 sc2, .slice sa3 m3 sc3], .pointer (some ⟨w.heap.size, 0, none⟩), .string ⟨#[]⟩, u3, .int .i64 (k : Int), u5, u6, u7, u8, u9, .bool false, .int .i64 (k : Int), .pointer (some ⟨w.heap.size, 0, none⟩), .slice (some ⟨b, off, none⟩) m1 sc1, .int .i64 (m1 : Int), .bool true, u16, u17, u3, .slice (some ⟨Bk, 0, none⟩) 8 8, .pointer (some ⟨w.heap.size, 0, none⟩), .slice (some ⟨b, off, none⟩) m1 sc1, .int .i64 (k : Int), .pointer (some ⟨b, off + k * 2, none⟩), .pointer (some ⟨b, off + k * 2, none⟩), .int .i64 (F : Int), .pointer (some ⟨Bk, F, none⟩), .string ⟨X.toArray⟩, .string (⟨X.toArray⟩ ++ ⟨#[61]⟩), .pointer (some ⟨w.heap.size, 0, none⟩), .slice (some ⟨b, off, none⟩) m1 sc1, .int .i64 (k : Int), .pointer (some ⟨b, off + k * 2, none⟩), .pointer (some ⟨b, off + k * 2 + 1, none⟩), .int .u16 (cn : Int), .int .i64 (cn : Int), .string ⟨(decDigits cn).toArray⟩, u37, u38, u39, u40, u41, u42, u43, u44, u45, u46, u47, u48, u49, u50, u51, u52, u53, u54], defers := [] } _
          refine anyB_take (i := 19) (.string (⟨X.toArray⟩ ++ ⟨#[61]⟩ ++ ⟨(decDigits cn).toArray⟩)) rfl (by kernel_rfl) (by kernel_rfl) (by kernel_rfl) (fun c a w h => h) (.inl ⟨rfl, fun w' hw' => by clear q0 a0 a1 hcB hcB3; go_simp⟩) ?_
          show anyB Tryd.prog _ _ _ _ _ _ { tmps := #[.agg #[.slice (some ⟨b, off, none⟩) m1 sc1, .slice sa2 m2 sc2, .slice sa3 m3 sc3], .pointer (some ⟨w.heap.size, 0, none⟩), .string ⟨#[]⟩, u3, .int .i64 (k : Int), u5, u6, u7, u8, u9, .bool false, .int .i64 (k : Int), .pointer (some ⟨w.heap.size, 0, none⟩), .slice (some ⟨b, off, none⟩) m1 sc1, .int .i64 (m1 : Int), .bool true, u16, u17, u3, .slice (some ⟨Bk, 0, none⟩) 8 8, .pointer (some ⟨w.heap.size, 0, none⟩), .slice (some ⟨b, off, none⟩) m1 sc1, .int .i64 (k : Int), .pointer (some ⟨b, off + k * 2, none⟩), .pointer (some ⟨b, off + k * 2, none⟩), .int .i64 (F : Int), .pointer (some ⟨Bk, F, none⟩), .string ⟨X.toArray⟩, .string (⟨X.toArray⟩ ++ ⟨#[61]⟩), .pointer (some ⟨w.heap.size, 0, none⟩), .slice (some ⟨b, off, none⟩) m1 sc1, .int .i64 (k : Int), .pointer (some ⟨b, off + k * 2, none⟩), .pointer (some ⟨b, off + k * 2 + 1, none⟩), .int .u16 (cn : Int), .int .i64 (cn : Int), .string ⟨(decDigits cn).toArray⟩, .string (⟨X.toArray⟩ ++ ⟨#[61]⟩ ++ ⟨(decDigits cn).toArray⟩), u38, u39, u40, u41, u42, u43, u44, u45, u46, u47, u48, u49, u50, u51, u52, u53, u54], defers := [] } _
          rw [hZ]
          have y3 := x2 w3 HB3.out
          refine anyB_one (i := 20) ⟨y3, hcB3⟩ (by kernel_rfl) (op_value (v := .slice (some ⟨w3.heap.size, 0, none⟩) 1 1) (w' := w3.alloc (.cells #[.string Z] 9)) rfl rfl (by go_simp) ?_)
          show anyB Tryd.prog _ _ _ _ _ _ { tmps := #[.agg #[.slice (some ⟨b, off, none⟩) m1 sc1, .slice sa2 m2 sc2, .slice sa3 m3 sc3], .pointer (some ⟨w.heap.size, 0, none⟩), .string ⟨#[]⟩, u3, .int .i64 (k : Int), u5, u6, u7, u8, u9, .bool false, .int .i64 (k : Int), .pointer (some ⟨w.heap.size, 0, none⟩), .slice (some ⟨b, off, none⟩) m1 sc1, .int .i64 (m1 : Int), .bool true, u16, u17, u3, .slice (some ⟨Bk, 0, none⟩) 8 8, .pointer (some ⟨w.heap.size, 0, none⟩), .slice (some ⟨b, off, none⟩) m1 sc1, .int .i64 (k : Int), .pointer (some ⟨b, off + k * 2, none⟩), .pointer (some ⟨b, off + k * 2, none⟩), .int .i64 (F : Int), .pointer (some ⟨Bk, F, none⟩), .string ⟨X.toArray⟩, .string (⟨X.toArray⟩ ++ ⟨#[61]⟩), .pointer (some ⟨w.heap.size, 0, none⟩), .slice (some ⟨b, off, none⟩) m1 sc1, .int .i64 (k : Int), .pointer (some ⟨b, off + k * 2, none⟩), .pointer (some ⟨b, off + k * 2 + 1, none⟩), .int .u16 (cn : Int), .int .i64 (cn : Int), .string ⟨(decDigits cn).toArray⟩, .string Z, .slice (some ⟨w3.heap.size, 0, none⟩) 1 1, u39, u40, u41, u42, u43, u44, u45, u46, u47, u48, u49, u50, u51, u52, u53, u54], defers := [] } _
          have HB3a : Below wr.heap.size wr (w3.alloc (.cells #[.string Z] 9)) := HB3.out.alloc HB3.out.size _
          have hcB3a : (w3.alloc (.cells #[.string Z] 9)).cell? ⟨Bk, F, none⟩ = some (.string ⟨X.toArray⟩) := (((Below.refl _ w3).alloc (Nat.le_refl _) (.cells #[.string Z] 9)).cell (p := ⟨Bk, F, none⟩) (block_lt_of_cell hcB3)).trans hcB3
          refine anyB_one (i := 21) ⟨x2 _ HB3a, hcB3a⟩ (by kernel_rfl) (op_if rfl (step_append_lies _ (by rfl) _ _ _ (by rfl) (w.heap.size + 1) 9 i0 (.string ⟨#[]⟩) 1 16 Tryd.underlying58 hi hz0 hz1 hz2 rfl (by decide) u3 _ _ (by rfl) (hown3.alloc _) ⟨w3.heap.size, 0, none⟩ 1 1 [.string Z] (by rfl) rfl (HNew.out w3) (fun x hx => by simp at hx; rw [hx]; rfl) (by decide) (by unfold maxLen; omega) (by omega) (by simp; omega) (w3.heap.size + 1) (by simp) ?_))
          intro g4 cap4 w4 hown4 hgrow4 hloc4 hlt4
          show anyB Tryd.prog _ _ _ _ _ _ { tmps := #[.agg #[.slice (some ⟨b, off, none⟩) m1 sc1, .slice sa2 m2 sc2, .slice sa3 m3 sc3], .pointer (some ⟨w.heap.size, 0, none⟩), .string ⟨#[]⟩, u3, .int .i64 (k : Int), u5, u6, u7, u8, u9, .bool false, .int .i64 (k : Int), .pointer (some ⟨w.heap.size, 0, none⟩), .slice (some ⟨b, off, none⟩) m1 sc1, .int .i64 (m1 : Int), .bool true, u16, u17, u3, .slice (some ⟨Bk, 0, none⟩) 8 8, .pointer (some ⟨w.heap.size, 0, none⟩), .slice (some ⟨b, off, none⟩) m1 sc1, .int .i64 (k : Int), .pointer (some ⟨b, off + k * 2, none⟩), .pointer (some ⟨b, off + k * 2, none⟩), .int .i64 (F : Int), .pointer (some ⟨Bk, F, none⟩), .string ⟨X.toArray⟩, .string (⟨X.toArray⟩ ++ ⟨#[61]⟩), .pointer (some ⟨w.heap.size, 0, none⟩), .slice (some ⟨b, off, none⟩) m1 sc1, .int .i64 (k : Int), .pointer (some ⟨b, off + k * 2, none⟩), .pointer (some ⟨b, off + k * 2 + 1, none⟩), .int .u16 (cn : Int), .int .i64 (cn : Int), .string ⟨(decDigits cn).toArray⟩, .string Z, .slice (some ⟨w3.heap.size, 0, none⟩) 1 1, .slice (some ⟨g4, 0, none⟩) (k + 1) cap4, u40, u41, u42, u43, u44, u45, u46, u47, u48, u49, u50, u51, u52, u53, u54], defers := [] } _
          have hlb : ∀ j, u3.ownBlock = some j → w.heap.size + 1 ≤ j ∧ j < wr.heap.size := HO.out.lt
          have z3 := x2 _ HB3a
          have b4 : (w4.cell? ⟨w.heap.size, 0, none⟩ = some (.slice (some ⟨b, off, none⟩) m1 sc1) ∧ w4.cell? ⟨b, off + k * 2, none⟩ = some (.int .i64 (F : Int)) ∧ w4.cell? ⟨b, off + k * 2 + 1, none⟩ = some (.int .u16 (cn : Int))) ∧ w4.cell? ⟨Bk, F, none⟩ = some (.string ⟨X.toArray⟩) :=
            ⟨⟨hgrow4.cell z3.1 (fun e => by have := hlb _ e.symm; dsimp only at this; omega), hgrow4.cell z3.2.1 (fun e => by have := hlb _ e.symm; dsimp only at this; omega), hgrow4.cell z3.2.2 (fun e => by have := hlb _ e.symm; dsimp only at this; omega)⟩, hgrow4.cell hcB3a (fun e => by have := hlb _ e.symm; dsimp only at this; omega)⟩
          refine anyB_one (i := 22) b4 (by kernel_rfl) (op_value (v := .slice (some ⟨g4, 0, none⟩) (k + 1) cap4) (w' := w4) rfl rfl rfl ?_)
          show anyB Tryd.prog _ _ _ _ _ _ { tmps := #[.agg #[.slice (some ⟨b, off, none⟩) m1 sc1, .slice sa2 m2 sc2, .slice sa3 m3 sc3], .pointer (some ⟨w.heap.size, 0, none⟩), .string ⟨#[]⟩, .slice (some ⟨g4, 0, none⟩) (k + 1) cap4, .int .i64 (k : Int), u5, u6, u7, u8, u9, .bool false, .int .i64 (k : Int), .pointer (some ⟨w.heap.size, 0, none⟩), .slice (some ⟨b, off, none⟩) m1 sc1, .int .i64 (m1 : Int), .bool true, u16, u17, u3, .slice (some ⟨Bk, 0, none⟩) 8 8, .pointer (some ⟨w.heap.size, 0, none⟩), .slice (some ⟨b, off, none⟩) m1 sc1, .int .i64 (k : Int), .pointer (some ⟨b, off + k * 2, none⟩), .pointer (some ⟨b, off + k * 2, none⟩), .int .i64 (F : Int), .pointer (some ⟨Bk, F, none⟩), .string ⟨X.toArray⟩, .string (⟨X.toArray⟩ ++ ⟨#[61]⟩), .pointer (some ⟨w.heap.size, 0, none⟩), .slice (some ⟨b, off, none⟩) m1 sc1, .int .i64 (k : Int), .pointer (some ⟨b, off + k * 2, none⟩), .pointer (some ⟨b, off + k * 2 + 1, none⟩), .int .u16 (cn : Int), .int .i64 (cn : Int), .string ⟨(decDigits cn).toArray⟩, .string Z, .slice (some ⟨w3.heap.size, 0, none⟩) 1 1, .slice (some ⟨g4, 0, none⟩) (k + 1) cap4, u40, u41, u42, u43, u44, u45, u46, u47, u48, u49, u50, u51, u52, u53, u54], defers := [] } _
          refine anyB_done b4 (by kernel_rfl) ?_
          obtain ⟨HO4, HB4, HR4⟩ := when_step HB.out HB3.out HO.out hgrow4 HRw.out HTk.out HX.out hZ hown4
          have HO5 : Hid _ := HO4
          have HB5 : Hid _ := HB4
          have HR5 : Hid _ := HR4
          clear HO4 HB4 HR4 hown4 hgrow4 hloc4 hlt4 hown3 HB2 HB3 HBd HO HB HRw b4 z3 hlb hcB3a HB3a hcB3 y3 x2 hcB q0 q1 q2 a0 a1
          go_wp2
          go_roundw
          case rel => exact ⟨k + 1, hk1, by go_num, HO5, HB5, HR5⟩
          case measure => simp [intOf]; omega
        · obtain rfl : k = m1 := by omega
          have hO := HO.out
          rw [← E1.out, List.take_length, E1.out] at hO
          have HO2 : Hid (wr.ownsRow (w.heap.size + 1) 9 1 u3 k (strs (r.when.map whenT))) := hO
          clear hO HO hlt
          have HG2 : Hid (∀ c ∈ r.guard, (0 ≤ c.1 ∧ c.1 < 9) ∧ c.2 ≤ 65535) := fun c hc => by have := H2.out c hc; exact ⟨⟨this.1.1, by omega⟩, this.2⟩
          have HG3 : Hid (∀ c ∈ r.thn, (0 ≤ c.1 ∧ c.1 < 9) ∧ c.2 ≤ 65535) := fun c hc => by have := H3.out c hc; exact ⟨⟨this.1.1, by omega⟩, this.2⟩
          have cG := rparts_any r.guard (by rw [E2.out]; omega) HG2.out [61] (by decide) (.slice sa2 m2 sc2) wr (HR.out wr HB.out).at.p2
          have CT : Hid (∀ W, Below w.heap.size w W → Calls Tryd.prog 24 #[.slice sa3 m3 sc3, .string ⟨[58, 61].toArray⟩] W fun e w' => ∃ v', e = .returned v' ∧ w'.ownsRow W.heap.size 9 1 v' r.thn.length (strs (r.thn.map (partS [58, 61]))) ∧ Below W.heap.size W w') := fun W hW => rparts_any r.thn (by rw [E3.out]; omega) HG3.out [58, 61] (by decide) _ W (HR.out W hW).at.p3
          have hqa : ∀ x ∈ r.when.map whenT ++ r.guard.map guardT, x.length ≤ 20 := by
            intro x hx
            rcases List.mem_append.1 hx with hx | hx
            · obtain ⟨c, hc, rfl⟩ := List.mem_map.1 hx
              exact whenT_len c (H1.out c hc).2
            · obtain ⟨c, hc, rfl⟩ := List.mem_map.1 hx
              have := H2.out c hc
              exact guardT_len c (by omega) this.2
          have hqt : ∀ x ∈ r.thn.map thenT, x.length ≤ 20 := by
            intro x hx
            obtain ⟨c, hc, rfl⟩ := List.mem_map.1 hx
            have := H3.out c hc
            exact thenT_len c (by omega) this.2
          have HQA : Hid _ := hqa
          have HQT : Hid _ := hqt
          have hja := joinS_le [32, 38, 32] 20 _ hqa
          have hjt := joinS_le [32, 38, 32] 20 _ hqt
          simp only [List.length_append, List.length_map, List.length_cons, List.length_nil, E1.out, E2.out, E3.out] at hja hjt
          have hja2 : (joinS [32, 38, 32] (r.when.map whenT ++ r.guard.map guardT)).length ≤ 1000 := by omega
          have hjt2 : (joinS [32, 38, 32] (r.thn.map thenT)).length ≤ 1000 := by omega
          clear hqa hqt hja hjt
          go_wp2_with fail
          refine cG.mono ?_
          rintro e w5 ⟨v5, rfl, hown5, hb5⟩
          have HB5 : Hid (Below w.heap.size w w5) := HB.out.trans (hb5.mono hwr)
          have HR5 : Hid (w5.heap[w.heap.size]? = some (robj3 (.slice sa1 k sc1) (.slice sa2 m2 sc2) (.slice sa3 m3 sc3))) := (hb5.block _ hlr).trans HRw.out
          have hownl := own_below HO2.out hb5
          have hn5 : r.guard.length = m2 := E2.out
          rw [hn5] at hown5
          have HO5 : Hid (w5.ownsRow wr.heap.size 9 1 v5 m2 (strs (r.guard.map guardT))) := hown5
          have hw5 := HB5.out.size
          have hl5 := heap_lt HR5.out
          clear hb5 cG q0 q1 q2 HB HRw hown5 hn5 HO2
          obtain ⟨JA, hJA⟩ : ∃ JA, joinS [32, 38, 32] (r.when.map whenT ++ r.guard.map guardT) = JA := ⟨_, rfl⟩
          obtain ⟨JT, hJT⟩ : ∃ JT, joinS [32, 38, 32] (r.thn.map thenT) = JT := ⟨_, rfl⟩
          have HRT : Hid (rulT r = [111, 110, 32] ++ JA ++ [32, 61, 62, 32] ++ JT ++ [32, 46]) := by
            show _ = _
            rw [HT.out, ← hJA, ← hJT]
            unfold ruleT
            simp only [List.append_assoc]
          rw [hJA] at hja2
          rw [hJT] at hjt2
          have HJA : Hid _ := hJA
          have HJT : Hid _ := hJT
          clear hJA hJT
          rcases HO5.out.2 with ⟨hv, hm0⟩ | ⟨g, cap, cur, hv, hg, hgg, hnc, hcm, hcs, htk⟩
          · subst hv
            have HO6 : Hid (w5.ownsRow (w.heap.size + 1) 9 1 u3 k (strs (r.when.map whenT ++ r.guard.map guardT))) := by
              show World.ownsRow _ _ _ _ _ _ _
              have : r.guard = [] := List.length_eq_zero_iff.1 (by rw [E2.out, hm0])
              rw [this, List.map_nil, List.append_nil]
              exact hownl
            have HB6 : Hid (Below w.heap.size w w5) := HB5
            have HR6 : Hid (w5.heap[w.heap.size]? = some (robj3 (.slice sa1 k sc1) (.slice sa2 m2 sc2) (.slice sa3 m3 sc3))) := HR5
            have HOl : Hid (w5.ownsRow (w.heap.size + 1) 9 1 u3 k (strs (r.when.map whenT))) := hownl
            clear HO5 hownl HB5 HR5
            go_wp2_with (at_builtin; refine wpList_append_own_none rfl _ _ 58 rfl (w.heap.size + 1) 9 i0 1 Tryd.underlying58 hi u3 _ _ rfl HOl.out rfl ?_)
            have hJA := HJA.out
            have hJT := HJT.out
            have cJ := rjoin_any (r.when.map whenT ++ r.guard.map guardT) (by simp only [List.length_append, List.length_map, E1.out, E2.out]; omega) HQA.out u3 w5.drew (tx_of_own (own_below HO6.out (below_drewN (Below.refl _ w5) 1)))
            rw [hJA] at cJ
            have HBd : Hid (Below w.heap.size w w5.drew) := below_drewN HB6.out 1
            have HRd : Hid (w5.drew.heap[w.heap.size]? = some (robj3 (.slice sa1 k sc1) (.slice sa2 m2 sc2) (.slice sa3 m3 sc3))) := HR6.out
            obtain ⟨⟨q0, q1, q2⟩, -⟩ := row3 HRd.out
            have CJ : Hid _ := cJ
            have HJT2 : Hid (∀ (v8 : Value) (w8 : World), TxAt w8 v8 (r.thn.map thenT) → Calls Tryd.prog 25 #[v8] w8 fun e w' => e = .returned (.string ⟨JT.toArray⟩) ∧ Below w8.heap.size w8 w') := fun v8 w8 h => by
              have := rjoin_any (r.thn.map thenT) (by simp only [List.length_map, E3.out]; omega) HQT.out v8 w8 h
              rw [hJT] at this
              exact this
            clear cJ hJA hJT
            have z1 : ¬ 9223372036854775807 < 3 + JA.length := by omega
            have z2 : ¬ 9223372036854775807 < 3 + JA.length + 4 := by omega
            have z3 : ¬ 9223372036854775807 < 3 + JA.length + 4 + JT.length := by omega
            have z4 : ¬ 9223372036854775807 < 3 + JA.length + 4 + JT.length + 2 := by omega
            go_wp2_with fail
            go_region_with (first
              | (go_at_call_of 25 u3; refine Calls.mono CJ.out ?_; rintro e w7 ⟨rfl, hb7⟩; have HB7 : Hid (Below w.heap.size w w7) := HBd.out.trans (hb7.mono HBd.out.size); obtain ⟨⟨p0, p1, p2⟩, -⟩ := row3 ((hb7.block _ (heap_lt HRd.out)).trans HRd.out); clear hb7)
              | (go_at_call 24; refine Calls.mono (CT.out w7 HB7.out) ?_; rintro e w8 ⟨v8, rfl, hown8, hb8⟩; have HB8 : Hid (Below w.heap.size w w8) := HB7.out.trans (hb8.mono HB7.out.size); have HT8 : Hid (TxAt w8 v8 (r.thn.map thenT)) := tx_of_own (l := r.thn.map thenT) hown8; clear hb8 hown8)
              | (go_at_call_of 25 v8; refine Calls.mono (HJT2.out v8 w8 HT8.out) ?_; rintro e w9 ⟨rfl, hb9⟩; have HB9 : Hid (Below w.heap.size w w9) := HB8.out.trans (hb9.mono HB8.out.size); clear hb9))
            all_goals
              go_wp2
              go_ret
              exact ⟨by rw [HRT.out]; simp only [← sh_cat]; rfl, HB9.out⟩
          · subst hv
            have hnews : ∀ j u, (strs (r.guard.map guardT))[j]? = some u → w5.cell? ((⟨g, 0, none⟩ : Addr).add j) = some u := by
              intro j u hu
              have hj : j < m2 := by
                have h1 : j < (strs (r.guard.map guardT)).length := by
                  by_cases h : j < (strs (r.guard.map guardT)).length
                  · exact h
                  · rw [List.getElem?_eq_none (by omega)] at hu; cases hu
                rw [strs_len, List.length_map, E2.out] at h1
                exact h1
              rw [show (⟨g, 0, none⟩ : Addr).add j = ⟨g, j, none⟩ by simp [Addr.add]; omega]
              rw [cell_of_row _ _ _ _ _ _ hgg]
              rw [← htk, List.getElem?_take_of_lt (by omega), Array.getElem?_toList] at hu
              exact hu
            have HNews : Hid _ := hnews
            have hone : ∀ u ∈ strs (r.guard.map guardT), u.oneCell' = true := by
              intro u hu
              unfold strs at hu
              obtain ⟨x, -, rfl⟩ := List.mem_map.1 hu
              rfl
            have HOne : Hid _ := hone
            have HLn : Hid ((strs (r.guard.map guardT)).length = m2 * 1) := by show _ = _; rw [strs_len, List.length_map, E2.out, Nat.mul_one]
            have HOl : Hid (w5.ownsRow (w.heap.size + 1) 9 1 u3 k (strs (r.when.map whenT))) := hownl
            clear hnews hone HO5 hgg htk hcs
            go_wp2_with (at_builtin; refine wpList_append_own_at _ rfl _ _ 58 rfl (w.heap.size + 1) 9 i0 (.string ⟨#[]⟩) 1 16 Tryd.underlying58 hi hz0 hz1 hz2 rfl (by decide) u3 _ _ rfl HOl.out ⟨g, 0, none⟩ m2 cap (strs (r.guard.map guardT)) rfl HLn.out HNews.out HOne.out (by unfold maxLen; omega) (by omega) (by omega) ?_; intro v6 w6 hown6 hgrow6 hnil6 hloc6)
            have HB6 : Hid (Below w.heap.size w w6) := Below.grown HB5.out hgrow6 (by omega) (fun j hj => by have := (hownl.lt _ hj).1; omega)
            have HR6 : Hid (w6.heap[w.heap.size]? = some (robj3 (.slice sa1 k sc1) (.slice sa2 m2 sc2) (.slice sa3 m3 sc3))) := (hgrow6.block _ hl5 (fun e => by have := (hownl.lt _ e.symm).1; omega)).trans HR5.out
            have HO6 : Hid (w6.ownsRow (w.heap.size + 1) 9 1 v6 (k + m2) (strs (r.when.map whenT ++ r.guard.map guardT))) := by
              show World.ownsRow _ _ _ _ _ _ _
              rw [strs_app]
              exact hown6
            clear hown6 hgrow6 hnil6 hloc6 hownl HB5 HR5 HNews HOne HLn HOl
            have hJA := HJA.out
            have hJT := HJT.out
            have cJ := rjoin_any (r.when.map whenT ++ r.guard.map guardT) (by simp only [List.length_append, List.length_map, E1.out, E2.out]; omega) HQA.out v6 w6.drew (tx_of_own (own_below HO6.out (below_drewN (Below.refl _ w6) 1)))
            rw [hJA] at cJ
            have HBd : Hid (Below w.heap.size w w6.drew) := below_drewN HB6.out 1
            have HRd : Hid (w6.drew.heap[w.heap.size]? = some (robj3 (.slice sa1 k sc1) (.slice sa2 m2 sc2) (.slice sa3 m3 sc3))) := HR6.out
            obtain ⟨⟨q0, q1, q2⟩, -⟩ := row3 HRd.out
            have CJ : Hid _ := cJ
            have HJT2 : Hid (∀ (v8 : Value) (w8 : World), TxAt w8 v8 (r.thn.map thenT) → Calls Tryd.prog 25 #[v8] w8 fun e w' => e = .returned (.string ⟨JT.toArray⟩) ∧ Below w8.heap.size w8 w') := fun v8 w8 h => by
              have := rjoin_any (r.thn.map thenT) (by simp only [List.length_map, E3.out]; omega) HQT.out v8 w8 h
              rw [hJT] at this
              exact this
            clear cJ hJA hJT
            have z1 : ¬ 9223372036854775807 < 3 + JA.length := by omega
            have z2 : ¬ 9223372036854775807 < 3 + JA.length + 4 := by omega
            have z3 : ¬ 9223372036854775807 < 3 + JA.length + 4 + JT.length := by omega
            have z4 : ¬ 9223372036854775807 < 3 + JA.length + 4 + JT.length + 2 := by omega
            go_wp2_with fail
            go_region_with (first
              | (go_at_call_of 25 v6; refine Calls.mono CJ.out ?_; rintro e w7 ⟨rfl, hb7⟩; have HB7 : Hid (Below w.heap.size w w7) := HBd.out.trans (hb7.mono HBd.out.size); obtain ⟨⟨p0, p1, p2⟩, -⟩ := row3 ((hb7.block _ (heap_lt HRd.out)).trans HRd.out); clear hb7)
              | (go_at_call 24; refine Calls.mono (CT.out w7 HB7.out) ?_; rintro e w8 ⟨v8, rfl, hown8, hb8⟩; have HB8 : Hid (Below w.heap.size w w8) := HB7.out.trans (hb8.mono HB7.out.size); have HT8 : Hid (TxAt w8 v8 (r.thn.map thenT)) := tx_of_own (l := r.thn.map thenT) hown8; clear hb8 hown8)
              | (go_at_call_of 25 v8; refine Calls.mono (HJT2.out v8 w8 HT8.out) ?_; rintro e w9 ⟨rfl, hb9⟩; have HB9 : Hid (Below w.heap.size w w9) := HB8.out.trans (hb9.mono HB8.out.size); clear hb9))
            all_goals
              go_wp2
              go_ret
              exact ⟨by rw [HRT.out]; simp only [← sh_cat]; rfl, HB9.out⟩
    · have d0 : ((cv : Int) != 0) = true := by simp; omega
      have HRB : Hid (¬ ruleB 4 r = true) := fun e => hc0 (HCh.out.2 e)
      have HT : Hid (rulT r = []) := by show _ = _; unfold rulT; rw [if_neg HRB.out]
      rw [d0]
      go_wp2
      go_ret
      exact ⟨by rw [HT.out]; rfl, HB.out⟩
end Go.Proofs.YtebpapmnkbehnaaDoor

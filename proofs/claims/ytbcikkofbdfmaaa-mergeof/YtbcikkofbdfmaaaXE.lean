/- Whether two lists of rows are the same, as the document has it: pointsmanref09.Same; any rows. -/
import Derived.Test.YtbcikkofbdfmaaaXD
import Derived.Lib.QuietBelow
set_option linter.unusedVariables false
set_option linter.unusedSimpArgs false
namespace Go.Proofs.Ytbcikkofbdfmaaa
open Go.RowKit Go.Joins Go.Sort

set_option maxRecDepth 100000 in
set_option maxHeartbeats 8000000 in
theorem rsame_any (v v' : Value) (A B : List Rx) (w : World) (h : RowsAt w v A) (h' : RowsAt w v' B) : Calls Try.prog 25 #[v, v'] w fun e w' => e = .returned (.bool (sameB A B)) ∧ Below w.heap.size w w' := by
  obtain ⟨sa, sc, rfl, hl, -, hc⟩ := h
  obtain ⟨sb, sd, rfl, hl', -, hd⟩ := h'
  have HC := hid hc
  have HD := hid hd
  clear hc hd
  obtain ⟨R, hR⟩ : ∃ R, A.length = R := ⟨_, rfl⟩
  obtain ⟨S, hS⟩ : ∃ S, B.length = S := ⟨_, rfl⟩
  have HR := hid hR
  have HS := hid hS
  rw [hR] at hl ⊢
  rw [hS] at hl' ⊢
  by_cases hRS : R = S
  · subst hRS
    clear hR hS
    have dn : ((R : Int) != (R : Int)) = false := by simp
    go_enter Try.func25, Try.ntmps25
    go_wp2
    go_loopw [5] (fun i wr => ∃ (k : Nat), k ≤ R ∧ i = .int .i64 (k : Int) ∧ Hid (∀ j (h1 : j < A.length) (h2 : j < B.length), j < k → key A[j] = key B[j]) ∧ Hid (Below w.heap.size w wr)) (fun i _ => R - (intOf i).toNat)
    case atStart => exact ⟨0, Nat.zero_le _, rfl, fun j _ _ hj => absurd hj (by omega), Below.refl _ _⟩
    case round =>
      obtain ⟨k, hk, rfl, HN, HB⟩ := hrel
      by_cases hlt : k < R
      · have hlt' : k < A.length := by rw [HR.out]; exact hlt
        have hlt2 : k < B.length := by rw [HS.out]; exact hlt
        have dk : decide ((k : Int) < (R : Int)) = true := by simp; omega
        have hk1 : (k : Int) < (R : Int) := by omega
        obtain ⟨b, off, rfl, hb, x, y, hx, hy, hp⟩ := HC.out k hlt'
        obtain ⟨b', off', rfl, hb', x', y', hx', hy', hp'⟩ := HD.out k hlt2
        have HCX : Hid (∀ W, Below w.heap.size w W → (W.cell? ⟨b, off + k * 2, none⟩ = some x ∧ W.cell? ⟨b, off + k * 2 + 1, none⟩ = some y ∧ W.cell? ⟨b', off' + k * 2, none⟩ = some x' ∧ W.cell? ⟨b', off' + k * 2 + 1, none⟩ = some y') ∧ RowAt W x y A[k] ∧ RowAt W x' y' B[k]) := fun W hW =>
          ⟨⟨(hW.cell (p := ⟨b, off + k * 2, none⟩) hb).trans hx, (hW.cell (p := ⟨b, off + k * 2 + 1, none⟩) hb).trans hy, (hW.cell (p := ⟨b', off' + k * 2, none⟩) hb').trans hx', (hW.cell (p := ⟨b', off' + k * 2 + 1, none⟩) hb').trans hy'⟩, hp.below hW, hp'.below hW⟩
        have HNE : Hid (key A[k] ≠ key B[k] → sameB A B = false) := fun e => sameB_no hlt' hlt2 e
        have HN2 : Hid (key A[k] = key B[k] → ∀ j (h1 : j < A.length) (h2 : j < B.length), j < k + 1 → key A[j] = key B[j]) := fun e j h1 h2 hj => by
          by_cases e2 : j = k
          · subst e2; exact e
          · exact HN.out j h1 h2 (by omega)
        obtain ⟨xa, xc, hxe, -⟩ := hp.1.form
        obtain ⟨ya, yc, hye⟩ := hp.2.form
        obtain ⟨xa', xc', hxe', -⟩ := hp'.1.form
        obtain ⟨ya', yc', hye'⟩ := hp'.2.form
        generalize A[k] = r at *
        generalize B[k] = s at *
        generalize r.m.length = n1 at *
        generalize hn2 : r.a.length = n2 at *
        generalize s.m.length = n3 at *
        generalize hn4 : s.a.length = n4 at *
        have HN2l := hid hn2
        have HN4l := hid hn4
        subst hxe hye hxe' hye'
        clear hx hy hx' hy' hp hp' hn2 hn4
        obtain ⟨⟨c0, c1, c2, c3⟩, hr1, hr2⟩ := HCX.out wr HB.out
        have s0 := cell_regrown c0
        have s1 := cell_regrown c1
        have s2 := cell_regrown c2
        have s3 := cell_regrown c3
        have cM : Hid (∀ d os, Calls Try.prog 38 #[.slice xa n1 xc, .slice xa' n3 xc'] (grow (redrawn wr d) os) fun e w'' => e = .returned (.bool (decide (r.m = s.m))) ∧ ∃ p : Regrown, w'' = grow (redrawn wr p.d) p.os) := fun d os => Calls.regrown_of (eq42 _ _ r.m s.m _ (hr1.1.below (below_regrown wr d os)) (hr2.1.below (below_regrown wr d os)))
        clear hr1 hr2
        by_cases hm : r.m = s.m
        · rw [decide_eq_true hm] at cM
          have HM := hid hm
          clear hm
          by_cases hn : n2 = n4
          · subst hn
            have dn2 : ((n2 : Int) != (n2 : Int)) = false := by simp
            go_wp2
            clear c0 c1 c2 c3
            refine wp_region_quiet_below (by kernel_rfl) (by kernel_rfl) ?_
            repeat (go_big_quiet_step (first | (go_at_call 38; exact cM.out _ _)))
            refine wpQuiet_nil ?_
            intro _ hw'
            obtain ⟨⟨dq, osq⟩, hw''⟩ := hw'
            subst hw''
            have HB2 : Hid (Below w.heap.size w (grow (redrawn wr dq) osq)) := HB.out.trans ((below_regrown wr dq osq).mono HB.out.size)
            generalize (grow (redrawn wr dq) osq) = W at *
            clear s0 s1 s2 s3 cM HB
            go_wp2
            go_loopw [6] (fun mi wx => ∃ (m : Nat), m ≤ n2 ∧ mi = .int .i64 (m : Int) ∧ Hid (∀ j (h1 : j < r.a.length) (h2 : j < s.a.length), j < m → r.a[j] = s.a[j]) ∧ Hid (Below w.heap.size w wx)) (fun mi _ => n2 - (intOf mi).toNat)
            case atStart => exact ⟨0, Nat.zero_le _, rfl, fun j _ _ hj => absurd hj (by omega), HB2⟩
            case round =>
              clear HB2
              obtain ⟨m, hmn, rfl, HA, HB⟩ := hrel
              obtain ⟨⟨c0, c1, c2, c3⟩, hr1, hr2⟩ := HCX.out wr HB.out
              by_cases hlm : m < n2
              · have hlm' : m < r.a.length := by have h9 := HN2l.out; omega
                have hlm2 : m < s.a.length := by have h9 := HN4l.out; omega
                have dm : decide ((m : Int) < (n2 : Int)) = true := by simp; omega
                have hm1 : (m : Int) < (n2 : Int) := by omega
                have h63 : n2 ≤ 9223372036854775807 := by obtain ⟨_, _, _, h9, _⟩ := hr1.2; have h8 := HN2l.out; omega
                obtain ⟨b2, off2, b3, off3, u, u', hya, hya', hu, hu', hpu, hpu'⟩ : ∃ b2 off2 b3 off3 u u', ya = some ⟨b2, off2, none⟩ ∧ ya' = some ⟨b3, off3, none⟩ ∧ wr.cell? ⟨b2, off2 + m, none⟩ = some u ∧ wr.cell? ⟨b3, off3 + m, none⟩ = some u' ∧ PairsAny wr u r.a[m] ∧ PairsAny wr u' s.a[m] := by
                  obtain ⟨sa1, sc1, e1, -, hcc⟩ := hr1.2
                  obtain ⟨sa2, sc2, e2, -, hcc2⟩ := hr2.2
                  injection e1 with e1 _ _
                  injection e2 with e2 _ _
                  subst e1 e2
                  obtain ⟨b2, off2, q1, -, u, q3, q4⟩ := hcc m hlm'
                  obtain ⟨b3, off3, p1, -, u', p3, p4⟩ := hcc2 m hlm2
                  exact ⟨b2, off2, b3, off3, u, u', q1, p1, q3, p3, q4, p4⟩
                subst hya hya'
                have HNE2 : Hid (r.a[m] ≠ s.a[m] → sameB A B = false) := fun e => HNE.out fun e2 => ne_at hlm' hlm2 e (congrArg Prod.snd e2)
                have HA2 : Hid (r.a[m] = s.a[m] → ∀ j (h1 : j < r.a.length) (h2 : j < s.a.length), j < m + 1 → r.a[j] = s.a[j]) := fun e j h1 h2 hj => by
                  by_cases e2 : j = m
                  · subst e2; exact e
                  · exact HA.out j h1 h2 (by omega)
                have s0 := cell_regrown c0
                have s1 := cell_regrown c1
                have s2 := cell_regrown c2
                have s3 := cell_regrown c3
                have s4 := cell_regrown hu
                have s5 := cell_regrown hu'
                have cM : Hid (∀ d os, Calls Try.prog 38 #[u, u'] (grow (redrawn wr d) os) fun e w'' => e = .returned (.bool (decide (r.a[m] = s.a[m]))) ∧ ∃ p : Regrown, w'' = grow (redrawn wr p.d) p.os) := fun d os => Calls.regrown_of (eq42 _ _ r.a[m] s.a[m] _ (hpu.below (below_regrown wr d os)) (hpu'.below (below_regrown wr d os)))
                clear hr1 hr2 hpu hpu'
                by_cases hq : r.a[m] = s.a[m]
                · rw [decide_eq_true hq] at cM
                  have HA3 := hid (HA2.out hq)
                  clear hq
                  go_wp2
                  clear c0 c1 c2 c3 hu hu'
                  refine wp_region_quiet_below (by kernel_rfl) (by kernel_rfl) ?_
                  repeat (go_big_quiet_step (first | (go_at_call 38; exact cM.out _ _)))
                  refine wpQuiet_nil ?_
                  intro _ hw'
                  obtain ⟨⟨dq, osq⟩, hw''⟩ := hw'
                  subst hw''
                  have HB2 : Hid (Below w.heap.size w (grow (redrawn wr dq) osq)) := HB.out.trans ((below_regrown wr dq osq).mono HB.out.size)
                  generalize (grow (redrawn wr dq) osq) = W at *
                  clear s0 s1 s2 s3 s4 s5 cM HB
                  go_wp2
                  go_roundw
                  case rel => exact ⟨m + 1, by omega, by go_num, HA3, HB2⟩
                  case measure => simp [intOf]; omega
                · rw [decide_eq_false hq] at cM
                  have HE := hid (HNE2.out hq)
                  clear hq
                  go_wp2
                  clear c0 c1 c2 c3 hu hu'
                  refine wp_region_quiet_below (by kernel_rfl) (by kernel_rfl) ?_
                  repeat (go_big_quiet_step (first | (go_at_call 38; exact cM.out _ _)))
                  refine wpQuiet_nil ?_
                  intro _ hw'
                  obtain ⟨⟨dq, osq⟩, hw''⟩ := hw'
                  subst hw''
                  have HB2 : Hid (Below w.heap.size w (grow (redrawn wr dq) osq)) := HB.out.trans ((below_regrown wr dq osq).mono HB.out.size)
                  go_wp2
                  go_ret
                  exact ⟨by rw [HE.out]; rfl, HB2.out⟩
              · obtain rfl : m = n2 := by omega
                have dm : decide ((m : Int) < (m : Int)) = false := by simp
                have hra : r.a = s.a := eq_all (HN2l.out.trans HN4l.out.symm) fun j h1 h2 => HA.out j h1 h2 (by have h9 := HN2l.out; omega)
                have HN3 := hid (HN2.out (by unfold key; rw [HM.out, hra]))
                clear hr1 hr2 hra
                go_wp2
                go_roundw
                case rel => exact ⟨k + 1, by omega, by go_num, HN3, HB⟩
                case measure => simp [intOf]; omega
          · have dn2 : ((n2 : Int) != (n4 : Int)) = true := by simp; omega
            have HE : Hid (sameB A B = false) := HNE.out fun e => hn (by rw [← HN2l.out, ← HN4l.out]; exact congrArg (fun z : Prs × List Prs => z.2.length) e)
            go_wp2
            clear c0 c1 c2 c3
            refine wp_region_quiet_below (by kernel_rfl) (by kernel_rfl) ?_
            repeat (go_big_quiet_step (first | (go_at_call 38; exact cM.out _ _)))
            refine wpQuiet_nil ?_
            intro _ hw'
            obtain ⟨⟨dq, osq⟩, hw''⟩ := hw'
            subst hw''
            have HB2 : Hid (Below w.heap.size w (grow (redrawn wr dq) osq)) := HB.out.trans ((below_regrown wr dq osq).mono HB.out.size)
            go_wp2
            go_ret
            exact ⟨by rw [HE.out]; rfl, HB2.out⟩
        · have HE : Hid (sameB A B = false) := HNE.out fun e => hm (congrArg Prod.fst e)
          rw [decide_eq_false hm] at cM
          clear hm
          go_wp2
          clear c0 c1 c2 c3
          refine wp_region_quiet_below (by kernel_rfl) (by kernel_rfl) ?_
          repeat (go_big_quiet_step (first | (go_at_call 38; exact cM.out _ _)))
          refine wpQuiet_nil ?_
          intro _ hw'
          obtain ⟨⟨dq, osq⟩, hw''⟩ := hw'
          subst hw''
          have HB2 : Hid (Below w.heap.size w (grow (redrawn wr dq) osq)) := HB.out.trans ((below_regrown wr dq osq).mono HB.out.size)
          go_wp2
          go_ret
          exact ⟨by rw [HE.out]; rfl, HB2.out⟩
      · obtain rfl : k = R := by omega
        have dk : decide ((k : Int) < (k : Int)) = false := by simp
        have HE : Hid (sameB A B = true) := sameB_yes (HR.out.trans HS.out.symm) fun j h1 h2 => HN.out j h1 h2 (by rw [HR.out] at h1; exact h1)
        go_wp2
        go_ret
        exact ⟨by rw [HE.out]; rfl, HB.out⟩
  · have HE : Hid (sameB A B = false) := sameB_len fun e => hRS (by rw [← hR, ← hS, e])
    have dn : ((R : Int) != (S : Int)) = true := by simp; omega
    clear hR hS
    go_enter Try.func25, Try.ntmps25
    go_wp2
    go_ret
    exact ⟨by rw [HE.out]; rfl, Below.refl _ _⟩
end Go.Proofs.Ytbcikkofbdfmaaa

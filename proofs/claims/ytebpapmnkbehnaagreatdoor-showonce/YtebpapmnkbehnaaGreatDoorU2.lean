/- What the document's SamePairs and SamePol answer of the same pairs and policies: true. -/
import Derived.Test.YtebpapmnkbehnaaGreatDoorK11
import Derived.Test.YtebpapmnkbehnaaGreatDoorV6
import Derived.Lib.QuietBelow
import Derived.Deep.RegionWith
set_option linter.unusedVariables false
set_option linter.unusedSimpArgs false
namespace Go.Proofs.YtebpapmnkbehnaaGreatDoor
open Go.RowKit Go.Joins Go.Lib Go.Sort

set_option maxRecDepth 100000 in
set_option maxHeartbeats 4000000 in
theorem samePairs_any (L : List Pr) (hm : L.length ≤ 100000) (v v' : Value) (w : World) (h : Prs w v L) (h' : Prs w v' L) :
    Calls Tryz.prog 28 #[v, v'] w fun e w' => e = .returned (.bool true) ∧ Below w.heap.size w w' := by
  obtain ⟨sa, sc, rfl, hc⟩ := h
  obtain ⟨sb, sd, rfl, hd⟩ := h'
  have HC : Hid _ := hc
  have HD : Hid _ := hd
  clear hc hd
  go_enter Tryz.func28, Tryz.ntmps28
  go_wp2
  go_loopw [5] (fun i wr => ∃ k : Nat, k ≤ L.length ∧ i = .int .i64 (k : Int) ∧ Hid (Below w.heap.size w wr)) (fun i _ => L.length - (intOf i).toNat)
  case atStart => exact ⟨0, Nat.zero_le _, rfl, Below.refl _ _⟩
  case round =>
    obtain ⟨k, hkl, rfl, HB⟩ := hrel
    by_cases hlt : k < L.length
    · obtain ⟨b, off, rfl, hb, hc⟩ := HC.out k hlt
      obtain ⟨b', off', rfl, hb', hd⟩ := HD.out k hlt
      obtain ⟨a0, a1⟩ := hc.same (HB.out.block b hb)
      obtain ⟨c0, c1⟩ := hd.same (HB.out.block b' hb')
      generalize L[k] = c at *
      obtain ⟨cf, cn⟩ := c
      dsimp only at a0 a1 c0 c1
      clear hc hd
      have hwr := HB.out.size
      go_wp2_with fail
      go_quiet (fail)
      have HBq : Hid (Below w.heap.size w (wr.drewN nq)) := below_drewN HB.out nq
      clear a0 a1 c0 c1 HB
      go_wp2
      go_roundw
      case rel => exact ⟨k + 1, by omega, by go_num, HBq⟩
      case measure => simp [intOf]; omega
    · obtain rfl : k = L.length := by omega
      go_wp2
      go_ret
      exact ⟨rfl, HB.out⟩
set_option maxRecDepth 100000 in
set_option maxHeartbeats 4000000 in
theorem samePol_any {P Q : Nat → Prop} : ∀ (m : Nat) (T : Pl) (x y : Nd) (w : World), sizeP T ≤ m → m ≤ 100000 → PolAt P w T x → PolAt Q w T y → Calls Tryz.prog 27 #[nv x, nv y] w fun e w' => e = .returned (.bool true) ∧ Below w.heap.size w w'
  | 0, T, x, y, w, h, _, _, _ => absurd (size_pos T) (by omega)
  | m + 1, .mk op f n kids, x, y, w, hs, hm, hp, hq => by
    obtain ⟨sa, sc, rfl, hk⟩ := hp.open
    obtain ⟨sb, sd, rfl, hl⟩ := hq.open
    have ih := fun T x y w h => samePol_any (P := P) (Q := Q) m T x y w h (by omega)
    rw [sizeP_mk] at hs
    have hle := len_le kids
    have HK : Hid _ := hk
    have HL : Hid _ := hl
    have IH : Hid _ := ih
    clear hk ih hp hq hl
    go_enter Tryz.func27, Tryz.ntmps27
    go_wp2
    go_loopw [5] (fun i wr => ∃ k : Nat, k ≤ kids.length ∧ i = .int .i64 (k : Int) ∧ Hid (Below w.heap.size w wr) ∧ Hid (wr.heap[w.heap.size]? = some (pobj ⟨op, f, n, .slice sa kids.length sc⟩)) ∧ Hid (wr.heap[w.heap.size + 1]? = some (pobj ⟨op, f, n, .slice sb kids.length sd⟩))) (fun i _ => kids.length - (intOf i).toNat)
    case atStart => exact ⟨0, Nat.zero_le _, rfl, ((Below.refl _ w).alloc (Nat.le_refl _) _).alloc (by simp) _, (Below.heap_alloc _ _ _ (by simp)).trans (heap_alloc_new w _), heap_new2 w _ _⟩
    case round =>
      obtain ⟨k, hkl, rfl, HB, HR1, HR2⟩ := hrel
      obtain ⟨q0, q1, q2, q3⟩ := row4 HR1.out
      obtain ⟨r0, r1, r2, r3⟩ := row4 HR2.out
      have hwr := HB.out.size
      by_cases hlt : k < kids.length
      · obtain ⟨b, off, sa2, n2, sc2, y0, y1, y2, rfl, hb, ha, hp⟩ := HK.out k hlt
        obtain ⟨b', off', sa2', n2', sc2', y0', y1', y2', rfl, hb', ha', hp'⟩ := HL.out k hlt
        obtain ⟨a0, a1, a2, a3⟩ := ha.same (HB.out.block b hb)
        obtain ⟨c0, c1, c2, c3⟩ := ha'.same (HB.out.block b' hb')
        have hsz := size_get kids k hlt
        have kb : ∀ d os, Below wr.heap.size wr (grow (redrawn wr d) os) := fun d os => below_regrown wr d os
        have c27 : Hid (∀ d os, Calls Tryz.prog 27 #[nv ⟨y0, y1, y2, .slice sa2 n2 sc2⟩, nv ⟨y0', y1', y2', .slice sa2' n2' sc2'⟩] (grow (redrawn wr d) os) fun e w'' => e = .returned (.bool true) ∧ ∃ p : Regrown, w'' = grow (redrawn wr p.d) p.os) := fun d os => Calls.regrown_of (IH.out kids[k] _ _ (grow (redrawn wr d) os) (by omega) ((hp.below HB.out).below (kb d os)) ((hp'.below HB.out).below (kb d os)))
        clear hp hp' ha ha' hsz kb
        go_wp2_with fail
        have s3 := cell_regrown q3; have t3 := cell_regrown r3
        have u0 := cell_regrown a0; have u1 := cell_regrown a1; have u2 := cell_regrown a2; have u3' := cell_regrown a3
        have v0 := cell_regrown c0; have v1 := cell_regrown c1; have v2 := cell_regrown c2; have v3 := cell_regrown c3
        clear q0 q1 q2 q3 r0 r1 r2 r3 a0 a1 a2 a3 c0 c1 c2 c3
        refine wp_region_quiet_below (by kernel_rfl) (by kernel_rfl) ?_
        repeat (go_big_quiet_step (first | (go_at_call 27; exact c27.out _ _)))
        refine wpQuiet_nil ?_
        intro _ hw'
        obtain ⟨⟨dq, osq⟩, hw''⟩ := hw'
        subst hw''
        have hbE := below_regrown wr dq osq
        have HBE : Hid (Below w.heap.size w (grow (redrawn wr dq) osq)) := HB.out.trans (hbE.mono hwr)
        have HE1 : Hid ((grow (redrawn wr dq) osq).heap[w.heap.size]? = some (pobj ⟨op, f, n, .slice (some ⟨b, off, none⟩) kids.length sc⟩)) := (hbE.block _ (heap_lt HR1.out)).trans HR1.out
        have HE2 : Hid ((grow (redrawn wr dq) osq).heap[w.heap.size + 1]? = some (pobj ⟨op, f, n, .slice (some ⟨b', off', none⟩) kids.length sd⟩)) := (hbE.block _ (heap_lt HR2.out)).trans HR2.out
        clear s3 t3 u0 u1 u2 u3' v0 v1 v2 v3 c27 HB HR1 HR2 hbE
        generalize (grow (redrawn wr dq) osq) = WE at *
        go_wp2
        go_roundw
        case rel => exact ⟨k + 1, by omega, by go_num, HBE, HE1, HE2⟩
        case measure => simp [intOf]; omega
      · obtain rfl : k = kids.length := by omega
        go_wp2
        go_ret
        exact ⟨rfl, HB.out⟩

end Go.Proofs.YtebpapmnkbehnaaGreatDoor
/- What the document's Same answers of two programs that are the same: true. -/
set_option linter.unusedVariables false
set_option linter.unusedSimpArgs false
namespace Go.Proofs.YtebpapmnkbehnaaGreatDoor
open Go.RowKit Go.Joins Go.Lib Go.Sort

set_option maxRecDepth 100000 in
set_option maxHeartbeats 4000000 in
theorem same_any {P Q : Nat → Prop} (p : Pg) (iv iv' : Value) (x y : Nd) (rv rv' : Value) (hs : PgShort p) (w : World) (h : PgAt P w iv x rv p) (h' : PgAt Q w iv' y rv' p) (hI : NmAt w iv p.init) (hI' : NmAt w iv' p.init) :
    Calls Tryz.prog 11 #[pgv iv x rv, pgv iv' y rv'] w fun e w' => e = .returned (.bool true) ∧ Below w.heap.size w w' := by
  have hb0 : Below w.heap.size w ((w.alloc (gobj iv x rv)).alloc (gobj iv' y rv')) := ((Below.refl _ w).alloc (Nat.le_refl _) _).alloc (by simp) _
  have HB0 : Hid _ := hb0
  have HW1 : Hid (((w.alloc (gobj iv x rv)).alloc (gobj iv' y rv')).heap[w.heap.size]? = some (gobj iv x rv)) := (Below.heap_alloc _ _ _ (by simp)).trans (heap_alloc_new w _)
  have HW2 : Hid (((w.alloc (gobj iv x rv)).alloc (gobj iv' y rv')).heap[w.heap.size + 1]? = some (gobj iv' y rv')) := heap_new2 w _ _
  have cP := samePol_any 100000 p.pol x y _ hs.s (by decide) (h.pol.below hb0) (h'.pol.below hb0)
  obtain ⟨sa, sc, rfl, hci⟩ := hI
  obtain ⟨sa', sc', rfl, hci'⟩ := hI'
  obtain ⟨sr, scr, rfl, hcr⟩ := h.rul
  obtain ⟨sr', scr', rfl, hcr'⟩ := h'.rul
  obtain ⟨-, -, -, sk, skc, hkv⟩ := h.pol.shape
  obtain ⟨xo, xf, xn, xk⟩ := x
  dsimp only at hkv
  subst hkv
  obtain ⟨-, -, -, sk', skc', hkv⟩ := h'.pol.shape
  obtain ⟨yo, yf, yn, yk⟩ := y
  dsimp only at hkv
  subst hkv
  have HCI : Hid _ := hci
  have HCI' : Hid _ := hci'
  have HCR : Hid _ := hcr
  have HCR' : Hid _ := hcr'
  have HL : Hid (∀ r ∈ p.rules, RlShort r) := hs.l
  have hni := hs.i
  have hnr := hs.r
  generalize p.pol.kids.length = kn at *
  clear h h' hb0 hs hci hcr hci' hcr'
  go_enter Tryz.func11, Tryz.ntmps11
  go_wp2_with fail
  refine cP.mono ?_
  rintro e w1 ⟨rfl, hb1⟩
  have HB1 : Hid (Below w.heap.size w w1) := HB0.out.trans (hb1.mono HB0.out.size)
  have HR1 : Hid (w1.heap[w.heap.size]? = some (gobj (.slice sa p.init.length sc) ⟨xo, xf, xn, .slice sk kn skc⟩ (.slice sr p.rules.length scr))) := (hb1.block _ (heap_lt HW1.out)).trans HW1.out
  have HR2 : Hid (w1.heap[w.heap.size + 1]? = some (gobj (.slice sa' p.init.length sc') ⟨yo, yf, yn, .slice sk' kn skc'⟩ (.slice sr' p.rules.length scr'))) := (hb1.block _ (heap_lt HW2.out)).trans HW2.out
  clear hb1 cP HB0 HW1 HW2
  go_wp2
  go_loopw [5] (fun i wr => ∃ k : Nat, k ≤ p.init.length ∧ i = .int .i64 (k : Int) ∧ Hid (Below w.heap.size w wr) ∧ Hid (wr.heap[w.heap.size]? = some (gobj (.slice sa p.init.length sc) ⟨xo, xf, xn, .slice sk kn skc⟩ (.slice sr p.rules.length scr))) ∧ Hid (wr.heap[w.heap.size + 1]? = some (gobj (.slice sa' p.init.length sc') ⟨yo, yf, yn, .slice sk' kn skc'⟩ (.slice sr' p.rules.length scr')))) (fun i _ => p.init.length - (intOf i).toNat)
  case atStart => exact ⟨0, Nat.zero_le _, rfl, HB1, HR1, HR2⟩
  case round =>
    clear HB1 HR1 HR2
    obtain ⟨k, hkl, rfl, HB, HR1, HR2⟩ := hrel
    obtain ⟨q0, q1, q2, q3, q4, q5⟩ := row6 HR1.out
    obtain ⟨r0, r1, r2, r3, r4, r5⟩ := row6 HR2.out
    by_cases hlt : k < p.init.length
    · obtain ⟨b, off, rfl, hb, hc⟩ := HCI.out k hlt
      obtain ⟨b', off', rfl, hb', hd⟩ := HCI'.out k hlt
      have a0 := (HB.out.cell (p := ⟨b, off + k, none⟩) hb).trans hc
      have c0 := (HB.out.cell (p := ⟨b', off' + k, none⟩) hb').trans hd
      generalize p.init[k] = c at *
      clear hc hd
      go_wp2_with fail
      go_quiet (fail)
      have HBq : Hid (Below w.heap.size w (wr.drewN nq)) := below_drewN HB.out nq
      clear a0 c0 HB q0 q1 q2 q3 q4 q5 r0 r1 r2 r3 r4 r5
      go_wp2
      go_roundw
      case rel => exact ⟨k + 1, by omega, by go_num, HBq, HR1, HR2⟩
      case measure => simp [intOf]; omega
    · obtain rfl : k = p.init.length := by omega
      go_wp2_with fail
      clear q0 q1 q2 q3 q4 q5 r0 r1 r2 r3 r4 r5
      go_loopw [6] (fun i wr => ∃ k : Nat, k ≤ p.rules.length ∧ i = .int .i64 (k : Int) ∧ Hid (Below w.heap.size w wr) ∧ Hid (wr.heap[w.heap.size]? = some (gobj (.slice sa p.init.length sc) ⟨xo, xf, xn, .slice sk kn skc⟩ (.slice sr p.rules.length scr))) ∧ Hid (wr.heap[w.heap.size + 1]? = some (gobj (.slice sa' p.init.length sc') ⟨yo, yf, yn, .slice sk' kn skc'⟩ (.slice sr' p.rules.length scr')))) (fun i _ => p.rules.length - (intOf i).toNat)
      case atStart => exact ⟨0, Nat.zero_le _, rfl, HB, HR1, HR2⟩
      case round =>
        clear HB HR1 HR2 hkl hlt
        obtain ⟨k, hkl, rfl, HB, HR1, HR2⟩ := hrel
        obtain ⟨q0, q1, q2, q3, q4, q5⟩ := row6 HR1.out
        obtain ⟨r0, r1, r2, r3, r4, r5⟩ := row6 HR2.out
        have hwr := HB.out.size
        have hl1 := heap_lt HR1.out
        have hl2 := heap_lt HR2.out
        by_cases hlt : k < p.rules.length
        · obtain ⟨b, off, v1, v2, v3, rfl, -, hb, ⟨c0, c1, c2⟩, hr⟩ := HCR.out k hlt
          obtain ⟨b', off', v1', v2', v3', rfl, -, hb', ⟨d0, d1, d2⟩, hr'⟩ := HCR'.out k hlt
          have a0 := (HB.out.cell (p := ⟨b, off + k * 3, none⟩) hb).trans c0
          have a1 := (HB.out.cell (p := ⟨b, off + k * 3 + 1, none⟩) hb).trans c1
          have a2 := (HB.out.cell (p := ⟨b, off + k * 3 + 2, none⟩) hb).trans c2
          have e0 := (HB.out.cell (p := ⟨b', off' + k * 3, none⟩) hb').trans d0
          have e1 := (HB.out.cell (p := ⟨b', off' + k * 3 + 1, none⟩) hb').trans d1
          have e2 := (HB.out.cell (p := ⟨b', off' + k * 3 + 2, none⟩) hb').trans d2
          have hsh := HL.out _ (List.getElem_mem hlt)
          have hbw : b < wr.heap.size := by omega
          have hbw' : b' < wr.heap.size := by omega
          have C1 : Hid (∀ W, Below w.heap.size w W → Calls Tryz.prog 28 #[v1, v1'] W fun e w' => e = .returned (.bool true) ∧ Below W.heap.size W w') := fun W hW => samePairs_any p.rules[k].when hsh.1 _ _ W (hr.at.p1.below hW) (hr'.at.p1.below hW)
          have C2 : Hid (∀ W, Below w.heap.size w W → Calls Tryz.prog 28 #[v2, v2'] W fun e w' => e = .returned (.bool true) ∧ Below W.heap.size W w') := fun W hW => samePairs_any p.rules[k].guard hsh.2.1 _ _ W (hr.at.p2.below hW) (hr'.at.p2.below hW)
          have C3 : Hid (∀ W, Below w.heap.size w W → Calls Tryz.prog 28 #[v3, v3'] W fun e w' => e = .returned (.bool true) ∧ Below W.heap.size W w') := fun W hW => samePairs_any p.rules[k].thn hsh.2.2 _ _ W (hr.at.p3.below hW) (hr'.at.p3.below hW)
          obtain ⟨t1, u1, rfl⟩ := hr.at.p1.shape
          obtain ⟨t2, u2, rfl⟩ := hr.at.p2.shape
          obtain ⟨t3, u3, rfl⟩ := hr.at.p3.shape
          obtain ⟨t1', u1', rfl⟩ := hr'.at.p1.shape
          obtain ⟨t2', u2', rfl⟩ := hr'.at.p2.shape
          obtain ⟨t3', u3', rfl⟩ := hr'.at.p3.shape
          clear c0 c1 c2 d0 d1 d2 hr hr' hsh
          generalize p.rules[k].when.length = m1 at *
          generalize p.rules[k].guard.length = m2 at *
          generalize p.rules[k].thn.length = m3 at *
          go_wp2_with fail
          have HA : Hid (Below w.heap.size w ((wr.alloc (robj3 (.slice t1 m1 u1) (.slice t2 m2 u2) (.slice t3 m3 u3))).alloc (robj3 (.slice t1' m1 u1') (.slice t2' m2 u2') (.slice t3' m3 u3')))) := (HB.out.alloc hwr _).alloc (by simp; omega) _
          have HAw : Hid (Below wr.heap.size wr ((wr.alloc (robj3 (.slice t1 m1 u1) (.slice t2 m2 u2) (.slice t3 m3 u3))).alloc (robj3 (.slice t1' m1 u1') (.slice t2' m2 u2') (.slice t3' m3 u3')))) := ((Below.refl _ wr).alloc (Nat.le_refl _) _).alloc (by simp) _
          have HX : Hid (((wr.alloc (robj3 (.slice t1 m1 u1) (.slice t2 m2 u2) (.slice t3 m3 u3))).alloc (robj3 (.slice t1' m1 u1') (.slice t2' m2 u2') (.slice t3' m3 u3'))).heap[wr.heap.size]? = some (robj3 (.slice t1 m1 u1) (.slice t2 m2 u2) (.slice t3 m3 u3))) := (Below.heap_alloc _ _ _ (by simp)).trans (heap_alloc_new wr _)
          have HY : Hid (((wr.alloc (robj3 (.slice t1 m1 u1) (.slice t2 m2 u2) (.slice t3 m3 u3))).alloc (robj3 (.slice t1' m1 u1') (.slice t2' m2 u2') (.slice t3' m3 u3'))).heap[wr.heap.size + 1]? = some (robj3 (.slice t1' m1 u1') (.slice t2' m2 u2') (.slice t3' m3 u3'))) := heap_new2 wr _ _
          clear q0 q1 q2 q3 q4 q5 r0 r1 r2 r3 r4 r5 a0 a1 a2 e0 e1 e2
          refine (C1.out _ HA.out).mono ?_
          rintro e w2 ⟨rfl, hb2⟩
          have HB2 : Hid (Below wr.heap.size wr w2) := HAw.out.trans (hb2.mono HAw.out.size)
          obtain ⟨⟨x0, x1, x2⟩, -⟩ := row3 ((hb2.block _ (heap_lt HX.out)).trans HX.out)
          obtain ⟨⟨z0, z1, z2⟩, -⟩ := row3 ((hb2.block _ (heap_lt HY.out)).trans HY.out)
          have HX2 : Hid _ := (hb2.block _ (heap_lt HX.out)).trans HX.out
          have HY2 : Hid _ := (hb2.block _ (heap_lt HY.out)).trans HY.out
          clear hb2 C1 HA HAw HX HY
          go_wp2_with fail
          refine (C2.out _ (HB.out.trans (HB2.out.mono hwr))).mono ?_
          rintro e w3 ⟨rfl, hb3⟩
          have HB3 : Hid (Below wr.heap.size wr w3) := HB2.out.trans (hb3.mono HB2.out.size)
          clear x0 x1 x2 z0 z1 z2
          obtain ⟨⟨x0, x1, x2⟩, -⟩ := row3 ((hb3.block _ (heap_lt HX2.out)).trans HX2.out)
          obtain ⟨⟨z0, z1, z2⟩, -⟩ := row3 ((hb3.block _ (heap_lt HY2.out)).trans HY2.out)
          clear hb3 C2 HB2 HX2 HY2
          go_wp2_with fail
          refine (C3.out _ (HB.out.trans (HB3.out.mono hwr))).mono ?_
          rintro e w4 ⟨rfl, hb4⟩
          have HB4 : Hid (Below wr.heap.size wr w4) := HB3.out.trans (hb4.mono HB3.out.size)
          have HBE : Hid (Below w.heap.size w w4) := HB.out.trans (HB4.out.mono hwr)
          have HE1 : Hid _ := (HB4.out.block _ hl1).trans HR1.out
          have HE2 : Hid _ := (HB4.out.block _ hl2).trans HR2.out
          clear x0 x1 x2 z0 z1 z2 hb4 C3 HB3 HB4
          go_wp2
          go_roundw
          case rel => exact ⟨k + 1, by omega, by go_num, HBE, HE1, HE2⟩
          case measure => simp [intOf]; omega
        · obtain rfl : k = p.rules.length := by omega
          go_wp2
          go_ret
          exact ⟨rfl, HB.out⟩
end Go.Proofs.YtebpapmnkbehnaaGreatDoor

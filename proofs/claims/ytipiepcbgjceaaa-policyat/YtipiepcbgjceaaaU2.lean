/- What the document's SamePairs and SamePol answer of the same pairs and policies: true. -/
import Derived.Test.YtipiepcbgjceaaaK10
import Derived.Lib.QuietBelow
import Derived.Deep.RegionWith
set_option linter.unusedVariables false
set_option linter.unusedSimpArgs false
namespace Go.Proofs.Ytipiepcbgjceaaa
open Go.RowKit Go.Joins Go.Lib Go.Sort

set_option maxRecDepth 100000 in
set_option maxHeartbeats 4000000 in
theorem samePol_any {P Q : Nat → Prop} : ∀ (m : Nat) (T : Pl) (x y : Nd) (w : World), sizeP T ≤ m → m ≤ 100000 → PolAt P w T x → PolAt Q w T y → Calls Try.prog 14 #[nv x, nv y] w fun e w' => e = .returned (.bool true) ∧ Below w.heap.size w w'
  | 0, T, x, y, w, h, _, _, _ => absurd (size_pos T) (by omega)
  | m + 1, .mk op f n kids, x, y, w, hs, hm, hp, hq => by
    obtain ⟨sa, sc, rfl, hk⟩ := hp.open
    obtain ⟨sb, sd, rfl, hl⟩ := hq.open
    have ih := fun T x y w h => samePol_any (P := P) (Q := Q) m T x y w h (by omega)
    rw [sizeP_mk] at hs
    have hle := len_le kids
    have HK : Hid _ := hk
    have HL : Hid _ := hl
    have IH : Hid _ := ih
    clear hk ih hp hq hl
    go_enter Try.func14, Try.ntmps14
    go_wp2
    go_loopw [5] (fun i wr => ∃ k : Nat, k ≤ kids.length ∧ i = .int .i64 (k : Int) ∧ Hid (Below w.heap.size w wr) ∧ Hid (wr.heap[w.heap.size]? = some (pobj ⟨op, f, n, .slice sa kids.length sc⟩)) ∧ Hid (wr.heap[w.heap.size + 1]? = some (pobj ⟨op, f, n, .slice sb kids.length sd⟩))) (fun i _ => kids.length - (intOf i).toNat)
    case atStart => exact ⟨0, Nat.zero_le _, rfl, ((Below.refl _ w).alloc (Nat.le_refl _) _).alloc (by simp) _, (Below.heap_alloc _ _ _ (by simp)).trans (heap_alloc_new w _), heap_new2 w _ _⟩
    case round =>
      obtain ⟨k, hkl, rfl, HB, HR1, HR2⟩ := hrel
      obtain ⟨q0, q1, q2, q3⟩ := row4 HR1.out
      obtain ⟨r0, r1, r2, r3⟩ := row4 HR2.out
      have hwr := HB.out.size
      by_cases hlt : k < kids.length
      · obtain ⟨b, off, sa2, n2, sc2, y0, y1, y2, rfl, hb, ha, hp⟩ := HK.out k hlt
        obtain ⟨b', off', sa2', n2', sc2', y0', y1', y2', rfl, hb', ha', hp'⟩ := HL.out k hlt
        obtain ⟨a0, a1, a2, a3⟩ := ha.same (HB.out.block b hb)
        obtain ⟨c0, c1, c2, c3⟩ := ha'.same (HB.out.block b' hb')
        have hsz := size_get kids k hlt
        have kb : ∀ d os, Below wr.heap.size wr (grow (redrawn wr d) os) := fun d os => below_regrown wr d os
        have c27 : Hid (∀ d os, Calls Try.prog 14 #[nv ⟨y0, y1, y2, .slice sa2 n2 sc2⟩, nv ⟨y0', y1', y2', .slice sa2' n2' sc2'⟩] (grow (redrawn wr d) os) fun e w'' => e = .returned (.bool true) ∧ ∃ p : Regrown, w'' = grow (redrawn wr p.d) p.os) := fun d os => Calls.regrown_of (IH.out kids[k] _ _ (grow (redrawn wr d) os) (by omega) ((hp.below HB.out).below (kb d os)) ((hp'.below HB.out).below (kb d os)))
        clear hp hp' ha ha' hsz kb
        go_wp2_with fail
        have s3 := cell_regrown q3; have t3 := cell_regrown r3
        have u0 := cell_regrown a0; have u1 := cell_regrown a1; have u2 := cell_regrown a2; have u3' := cell_regrown a3
        have v0 := cell_regrown c0; have v1 := cell_regrown c1; have v2 := cell_regrown c2; have v3 := cell_regrown c3
        clear q0 q1 q2 q3 r0 r1 r2 r3 a0 a1 a2 a3 c0 c1 c2 c3
        refine wp_region_quiet_below (by kernel_rfl) (by kernel_rfl) ?_
        repeat (go_big_quiet_step (first | (go_at_call 14; exact c27.out _ _)))
        refine wpQuiet_nil ?_
        intro _ hw'
        obtain ⟨⟨dq, osq⟩, hw''⟩ := hw'
        subst hw''
        have hbE := below_regrown wr dq osq
        have HBE : Hid (Below w.heap.size w (grow (redrawn wr dq) osq)) := HB.out.trans (hbE.mono hwr)
        have HE1 : Hid ((grow (redrawn wr dq) osq).heap[w.heap.size]? = some (pobj ⟨op, f, n, .slice (some ⟨b, off, none⟩) kids.length sc⟩)) := (hbE.block _ (heap_lt HR1.out)).trans HR1.out
        have HE2 : Hid ((grow (redrawn wr dq) osq).heap[w.heap.size + 1]? = some (pobj ⟨op, f, n, .slice (some ⟨b', off', none⟩) kids.length sd⟩)) := (hbE.block _ (heap_lt HR2.out)).trans HR2.out
        clear s3 t3 u0 u1 u2 u3' v0 v1 v2 v3 c27 HB HR1 HR2 hbE
        generalize (grow (redrawn wr dq) osq) = WE at *
        go_wp2
        go_roundw
        case rel => exact ⟨k + 1, by omega, by go_num, HBE, HE1, HE2⟩
        case measure => simp [intOf]; omega
      · obtain rfl : k = kids.length := by omega
        go_wp2
        go_ret
        exact ⟨rfl, HB.out⟩

end Go.Proofs.Ytipiepcbgjceaaa

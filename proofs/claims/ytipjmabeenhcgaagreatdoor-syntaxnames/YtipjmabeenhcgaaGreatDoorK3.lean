/- What the document's Depth and Size answer; policies of up to 100000 nodes. -/
import Derived.Test.YtipjmabeenhcgaaGreatDoorK2
set_option linter.unusedVariables false
set_option linter.unusedSimpArgs false
namespace Go.Proofs.YtipjmabeenhcgaaGreatDoor
open Go.RowKit Go.Joins

set_option maxRecDepth 100000 in
set_option maxHeartbeats 4000000 in
theorem rsize_any {P : Nat → Prop} : ∀ (m : Nat) (T : Pl) (x : Nd) (w : World), sizeP T ≤ m → m ≤ 100000 → PolAt P w T x → Calls Tryz.prog 16 #[nv x] w fun e w' => e = .returned (.int .i64 (sizeP T : Int)) ∧ Below w.heap.size w w'
  | 0, T, x, w, h, _, _ => absurd (size_pos T) (by omega)
  | m + 1, .mk op f n kids, x, w, hs, hm, hp => by
    obtain ⟨sa, sc, rfl, hk⟩ := hp.open
    have ih := fun T x w h => rsize_any (P := P) m T x w h (by omega)
    rw [sizeP_mk] at hs ⊢
    have hl := len_le kids
    have HK : Hid _ := hk
    have IH : Hid _ := ih
    clear hk ih hp
    go_enter Tryz.func16, Tryz.ntmps16
    go_wp2
    go_loopw [3, 4] (fun s i wr => ∃ k : Nat, k ≤ kids.length ∧ i = .int .i64 (k : Int) ∧ s = .int .i64 ((sizeP.sizeL (kids.take k) + 1 : Nat) : Int) ∧ Hid (Below w.heap.size w wr) ∧ wr.heap[w.heap.size]? = some (pobj ⟨op, f, n, .slice sa kids.length sc⟩)) (fun _ i _ => kids.length - (intOf i).toNat)
    case atStart => exact ⟨0, Nat.zero_le _, rfl, by simp [sizeP.sizeL], (Below.refl _ w).alloc (Nat.le_refl _) _, heap_alloc_new w _⟩
    case round =>
      obtain ⟨k, hkl, rfl, rfl, HB, hrow⟩ := hrel
      obtain ⟨r0, r1, r2, r3⟩ := row4 hrow
      have HRow : Hid (wr.heap[w.heap.size]? = some (pobj ⟨op, f, n, .slice sa kids.length sc⟩)) := hrow
      clear hrow
      by_cases hlt : k < kids.length
      · obtain ⟨b, off, sa2, n2, sc2, y0, y1, y2, rfl, hb, ha, hp⟩ := HK.out k hlt
        obtain ⟨a0, a1, a2, a3⟩ := ha.same (HB.out.block b hb)
        have hwr := HB.out.size
        have hsz := size_get kids k hlt
        have htk := sizeL_take kids k hlt
        have htl := take_le_size kids (k + 1)
        have cS := IH.out kids[k] ⟨y0, y1, y2, .slice sa2 n2 sc2⟩ wr (by omega) (hp.below HB.out)
        have HT : Hid (sizeP.sizeL (kids.take (k + 1)) = sizeP.sizeL (kids.take k) + sizeP kids[k]) := htk
        have hz : sizeP.sizeL (kids.take k) + sizeP kids[k] ≤ 100000 := by omega
        generalize sizeP kids[k] = z at *
        generalize sizeP.sizeL (kids.take k) = y at *
        clear hp ha htk htl hsz
        go_wp2_with fail
        refine cS.mono ?_
        rintro e w1 ⟨rfl, hb1⟩
        have HB1 : Hid (Below w.heap.size w w1) := HB.out.trans (hb1.mono hwr)
        have HR1 : Hid (w1.heap[w.heap.size]? = some _) := (hb1.block _ (heap_lt HRow.out)).trans HRow.out
        clear hb1 cS
        go_wp2
        go_roundw
        case rel => exact ⟨k + 1, by omega, by go_num, by rw [HT.out]; go_num, HB1, HR1.out⟩
        case measure => simp [intOf]; omega
      · obtain rfl : k = kids.length := by omega
        have HT : Hid (kids.take kids.length = kids) := List.take_length
        go_wp2
        go_ret
        exact ⟨by first | rfl | (rw [HT.out]; rfl), HB.out⟩
set_option maxRecDepth 100000 in
set_option maxHeartbeats 4000000 in
theorem rdepth_any {P : Nat → Prop} : ∀ (m : Nat) (T : Pl) (x : Nd) (w : World), sizeP T ≤ m → m ≤ 100000 → PolAt P w T x → Calls Tryz.prog 14 #[nv x] w fun e w' => e = .returned (.int .i64 (depthP T : Int)) ∧ Below w.heap.size w w'
  | 0, T, x, w, h, _, _ => absurd (size_pos T) (by omega)
  | m + 1, .mk op f n kids, x, w, hs, hm, hp => by
    obtain ⟨sa, sc, rfl, hk⟩ := hp.open
    have ih := fun T x w h => rdepth_any (P := P) m T x w h (by omega)
    rw [sizeP_mk] at hs
    rw [depthP_mk]
    have hdl := depth_le.depthL_le kids
    have hl := len_le kids
    have HK : Hid _ := hk
    have IH : Hid _ := ih
    clear hk ih hp
    go_enter Tryz.func14, Tryz.ntmps14
    go_wp2
    go_loopw [3, 4] (fun s i wr => ∃ k : Nat, k ≤ kids.length ∧ i = .int .i64 (k : Int) ∧ s = .int .i64 (depthP.depthL (kids.take k) : Int) ∧ Hid (Below w.heap.size w wr) ∧ wr.heap[w.heap.size]? = some (pobj ⟨op, f, n, .slice sa kids.length sc⟩)) (fun _ i _ => kids.length - (intOf i).toNat)
    case atStart => exact ⟨0, Nat.zero_le _, rfl, by simp [depthP.depthL], (Below.refl _ w).alloc (Nat.le_refl _) _, heap_alloc_new w _⟩
    case round =>
      obtain ⟨k, hkl, rfl, rfl, HB, hrow⟩ := hrel
      obtain ⟨r0, r1, r2, r3⟩ := row4 hrow
      have HRow : Hid (wr.heap[w.heap.size]? = some (pobj ⟨op, f, n, .slice sa kids.length sc⟩)) := hrow
      clear hrow
      by_cases hlt : k < kids.length
      · obtain ⟨b, off, sa2, n2, sc2, y0, y1, y2, rfl, hb, ha, hp⟩ := HK.out k hlt
        obtain ⟨a0, a1, a2, a3⟩ := ha.same (HB.out.block b hb)
        have hwr := HB.out.size
        have hsz := size_get kids k hlt
        have htk := depthL_take kids k hlt
        have htl := take_le_size kids k
        have hd1 := depth_le.depthL_le (kids.take k)
        have hd2 := depth_le kids[k]
        have cS := IH.out kids[k] ⟨y0, y1, y2, .slice sa2 n2 sc2⟩ wr (by omega) (hp.below HB.out)
        have HT : Hid (depthP.depthL (kids.take (k + 1)) = max (depthP.depthL (kids.take k)) (depthP kids[k])) := htk
        have hz : depthP kids[k] ≤ 100000 := by omega
        have hy : depthP.depthL (kids.take k) ≤ 100000 := by omega
        clear hp ha htk htl hsz hd1 hd2
        generalize depthP kids[k] = z at *
        generalize depthP.depthL (kids.take k) = y at *
        go_wp2_with fail
        refine cS.mono ?_
        rintro e w1 ⟨rfl, hb1⟩
        have HB1 : Hid (Below w.heap.size w w1) := HB.out.trans (hb1.mono hwr)
        have HR1 : Hid (w1.heap[w.heap.size]? = some _) := (hb1.block _ (heap_lt HRow.out)).trans HRow.out
        clear hb1 cS
        go_wp2
        go_roundw
        case rel => exact ⟨k + 1, by omega, by go_num, by rw [HT.out]; first | go_num | (simp; omega), HB1, HR1.out⟩
        case measure => simp [intOf]; omega
      · obtain rfl : k = kids.length := by omega
        have HT : Hid (kids.take kids.length = kids) := List.take_length
        go_wp2
        go_ret
        exact ⟨by first | rfl | (rw [HT.out]; rfl), HB.out⟩
end Go.Proofs.YtipjmabeenhcgaaGreatDoor

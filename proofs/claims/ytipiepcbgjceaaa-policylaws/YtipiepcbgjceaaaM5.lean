/- The way back, by a book; no conditions. -/
import Derived.Test.YtipiepcbgjceaaaM3
set_option linter.unusedVariables false
set_option linter.unusedSimpArgs false
namespace Go.Proofs.Ytipiepcbgjceaaa
open Go.RowKit Go.Joins Go.Sort

/-- Where back stands. -/
structure BkSt (w : World) (g M b sz : Nat) (sv : Nat → Value) (oc : Nat → Nat) (q : P8) (D : List P8) (wr : World) : Prop where
  bel : Below w.heap.size w wr
  row : wr.heap[g]? = some (.cells (bcells sv oc M) 101)
  box : wr.heap[w.heap.size]? = some (pobj8 q)
  rw' : Rw wr b 0 sz D
theorem BkSt.drew {w : World} {g M b sz : Nat} {sv : Nat → Value} {oc : Nat → Nat} {q : P8} {D : List P8} {wr : World} (h : BkSt w g M b sz sv oc q D wr) : BkSt w g M b sz sv oc q D wr.drew :=
  ⟨h.bel.trans ((below_drewN (Below.refl _ wr) 1).mono h.bel.size), h.row, h.box, h.rw'⟩
set_option maxRecDepth 100000 in
set_option maxHeartbeats 4000000 in
theorem back_one (g M : Nat) (sv : Nat → Value) (oc : Nat → Nat) (q : P8) (ad : Addr) (cap : Nat) (L : List P8) (w : World) (hrow : w.heap[g]? = some (.cells (bcells sv oc M) 101)) (hlen : L.length ≤ 64) (h0 : 0 < L.length) (hc : ∀ j u, (flat8 L)[j]? = some u → w.cell? (ad.add j) = some u) :
    Calls Try.prog 64 #[.pointer (some ⟨g, 0, none⟩), .slice (some ad) L.length cap, q.v] w fun e w' => ∃ b c, e = .returned (.slice (some ⟨b, 0, none⟩) L.length c) ∧ w.heap.size ≤ b ∧ (∃ sz, Rw w' b 0 sz (L.map (backP oc q))) ∧ Below w.heap.size w w' := by
  have cC := clone39 ad cap L (w.alloc (pobj8 q)) (by omega) (fun j u h => Lib.cell?_alloc_some _ (hc j u h))
  have hgw := heap_lt hrow
  obtain ⟨R, hR⟩ : ∃ R, L.length = R := ⟨_, rfl⟩
  have HL : Hid (L.length = R) := hR
  have HG := hide hrow
  rw [hR] at cC h0 hlen ⊢
  clear hc hR hrow
  go_enter Try.func64, Try.ntmps64
  go_wp2_with fail
  refine cC.mono ?_
  rintro e w1 ⟨v', rfl, hown, hne, hb1⟩
  obtain ⟨-, hh⟩ := hown
  rcases hh with ⟨hv, -⟩ | ⟨b, vc, cur, rfl, hbg, hgc, hrc, hml, hsz, htk⟩
  · exact absurd hv hne
  have hbs : w.heap.size < b := by simp at hbg; omega
  have HST : Hid (BkSt w g M b cur.size sv oc q L w1) := by
    have hb0 : Below w.heap.size w (w.alloc (pobj8 q)) := (Below.refl _ w).alloc (Nat.le_refl _) _
    refine ⟨hb0.trans (hb1.mono (by simp)), (hb1.block _ (by simp; omega)).trans ((hb0.block _ hgw).trans HG.out), (hb1.block _ (by simp)).trans (heap_alloc_new w _), cur, hgc, rfl, fun i hi j hj => ?_⟩
    have h1 := flat8_get L i hi j hj
    rw [← htk, List.getElem?_take] at h1
    have h2 : i < R := by rw [← HL.out]; exact hi
    rw [if_pos (by omega)] at h1
    rw [Nat.zero_add, ← Array.getElem?_toList]
    exact h1
  clear cC hne hb1 hgc htk
  generalize cur.size = sz at *
  clear hsz
  go_wp2
  go_loopw [15] (fun i wr => ∃ (k : Nat) (D : List P8), k ≤ R ∧ i = .int .i64 (k : Int) ∧ Hid (Gone oc q L D k 0) ∧ Hid (BkSt w g M b sz sv oc q D wr)) (fun i _ => R - (intOf i).toNat)
  case atStart => exact ⟨0, L, Nat.zero_le _, rfl, Gone.zero oc q L, HST⟩
  case round =>
    obtain ⟨k, D, hkl, rfl, HD, HS⟩ := hrel
    clear HST
    by_cases hlt : k < R
    · have hkL : k < L.length := by rw [HL.out]; exact hlt
      have hkD : k < D.length := by rw [HD.out.1]; exact hkL
      have dk : decide ((k : Int) < (R : Int)) = true := by simp; omega
      have hat := HS.out.rw'.at k hkD
      rw [HD.out.at hkL, backK_zero] at hat
      obtain ⟨⟨x0, x1, x2, x3, x4, x5, x6, x7⟩, hx⟩ : ∃ x, L[k] = x := ⟨_, rfl⟩
      rw [hx] at hat
      have HX := hide hx
      clear hx
      rw [Nat.zero_add] at hat
      obtain ⟨a0, a1, a2, a3, a4, a5, a6, a7⟩ := hat
      dsimp only at a0 a1 a2 a3 a4 a5 a6 a7
      have HSS := HS
      clear HS
      go_wp2
      clear a0 a1 a2 a3 a4 a5 a6 a7
      go_loopw [22] (fun i wz => ∃ (f : Nat) (z : Int) (E : List P8), f ≤ 8 ∧ z = (f : Int) ∧ i = .int .i64 z ∧ Hid (Gone oc q L E k f) ∧ Hid (BkSt w g M b sz sv oc q E wz)) (fun i _ => 8 - (intOf i).toNat)
      case atStart => exact ⟨0, 0, D, Nat.zero_le _, rfl, rfl, HD, HSS⟩
      case round =>
        obtain ⟨f, z, E, hf8, hz, rfl, HE, HT⟩ := hrel
        clear HD HSS
        have hff : f = 0 ∨ f = 1 ∨ f = 2 ∨ f = 3 ∨ f = 4 ∨ f = 5 ∨ f = 6 ∨ f = 7 ∨ f = 8 := by omega
        rcases hff with rfl | rfl | rfl | rfl | rfl | rfl | rfl | rfl | rfl
        · obtain rfl : z = 0 := hz
          have qi : ∀ w : World, (Instr.index 26 (.agg #[.int .u16 x0, .int .u16 x1, .int .u16 x2, .int .u16 x3, .int .u16 x4, .int .u16 x5, .int .u16 x6, .int .u16 x7]) (.int .i64 0)).run Try.prog w = .ok (.int .u16 x0) w := fun w => idx8 x0 x1 x2 x3 x4 x5 x6 x7 0 (by decide) w
          have bo : wr.cell? ⟨g, 8 + 0, none⟩ = some (.int .u16 (oc 0 : Int)) := by simpa using cell_of_row wr g (8 + 0) _ _ _ HT.out.row
          obtain ⟨y, hy⟩ : ∃ y : Int, y = (oc 0 : Int) := ⟨_, rfl⟩
          rw [← hy] at bo
          by_cases hxy : x0 = y
          · have dx : (x0 == y) = true := by simp [hxy]
            have HXY := hide (hxy.trans hy)
            clear hxy hy
            obtain ⟨⟨r0, r1, r2, r3, r4, r5, r6, r7⟩, -, -⟩ := row8 HT.out.box
            go_wp2_with fail
            have HS3 : Hid (BkSt w g M b sz sv oc q (E.set k (backK oc q 1 ⟨x0, x1, x2, x3, x4, x5, x6, x7⟩)) (wr.setCell ⟨b, k * 8, none⟩ (.int .u16 q.a0))) := by
              rw [show k * 8 = 0 + k * 8 + 0 by omega]
              refine ⟨HT.out.bel.setCell (show w.heap.size ≤ b by omega) _, (heap_setCell_other wr _ _ _ (show g ≠ b by omega)).trans HT.out.row, (heap_setCell_other wr _ _ _ (show w.heap.size ≠ b by omega)).trans HT.out.box, HT.out.rw'.put1 k (by rw [HE.out.1]; exact hkL) 0 (by decide) _ _ fun j hj => ?_⟩
              rw [HE.out.at hkL, HX.out]
              exact backK_put oc q ⟨x0, x1, x2, x3, x4, x5, x6, x7⟩ 0 (by decide) (show P8.get ⟨x0, x1, x2, x3, x4, x5, x6, x7⟩ ((0 : Nat) : Int) = (oc 0 : Int) from HXY.out) j hj
            have HE3 := hide (HE.out.put hkL)
            rw [HX.out] at HE3
            have fz := HT.out.rw'.frz (k * 8)
            have hat2 := HT.out.rw'.at k (by rw [HE.out.1]; exact hkL)
            rw [Nat.zero_add] at hat2
            obtain ⟨b0, b1, b2, b3, b4, b5, b6, b7⟩ := hat2
            go_region_with fail
            go_wp2
            go_roundw
            case rel => exact ⟨1, 1, _, by omega, rfl, rfl, HE3, HS3.out.drew⟩
            case measure => simp [intOf]
          · have dx : (x0 == y) = false := by simp [hxy]
            have HE2 : Hid (Gone oc q L E k 1) := HE.out.same hkL (by decide) (by rw [HX.out, ← hy]; exact hxy)
            clear hy
            go_wp2_with fail
            go_roundw
            case rel => exact ⟨1, 1, E, by omega, rfl, rfl, HE2, HT⟩
            case measure => simp [intOf]
        · obtain rfl : z = 1 := hz
          have qi : ∀ w : World, (Instr.index 26 (.agg #[.int .u16 x0, .int .u16 x1, .int .u16 x2, .int .u16 x3, .int .u16 x4, .int .u16 x5, .int .u16 x6, .int .u16 x7]) (.int .i64 1)).run Try.prog w = .ok (.int .u16 x1) w := fun w => idx8 x0 x1 x2 x3 x4 x5 x6 x7 1 (by decide) w
          have bo : wr.cell? ⟨g, 8 + 1, none⟩ = some (.int .u16 (oc 1 : Int)) := by simpa using cell_of_row wr g (8 + 1) _ _ _ HT.out.row
          obtain ⟨y, hy⟩ : ∃ y : Int, y = (oc 1 : Int) := ⟨_, rfl⟩
          rw [← hy] at bo
          by_cases hxy : x1 = y
          · have dx : (x1 == y) = true := by simp [hxy]
            have HXY := hide (hxy.trans hy)
            clear hxy hy
            obtain ⟨⟨r0, r1, r2, r3, r4, r5, r6, r7⟩, -, -⟩ := row8 HT.out.box
            go_wp2_with fail
            have HS3 : Hid (BkSt w g M b sz sv oc q (E.set k (backK oc q 2 ⟨x0, x1, x2, x3, x4, x5, x6, x7⟩)) (wr.setCell ⟨b, k * 8 + 1, none⟩ (.int .u16 q.a1))) := by
              rw [show k * 8 + 1 = 0 + k * 8 + 1 by omega]
              refine ⟨HT.out.bel.setCell (show w.heap.size ≤ b by omega) _, (heap_setCell_other wr _ _ _ (show g ≠ b by omega)).trans HT.out.row, (heap_setCell_other wr _ _ _ (show w.heap.size ≠ b by omega)).trans HT.out.box, HT.out.rw'.put1 k (by rw [HE.out.1]; exact hkL) 1 (by decide) _ _ fun j hj => ?_⟩
              rw [HE.out.at hkL, HX.out]
              exact backK_put oc q ⟨x0, x1, x2, x3, x4, x5, x6, x7⟩ 1 (by decide) (show P8.get ⟨x0, x1, x2, x3, x4, x5, x6, x7⟩ ((1 : Nat) : Int) = (oc 1 : Int) from HXY.out) j hj
            have HE3 := hide (HE.out.put hkL)
            rw [HX.out] at HE3
            have fz := HT.out.rw'.frz (k * 8 + 1)
            have hat2 := HT.out.rw'.at k (by rw [HE.out.1]; exact hkL)
            rw [Nat.zero_add] at hat2
            obtain ⟨b0, b1, b2, b3, b4, b5, b6, b7⟩ := hat2
            go_region_with fail
            go_wp2
            go_roundw
            case rel => exact ⟨2, 2, _, by omega, rfl, rfl, HE3, HS3.out.drew⟩
            case measure => simp [intOf]
          · have dx : (x1 == y) = false := by simp [hxy]
            have HE2 : Hid (Gone oc q L E k 2) := HE.out.same hkL (by decide) (by rw [HX.out, ← hy]; exact hxy)
            clear hy
            go_wp2_with fail
            go_roundw
            case rel => exact ⟨2, 2, E, by omega, rfl, rfl, HE2, HT⟩
            case measure => simp [intOf]
        · obtain rfl : z = 2 := hz
          have qi : ∀ w : World, (Instr.index 26 (.agg #[.int .u16 x0, .int .u16 x1, .int .u16 x2, .int .u16 x3, .int .u16 x4, .int .u16 x5, .int .u16 x6, .int .u16 x7]) (.int .i64 2)).run Try.prog w = .ok (.int .u16 x2) w := fun w => idx8 x0 x1 x2 x3 x4 x5 x6 x7 2 (by decide) w
          have bo : wr.cell? ⟨g, 8 + 2, none⟩ = some (.int .u16 (oc 2 : Int)) := by simpa using cell_of_row wr g (8 + 2) _ _ _ HT.out.row
          obtain ⟨y, hy⟩ : ∃ y : Int, y = (oc 2 : Int) := ⟨_, rfl⟩
          rw [← hy] at bo
          by_cases hxy : x2 = y
          · have dx : (x2 == y) = true := by simp [hxy]
            have HXY := hide (hxy.trans hy)
            clear hxy hy
            obtain ⟨⟨r0, r1, r2, r3, r4, r5, r6, r7⟩, -, -⟩ := row8 HT.out.box
            go_wp2_with fail
            have HS3 : Hid (BkSt w g M b sz sv oc q (E.set k (backK oc q 3 ⟨x0, x1, x2, x3, x4, x5, x6, x7⟩)) (wr.setCell ⟨b, k * 8 + 2, none⟩ (.int .u16 q.a2))) := by
              rw [show k * 8 + 2 = 0 + k * 8 + 2 by omega]
              refine ⟨HT.out.bel.setCell (show w.heap.size ≤ b by omega) _, (heap_setCell_other wr _ _ _ (show g ≠ b by omega)).trans HT.out.row, (heap_setCell_other wr _ _ _ (show w.heap.size ≠ b by omega)).trans HT.out.box, HT.out.rw'.put1 k (by rw [HE.out.1]; exact hkL) 2 (by decide) _ _ fun j hj => ?_⟩
              rw [HE.out.at hkL, HX.out]
              exact backK_put oc q ⟨x0, x1, x2, x3, x4, x5, x6, x7⟩ 2 (by decide) (show P8.get ⟨x0, x1, x2, x3, x4, x5, x6, x7⟩ ((2 : Nat) : Int) = (oc 2 : Int) from HXY.out) j hj
            have HE3 := hide (HE.out.put hkL)
            rw [HX.out] at HE3
            have fz := HT.out.rw'.frz (k * 8 + 2)
            have hat2 := HT.out.rw'.at k (by rw [HE.out.1]; exact hkL)
            rw [Nat.zero_add] at hat2
            obtain ⟨b0, b1, b2, b3, b4, b5, b6, b7⟩ := hat2
            go_region_with fail
            go_wp2
            go_roundw
            case rel => exact ⟨3, 3, _, by omega, rfl, rfl, HE3, HS3.out.drew⟩
            case measure => simp [intOf]
          · have dx : (x2 == y) = false := by simp [hxy]
            have HE2 : Hid (Gone oc q L E k 3) := HE.out.same hkL (by decide) (by rw [HX.out, ← hy]; exact hxy)
            clear hy
            go_wp2_with fail
            go_roundw
            case rel => exact ⟨3, 3, E, by omega, rfl, rfl, HE2, HT⟩
            case measure => simp [intOf]
        · obtain rfl : z = 3 := hz
          have qi : ∀ w : World, (Instr.index 26 (.agg #[.int .u16 x0, .int .u16 x1, .int .u16 x2, .int .u16 x3, .int .u16 x4, .int .u16 x5, .int .u16 x6, .int .u16 x7]) (.int .i64 3)).run Try.prog w = .ok (.int .u16 x3) w := fun w => idx8 x0 x1 x2 x3 x4 x5 x6 x7 3 (by decide) w
          have bo : wr.cell? ⟨g, 8 + 3, none⟩ = some (.int .u16 (oc 3 : Int)) := by simpa using cell_of_row wr g (8 + 3) _ _ _ HT.out.row
          obtain ⟨y, hy⟩ : ∃ y : Int, y = (oc 3 : Int) := ⟨_, rfl⟩
          rw [← hy] at bo
          by_cases hxy : x3 = y
          · have dx : (x3 == y) = true := by simp [hxy]
            have HXY := hide (hxy.trans hy)
            clear hxy hy
            obtain ⟨⟨r0, r1, r2, r3, r4, r5, r6, r7⟩, -, -⟩ := row8 HT.out.box
            go_wp2_with fail
            have HS3 : Hid (BkSt w g M b sz sv oc q (E.set k (backK oc q 4 ⟨x0, x1, x2, x3, x4, x5, x6, x7⟩)) (wr.setCell ⟨b, k * 8 + 3, none⟩ (.int .u16 q.a3))) := by
              rw [show k * 8 + 3 = 0 + k * 8 + 3 by omega]
              refine ⟨HT.out.bel.setCell (show w.heap.size ≤ b by omega) _, (heap_setCell_other wr _ _ _ (show g ≠ b by omega)).trans HT.out.row, (heap_setCell_other wr _ _ _ (show w.heap.size ≠ b by omega)).trans HT.out.box, HT.out.rw'.put1 k (by rw [HE.out.1]; exact hkL) 3 (by decide) _ _ fun j hj => ?_⟩
              rw [HE.out.at hkL, HX.out]
              exact backK_put oc q ⟨x0, x1, x2, x3, x4, x5, x6, x7⟩ 3 (by decide) (show P8.get ⟨x0, x1, x2, x3, x4, x5, x6, x7⟩ ((3 : Nat) : Int) = (oc 3 : Int) from HXY.out) j hj
            have HE3 := hide (HE.out.put hkL)
            rw [HX.out] at HE3
            have fz := HT.out.rw'.frz (k * 8 + 3)
            have hat2 := HT.out.rw'.at k (by rw [HE.out.1]; exact hkL)
            rw [Nat.zero_add] at hat2
            obtain ⟨b0, b1, b2, b3, b4, b5, b6, b7⟩ := hat2
            go_region_with fail
            go_wp2
            go_roundw
            case rel => exact ⟨4, 4, _, by omega, rfl, rfl, HE3, HS3.out.drew⟩
            case measure => simp [intOf]
          · have dx : (x3 == y) = false := by simp [hxy]
            have HE2 : Hid (Gone oc q L E k 4) := HE.out.same hkL (by decide) (by rw [HX.out, ← hy]; exact hxy)
            clear hy
            go_wp2_with fail
            go_roundw
            case rel => exact ⟨4, 4, E, by omega, rfl, rfl, HE2, HT⟩
            case measure => simp [intOf]
        · obtain rfl : z = 4 := hz
          have qi : ∀ w : World, (Instr.index 26 (.agg #[.int .u16 x0, .int .u16 x1, .int .u16 x2, .int .u16 x3, .int .u16 x4, .int .u16 x5, .int .u16 x6, .int .u16 x7]) (.int .i64 4)).run Try.prog w = .ok (.int .u16 x4) w := fun w => idx8 x0 x1 x2 x3 x4 x5 x6 x7 4 (by decide) w
          have bo : wr.cell? ⟨g, 8 + 4, none⟩ = some (.int .u16 (oc 4 : Int)) := by simpa using cell_of_row wr g (8 + 4) _ _ _ HT.out.row
          obtain ⟨y, hy⟩ : ∃ y : Int, y = (oc 4 : Int) := ⟨_, rfl⟩
          rw [← hy] at bo
          by_cases hxy : x4 = y
          · have dx : (x4 == y) = true := by simp [hxy]
            have HXY := hide (hxy.trans hy)
            clear hxy hy
            obtain ⟨⟨r0, r1, r2, r3, r4, r5, r6, r7⟩, -, -⟩ := row8 HT.out.box
            go_wp2_with fail
            have HS3 : Hid (BkSt w g M b sz sv oc q (E.set k (backK oc q 5 ⟨x0, x1, x2, x3, x4, x5, x6, x7⟩)) (wr.setCell ⟨b, k * 8 + 4, none⟩ (.int .u16 q.a4))) := by
              rw [show k * 8 + 4 = 0 + k * 8 + 4 by omega]
              refine ⟨HT.out.bel.setCell (show w.heap.size ≤ b by omega) _, (heap_setCell_other wr _ _ _ (show g ≠ b by omega)).trans HT.out.row, (heap_setCell_other wr _ _ _ (show w.heap.size ≠ b by omega)).trans HT.out.box, HT.out.rw'.put1 k (by rw [HE.out.1]; exact hkL) 4 (by decide) _ _ fun j hj => ?_⟩
              rw [HE.out.at hkL, HX.out]
              exact backK_put oc q ⟨x0, x1, x2, x3, x4, x5, x6, x7⟩ 4 (by decide) (show P8.get ⟨x0, x1, x2, x3, x4, x5, x6, x7⟩ ((4 : Nat) : Int) = (oc 4 : Int) from HXY.out) j hj
            have HE3 := hide (HE.out.put hkL)
            rw [HX.out] at HE3
            have fz := HT.out.rw'.frz (k * 8 + 4)
            have hat2 := HT.out.rw'.at k (by rw [HE.out.1]; exact hkL)
            rw [Nat.zero_add] at hat2
            obtain ⟨b0, b1, b2, b3, b4, b5, b6, b7⟩ := hat2
            go_region_with fail
            go_wp2
            go_roundw
            case rel => exact ⟨5, 5, _, by omega, rfl, rfl, HE3, HS3.out.drew⟩
            case measure => simp [intOf]
          · have dx : (x4 == y) = false := by simp [hxy]
            have HE2 : Hid (Gone oc q L E k 5) := HE.out.same hkL (by decide) (by rw [HX.out, ← hy]; exact hxy)
            clear hy
            go_wp2_with fail
            go_roundw
            case rel => exact ⟨5, 5, E, by omega, rfl, rfl, HE2, HT⟩
            case measure => simp [intOf]
        · obtain rfl : z = 5 := hz
          have qi : ∀ w : World, (Instr.index 26 (.agg #[.int .u16 x0, .int .u16 x1, .int .u16 x2, .int .u16 x3, .int .u16 x4, .int .u16 x5, .int .u16 x6, .int .u16 x7]) (.int .i64 5)).run Try.prog w = .ok (.int .u16 x5) w := fun w => idx8 x0 x1 x2 x3 x4 x5 x6 x7 5 (by decide) w
          have bo : wr.cell? ⟨g, 8 + 5, none⟩ = some (.int .u16 (oc 5 : Int)) := by simpa using cell_of_row wr g (8 + 5) _ _ _ HT.out.row
          obtain ⟨y, hy⟩ : ∃ y : Int, y = (oc 5 : Int) := ⟨_, rfl⟩
          rw [← hy] at bo
          by_cases hxy : x5 = y
          · have dx : (x5 == y) = true := by simp [hxy]
            have HXY := hide (hxy.trans hy)
            clear hxy hy
            obtain ⟨⟨r0, r1, r2, r3, r4, r5, r6, r7⟩, -, -⟩ := row8 HT.out.box
            go_wp2_with fail
            have HS3 : Hid (BkSt w g M b sz sv oc q (E.set k (backK oc q 6 ⟨x0, x1, x2, x3, x4, x5, x6, x7⟩)) (wr.setCell ⟨b, k * 8 + 5, none⟩ (.int .u16 q.a5))) := by
              rw [show k * 8 + 5 = 0 + k * 8 + 5 by omega]
              refine ⟨HT.out.bel.setCell (show w.heap.size ≤ b by omega) _, (heap_setCell_other wr _ _ _ (show g ≠ b by omega)).trans HT.out.row, (heap_setCell_other wr _ _ _ (show w.heap.size ≠ b by omega)).trans HT.out.box, HT.out.rw'.put1 k (by rw [HE.out.1]; exact hkL) 5 (by decide) _ _ fun j hj => ?_⟩
              rw [HE.out.at hkL, HX.out]
              exact backK_put oc q ⟨x0, x1, x2, x3, x4, x5, x6, x7⟩ 5 (by decide) (show P8.get ⟨x0, x1, x2, x3, x4, x5, x6, x7⟩ ((5 : Nat) : Int) = (oc 5 : Int) from HXY.out) j hj
            have HE3 := hide (HE.out.put hkL)
            rw [HX.out] at HE3
            have fz := HT.out.rw'.frz (k * 8 + 5)
            have hat2 := HT.out.rw'.at k (by rw [HE.out.1]; exact hkL)
            rw [Nat.zero_add] at hat2
            obtain ⟨b0, b1, b2, b3, b4, b5, b6, b7⟩ := hat2
            go_region_with fail
            go_wp2
            go_roundw
            case rel => exact ⟨6, 6, _, by omega, rfl, rfl, HE3, HS3.out.drew⟩
            case measure => simp [intOf]
          · have dx : (x5 == y) = false := by simp [hxy]
            have HE2 : Hid (Gone oc q L E k 6) := HE.out.same hkL (by decide) (by rw [HX.out, ← hy]; exact hxy)
            clear hy
            go_wp2_with fail
            go_roundw
            case rel => exact ⟨6, 6, E, by omega, rfl, rfl, HE2, HT⟩
            case measure => simp [intOf]
        · obtain rfl : z = 6 := hz
          have qi : ∀ w : World, (Instr.index 26 (.agg #[.int .u16 x0, .int .u16 x1, .int .u16 x2, .int .u16 x3, .int .u16 x4, .int .u16 x5, .int .u16 x6, .int .u16 x7]) (.int .i64 6)).run Try.prog w = .ok (.int .u16 x6) w := fun w => idx8 x0 x1 x2 x3 x4 x5 x6 x7 6 (by decide) w
          have bo : wr.cell? ⟨g, 8 + 6, none⟩ = some (.int .u16 (oc 6 : Int)) := by simpa using cell_of_row wr g (8 + 6) _ _ _ HT.out.row
          obtain ⟨y, hy⟩ : ∃ y : Int, y = (oc 6 : Int) := ⟨_, rfl⟩
          rw [← hy] at bo
          by_cases hxy : x6 = y
          · have dx : (x6 == y) = true := by simp [hxy]
            have HXY := hide (hxy.trans hy)
            clear hxy hy
            obtain ⟨⟨r0, r1, r2, r3, r4, r5, r6, r7⟩, -, -⟩ := row8 HT.out.box
            go_wp2_with fail
            have HS3 : Hid (BkSt w g M b sz sv oc q (E.set k (backK oc q 7 ⟨x0, x1, x2, x3, x4, x5, x6, x7⟩)) (wr.setCell ⟨b, k * 8 + 6, none⟩ (.int .u16 q.a6))) := by
              rw [show k * 8 + 6 = 0 + k * 8 + 6 by omega]
              refine ⟨HT.out.bel.setCell (show w.heap.size ≤ b by omega) _, (heap_setCell_other wr _ _ _ (show g ≠ b by omega)).trans HT.out.row, (heap_setCell_other wr _ _ _ (show w.heap.size ≠ b by omega)).trans HT.out.box, HT.out.rw'.put1 k (by rw [HE.out.1]; exact hkL) 6 (by decide) _ _ fun j hj => ?_⟩
              rw [HE.out.at hkL, HX.out]
              exact backK_put oc q ⟨x0, x1, x2, x3, x4, x5, x6, x7⟩ 6 (by decide) (show P8.get ⟨x0, x1, x2, x3, x4, x5, x6, x7⟩ ((6 : Nat) : Int) = (oc 6 : Int) from HXY.out) j hj
            have HE3 := hide (HE.out.put hkL)
            rw [HX.out] at HE3
            have fz := HT.out.rw'.frz (k * 8 + 6)
            have hat2 := HT.out.rw'.at k (by rw [HE.out.1]; exact hkL)
            rw [Nat.zero_add] at hat2
            obtain ⟨b0, b1, b2, b3, b4, b5, b6, b7⟩ := hat2
            go_region_with fail
            go_wp2
            go_roundw
            case rel => exact ⟨7, 7, _, by omega, rfl, rfl, HE3, HS3.out.drew⟩
            case measure => simp [intOf]
          · have dx : (x6 == y) = false := by simp [hxy]
            have HE2 : Hid (Gone oc q L E k 7) := HE.out.same hkL (by decide) (by rw [HX.out, ← hy]; exact hxy)
            clear hy
            go_wp2_with fail
            go_roundw
            case rel => exact ⟨7, 7, E, by omega, rfl, rfl, HE2, HT⟩
            case measure => simp [intOf]
        · obtain rfl : z = 7 := hz
          have qi : ∀ w : World, (Instr.index 26 (.agg #[.int .u16 x0, .int .u16 x1, .int .u16 x2, .int .u16 x3, .int .u16 x4, .int .u16 x5, .int .u16 x6, .int .u16 x7]) (.int .i64 7)).run Try.prog w = .ok (.int .u16 x7) w := fun w => idx8 x0 x1 x2 x3 x4 x5 x6 x7 7 (by decide) w
          have bo : wr.cell? ⟨g, 8 + 7, none⟩ = some (.int .u16 (oc 7 : Int)) := by simpa using cell_of_row wr g (8 + 7) _ _ _ HT.out.row
          obtain ⟨y, hy⟩ : ∃ y : Int, y = (oc 7 : Int) := ⟨_, rfl⟩
          rw [← hy] at bo
          by_cases hxy : x7 = y
          · have dx : (x7 == y) = true := by simp [hxy]
            have HXY := hide (hxy.trans hy)
            clear hxy hy
            obtain ⟨⟨r0, r1, r2, r3, r4, r5, r6, r7⟩, -, -⟩ := row8 HT.out.box
            go_wp2_with fail
            have HS3 : Hid (BkSt w g M b sz sv oc q (E.set k (backK oc q 8 ⟨x0, x1, x2, x3, x4, x5, x6, x7⟩)) (wr.setCell ⟨b, k * 8 + 7, none⟩ (.int .u16 q.a7))) := by
              rw [show k * 8 + 7 = 0 + k * 8 + 7 by omega]
              refine ⟨HT.out.bel.setCell (show w.heap.size ≤ b by omega) _, (heap_setCell_other wr _ _ _ (show g ≠ b by omega)).trans HT.out.row, (heap_setCell_other wr _ _ _ (show w.heap.size ≠ b by omega)).trans HT.out.box, HT.out.rw'.put1 k (by rw [HE.out.1]; exact hkL) 7 (by decide) _ _ fun j hj => ?_⟩
              rw [HE.out.at hkL, HX.out]
              exact backK_put oc q ⟨x0, x1, x2, x3, x4, x5, x6, x7⟩ 7 (by decide) (show P8.get ⟨x0, x1, x2, x3, x4, x5, x6, x7⟩ ((7 : Nat) : Int) = (oc 7 : Int) from HXY.out) j hj
            have HE3 := hide (HE.out.put hkL)
            rw [HX.out] at HE3
            have fz := HT.out.rw'.frz (k * 8 + 7)
            have hat2 := HT.out.rw'.at k (by rw [HE.out.1]; exact hkL)
            rw [Nat.zero_add] at hat2
            obtain ⟨b0, b1, b2, b3, b4, b5, b6, b7⟩ := hat2
            go_region_with fail
            go_wp2
            go_roundw
            case rel => exact ⟨8, 8, _, by omega, rfl, rfl, HE3, HS3.out.drew⟩
            case measure => simp [intOf]
          · have dx : (x7 == y) = false := by simp [hxy]
            have HE2 : Hid (Gone oc q L E k 8) := HE.out.same hkL (by decide) (by rw [HX.out, ← hy]; exact hxy)
            clear hy
            go_wp2_with fail
            go_roundw
            case rel => exact ⟨8, 8, E, by omega, rfl, rfl, HE2, HT⟩
            case measure => simp [intOf]
        · obtain rfl : z = 8 := hz
          go_wp2
          go_roundw
          case rel => exact ⟨k + 1, E, by omega, by go_num, HE.out.next, HT⟩
          case measure => simp [intOf]; omega
    · obtain rfl : k = R := by omega
      have dk : decide ((k : Int) < (k : Int)) = false := by simp
      go_wp2
      go_ret
      refine ⟨b, vc, rfl, by omega, ⟨sz, ?_⟩, HS.out.bel⟩
      have hgo := HD.out
      rw [← HL.out] at hgo
      rw [← hgo.all]
      exact HS.out.rw'
end Go.Proofs.Ytipiepcbgjceaaa

/- What isPolFormed answers; policies of up to 100000 nodes. -/
import Derived.Test.YtipiepcbgjceaaaK6
import Derived.Test.YtipiepcbgjceaaaQ1
set_option linter.unusedVariables false
set_option linter.unusedSimpArgs false
namespace Go.Proofs.Ytipiepcbgjceaaa
open Go.RowKit Go.Joins

theorem formP_mk (parts op f n : Int) (kids : List Pl) : formP parts (.mk op f n kids) = (nodeB parts op f n kids && formP.formL parts kids) := by rw [formP]
set_option maxRecDepth 100000 in
set_option maxHeartbeats 4000000 in
theorem form_any {P : Nat → Prop} (parts : Int) : ∀ (m : Nat) (T : Pl) (x : Nd) (w : World), sizeP T ≤ m → m ≤ 100000 → PolAt P w T x → Calls Try.prog 50 #[nv x, .int .i64 parts] w fun e w' => e = .returned (.bool (formP parts T)) ∧ Below w.heap.size w w'
  | 0, T, x, w, h, _, _ => absurd (size_pos T) (by omega)
  | m + 1, .mk op f n kids, x, w, hs, hm, hp => by
    have ih := fun T x w h => form_any (P := P) parts m T x w h (by omega)
    rw [sizeP_mk] at hs
    have cN := node_any parts op f n kids x (w.alloc (pobj x)) (by omega) (hp.below ((Below.refl _ w).alloc (Nat.le_refl _) _))
    obtain ⟨sa, sc, rfl, hk⟩ := hp.open
    rw [formP_mk]
    have hl := len_le kids
    have HK : Hid _ := hk
    have IH : Hid _ := ih
    clear hk ih hp
    cases hn : nodeB parts op f n kids with
    | false =>
      rw [hn] at cN
      rw [Bool.false_and]
      clear hn HK IH
      go_enter Try.func50, Try.ntmps50
      go_wp2_with fail
      refine cN.mono ?_
      rintro e w1 ⟨rfl, hb1⟩
      go_wp2
      go_ret
      exact ⟨rfl, ((Below.refl _ w).alloc (Nat.le_refl _) _).trans (hb1.mono (by simp))⟩
    | true =>
      rw [hn] at cN
      rw [Bool.true_and]
      clear hn
      go_enter Try.func50, Try.ntmps50
      go_wp2_with fail
      refine cN.mono ?_
      rintro e w1 ⟨rfl, hb1⟩
      have HB0 : Hid (Below w.heap.size w w1) := ((Below.refl _ w).alloc (Nat.le_refl _) _).trans (hb1.mono (by simp))
      have hrow1 := row_kept hb1
      obtain ⟨r0, r1, r2, r3⟩ := row4 hrow1
      clear hb1 cN hrow1 r0 r1 r2
      go_wp2
      go_loopw [14] (fun i wr => ∃ k : Nat, k ≤ kids.length ∧ i = .int .i64 (k : Int) ∧ Hid (formP.formL parts (kids.take k) = true) ∧ Hid (Below w.heap.size w wr)) (fun i _ => kids.length - (intOf i).toNat)
      case atStart => exact ⟨0, Nat.zero_le _, rfl, by show _ = _; simp [formP.formL], HB0⟩
      case round =>
        obtain ⟨k, hkl, rfl, HT, HB⟩ := hrel
        by_cases hlt : k < kids.length
        · obtain ⟨b, off, sa2, n2, sc2, y0, y1, y2, rfl, hb, ha, hp⟩ := HK.out k hlt
          obtain ⟨a0, a1, a2, a3⟩ := ha.same (HB.out.block b hb)
          have hwr := HB.out.size
          have hsz := size_get kids k hlt
          have htk := formL_take parts kids k hlt
          rw [HT.out, Bool.true_and] at htk
          have cS := IH.out kids[k] ⟨y0, y1, y2, .slice sa2 n2 sc2⟩ (wr.alloc (pobj ⟨y0, y1, y2, .slice sa2 n2 sc2⟩)) (by omega) ((hp.below HB.out).below ((Below.refl _ _).alloc (Nat.le_refl _) _))
          have HP : Hid (formP parts kids[k] = false → formP.formL parts kids = false) := formL_false parts kids k hlt
          clear hp ha hsz
          cases hpk : formP parts kids[k] with
          | true =>
            rw [hpk] at cS htk
            have HT2 : Hid (formP.formL parts (kids.take (k + 1)) = true) := htk
            clear hpk htk
            go_wp2_with fail
            refine cS.mono ?_
            rintro e w2 ⟨rfl, hb2⟩
            have HB1 : Hid (Below w.heap.size w w2) := (HB.out.alloc hwr _).trans (hb2.mono (by simp; omega))
            clear hb2 cS
            go_wp2
            go_roundw
            case rel => exact ⟨k + 1, by omega, by go_num, HT2, HB1⟩
            case measure => simp [intOf]; omega
          | false =>
            rw [hpk] at cS
            have HP2 : Hid (formP.formL parts kids = false) := HP.out hpk
            clear hpk htk
            go_wp2_with fail
            refine cS.mono ?_
            rintro e w2 ⟨rfl, hb2⟩
            have HB1 : Hid (Below w.heap.size w w2) := (HB.out.alloc hwr _).trans (hb2.mono (by simp; omega))
            clear hb2 cS
            go_wp2
            go_ret
            exact ⟨by rw [HP2.out]; rfl, HB1.out⟩
        · obtain rfl : k = kids.length := by omega
          have HT2 : Hid (formP.formL parts kids = true) := by have := HT.out; rwa [List.take_length] at this
          go_wp2
          go_ret
          exact ⟨by rw [HT2.out]; rfl, HB.out⟩
end Go.Proofs.Ytipiepcbgjceaaa

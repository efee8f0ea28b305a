/- What isNodeFormed answers; policies of up to 100000 nodes. -/
import Derived.Test.YtipiepcbgjceaaaK3
import Derived.Test.YtipiepcbgjceaaaQ1
set_option linter.unusedVariables false
set_option linter.unusedSimpArgs false
namespace Go.Proofs.Ytipiepcbgjceaaa
open Go.RowKit Go.Joins

/-- The three ways of 'plain'. -/
theorem plain_cases (f n : Int) : ((f == 0) = true ∧ (n == 0) = true ∧ (decide (f = 0) && decide (n = 0)) = true) ∨ ((f == 0) = true ∧ (n == 0) = false ∧ (decide (f = 0) && decide (n = 0)) = false) ∨ ((f == 0) = false ∧ (decide (f = 0) && decide (n = 0)) = false) := by
  by_cases h1 : f = 0
  · by_cases h2 : n = 0
    · exact .inl (by simp [h1, h2])
    · exact .inr (.inl (by simp [h1, h2]))
  · exact .inr (.inr (by simp [h1]))
theorem nat_int0 (k : Nat) : (((k : Int) == 0) = true ∧ decide (k = 0) = true) ∨ (((k : Int) == 0) = false ∧ decide (k = 0) = false) := by
  by_cases h : k = 0
  · exact .inl (by simp [h])
  · exact .inr (by simp [h])
theorem nat_int1 (k : Nat) : (((k : Int) == 1) = true ∧ decide (k = 1) = true) ∨ (((k : Int) == 1) = false ∧ decide (k = 1) = false) := by
  by_cases h : k = 1
  · exact .inl (by simp [h])
  · exact .inr ⟨by simp; omega, by simp [h]⟩
theorem nat_int2 (k : Nat) : (decide ((2 : Int) ≤ (k : Int)) = true ∧ decide (2 ≤ k) = true) ∨ (decide ((2 : Int) ≤ (k : Int)) = false ∧ decide (2 ≤ k) = false) := by
  by_cases h : 2 ≤ k
  · exact .inl ⟨by simp; omega, by simp [h]⟩
  · exact .inr ⟨by simp; omega, by simp [h]⟩

set_option maxRecDepth 100000 in
set_option maxHeartbeats 4000000 in
theorem node_01 (parts op f n : Int) (kids : List Pl) (sa : Option Addr) (sc : Nat) (w : World) (hl : kids.length ≤ 100000) (ho : op = 0 ∨ op = 1) : Calls Try.prog 58 #[nv ⟨op, f, n, .slice sa kids.length sc⟩, .int .i64 parts] w fun e w' => e = .returned (.bool (nodeB parts op f n kids)) ∧ Below w.heap.size w w' := by
  have hN : nodeB parts op f n kids = (decide (kids.length = 0) && (decide (f = 0) && decide (n = 0))) := by unfold nodeB; rw [if_pos ho]
  rw [hN]
  clear hN
  have h0 := nat_int0 kids.length
  generalize kids.length = kn at *
  rcases plain_cases f n with ⟨p1, p2, p3⟩ | ⟨p1, p2, p3⟩ | ⟨p1, p3⟩
  all_goals
    rw [p3]
    clear p3
    rcases h0 with ⟨k1, k2⟩ | ⟨k1, k2⟩
    all_goals
      rw [k2]
      clear k2
      rcases ho with rfl | rfl
      all_goals
        go_enter Try.func58, Try.ntmps58
        go_wp2
        go_ret
        exact ⟨rfl, (Below.refl _ w).alloc (Nat.le_refl _) _⟩
set_option maxRecDepth 100000 in
set_option maxHeartbeats 4000000 in
theorem node_2 (parts op f n : Int) (kids : List Pl) (sa : Option Addr) (sc : Nat) (w : World) (hl : kids.length ≤ 100000) (ho : op = 2) : Calls Try.prog 58 #[nv ⟨op, f, n, .slice sa kids.length sc⟩, .int .i64 parts] w fun e w' => e = .returned (.bool (nodeB parts op f n kids)) ∧ Below w.heap.size w w' := by
  subst ho
  have hN : nodeB parts 2 f n kids = (decide (kids.length = 0) && inB f 0 8) := by unfold nodeB inB; simp
  rw [hN]
  clear hN
  have h0 := nat_int0 kids.length
  have cW := within_any f 0 8
  generalize kids.length = kn at *
  generalize inB f 0 8 = bw at *
  rcases plain_cases f n with ⟨p1, p2, p3⟩ | ⟨p1, p2, p3⟩ | ⟨p1, p3⟩
  all_goals
    clear p3
    rcases h0 with ⟨k1, k2⟩ | ⟨k1, k2⟩
    · rw [k2, Bool.true_and]
      clear k2
      go_enter Try.func58, Try.ntmps58
      go_wp2_with fail
      refine (cW _).mono ?_
      rintro e w1 ⟨rfl, hw1⟩
      subst w1
      go_wp2
      go_ret
      exact ⟨rfl, (Below.refl _ w).alloc (Nat.le_refl _) _⟩
    · rw [k2, Bool.false_and]
      clear k2 cW
      go_enter Try.func58, Try.ntmps58
      go_wp2
      go_ret
      exact ⟨rfl, (Below.refl _ w).alloc (Nat.le_refl _) _⟩
set_option maxRecDepth 100000 in
set_option maxHeartbeats 4000000 in
theorem node_3 (parts op f n : Int) (kids : List Pl) (sa : Option Addr) (sc : Nat) (w : World) (hl : kids.length ≤ 100000) (ho : op = 3) : Calls Try.prog 58 #[nv ⟨op, f, n, .slice sa kids.length sc⟩, .int .i64 parts] w fun e w' => e = .returned (.bool (nodeB parts op f n kids)) ∧ Below w.heap.size w w' := by
  subst ho
  have hN : nodeB parts 3 f n kids = (decide (kids.length = 0) && inB f 0 parts) := by unfold nodeB inB; simp
  rw [hN]
  clear hN
  have h0 := nat_int0 kids.length
  have cW := within_any f 0 parts
  generalize kids.length = kn at *
  generalize inB f 0 parts = bw at *
  rcases plain_cases f n with ⟨p1, p2, p3⟩ | ⟨p1, p2, p3⟩ | ⟨p1, p3⟩
  all_goals
    clear p3
    rcases h0 with ⟨k1, k2⟩ | ⟨k1, k2⟩
    · rw [k2, Bool.true_and]
      clear k2
      go_enter Try.func58, Try.ntmps58
      go_wp2_with fail
      refine (cW _).mono ?_
      rintro e w1 ⟨rfl, hw1⟩
      subst w1
      go_wp2
      go_ret
      exact ⟨rfl, (Below.refl _ w).alloc (Nat.le_refl _) _⟩
    · rw [k2, Bool.false_and]
      clear k2 cW
      go_enter Try.func58, Try.ntmps58
      go_wp2
      go_ret
      exact ⟨rfl, (Below.refl _ w).alloc (Nat.le_refl _) _⟩
set_option maxRecDepth 100000 in
set_option maxHeartbeats 4000000 in
theorem node_5 (parts op f n : Int) (kids : List Pl) (sa : Option Addr) (sc : Nat) (w : World) (hl : kids.length ≤ 100000) (ho : op = 5) : Calls Try.prog 58 #[nv ⟨op, f, n, .slice sa kids.length sc⟩, .int .i64 parts] w fun e w' => e = .returned (.bool (nodeB parts op f n kids)) ∧ Below w.heap.size w w' := by
  subst ho
  have hN : nodeB parts 5 f n kids = (decide (kids.length = 0) && inB f 1 8) := by unfold nodeB inB; simp
  rw [hN]
  clear hN
  have h0 := nat_int0 kids.length
  have cW := within_any f 1 8
  generalize kids.length = kn at *
  generalize inB f 1 8 = bw at *
  rcases plain_cases f n with ⟨p1, p2, p3⟩ | ⟨p1, p2, p3⟩ | ⟨p1, p3⟩
  all_goals
    clear p3
    rcases h0 with ⟨k1, k2⟩ | ⟨k1, k2⟩
    · rw [k2, Bool.true_and]
      clear k2
      go_enter Try.func58, Try.ntmps58
      go_wp2_with fail
      refine (cW _).mono ?_
      rintro e w1 ⟨rfl, hw1⟩
      subst w1
      go_wp2
      go_ret
      exact ⟨rfl, (Below.refl _ w).alloc (Nat.le_refl _) _⟩
    · rw [k2, Bool.false_and]
      clear k2 cW
      go_enter Try.func58, Try.ntmps58
      go_wp2
      go_ret
      exact ⟨rfl, (Below.refl _ w).alloc (Nat.le_refl _) _⟩
set_option maxRecDepth 100000 in
set_option maxHeartbeats 4000000 in
theorem node_67 (parts op f n : Int) (kids : List Pl) (sa : Option Addr) (sc : Nat) (w : World) (hl : kids.length ≤ 100000) (ho : op = 6 ∨ op = 7) : Calls Try.prog 58 #[nv ⟨op, f, n, .slice sa kids.length sc⟩, .int .i64 parts] w fun e w' => e = .returned (.bool (nodeB parts op f n kids)) ∧ Below w.heap.size w w' := by
  have hN : nodeB parts op f n kids = (decide (2 ≤ kids.length) && (decide (f = 0) && decide (n = 0))) := by
    unfold nodeB
    rcases ho with rfl | rfl <;> simp
  rw [hN]
  clear hN
  have h0 := nat_int2 kids.length
  generalize kids.length = kn at *
  rcases plain_cases f n with ⟨p1, p2, p3⟩ | ⟨p1, p2, p3⟩ | ⟨p1, p3⟩
  all_goals
    rw [p3]
    clear p3
    rcases h0 with ⟨k1, k2⟩ | ⟨k1, k2⟩
    all_goals
      rw [k2]
      clear k2
      rcases ho with rfl | rfl
      all_goals
        go_enter Try.func58, Try.ntmps58
        go_wp2
        go_ret
        exact ⟨rfl, (Below.refl _ w).alloc (Nat.le_refl _) _⟩
set_option maxRecDepth 100000 in
set_option maxHeartbeats 4000000 in
theorem node_else (parts op f n : Int) (kids : List Pl) (sa : Option Addr) (sc : Nat) (w : World) (hl : kids.length ≤ 100000) (h0 : op ≠ 0) (h1 : op ≠ 1) (h2 : op ≠ 2) (h3 : op ≠ 3) (h4 : op ≠ 4) (h5 : op ≠ 5) (h6 : op ≠ 6) (h7 : op ≠ 7) : Calls Try.prog 58 #[nv ⟨op, f, n, .slice sa kids.length sc⟩, .int .i64 parts] w fun e w' => e = .returned (.bool (nodeB parts op f n kids)) ∧ Below w.heap.size w w' := by
  have hN : nodeB parts op f n kids = false := by unfold nodeB; simp [h0, h1, h2, h3, h4, h5, h6, h7]
  rw [hN]
  clear hN
  have d0 : (op == 0) = false := by simpa using h0
  have d1 : (op == 1) = false := by simpa using h1
  have d2 : (op == 2) = false := by simpa using h2
  have d3 : (op == 3) = false := by simpa using h3
  have d4 : (op == 4) = false := by simpa using h4
  have d5 : (op == 5) = false := by simpa using h5
  have d6 : (op == 6) = false := by simpa using h6
  have d7 : (op == 7) = false := by simpa using h7
  clear h0 h1 h2 h3 h4 h5 h6 h7
  generalize kids.length = kn at *
  rcases plain_cases f n with ⟨p1, p2, p3⟩ | ⟨p1, p2, p3⟩ | ⟨p1, p3⟩
  all_goals
    clear p3
    go_enter Try.func58, Try.ntmps58
    go_wp2
    go_ret
    exact ⟨rfl, (Below.refl _ w).alloc (Nat.le_refl _) _⟩
set_option maxRecDepth 100000 in
set_option maxHeartbeats 4000000 in
theorem node_4 {P : Nat → Prop} (parts f n : Int) (kids : List Pl) (sa : Option Addr) (sc : Nat) (w : World) (hs : sizeP.sizeL kids ≤ 100000) (hp : PolAt P w (.mk 4 f n kids) ⟨4, f, n, .slice sa kids.length sc⟩) : Calls Try.prog 58 #[nv ⟨4, f, n, .slice sa kids.length sc⟩, .int .i64 parts] w fun e w' => e = .returned (.bool (nodeB parts 4 f n kids)) ∧ Below w.heap.size w w' := by
  have hN : nodeB parts 4 f n kids = (decide (kids.length = 1) && (decide (f = 0) && decide (n = 0)) && pred0 kids) := by unfold nodeB; simp
  rw [hN]
  clear hN
  have hl := len_le kids
  rcases nat_int1 kids.length with ⟨k1, k2⟩ | ⟨k1, k2⟩
  · rw [k2, Bool.true_and]
    rcases plain_cases f n with ⟨p1, p2, p3⟩ | ⟨p1, p2, p3⟩ | ⟨p1, p3⟩
    · rw [p3, Bool.true_and]
      clear p3 k2
      obtain ⟨sa', sc', e, hk⟩ := hp.open
      have hk1 : (kids.length : Int) = 1 := by simpa using k1
      obtain ⟨p, rfl⟩ := List.length_eq_one_iff.1 (show kids.length = 1 by omega)
      obtain ⟨b, off, sa2, n2, sc2, y0, y1, y2, e1, hb, ha, hp1⟩ := hk 0 (by simp)
      simp only [Nd.mk.injEq, Value.slice.injEq, true_and] at e
      obtain ⟨rfl, rfl⟩ := e
      subst e1
      obtain ⟨a0, a1, a2, a3⟩ := ha
      simp only [Nat.zero_mul, Nat.add_zero, List.getElem_cons_zero] at a0 a1 a2 a3 hp1
      have hsz : sizeP p ≤ 100000 := by simp [sizeP.sizeL] at hs; omega
      have cP := pred_any 100000 p _ (w.alloc (pobj ⟨4, f, n, .slice (some ⟨b, off, none⟩) 1 sc⟩)) hsz (by omega) (hp1.below ((Below.refl _ w).alloc (Nat.le_refl _) _))
      rw [show pred0 [p] = predP p from rfl]
      generalize predP p = bp at *
      clear hk hp hp1 hs hl hsz
      simp only [List.length_singleton] at k1 ⊢
      go_enter Try.func58, Try.ntmps58
      go_wp2_with fail
      refine cP.mono ?_
      rintro e w1 ⟨rfl, hb1⟩
      go_wp2
      go_ret
      exact ⟨rfl, ((Below.refl _ w).alloc (Nat.le_refl _) _).trans (hb1.mono (by simp))⟩
    all_goals
      rw [p3, Bool.false_and]
      clear p3 k2 hp hs
      generalize kids.length = kn at *
      go_enter Try.func58, Try.ntmps58
      go_wp2
      go_ret
      exact ⟨rfl, (Below.refl _ w).alloc (Nat.le_refl _) _⟩
  · rw [k2, Bool.false_and, Bool.false_and]
    clear k2 hp hs
    generalize kids.length = kn at *
    rcases plain_cases f n with ⟨p1, p2, p3⟩ | ⟨p1, p2, p3⟩ | ⟨p1, p3⟩
    all_goals
      clear p3
      go_enter Try.func58, Try.ntmps58
      go_wp2
      go_ret
      exact ⟨rfl, (Below.refl _ w).alloc (Nat.le_refl _) _⟩
theorem node_any {P : Nat → Prop} (parts op f n : Int) (kids : List Pl) (x : Nd) (w : World) (hs : sizeP.sizeL kids ≤ 100000) (hp : PolAt P w (.mk op f n kids) x) : Calls Try.prog 58 #[nv x, .int .i64 parts] w fun e w' => e = .returned (.bool (nodeB parts op f n kids)) ∧ Below w.heap.size w w' := by
  have hl := len_le kids
  obtain ⟨sa, sc, rfl, -⟩ := hp.open
  by_cases h01 : op = 0 ∨ op = 1
  · exact node_01 parts op f n kids sa sc w (by omega) h01
  by_cases h2 : op = 2
  · exact node_2 parts op f n kids sa sc w (by omega) h2
  by_cases h3 : op = 3
  · exact node_3 parts op f n kids sa sc w (by omega) h3
  by_cases h5 : op = 5
  · exact node_5 parts op f n kids sa sc w (by omega) h5
  by_cases h4 : op = 4
  · subst h4
    exact node_4 parts f n kids sa sc w hs hp
  by_cases h67 : op = 6 ∨ op = 7
  · exact node_67 parts op f n kids sa sc w (by omega) h67
  exact node_else parts op f n kids sa sc w (by omega) (by omega) (by omega) h2 h3 h4 h5 (by omega) (by omega)
end Go.Proofs.Ytipiepcbgjceaaa
/- What isPolFormed answers; policies of up to 100000 nodes. -/
set_option linter.unusedVariables false
set_option linter.unusedSimpArgs false
namespace Go.Proofs.Ytipiepcbgjceaaa
open Go.RowKit Go.Joins

theorem formP_mk (parts op f n : Int) (kids : List Pl) : formP parts (.mk op f n kids) = (nodeB parts op f n kids && formP.formL parts kids) := by rw [formP]
set_option maxRecDepth 100000 in
set_option maxHeartbeats 4000000 in
theorem form_any {P : Nat → Prop} (parts : Int) : ∀ (m : Nat) (T : Pl) (x : Nd) (w : World), sizeP T ≤ m → m ≤ 100000 → PolAt P w T x → Calls Try.prog 50 #[nv x, .int .i64 parts] w fun e w' => e = .returned (.bool (formP parts T)) ∧ Below w.heap.size w w'
  | 0, T, x, w, h, _, _ => absurd (size_pos T) (by omega)
  | m + 1, .mk op f n kids, x, w, hs, hm, hp => by
    have ih := fun T x w h => form_any (P := P) parts m T x w h (by omega)
    rw [sizeP_mk] at hs
    have cN := node_any parts op f n kids x (w.alloc (pobj x)) (by omega) (hp.below ((Below.refl _ w).alloc (Nat.le_refl _) _))
    obtain ⟨sa, sc, rfl, hk⟩ := hp.open
    rw [formP_mk]
    have hl := len_le kids
    have HK : Hid _ := hk
    have IH : Hid _ := ih
    clear hk ih hp
    cases hn : nodeB parts op f n kids with
    | false =>
      rw [hn] at cN
      rw [Bool.false_and]
      clear hn HK IH
      go_enter Try.func50, Try.ntmps50
      go_wp2_with fail
      refine cN.mono ?_
      rintro e w1 ⟨rfl, hb1⟩
      go_wp2
      go_ret
      exact ⟨rfl, ((Below.refl _ w).alloc (Nat.le_refl _) _).trans (hb1.mono (by simp))⟩
    | true =>
      rw [hn] at cN
      rw [Bool.true_and]
      clear hn
      go_enter Try.func50, Try.ntmps50
      go_wp2_with fail
      refine cN.mono ?_
      rintro e w1 ⟨rfl, hb1⟩
      have HB0 : Hid (Below w.heap.size w w1) := ((Below.refl _ w).alloc (Nat.le_refl _) _).trans (hb1.mono (by simp))
      have hrow1 := row_kept hb1
      obtain ⟨r0, r1, r2, r3⟩ := row4 hrow1
      clear hb1 cN hrow1 r0 r1 r2
      go_wp2
      go_loopw [14] (fun i wr => ∃ k : Nat, k ≤ kids.length ∧ i = .int .i64 (k : Int) ∧ Hid (formP.formL parts (kids.take k) = true) ∧ Hid (Below w.heap.size w wr)) (fun i _ => kids.length - (intOf i).toNat)
      case atStart => exact ⟨0, Nat.zero_le _, rfl, by show _ = _; simp [formP.formL], HB0⟩
      case round =>
        obtain ⟨k, hkl, rfl, HT, HB⟩ := hrel
        by_cases hlt : k < kids.length
        · obtain ⟨b, off, sa2, n2, sc2, y0, y1, y2, rfl, hb, ha, hp⟩ := HK.out k hlt
          obtain ⟨a0, a1, a2, a3⟩ := ha.same (HB.out.block b hb)
          have hwr := HB.out.size
          have hsz := size_get kids k hlt
          have htk := formL_take parts kids k hlt
          rw [HT.out, Bool.true_and] at htk
          have cS := IH.out kids[k] ⟨y0, y1, y2, .slice sa2 n2 sc2⟩ (wr.alloc (pobj ⟨y0, y1, y2, .slice sa2 n2 sc2⟩)) (by omega) ((hp.below HB.out).below ((Below.refl _ _).alloc (Nat.le_refl _) _))
          have HP : Hid (formP parts kids[k] = false → formP.formL parts kids = false) := formL_false parts kids k hlt
          clear hp ha hsz
          cases hpk : formP parts kids[k] with
          | true =>
            rw [hpk] at cS htk
            have HT2 : Hid (formP.formL parts (kids.take (k + 1)) = true) := htk
            clear hpk htk
            go_wp2_with fail
            refine cS.mono ?_
            rintro e w2 ⟨rfl, hb2⟩
            have HB1 : Hid (Below w.heap.size w w2) := (HB.out.alloc hwr _).trans (hb2.mono (by simp; omega))
            clear hb2 cS
            go_wp2
            go_roundw
            case rel => exact ⟨k + 1, by omega, by go_num, HT2, HB1⟩
            case measure => simp [intOf]; omega
          | false =>
            rw [hpk] at cS
            have HP2 : Hid (formP.formL parts kids = false) := HP.out hpk
            clear hpk htk
            go_wp2_with fail
            refine cS.mono ?_
            rintro e w2 ⟨rfl, hb2⟩
            have HB1 : Hid (Below w.heap.size w w2) := (HB.out.alloc hwr _).trans (hb2.mono (by simp; omega))
            clear hb2 cS
            go_wp2
            go_ret
            exact ⟨by rw [HP2.out]; rfl, HB1.out⟩
        · obtain rfl : k = kids.length := by omega
          have HT2 : Hid (formP.formL parts kids = true) := by have := HT.out; rwa [List.take_length] at this
          go_wp2
          go_ret
          exact ⟨by rw [HT2.out]; rfl, HB.out⟩
end Go.Proofs.Ytipiepcbgjceaaa

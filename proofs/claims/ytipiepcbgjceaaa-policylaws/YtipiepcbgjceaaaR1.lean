/- What the document's Predicate answers; policies of up to 100000 nodes. -/
import Derived.Test.YtipiepcbgjceaaaK3
import Derived.Test.YtipiepcbgjceaaaK8
import Derived.Deep.QuietTactic
import Derived.Test.YtipiepcbgjceaaaK6
set_option linter.unusedVariables false
set_option linter.unusedSimpArgs false
namespace Go.Proofs.Ytipiepcbgjceaaa
open Go.RowKit Go.Joins

set_option maxRecDepth 100000 in
set_option maxHeartbeats 4000000 in
theorem rpred_any {P : Nat → Prop} : ∀ (m : Nat) (T : Pl) (x : Nd) (w : World), sizeP T ≤ m → m ≤ 100000 → PolAt P w T x → Calls Try.prog 21 #[nv x] w fun e w' => e = .returned (.bool (predP T)) ∧ Below w.heap.size w w'
  | 0, T, x, w, h, _, _ => absurd (size_pos T) (by omega)
  | m + 1, .mk op f n kids, x, w, hs, hm, hp => by
    obtain ⟨sa, sc, rfl, hk⟩ := hp.open
    have ih := fun T x w h => rpred_any (P := P) m T x w h (by omega)
    rw [sizeP_mk] at hs
    rw [predP_mk]
    have hl := len_le kids
    have HK : Hid _ := hk
    have IH : Hid _ := ih
    clear hk ih hp
    by_cases hB : opB op = true
    · rw [hB, Bool.true_or]
      unfold opB at hB
      simp only [Bool.or_eq_true, decide_eq_true_eq] at hB
      clear HK IH
      rcases hB with (((rfl | rfl) | rfl) | rfl) | rfl
      all_goals
        go_enter Try.func21, Try.ntmps21
        go_wp2
        go_ret
        exact ⟨rfl, (Below.refl _ w).alloc (Nat.le_refl _) _⟩
    · have hB2 : opB op = false := by simpa using hB
      rw [hB2, Bool.false_or]
      unfold opB at hB2
      simp only [Bool.or_eq_false_iff, decide_eq_false_iff_not] at hB2
      obtain ⟨⟨⟨⟨n0, n1⟩, n2⟩, n3⟩, n4⟩ := hB2
      clear hB
      by_cases hM : opM op = true
      · rw [hM, Bool.true_and]
        unfold opM at hM
        simp only [Bool.or_eq_true, decide_eq_true_eq] at hM
        clear n0 n1 n2 n3 n4
        rcases hM with rfl | rfl
        · go_enter Try.func21, Try.ntmps21
          go_wp2
          go_loopw [3] (fun i wr => ∃ k : Nat, k ≤ kids.length ∧ i = .int .i64 (k : Int) ∧ Hid (predP.predL (kids.take k) = true) ∧ Hid (Below w.heap.size w wr) ∧ wr.heap[w.heap.size]? = some (pobj ⟨6, f, n, .slice sa kids.length sc⟩)) (fun i _ => kids.length - (intOf i).toNat)
          case atStart => exact ⟨0, Nat.zero_le _, rfl, by show _ = _; simp [predP.predL], (Below.refl _ w).alloc (Nat.le_refl _) _, heap_alloc_new w _⟩
          case round =>
            obtain ⟨k, hkl, rfl, HT, HB, hrow⟩ := hrel
            obtain ⟨r0, r1, r2, r3⟩ := row4 hrow
            have HRow : Hid (wr.heap[w.heap.size]? = some (pobj ⟨6, f, n, .slice sa kids.length sc⟩)) := hrow
            clear hrow
            by_cases hlt : k < kids.length
            · obtain ⟨b, off, sa2, n2, sc2, y0, y1, y2, rfl, hb, ha, hp⟩ := HK.out k hlt
              obtain ⟨a0, a1, a2, a3⟩ := ha.same (HB.out.block b hb)
              have hwr := HB.out.size
              have hsz := size_get kids k hlt
              have htk := predL_take kids k hlt
              rw [HT.out, Bool.true_and] at htk
              have cS := IH.out kids[k] ⟨y0, y1, y2, .slice sa2 n2 sc2⟩ wr (by omega) (hp.below HB.out)
              have HP : Hid (predP kids[k] = false → predP.predL kids = false) := predL_false kids k hlt
              clear hp ha hsz
              cases hpk : predP kids[k] with
              | true =>
                rw [hpk] at cS htk
                have HT2 : Hid (predP.predL (kids.take (k + 1)) = true) := htk
                clear hpk htk
                go_wp2_with fail
                refine cS.mono ?_
                rintro e w1 ⟨rfl, hb1⟩
                have HB1 : Hid (Below w.heap.size w w1) := HB.out.trans (hb1.mono hwr)
                have HR1 : Hid (w1.heap[w.heap.size]? = some _) := (hb1.block _ (heap_lt HRow.out)).trans HRow.out
                clear hb1 cS
                go_wp2
                go_roundw
                case rel => exact ⟨k + 1, by omega, by go_num, HT2, HB1, HR1.out⟩
                case measure => simp [intOf]; omega
              | false =>
                rw [hpk] at cS
                have HP2 : Hid (predP.predL kids = false) := HP.out hpk
                clear hpk htk
                go_wp2_with fail
                refine cS.mono ?_
                rintro e w1 ⟨rfl, hb1⟩
                have HB1 : Hid (Below w.heap.size w w1) := HB.out.trans (hb1.mono hwr)
                clear hb1 cS
                go_wp2
                go_ret
                exact ⟨by rw [HP2.out]; rfl, HB1.out⟩
            · obtain rfl : k = kids.length := by omega
              have HT2 : Hid (predP.predL kids = true) := by have := HT.out; rwa [List.take_length] at this
              go_wp2
              go_ret
              exact ⟨by rw [HT2.out]; rfl, HB.out⟩
        · go_enter Try.func21, Try.ntmps21
          go_wp2
          go_loopw [3] (fun i wr => ∃ k : Nat, k ≤ kids.length ∧ i = .int .i64 (k : Int) ∧ Hid (predP.predL (kids.take k) = true) ∧ Hid (Below w.heap.size w wr) ∧ wr.heap[w.heap.size]? = some (pobj ⟨7, f, n, .slice sa kids.length sc⟩)) (fun i _ => kids.length - (intOf i).toNat)
          case atStart => exact ⟨0, Nat.zero_le _, rfl, by show _ = _; simp [predP.predL], (Below.refl _ w).alloc (Nat.le_refl _) _, heap_alloc_new w _⟩
          case round =>
            obtain ⟨k, hkl, rfl, HT, HB, hrow⟩ := hrel
            obtain ⟨r0, r1, r2, r3⟩ := row4 hrow
            have HRow : Hid (wr.heap[w.heap.size]? = some (pobj ⟨7, f, n, .slice sa kids.length sc⟩)) := hrow
            clear hrow
            by_cases hlt : k < kids.length
            · obtain ⟨b, off, sa2, n2, sc2, y0, y1, y2, rfl, hb, ha, hp⟩ := HK.out k hlt
              obtain ⟨a0, a1, a2, a3⟩ := ha.same (HB.out.block b hb)
              have hwr := HB.out.size
              have hsz := size_get kids k hlt
              have htk := predL_take kids k hlt
              rw [HT.out, Bool.true_and] at htk
              have cS := IH.out kids[k] ⟨y0, y1, y2, .slice sa2 n2 sc2⟩ wr (by omega) (hp.below HB.out)
              have HP : Hid (predP kids[k] = false → predP.predL kids = false) := predL_false kids k hlt
              clear hp ha hsz
              cases hpk : predP kids[k] with
              | true =>
                rw [hpk] at cS htk
                have HT2 : Hid (predP.predL (kids.take (k + 1)) = true) := htk
                clear hpk htk
                go_wp2_with fail
                refine cS.mono ?_
                rintro e w1 ⟨rfl, hb1⟩
                have HB1 : Hid (Below w.heap.size w w1) := HB.out.trans (hb1.mono hwr)
                have HR1 : Hid (w1.heap[w.heap.size]? = some _) := (hb1.block _ (heap_lt HRow.out)).trans HRow.out
                clear hb1 cS
                go_wp2
                go_roundw
                case rel => exact ⟨k + 1, by omega, by go_num, HT2, HB1, HR1.out⟩
                case measure => simp [intOf]; omega
              | false =>
                rw [hpk] at cS
                have HP2 : Hid (predP.predL kids = false) := HP.out hpk
                clear hpk htk
                go_wp2_with fail
                refine cS.mono ?_
                rintro e w1 ⟨rfl, hb1⟩
                have HB1 : Hid (Below w.heap.size w w1) := HB.out.trans (hb1.mono hwr)
                clear hb1 cS
                go_wp2
                go_ret
                exact ⟨by rw [HP2.out]; rfl, HB1.out⟩
            · obtain rfl : k = kids.length := by omega
              have HT2 : Hid (predP.predL kids = true) := by have := HT.out; rwa [List.take_length] at this
              go_wp2
              go_ret
              exact ⟨by rw [HT2.out]; rfl, HB.out⟩
      · have hM2 : opM op = false := by simpa using hM
        rw [hM2, Bool.false_and]
        unfold opM at hM2
        simp only [Bool.or_eq_false_iff, decide_eq_false_iff_not] at hM2
        obtain ⟨n6, n7⟩ := hM2
        clear hM HK IH
        by_cases h5 : op = 5
        · subst h5
          go_enter Try.func21, Try.ntmps21
          go_wp2
          go_ret
          exact ⟨rfl, (Below.refl _ w).alloc (Nat.le_refl _) _⟩
        · have d5 : (op == 5) = false := by simpa using h5
          by_cases h0 : op < 0
          · have d0 : decide (op < 0) = true := by simpa using h0
            clear n0 n1 n2 n3 n4 n6 n7 h5 h0
            go_enter Try.func21, Try.ntmps21
            go_wp2
            go_ret
            exact ⟨rfl, (Below.refl _ w).alloc (Nat.le_refl _) _⟩
          · have d0 : decide (op < 0) = false := by simpa using h0
            have d7 : decide (7 < op) = true := by simp; omega
            clear n0 n1 n2 n3 n4 n6 n7 h5 h0
            go_enter Try.func21, Try.ntmps21
            go_wp2
            go_ret
            exact ⟨rfl, (Below.refl _ w).alloc (Nat.le_refl _) _⟩
end Go.Proofs.Ytipiepcbgjceaaa
/- What the document's rising answers; lists of up to 100000 pairs. -/
set_option linter.unusedVariables false
set_option linter.unusedSimpArgs false
namespace Go.Proofs.Ytipiepcbgjceaaa
open Go.RowKit Go.Joins

/-- The least that the field at a place may be. -/
def lowB (l : List Pr) : Nat → Int
  | 0 => 0
  | k + 1 => (l.getD k (0, 0)).1 + 1
theorem low_succ (l : List Pr) (k : Nat) (h : k < l.length) : lowB l (k + 1) = l[k].1 + 1 := by
  show (l.getD k (0, 0)).1 + 1 = _
  rw [List.getD_eq_getElem?_getD, List.getElem?_eq_getElem h]; rfl
theorem rise_step (l : List Pr) (en : Int) (k : Nat) (h : k < l.length) (hz : 0 ≤ lowB l k) (hr : riseB (lowB l k) en (l.drop k) = riseB 0 en l) :
    (lowB l k ≤ l[k].1 → l[k].1 < en → 0 ≤ lowB l (k + 1) ∧ riseB (lowB l (k + 1)) en (l.drop (k + 1)) = riseB 0 en l) ∧ (¬ (lowB l k ≤ l[k].1 ∧ l[k].1 < en) → false = riseB 0 en l) := by
  rw [dropP l k h, riseB] at hr
  refine ⟨fun h1 h2 => ?_, fun hn => ?_⟩
  · rw [low_succ l k h]
    rw [decide_eq_true h1, decide_eq_true h2] at hr
    exact ⟨by omega, by simpa using hr⟩
  · rw [← hr]
    by_cases h1 : lowB l k ≤ l[k].1
    · rw [decide_eq_false (show ¬ l[k].1 < en from fun h2 => hn ⟨h1, h2⟩)]; simp
    · rw [decide_eq_false h1]; simp
set_option maxRecDepth 100000 in
set_option maxHeartbeats 4000000 in
theorem rrising_any (l : List Pr) (en : Int) (v : Value) (hl : l.length ≤ 100000) (w : World) (hp : Prs w v l) : Calls Try.prog 42 #[v, .int .i64 en] w fun e w' => e = .returned (.bool (riseB 0 en l)) ∧ Below w.heap.size w w' := by
  obtain ⟨sa, sc, rfl, hc⟩ := hp
  have HC : Hid _ := hc
  clear hc
  go_enter Try.func42, Try.ntmps42
  go_wp2
  go_loopw [5] (fun i wr => ∃ k : Nat, k ≤ l.length ∧ i = .int .i64 (k : Int) ∧ Hid (0 ≤ lowB l k ∧ riseB (lowB l k) en (l.drop k) = riseB 0 en l) ∧ Hid (Below w.heap.size w wr)) (fun i _ => l.length - (intOf i).toNat)
  case atStart => exact ⟨0, Nat.zero_le _, rfl, ⟨by show (0 : Int) ≤ 0; omega, by rw [List.drop_zero]; rfl⟩, Below.refl _ w⟩
  case round =>
    obtain ⟨k, hkl, rfl, HT, HB⟩ := hrel
    by_cases hlt : k < l.length
    · obtain ⟨b, off, rfl, hb, ha⟩ := HC.out k hlt
      obtain ⟨a0, a1⟩ := ha.same (HB.out.block b hb)
      have hst := rise_step l en k hlt HT.out.1 HT.out.2
      have hz := HT.out.1
      cases k with
      | zero =>
        have hlow : lowB l 0 = 0 := rfl
        simp only [Nat.zero_mul, Nat.add_zero] at a0 a1
        rw [hlow] at hst
        have HS : Hid _ := hst
        clear hst ha hz hlow
        generalize hc0 : l[0].1 = c0 at *
        clear hc0
        by_cases h0 : c0 < 0
        · have d0 : decide (c0 < 0) = true := by simpa using h0
          have HF : Hid (false = riseB 0 en l) := HS.out.2 (by omega)
          go_wp2
          go_quiet (fail)
          go_wp2
          go_ret
          exact ⟨by rw [← HF.out]; rfl, below_drewN HB.out _⟩
        · have d0 : decide (c0 < 0) = false := by simpa using h0
          by_cases h1 : en ≤ c0
          · have d1 : decide (en ≤ c0) = true := by simpa using h1
            have HF : Hid (false = riseB 0 en l) := HS.out.2 (by omega)
            go_wp2
            go_quiet (fail)
            go_wp2
            go_ret
            exact ⟨by rw [← HF.out]; rfl, below_drewN HB.out _⟩
          · have d1 : decide (en ≤ c0) = false := by simpa using h1
            have HT2 : Hid _ := HS.out.1 (by omega) (by omega)
            go_wp2
            go_quiet (fail)
            go_wp2
            go_roundw
            case rel => exact ⟨1, by omega, by go_num, HT2, below_drewN HB.out _⟩
            case measure => simp [intOf]; omega
      | succ j =>
        obtain ⟨b2, off2, e2, hb2, ha2⟩ := HC.out j (by omega)
        simp only [Option.some.injEq, Addr.mk.injEq, and_true] at e2
        obtain ⟨rfl, rfl⟩ := e2
        obtain ⟨p0, p1⟩ := ha2.same (HB.out.block b hb2)
        have hlow : lowB l (j + 1) = l[j].1 + 1 := low_succ l j (by omega)
        rw [hlow] at hst hz
        have HS : Hid _ := hst
        have hk0 : decide ((0 : Int) < ((j + 1 : Nat) : Int)) = true := by simp
        clear hst ha ha2 hlow
        generalize hc0 : l[j + 1].1 = c0 at *
        generalize hcp : l[j].1 = pv at *
        clear hc0 hcp
        by_cases h0 : c0 < 0
        · have d0 : decide (c0 < 0) = true := by simpa using h0
          have HF : Hid (false = riseB 0 en l) := HS.out.2 (by omega)
          go_wp2
          go_quiet (fail)
          go_wp2
          go_ret
          exact ⟨by rw [← HF.out]; rfl, below_drewN HB.out _⟩
        · have d0 : decide (c0 < 0) = false := by simpa using h0
          by_cases h1 : en ≤ c0
          · have d1 : decide (en ≤ c0) = true := by simpa using h1
            have HF : Hid (false = riseB 0 en l) := HS.out.2 (by omega)
            go_wp2
            go_quiet (fail)
            go_wp2
            go_ret
            exact ⟨by rw [← HF.out]; rfl, below_drewN HB.out _⟩
          · have d1 : decide (en ≤ c0) = false := by simpa using h1
            by_cases h2 : c0 ≤ pv
            · have d2 : decide (c0 ≤ pv) = true := by simpa using h2
              have HF : Hid (false = riseB 0 en l) := HS.out.2 (by omega)
              go_wp2
              go_quiet (fail)
              go_wp2
              go_ret
              exact ⟨by rw [← HF.out]; rfl, below_drewN HB.out _⟩
            · have d2 : decide (c0 ≤ pv) = false := by simpa using h2
              have HT2 : Hid _ := HS.out.1 (by omega) (by omega)
              go_wp2
              go_quiet (fail)
              go_wp2
              go_roundw
              case rel => exact ⟨j + 2, by omega, by go_num, HT2, below_drewN HB.out _⟩
              case measure => simp [intOf]; omega
    · obtain rfl : k = l.length := by omega
      have HT2 : Hid (true = riseB 0 en l) := by
        have := HT.out.2
        rw [List.drop_length, riseB] at this
        exact this
      go_wp2
      go_ret
      exact ⟨by rw [← HT2.out]; rfl, HB.out⟩
end Go.Proofs.Ytipiepcbgjceaaa
/- What the document's formed answers; policies of up to 100000 nodes. -/
set_option linter.unusedVariables false
set_option linter.unusedSimpArgs false
namespace Go.Proofs.Ytipiepcbgjceaaa
open Go.RowKit Go.Joins

theorem formP_is (parts op f n : Int) (kids : List Pl) : formP parts (.mk op f n kids) = (nodeB parts op f n kids && formP.formL parts kids) := by rw [formP]
theorem formL_0 (parts : Int) (kids : List Pl) (X : Bool) : (decide (kids.length = 0) && X && formP.formL parts kids) = (decide (kids.length = 0) && X) := by
  cases kids with
  | nil => simp [formP.formL]
  | cons p r => simp
set_option maxRecDepth 100000 in
set_option maxHeartbeats 4000000 in
theorem rf_0 (parts f n : Int) (kn : Nat) (hl : kn ≤ 100000) (sa : Option Addr) (sc : Nat) (w : World) : Calls Try.prog 41 #[nv ⟨0, f, n, .slice sa kn sc⟩, .int .i64 parts] w fun e w' => e = .returned (.bool (decide (kn = 0) && (decide (f = 0) && decide (n = 0)))) ∧ Below w.heap.size w w' := by
  have h0 := nat_int0 kn
  rcases plain_cases f n with ⟨p1, p2, p3⟩ | ⟨p1, p2, p3⟩ | ⟨p1, p3⟩
  all_goals
    rw [p3]
    clear p3
    rcases h0 with ⟨k1, k2⟩ | ⟨k1, k2⟩
    all_goals
      rw [k2]
      clear k2
      go_enter Try.func41, Try.ntmps41
      go_wp2
      go_ret
      exact ⟨rfl, (Below.refl _ w).alloc (Nat.le_refl _) _⟩
set_option maxRecDepth 100000 in
set_option maxHeartbeats 4000000 in
theorem rf_1 (parts f n : Int) (kn : Nat) (hl : kn ≤ 100000) (sa : Option Addr) (sc : Nat) (w : World) : Calls Try.prog 41 #[nv ⟨1, f, n, .slice sa kn sc⟩, .int .i64 parts] w fun e w' => e = .returned (.bool (decide (kn = 0) && (decide (f = 0) && decide (n = 0)))) ∧ Below w.heap.size w w' := by
  have h0 := nat_int0 kn
  rcases plain_cases f n with ⟨p1, p2, p3⟩ | ⟨p1, p2, p3⟩ | ⟨p1, p3⟩
  all_goals
    rw [p3]
    clear p3
    rcases h0 with ⟨k1, k2⟩ | ⟨k1, k2⟩
    all_goals
      rw [k2]
      clear k2
      go_enter Try.func41, Try.ntmps41
      go_wp2
      go_ret
      exact ⟨rfl, (Below.refl _ w).alloc (Nat.le_refl _) _⟩
set_option maxRecDepth 100000 in
set_option maxHeartbeats 4000000 in
theorem rf_2 (parts f n : Int) (kn : Nat) (hl : kn ≤ 100000) (sa : Option Addr) (sc : Nat) (w : World) : Calls Try.prog 41 #[nv ⟨2, f, n, .slice sa kn sc⟩, .int .i64 parts] w fun e w' => e = .returned (.bool (decide (kn = 0) && (decide (0 ≤ f) && decide (f < 8)))) ∧ Below w.heap.size w w' := by
  have h0 := nat_int0 kn
  cases h1 : decide (0 ≤ f)
  all_goals
    cases h2 : decide (f < 8)
    all_goals
      rcases h0 with ⟨k1, k2⟩ | ⟨k1, k2⟩
      all_goals
        rw [k2]
        clear k2
        go_enter Try.func41, Try.ntmps41
        go_wp2
        go_ret
        exact ⟨rfl, (Below.refl _ w).alloc (Nat.le_refl _) _⟩
set_option maxRecDepth 100000 in
set_option maxHeartbeats 4000000 in
theorem rf_3 (parts f n : Int) (kn : Nat) (hl : kn ≤ 100000) (sa : Option Addr) (sc : Nat) (w : World) : Calls Try.prog 41 #[nv ⟨3, f, n, .slice sa kn sc⟩, .int .i64 parts] w fun e w' => e = .returned (.bool (decide (kn = 0) && (decide (0 ≤ f) && decide (f < parts)))) ∧ Below w.heap.size w w' := by
  have h0 := nat_int0 kn
  cases h1 : decide (0 ≤ f)
  all_goals
    cases h2 : decide (f < parts)
    all_goals
      rcases h0 with ⟨k1, k2⟩ | ⟨k1, k2⟩
      all_goals
        rw [k2]
        clear k2
        go_enter Try.func41, Try.ntmps41
        go_wp2
        go_ret
        exact ⟨rfl, (Below.refl _ w).alloc (Nat.le_refl _) _⟩
set_option maxRecDepth 100000 in
set_option maxHeartbeats 4000000 in
theorem rf_5 (parts f n : Int) (kn : Nat) (hl : kn ≤ 100000) (sa : Option Addr) (sc : Nat) (w : World) : Calls Try.prog 41 #[nv ⟨5, f, n, .slice sa kn sc⟩, .int .i64 parts] w fun e w' => e = .returned (.bool (decide (kn = 0) && (decide (1 ≤ f) && decide (f < 8)))) ∧ Below w.heap.size w w' := by
  have h0 := nat_int0 kn
  cases h1 : decide (1 ≤ f)
  all_goals
    cases h2 : decide (f < 8)
    all_goals
      rcases h0 with ⟨k1, k2⟩ | ⟨k1, k2⟩
      all_goals
        rw [k2]
        clear k2
        go_enter Try.func41, Try.ntmps41
        go_wp2
        go_ret
        exact ⟨rfl, (Below.refl _ w).alloc (Nat.le_refl _) _⟩
set_option maxRecDepth 100000 in
set_option maxHeartbeats 4000000 in
theorem rf_else (parts f n : Int) (kn : Nat) (hl : kn ≤ 100000) (sa : Option Addr) (sc : Nat) (w : World) (op : Int) (h0 : op ≠ 0) (h1 : op ≠ 1) (h2 : op ≠ 2) (h3 : op ≠ 3) (h4 : op ≠ 4) (h5 : op ≠ 5) (h6 : op ≠ 6) (h7 : op ≠ 7) : Calls Try.prog 41 #[nv ⟨op, f, n, .slice sa kn sc⟩, .int .i64 parts] w fun e w' => e = .returned (.bool (false)) ∧ Below w.heap.size w w' := by
  have d0 : (op == 0) = false := by simpa using h0
  have d1 : (op == 1) = false := by simpa using h1
  have d2 : (op == 2) = false := by simpa using h2
  have d3 : (op == 3) = false := by simpa using h3
  have d4 : (op == 4) = false := by simpa using h4
  have d5 : (op == 5) = false := by simpa using h5
  have d6 : (op == 6) = false := by simpa using h6
  have d7 : (op == 7) = false := by simpa using h7
  clear h0 h1 h2 h3 h4 h5 h6 h7
  go_enter Try.func41, Try.ntmps41
  go_wp2
  go_ret
  exact ⟨rfl, (Below.refl _ w).alloc (Nat.le_refl _) _⟩
set_option maxRecDepth 100000 in
set_option maxHeartbeats 4000000 in
theorem rf_4no (parts f n : Int) (kn : Nat) (hl : kn ≤ 100000) (sa : Option Addr) (sc : Nat) (w : World) (hn : (decide (kn = 1) && (decide (f = 0) && decide (n = 0))) = false) : Calls Try.prog 41 #[nv ⟨4, f, n, .slice sa kn sc⟩, .int .i64 parts] w fun e w' => e = .returned (.bool (false)) ∧ Below w.heap.size w w' := by
  rcases nat_int1 kn with ⟨k1, k2⟩ | ⟨k1, k2⟩
  · rcases plain_cases f n with ⟨p1, p2, p3⟩ | ⟨p1, p2, p3⟩ | ⟨p1, p3⟩
    · rw [k2, p3] at hn; cases hn
    all_goals
      clear hn p3 k2
      go_enter Try.func41, Try.ntmps41
      go_wp2
      go_ret
      exact ⟨rfl, (Below.refl _ w).alloc (Nat.le_refl _) _⟩
  · clear hn k2
    go_enter Try.func41, Try.ntmps41
    go_wp2
    go_ret
    exact ⟨rfl, (Below.refl _ w).alloc (Nat.le_refl _) _⟩
set_option maxRecDepth 100000 in
set_option maxHeartbeats 4000000 in
theorem rf_no6 (parts f n : Int) (kn : Nat) (hl : kn ≤ 100000) (sa : Option Addr) (sc : Nat) (w : World) (hn : (decide (2 ≤ kn) && (decide (f = 0) && decide (n = 0))) = false) : Calls Try.prog 41 #[nv ⟨6, f, n, .slice sa kn sc⟩, .int .i64 parts] w fun e w' => e = .returned (.bool (false)) ∧ Below w.heap.size w w' := by
  rcases nat_int2 kn with ⟨k1, k2⟩ | ⟨k1, k2⟩
  · have k3 : decide ((kn : Int) < 2) = false := by simp at k1 ⊢; omega
    rcases plain_cases f n with ⟨p1, p2, p3⟩ | ⟨p1, p2, p3⟩ | ⟨p1, p3⟩
    · rw [k2, p3] at hn; cases hn
    · have q1 : (f != 0) = false := by rw [bne, p1]; rfl
      have q2 : (n != 0) = true := by rw [bne, p2]; rfl
      clear hn p1 p2 p3 k1 k2
      go_enter Try.func41, Try.ntmps41
      go_wp2
      go_ret
      exact ⟨rfl, (Below.refl _ w).alloc (Nat.le_refl _) _⟩
    · have q1 : (f != 0) = true := by rw [bne, p1]; rfl
      clear hn p1 p3 k1 k2
      go_enter Try.func41, Try.ntmps41
      go_wp2
      go_ret
      exact ⟨rfl, (Below.refl _ w).alloc (Nat.le_refl _) _⟩
  · have k3 : decide ((kn : Int) < 2) = true := by simp at k1 ⊢; omega
    clear hn k1 k2
    go_enter Try.func41, Try.ntmps41
    go_wp2
    go_ret
    exact ⟨rfl, (Below.refl _ w).alloc (Nat.le_refl _) _⟩
set_option maxRecDepth 100000 in
set_option maxHeartbeats 4000000 in
theorem rf_no7 (parts f n : Int) (kn : Nat) (hl : kn ≤ 100000) (sa : Option Addr) (sc : Nat) (w : World) (hn : (decide (2 ≤ kn) && (decide (f = 0) && decide (n = 0))) = false) : Calls Try.prog 41 #[nv ⟨7, f, n, .slice sa kn sc⟩, .int .i64 parts] w fun e w' => e = .returned (.bool (false)) ∧ Below w.heap.size w w' := by
  rcases nat_int2 kn with ⟨k1, k2⟩ | ⟨k1, k2⟩
  · have k3 : decide ((kn : Int) < 2) = false := by simp at k1 ⊢; omega
    rcases plain_cases f n with ⟨p1, p2, p3⟩ | ⟨p1, p2, p3⟩ | ⟨p1, p3⟩
    · rw [k2, p3] at hn; cases hn
    · have q1 : (f != 0) = false := by rw [bne, p1]; rfl
      have q2 : (n != 0) = true := by rw [bne, p2]; rfl
      clear hn p1 p2 p3 k1 k2
      go_enter Try.func41, Try.ntmps41
      go_wp2
      go_ret
      exact ⟨rfl, (Below.refl _ w).alloc (Nat.le_refl _) _⟩
    · have q1 : (f != 0) = true := by rw [bne, p1]; rfl
      clear hn p1 p3 k1 k2
      go_enter Try.func41, Try.ntmps41
      go_wp2
      go_ret
      exact ⟨rfl, (Below.refl _ w).alloc (Nat.le_refl _) _⟩
  · have k3 : decide ((kn : Int) < 2) = true := by simp at k1 ⊢; omega
    clear hn k1 k2
    go_enter Try.func41, Try.ntmps41
    go_wp2
    go_ret
    exact ⟨rfl, (Below.refl _ w).alloc (Nat.le_refl _) _⟩
end Go.Proofs.Ytipiepcbgjceaaa

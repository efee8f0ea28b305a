/- What the document's rising answers; lists of up to 100000 pairs. -/
import Derived.Test.YtipiepcbgjceaaaK8
import Derived.Deep.QuietTactic
set_option linter.unusedVariables false
set_option linter.unusedSimpArgs false
namespace Go.Proofs.Ytipiepcbgjceaaa
open Go.RowKit Go.Joins

/-- The least that the field at a place may be. -/
def lowB (l : List Pr) : Nat → Int
  | 0 => 0
  | k + 1 => (l.getD k (0, 0)).1 + 1
theorem low_succ (l : List Pr) (k : Nat) (h : k < l.length) : lowB l (k + 1) = l[k].1 + 1 := by
  show (l.getD k (0, 0)).1 + 1 = _
  rw [List.getD_eq_getElem?_getD, List.getElem?_eq_getElem h]; rfl
theorem rise_step (l : List Pr) (en : Int) (k : Nat) (h : k < l.length) (hz : 0 ≤ lowB l k) (hr : riseB (lowB l k) en (l.drop k) = riseB 0 en l) :
    (lowB l k ≤ l[k].1 → l[k].1 < en → 0 ≤ lowB l (k + 1) ∧ riseB (lowB l (k + 1)) en (l.drop (k + 1)) = riseB 0 en l) ∧ (¬ (lowB l k ≤ l[k].1 ∧ l[k].1 < en) → false = riseB 0 en l) := by
  rw [dropP l k h, riseB] at hr
  refine ⟨fun h1 h2 => ?_, fun hn => ?_⟩
  · rw [low_succ l k h]
    rw [decide_eq_true h1, decide_eq_true h2] at hr
    exact ⟨by omega, by simpa using hr⟩
  · rw [← hr]
    by_cases h1 : lowB l k ≤ l[k].1
    · rw [decide_eq_false (show ¬ l[k].1 < en from fun h2 => hn ⟨h1, h2⟩)]; simp
    · rw [decide_eq_false h1]; simp
set_option maxRecDepth 100000 in
set_option maxHeartbeats 4000000 in
theorem rrising_any (l : List Pr) (en : Int) (v : Value) (hl : l.length ≤ 100000) (w : World) (hp : Prs w v l) : Calls Try.prog 42 #[v, .int .i64 en] w fun e w' => e = .returned (.bool (riseB 0 en l)) ∧ Below w.heap.size w w' := by
  obtain ⟨sa, sc, rfl, hc⟩ := hp
  have HC : Hid _ := hc
  clear hc
  go_enter Try.func42, Try.ntmps42
  go_wp2
  go_loopw [5] (fun i wr => ∃ k : Nat, k ≤ l.length ∧ i = .int .i64 (k : Int) ∧ Hid (0 ≤ lowB l k ∧ riseB (lowB l k) en (l.drop k) = riseB 0 en l) ∧ Hid (Below w.heap.size w wr)) (fun i _ => l.length - (intOf i).toNat)
  case atStart => exact ⟨0, Nat.zero_le _, rfl, ⟨by show (0 : Int) ≤ 0; omega, by rw [List.drop_zero]; rfl⟩, Below.refl _ w⟩
  case round =>
    obtain ⟨k, hkl, rfl, HT, HB⟩ := hrel
    by_cases hlt : k < l.length
    · obtain ⟨b, off, rfl, hb, ha⟩ := HC.out k hlt
      obtain ⟨a0, a1⟩ := ha.same (HB.out.block b hb)
      have hst := rise_step l en k hlt HT.out.1 HT.out.2
      have hz := HT.out.1
      cases k with
      | zero =>
        have hlow : lowB l 0 = 0 := rfl
        simp only [Nat.zero_mul, Nat.add_zero] at a0 a1
        rw [hlow] at hst
        have HS : Hid _ := hst
        clear hst ha hz hlow
        generalize hc0 : l[0].1 = c0 at *
        clear hc0
        by_cases h0 : c0 < 0
        · have d0 : decide (c0 < 0) = true := by simpa using h0
          have HF : Hid (false = riseB 0 en l) := HS.out.2 (by omega)
          go_wp2
          go_quiet (fail)
          go_wp2
          go_ret
          exact ⟨by rw [← HF.out]; rfl, below_drewN HB.out _⟩
        · have d0 : decide (c0 < 0) = false := by simpa using h0
          by_cases h1 : en ≤ c0
          · have d1 : decide (en ≤ c0) = true := by simpa using h1
            have HF : Hid (false = riseB 0 en l) := HS.out.2 (by omega)
            go_wp2
            go_quiet (fail)
            go_wp2
            go_ret
            exact ⟨by rw [← HF.out]; rfl, below_drewN HB.out _⟩
          · have d1 : decide (en ≤ c0) = false := by simpa using h1
            have HT2 : Hid _ := HS.out.1 (by omega) (by omega)
            go_wp2
            go_quiet (fail)
            go_wp2
            go_roundw
            case rel => exact ⟨1, by omega, by go_num, HT2, below_drewN HB.out _⟩
            case measure => simp [intOf]; omega
      | succ j =>
        obtain ⟨b2, off2, e2, hb2, ha2⟩ := HC.out j (by omega)
        simp only [Option.some.injEq, Addr.mk.injEq, and_true] at e2
        obtain ⟨rfl, rfl⟩ := e2
        obtain ⟨p0, p1⟩ := ha2.same (HB.out.block b hb2)
        have hlow : lowB l (j + 1) = l[j].1 + 1 := low_succ l j (by omega)
        rw [hlow] at hst hz
        have HS : Hid _ := hst
        have hk0 : decide ((0 : Int) < ((j + 1 : Nat) : Int)) = true := by simp
        clear hst ha ha2 hlow
        generalize hc0 : l[j + 1].1 = c0 at *
        generalize hcp : l[j].1 = pv at *
        clear hc0 hcp
        by_cases h0 : c0 < 0
        · have d0 : decide (c0 < 0) = true := by simpa using h0
          have HF : Hid (false = riseB 0 en l) := HS.out.2 (by omega)
          go_wp2
          go_quiet (fail)
          go_wp2
          go_ret
          exact ⟨by rw [← HF.out]; rfl, below_drewN HB.out _⟩
        · have d0 : decide (c0 < 0) = false := by simpa using h0
          by_cases h1 : en ≤ c0
          · have d1 : decide (en ≤ c0) = true := by simpa using h1
            have HF : Hid (false = riseB 0 en l) := HS.out.2 (by omega)
            go_wp2
            go_quiet (fail)
            go_wp2
            go_ret
            exact ⟨by rw [← HF.out]; rfl, below_drewN HB.out _⟩
          · have d1 : decide (en ≤ c0) = false := by simpa using h1
            by_cases h2 : c0 ≤ pv
            · have d2 : decide (c0 ≤ pv) = true := by simpa using h2
              have HF : Hid (false = riseB 0 en l) := HS.out.2 (by omega)
              go_wp2
              go_quiet (fail)
              go_wp2
              go_ret
              exact ⟨by rw [← HF.out]; rfl, below_drewN HB.out _⟩
            · have d2 : decide (c0 ≤ pv) = false := by simpa using h2
              have HT2 : Hid _ := HS.out.1 (by omega) (by omega)
              go_wp2
              go_quiet (fail)
              go_wp2
              go_roundw
              case rel => exact ⟨j + 2, by omega, by go_num, HT2, below_drewN HB.out _⟩
              case measure => simp [intOf]; omega
    · obtain rfl : k = l.length := by omega
      have HT2 : Hid (true = riseB 0 en l) := by
        have := HT.out.2
        rw [List.drop_length, riseB] at this
        exact this
      go_wp2
      go_ret
      exact ⟨by rw [← HT2.out]; rfl, HB.out⟩
end Go.Proofs.Ytipiepcbgjceaaa

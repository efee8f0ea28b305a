/- What isRising, hasPort and isRuleFormed answer; lists of up to 100000 pairs. -/
import Derived.Test.YtipiepcbgjceaaaK3
import Derived.Test.YtipiepcbgjceaaaQ1
set_option linter.unusedVariables false
set_option linter.unusedSimpArgs false
namespace Go.Proofs.Ytipiepcbgjceaaa
open Go.RowKit Go.Joins

theorem dropP (l : List Pr) (k : Nat) (h : k < l.length) : l.drop k = l[k] :: l.drop (k + 1) := List.drop_eq_getElem_cons h
set_option maxRecDepth 100000 in
set_option maxHeartbeats 4000000 in
theorem rising_any (l : List Pr) (en : Int) (he : en ≤ 1000000) (v : Value) (hl : l.length ≤ 100000) (w : World) (hp : Prs w v l) : Calls Try.prog 59 #[v, .int .i64 en] w fun e w' => e = .returned (.bool (riseB 0 en l)) ∧ Below w.heap.size w w' := by
  obtain ⟨sa, sc, rfl, hc⟩ := hp
  have HC : Hid _ := hc
  clear hc
  go_enter Try.func59, Try.ntmps59
  go_wp2
  go_loopw [5, 10] (fun s i wr => ∃ (k : Nat) (z : Int), k ≤ l.length ∧ i = .int .i64 (k : Int) ∧ s = .int .i64 z ∧ 0 ≤ z ∧ z ≤ 1000000 ∧ Hid (riseB z en (l.drop k) = riseB 0 en l) ∧ Hid (Below w.heap.size w wr)) (fun _ i _ => l.length - (intOf i).toNat)
  case atStart => exact ⟨0, 0, Nat.zero_le _, rfl, rfl, by omega, by omega, by show _ = _; rw [List.drop_zero], Below.refl _ w⟩
  case round =>
    obtain ⟨k, z, hkl, rfl, rfl, hz0, hz1, HT, HB⟩ := hrel
    by_cases hlt : k < l.length
    · obtain ⟨b, off, rfl, hb, ha⟩ := HC.out k hlt
      obtain ⟨a0, a1⟩ := ha.same (HB.out.block b hb)
      have hwr := HB.out.size
      have htk := HT.out
      rw [dropP l k hlt, riseB] at htk
      have cW := within_any l[k].1 z en
      have ei : inB l[k].1 z en = (decide (z ≤ l[k].1) && decide (l[k].1 < en)) := rfl
      rw [← ei] at htk
      cases hi : inB l[k].1 z en with
      | true =>
        rw [hi, Bool.true_and] at htk
        rw [hi] at cW
        have HT2 : Hid (riseB (l[k].1 + 1) en (l.drop (k + 1)) = riseB 0 en l) := htk
        have hbd : z ≤ l[k].1 ∧ l[k].1 < en := by
          rw [ei] at hi
          simpa using hi
        clear ha htk hi ei
        generalize l[k].1 = c0 at *
        generalize l[k].2 = c1 at *
        go_wp2_with fail
        refine (cW _).mono ?_
        rintro e w1 ⟨rfl, hw1⟩
        subst w1
        go_wp2
        go_roundw
        case rel => exact ⟨k + 1, c0 + 1, by omega, by go_num, rfl, by omega, by omega, HT2, HB.out.alloc hwr _⟩
        case measure => simp [intOf]; omega
      | false =>
        rw [hi, Bool.false_and] at htk
        rw [hi] at cW
        have HT2 : Hid (false = riseB 0 en l) := htk
        clear ha htk hi ei
        generalize l[k].1 = c0 at *
        generalize l[k].2 = c1 at *
        go_wp2_with fail
        refine (cW _).mono ?_
        rintro e w1 ⟨rfl, hw1⟩
        subst w1
        go_wp2
        go_ret
        exact ⟨by rw [← HT2.out]; rfl, HB.out.alloc hwr _⟩
    · obtain rfl : k = l.length := by omega
      have HT2 : Hid (true = riseB 0 en l) := by
        have := HT.out
        rw [List.drop_length, riseB] at this
        exact this
      go_wp2
      go_ret
      exact ⟨by rw [← HT2.out]; rfl, HB.out⟩

set_option maxRecDepth 100000 in
set_option maxHeartbeats 4000000 in
theorem port_any (l : List Pr) (v : Value) (hl : l.length ≤ 100000) (w : World) (hp : Prs w v l) : Calls Try.prog 60 #[v] w fun e w' => e = .returned (.bool (portB l)) ∧ w' = w := by
  obtain ⟨sa, sc, rfl, hc⟩ := hp
  match l, hl, hc with
  | [], _, _ =>
    go_enter Try.func60, Try.ntmps60
    go_wp2
    go_ret
    exact ⟨rfl, rfl⟩
  | [a], _, _ =>
    go_enter Try.func60, Try.ntmps60
    go_wp2
    go_ret
    exact ⟨rfl, rfl⟩
  | a :: b :: r, hl, hc =>
    obtain ⟨g, off, rfl, hb, ha⟩ := hc 0 (by simp)
    obtain ⟨g2, off2, e2, hb2, ha2⟩ := hc 1 (by simp)
    simp only [Option.some.injEq, Addr.mk.injEq, and_true] at e2
    obtain ⟨rfl, rfl⟩ := e2
    obtain ⟨a0, a1⟩ := ha
    obtain ⟨b0, b1⟩ := ha2
    simp only [Nat.zero_mul, Nat.add_zero, List.getElem_cons_zero, List.getElem_cons_succ, Nat.one_mul] at a0 a1 b0 b1
    rw [show portB (a :: b :: r) = (decide (a.1 = 0) && decide (b.1 = 1)) from rfl]
    have hn : (a :: b :: r).length = r.length + 2 := rfl
    rw [hn] at hl ⊢
    generalize r.length = rn at *
    have d : decide ((2 : Int) ≤ ((rn + 2 : Nat) : Int)) = true := by simp; omega
    clear hc hn
    generalize a.1 = x at *
    generalize b.1 = y at *
    by_cases hx : x = 0
    · have dx : (x == 0) = true := by simpa using hx
      by_cases hy : y = 1
      · have dy : (y == 1) = true := by simpa using hy
        rw [decide_eq_true hx, decide_eq_true hy]
        clear hx hy
        go_enter Try.func60, Try.ntmps60
        go_wp2
        go_ret
        exact ⟨rfl, rfl⟩
      · have dy : (y == 1) = false := by simpa using hy
        rw [decide_eq_true hx, decide_eq_false hy]
        clear hx hy
        go_enter Try.func60, Try.ntmps60
        go_wp2
        go_ret
        exact ⟨rfl, rfl⟩
    · have dx : (x == 0) = false := by simpa using hx
      rw [decide_eq_false hx, Bool.false_and]
      clear hx
      go_enter Try.func60, Try.ntmps60
      go_wp2
      go_ret
      exact ⟨rfl, rfl⟩
end Go.Proofs.Ytipiepcbgjceaaa

/- What isRising, hasPort and isRuleFormed answer; lists of up to 100000 pairs. -/
import Derived.Test.YtipiepcbgjceaaaK3
import Derived.Test.YtipiepcbgjceaaaQ1
set_option linter.unusedVariables false
set_option linter.unusedSimpArgs false
namespace Go.Proofs.Ytipiepcbgjceaaa
open Go.RowKit Go.Joins

theorem dropP (l : List Pr) (k : Nat) (h : k < l.length) : l.drop k = l[k] :: l.drop (k + 1) := List.drop_eq_getElem_cons h
set_option maxRecDepth 100000 in
set_option maxHeartbeats 4000000 in
theorem rising_any (l : List Pr) (en : Int) (he : en ≤ 1000000) (v : Value) (hl : l.length ≤ 100000) (w : World) (hp : Prs w v l) : Calls Try.prog 59 #[v, .int .i64 en] w fun e w' => e = .returned (.bool (riseB 0 en l)) ∧ Below w.heap.size w w' := by
  obtain ⟨sa, sc, rfl, hc⟩ := hp
  have HC : Hid _ := hc
  clear hc
  go_enter Try.func59, Try.ntmps59
  go_wp2
  go_loopw [5, 10] (fun s i wr => ∃ (k : Nat) (z : Int), k ≤ l.length ∧ i = .int .i64 (k : Int) ∧ s = .int .i64 z ∧ 0 ≤ z ∧ z ≤ 1000000 ∧ Hid (riseB z en (l.drop k) = riseB 0 en l) ∧ Hid (Below w.heap.size w wr)) (fun _ i _ => l.length - (intOf i).toNat)
  case atStart => exact ⟨0, 0, Nat.zero_le _, rfl, rfl, by omega, by omega, by show _ = _; rw [List.drop_zero], Below.refl _ w⟩
  case round =>
    obtain ⟨k, z, hkl, rfl, rfl, hz0, hz1, HT, HB⟩ := hrel
    by_cases hlt : k < l.length
    · obtain ⟨b, off, rfl, hb, ha⟩ := HC.out k hlt
      obtain ⟨a0, a1⟩ := ha.same (HB.out.block b hb)
      have hwr := HB.out.size
      have htk := HT.out
      rw [dropP l k hlt, riseB] at htk
      have cW := within_any l[k].1 z en
      have ei : inB l[k].1 z en = (decide (z ≤ l[k].1) && decide (l[k].1 < en)) := rfl
      rw [← ei] at htk
      cases hi : inB l[k].1 z en with
      | true =>
        rw [hi, Bool.true_and] at htk
        rw [hi] at cW
        have HT2 : Hid (riseB (l[k].1 + 1) en (l.drop (k + 1)) = riseB 0 en l) := htk
        have hbd : z ≤ l[k].1 ∧ l[k].1 < en := by
          rw [ei] at hi
          simpa using hi
        clear ha htk hi ei
        generalize l[k].1 = c0 at *
        generalize l[k].2 = c1 at *
        go_wp2_with fail
        refine (cW _).mono ?_
        rintro e w1 ⟨rfl, hw1⟩
        subst w1
        go_wp2
        go_roundw
        case rel => exact ⟨k + 1, c0 + 1, by omega, by go_num, rfl, by omega, by omega, HT2, HB.out.alloc hwr _⟩
        case measure => simp [intOf]; omega
      | false =>
        rw [hi, Bool.false_and] at htk
        rw [hi] at cW
        have HT2 : Hid (false = riseB 0 en l) := htk
        clear ha htk hi ei
        generalize l[k].1 = c0 at *
        generalize l[k].2 = c1 at *
        go_wp2_with fail
        refine (cW _).mono ?_
        rintro e w1 ⟨rfl, hw1⟩
        subst w1
        go_wp2
        go_ret
        exact ⟨by rw [← HT2.out]; rfl, HB.out.alloc hwr _⟩
    · obtain rfl : k = l.length := by omega
      have HT2 : Hid (true = riseB 0 en l) := by
        have := HT.out
        rw [List.drop_length, riseB] at this
        exact this
      go_wp2
      go_ret
      exact ⟨by rw [← HT2.out]; rfl, HB.out⟩

set_option maxRecDepth 100000 in
set_option maxHeartbeats 4000000 in
theorem port_any (l : List Pr) (v : Value) (hl : l.length ≤ 100000) (w : World) (hp : Prs w v l) : Calls Try.prog 60 #[v] w fun e w' => e = .returned (.bool (portB l)) ∧ w' = w := by
  obtain ⟨sa, sc, rfl, hc⟩ := hp
  match l, hl, hc with
  | [], _, _ =>
    go_enter Try.func60, Try.ntmps60
    go_wp2
    go_ret
    exact ⟨rfl, rfl⟩
  | [a], _, _ =>
    go_enter Try.func60, Try.ntmps60
    go_wp2
    go_ret
    exact ⟨rfl, rfl⟩
  | a :: b :: r, hl, hc =>
    obtain ⟨g, off, rfl, hb, ha⟩ := hc 0 (by simp)
    obtain ⟨g2, off2, e2, hb2, ha2⟩ := hc 1 (by simp)
    simp only [Option.some.injEq, Addr.mk.injEq, and_true] at e2
    obtain ⟨rfl, rfl⟩ := e2
    obtain ⟨a0, a1⟩ := ha
    obtain ⟨b0, b1⟩ := ha2
    simp only [Nat.zero_mul, Nat.add_zero, List.getElem_cons_zero, List.getElem_cons_succ, Nat.one_mul] at a0 a1 b0 b1
    rw [show portB (a :: b :: r) = (decide (a.1 = 0) && decide (b.1 = 1)) from rfl]
    have hn : (a :: b :: r).length = r.length + 2 := rfl
    rw [hn] at hl ⊢
    generalize r.length = rn at *
    have d : decide ((2 : Int) ≤ ((rn + 2 : Nat) : Int)) = true := by simp; omega
    clear hc hn
    generalize a.1 = x at *
    generalize b.1 = y at *
    by_cases hx : x = 0
    · have dx : (x == 0) = true := by simpa using hx
      by_cases hy : y = 1
      · have dy : (y == 1) = true := by simpa using hy
        rw [decide_eq_true hx, decide_eq_true hy]
        clear hx hy
        go_enter Try.func60, Try.ntmps60
        go_wp2
        go_ret
        exact ⟨rfl, rfl⟩
      · have dy : (y == 1) = false := by simpa using hy
        rw [decide_eq_true hx, decide_eq_false hy]
        clear hx hy
        go_enter Try.func60, Try.ntmps60
        go_wp2
        go_ret
        exact ⟨rfl, rfl⟩
    · have dx : (x == 0) = false := by simpa using hx
      rw [decide_eq_false hx, Bool.false_and]
      clear hx
      go_enter Try.func60, Try.ntmps60
      go_wp2
      go_ret
      exact ⟨rfl, rfl⟩
end Go.Proofs.Ytipiepcbgjceaaa
/- What isRuleFormed answers; lists of up to 100000 pairs. -/
set_option linter.unusedVariables false
set_option linter.unusedSimpArgs false
namespace Go.Proofs.Ytipiepcbgjceaaa
open Go.RowKit Go.Joins

/-- A rule lies there. -/
structure RuleAt (w : World) (v1 v2 v3 : Value) (r : Rl) : Prop where
  p1 : Prs w v1 r.when
  p2 : Prs w v2 r.guard
  p3 : Prs w v3 r.thn
theorem RuleAt.below {w w' : World} {v1 v2 v3 : Value} {r : Rl} (h : RuleAt w v1 v2 v3 r) (hb : Below w.heap.size w w') : RuleAt w' v1 v2 v3 r := ⟨h.p1.below hb, h.p2.below hb, h.p3.below hb⟩
theorem Prs.shape {w : World} {v : Value} {l : List Pr} (h : Prs w v l) : ∃ sa sc, v = .slice sa l.length sc := by
  obtain ⟨sa, sc, e, _⟩ := h
  exact ⟨sa, sc, e⟩
/-- Pairs lie behind a slice, in a block of P. -/
def PrsP (P : Nat → Prop) (w : World) (v : Value) (L : List Pr) : Prop :=
  ∃ sa sc, v = .slice sa L.length sc ∧ ∀ k (hk : k < L.length), ∃ b off, sa = some ⟨b, off, none⟩ ∧ P b ∧ b < w.heap.size ∧ At2 w b (off + k * 2) L[k]
theorem PrsP.keep {P Q : Nat → Prop} {w w' : World} {v : Value} {L : List Pr} (h : PrsP P w v L) (hs : w.heap.size ≤ w'.heap.size) (hk : ∀ b, P b → b < w.heap.size → Q b ∧ w'.heap[b]? = w.heap[b]?) : PrsP Q w' v L := by
  obtain ⟨sa, sc, hv, hc⟩ := h
  refine ⟨sa, sc, hv, fun k hkk => ?_⟩
  obtain ⟨b, off, e, hp, hb, ha⟩ := hc k hkk
  exact ⟨b, off, e, (hk b hp hb).1, Nat.lt_of_lt_of_le hb hs, ha.same (hk b hp hb).2⟩
theorem PrsP.prs {P : Nat → Prop} {w : World} {v : Value} {L : List Pr} (h : PrsP P w v L) : Prs w v L := by
  obtain ⟨sa, sc, hv, hc⟩ := h
  refine ⟨sa, sc, hv, fun k hkk => ?_⟩
  obtain ⟨b, off, e, hp, hb, ha⟩ := hc k hkk
  exact ⟨b, off, e, hb, ha⟩
theorem prsP_of_own {w : World} {lo : Nat} {v : Value} {L : List Pr} (h : w.ownsRow lo 84 2 v L.length (flat2 L)) : PrsP (fun b => lo ≤ b) w v L := by
  rcases h.2 with ⟨hv, hn⟩ | ⟨g, cap, cur, hv, hB, hgg, hcap, hmax, hsz, htk⟩
  · have : L = [] := List.length_eq_zero_iff.1 hn
    subst this
    exact ⟨none, 0, hv, fun k hk => by simp at hk⟩
  · refine ⟨_, cap, hv, fun k hk => ⟨g, 0, rfl, hB, heap_lt hgg, At2.of fun j hj => ?_⟩⟩
    rw [cell_of_row _ _ _ _ _ _ hgg]
    have hlt : k * 2 + j < L.length * 2 := by omega
    have := flat2_get L k hk j hj
    rw [← htk, List.getElem?_take_of_lt hlt, Array.getElem?_toList] at this
    rw [show 0 + k * 2 + j = k * 2 + j by omega]
    exact this
/-- A rule lies there, in blocks of P. -/
structure RulPv (P : Nat → Prop) (w : World) (v1 v2 v3 : Value) (r : Rl) : Prop where
  p1 : PrsP P w v1 r.when
  p2 : PrsP P w v2 r.guard
  p3 : PrsP P w v3 r.thn
theorem RulPv.keep {P Q : Nat → Prop} {w w' : World} {v1 v2 v3 : Value} {r : Rl} (h : RulPv P w v1 v2 v3 r) (hs : w.heap.size ≤ w'.heap.size) (hk : ∀ b, P b → b < w.heap.size → Q b ∧ w'.heap[b]? = w.heap[b]?) : RulPv Q w' v1 v2 v3 r :=
  ⟨h.p1.keep hs hk, h.p2.keep hs hk, h.p3.keep hs hk⟩
theorem RulPv.at {P : Nat → Prop} {w : World} {v1 v2 v3 : Value} {r : Rl} (h : RulPv P w v1 v2 v3 r) : RuleAt w v1 v2 v3 r := ⟨h.p1.prs, h.p2.prs, h.p3.prs⟩
/-- No list of it is too long. -/
def RlShort (r : Rl) : Prop := r.when.length ≤ 100000 ∧ r.guard.length ≤ 100000 ∧ r.thn.length ≤ 100000
abbrev robj3 (v1 v2 v3 : Value) : Obj := .cells #[v1, v2, v3] 82
theorem natpos (k : Nat) : (decide ((0 : Int) < (k : Int)) = true ∧ decide (0 < k) = true) ∨ (decide ((0 : Int) < (k : Int)) = false ∧ decide (0 < k) = false) := by
  by_cases h : 0 < k
  · exact .inl ⟨by simp; omega, by simp [h]⟩
  · exact .inr ⟨by simp; omega, by simp [h]⟩

set_option maxRecDepth 100000 in
set_option maxHeartbeats 4000000 in
theorem ruleF_any (r : Rl) (parts : Int) (hpt : parts ≤ 1000000) (v1 v2 v3 : Value) (hs : RlShort r) (w : World) (hr : RuleAt w v1 v2 v3 r) : Calls Try.prog 51 #[.agg #[v1, v2, v3], .int .i64 parts] w fun e w' => e = .returned (.bool (ruleB parts r)) ∧ Below w.heap.size w w' := by
  have hb0 := (Below.refl _ w).alloc (Nat.le_refl _) (robj3 v1 v2 v3)
  have HB0 : Hid (Below w.heap.size w (w.alloc (robj3 v1 v2 v3))) := hb0
  have HR : Hid (RuleAt (w.alloc (robj3 v1 v2 v3)) v1 v2 v3 r) := hr.below hb0
  have HW : Hid ((w.alloc (robj3 v1 v2 v3)).heap[w.heap.size]? = some (robj3 v1 v2 v3)) := heap_alloc_new w _
  obtain ⟨sa1, sc1, rfl⟩ := hr.p1.shape
  obtain ⟨sa2, sc2, rfl⟩ := hr.p2.shape
  obtain ⟨sa3, sc3, rfl⟩ := hr.p3.shape
  obtain ⟨hs1, hs2, hs3⟩ := hs
  have c1 := rising_any r.when 8 (by omega) _ hs1 _ HR.out.p1
  have c2 := fun W h => port_any r.when (.slice sa1 r.when.length sc1) hs1 W h
  have c3 := fun W h => rising_any r.guard parts hpt (.slice sa2 r.guard.length sc2) hs2 W h
  have c4 := fun W h => rising_any r.thn parts hpt (.slice sa3 r.thn.length sc3) hs3 W h
  have h5 := natpos r.thn.length
  have e : ruleB parts r = (riseB 0 8 r.when && portB r.when && riseB 0 parts r.guard && riseB 0 parts r.thn && decide (0 < r.thn.length)) := rfl
  rw [e]
  clear e hr hb0
  generalize riseB 0 8 r.when = b1 at *
  generalize portB r.when = b2 at *
  generalize riseB 0 parts r.guard = b3 at *
  generalize riseB 0 parts r.thn = b4 at *
  obtain ⟨n1, e1⟩ : ∃ n1, r.when.length = n1 := ⟨_, rfl⟩
  obtain ⟨n2, e2⟩ : ∃ n2, r.guard.length = n2 := ⟨_, rfl⟩
  obtain ⟨n3, e3⟩ : ∃ n3, r.thn.length = n3 := ⟨_, rfl⟩
  rw [e1] at HR HW HB0 c1 c2 hs1
  rw [e2] at HR HW HB0 c1 c3 hs2
  rw [e3] at HR HW HB0 c1 c4 h5 hs3
  rw [e1, e2, e3]
  clear e1 e2 e3
  cases b1 with
  | false =>
    simp only [Bool.false_and]
    go_enter Try.func51, Try.ntmps51
    go_wp2_with fail
    refine c1.mono ?_
    rintro e w1 ⟨rfl, hb1⟩
    have HB1 : Hid (Below w.heap.size w w1) := HB0.out.trans (hb1.mono HB0.out.size)
    have HR1 : Hid (RuleAt w1 (.slice sa1 n1 sc1) (.slice sa2 n2 sc2) (.slice sa3 n3 sc3) r) := HR.out.below hb1
    have HW1 : Hid (w1.heap[w.heap.size]? = some (robj3 (.slice sa1 n1 sc1) (.slice sa2 n2 sc2) (.slice sa3 n3 sc3))) := (hb1.block _ (heap_lt HW.out)).trans HW.out
    obtain ⟨⟨q0, q1, q2⟩, -⟩ := row3 HW1.out
    clear hb1 c1 HR HW HB0
    go_wp2
    go_ret
    exact ⟨rfl, HB1.out⟩
  | true =>
    cases b2 with
    | false =>
      simp only [Bool.true_and, Bool.false_and]
      go_enter Try.func51, Try.ntmps51
      go_wp2_with fail
      refine c1.mono ?_
      rintro e w1 ⟨rfl, hb1⟩
      have HB1 : Hid (Below w.heap.size w w1) := HB0.out.trans (hb1.mono HB0.out.size)
      have HR1 : Hid (RuleAt w1 (.slice sa1 n1 sc1) (.slice sa2 n2 sc2) (.slice sa3 n3 sc3) r) := HR.out.below hb1
      have HW1 : Hid (w1.heap[w.heap.size]? = some (robj3 (.slice sa1 n1 sc1) (.slice sa2 n2 sc2) (.slice sa3 n3 sc3))) := (hb1.block _ (heap_lt HW.out)).trans HW.out
      obtain ⟨⟨q0, q1, q2⟩, -⟩ := row3 HW1.out
      clear hb1 c1 HR HW HB0
      go_wp2_with fail
      refine (c2 _ HR1.out.p1).mono ?_
      rintro e w2 ⟨rfl, hw2⟩
      subst w2
      clear c2
      go_wp2
      go_ret
      exact ⟨rfl, HB1.out⟩
    | true =>
      cases b3 with
      | false =>
        simp only [Bool.true_and, Bool.false_and]
        go_enter Try.func51, Try.ntmps51
        go_wp2_with fail
        refine c1.mono ?_
        rintro e w1 ⟨rfl, hb1⟩
        have HB1 : Hid (Below w.heap.size w w1) := HB0.out.trans (hb1.mono HB0.out.size)
        have HR1 : Hid (RuleAt w1 (.slice sa1 n1 sc1) (.slice sa2 n2 sc2) (.slice sa3 n3 sc3) r) := HR.out.below hb1
        have HW1 : Hid (w1.heap[w.heap.size]? = some (robj3 (.slice sa1 n1 sc1) (.slice sa2 n2 sc2) (.slice sa3 n3 sc3))) := (hb1.block _ (heap_lt HW.out)).trans HW.out
        obtain ⟨⟨q0, q1, q2⟩, -⟩ := row3 HW1.out
        clear hb1 c1 HR HW HB0
        go_wp2_with fail
        refine (c2 _ HR1.out.p1).mono ?_
        rintro e w2 ⟨rfl, hw2⟩
        subst w2
        clear c2
        go_wp2_with fail
        refine (c3 _ HR1.out.p2).mono ?_
        rintro e w3 ⟨rfl, hb3⟩
        have HB3 : Hid (Below w.heap.size w w3) := HB1.out.trans (hb3.mono HB1.out.size)
        have HR3 : Hid (RuleAt w3 (.slice sa1 n1 sc1) (.slice sa2 n2 sc2) (.slice sa3 n3 sc3) r) := HR1.out.below hb3
        have HW3 : Hid (w3.heap[w.heap.size]? = some (robj3 (.slice sa1 n1 sc1) (.slice sa2 n2 sc2) (.slice sa3 n3 sc3))) := (hb3.block _ (heap_lt HW1.out)).trans HW1.out
        clear q0 q1 q2
        obtain ⟨⟨q0, q1, q2⟩, -⟩ := row3 HW3.out
        clear hb3 c3 HR1 HW1 HB1
        go_wp2
        go_ret
        exact ⟨rfl, HB3.out⟩
      | true =>
        cases b4 with
        | false =>
          simp only [Bool.true_and, Bool.false_and]
          go_enter Try.func51, Try.ntmps51
          go_wp2_with fail
          refine c1.mono ?_
          rintro e w1 ⟨rfl, hb1⟩
          have HB1 : Hid (Below w.heap.size w w1) := HB0.out.trans (hb1.mono HB0.out.size)
          have HR1 : Hid (RuleAt w1 (.slice sa1 n1 sc1) (.slice sa2 n2 sc2) (.slice sa3 n3 sc3) r) := HR.out.below hb1
          have HW1 : Hid (w1.heap[w.heap.size]? = some (robj3 (.slice sa1 n1 sc1) (.slice sa2 n2 sc2) (.slice sa3 n3 sc3))) := (hb1.block _ (heap_lt HW.out)).trans HW.out
          obtain ⟨⟨q0, q1, q2⟩, -⟩ := row3 HW1.out
          clear hb1 c1 HR HW HB0
          go_wp2_with fail
          refine (c2 _ HR1.out.p1).mono ?_
          rintro e w2 ⟨rfl, hw2⟩
          subst w2
          clear c2
          go_wp2_with fail
          refine (c3 _ HR1.out.p2).mono ?_
          rintro e w3 ⟨rfl, hb3⟩
          have HB3 : Hid (Below w.heap.size w w3) := HB1.out.trans (hb3.mono HB1.out.size)
          have HR3 : Hid (RuleAt w3 (.slice sa1 n1 sc1) (.slice sa2 n2 sc2) (.slice sa3 n3 sc3) r) := HR1.out.below hb3
          have HW3 : Hid (w3.heap[w.heap.size]? = some (robj3 (.slice sa1 n1 sc1) (.slice sa2 n2 sc2) (.slice sa3 n3 sc3))) := (hb3.block _ (heap_lt HW1.out)).trans HW1.out
          clear q0 q1 q2
          obtain ⟨⟨q0, q1, q2⟩, -⟩ := row3 HW3.out
          clear hb3 c3 HR1 HW1 HB1
          go_wp2_with fail
          refine (c4 _ HR3.out.p3).mono ?_
          rintro e w4 ⟨rfl, hb4⟩
          have HB4 : Hid (Below w.heap.size w w4) := HB3.out.trans (hb4.mono HB3.out.size)
          have HR4 : Hid (RuleAt w4 (.slice sa1 n1 sc1) (.slice sa2 n2 sc2) (.slice sa3 n3 sc3) r) := HR3.out.below hb4
          have HW4 : Hid (w4.heap[w.heap.size]? = some (robj3 (.slice sa1 n1 sc1) (.slice sa2 n2 sc2) (.slice sa3 n3 sc3))) := (hb4.block _ (heap_lt HW3.out)).trans HW3.out
          clear q0 q1 q2
          obtain ⟨⟨q0, q1, q2⟩, -⟩ := row3 HW4.out
          clear hb4 c4 HR3 HW3 HB3
          go_wp2
          go_ret
          exact ⟨rfl, HB4.out⟩
        | true =>
          simp only [Bool.true_and]
          clear h5
          go_enter Try.func51, Try.ntmps51
          go_wp2_with fail
          refine c1.mono ?_
          rintro e w1 ⟨rfl, hb1⟩
          have HB1 : Hid (Below w.heap.size w w1) := HB0.out.trans (hb1.mono HB0.out.size)
          have HR1 : Hid (RuleAt w1 (.slice sa1 n1 sc1) (.slice sa2 n2 sc2) (.slice sa3 n3 sc3) r) := HR.out.below hb1
          have HW1 : Hid (w1.heap[w.heap.size]? = some (robj3 (.slice sa1 n1 sc1) (.slice sa2 n2 sc2) (.slice sa3 n3 sc3))) := (hb1.block _ (heap_lt HW.out)).trans HW.out
          obtain ⟨⟨q0, q1, q2⟩, -⟩ := row3 HW1.out
          clear hb1 c1 HR HW HB0
          go_wp2_with fail
          refine (c2 _ HR1.out.p1).mono ?_
          rintro e w2 ⟨rfl, hw2⟩
          subst w2
          clear c2
          go_wp2_with fail
          refine (c3 _ HR1.out.p2).mono ?_
          rintro e w3 ⟨rfl, hb3⟩
          have HB3 : Hid (Below w.heap.size w w3) := HB1.out.trans (hb3.mono HB1.out.size)
          have HR3 : Hid (RuleAt w3 (.slice sa1 n1 sc1) (.slice sa2 n2 sc2) (.slice sa3 n3 sc3) r) := HR1.out.below hb3
          have HW3 : Hid (w3.heap[w.heap.size]? = some (robj3 (.slice sa1 n1 sc1) (.slice sa2 n2 sc2) (.slice sa3 n3 sc3))) := (hb3.block _ (heap_lt HW1.out)).trans HW1.out
          clear q0 q1 q2
          obtain ⟨⟨q0, q1, q2⟩, -⟩ := row3 HW3.out
          clear hb3 c3 HR1 HW1 HB1
          go_wp2_with fail
          refine (c4 _ HR3.out.p3).mono ?_
          rintro e w4 ⟨rfl, hb4⟩
          have HB4 : Hid (Below w.heap.size w w4) := HB3.out.trans (hb4.mono HB3.out.size)
          have HR4 : Hid (RuleAt w4 (.slice sa1 n1 sc1) (.slice sa2 n2 sc2) (.slice sa3 n3 sc3) r) := HR3.out.below hb4
          have HW4 : Hid (w4.heap[w.heap.size]? = some (robj3 (.slice sa1 n1 sc1) (.slice sa2 n2 sc2) (.slice sa3 n3 sc3))) := (hb4.block _ (heap_lt HW3.out)).trans HW3.out
          clear q0 q1 q2
          obtain ⟨⟨q0, q1, q2⟩, -⟩ := row3 HW4.out
          clear hb4 c4 HR3 HW3 HB3
          go_wp2
          go_ret
          exact ⟨rfl, HB4.out⟩
end Go.Proofs.Ytipiepcbgjceaaa

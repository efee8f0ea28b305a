/- What isFormed and Check answer; policies of up to 100000 nodes, lists of up to 100000. -/
import Derived.Test.YtipiepcbgjceaaaK10
set_option linter.unusedVariables false
set_option linter.unusedSimpArgs false
namespace Go.Proofs.Ytipiepcbgjceaaa
open Go.RowKit Go.Joins

theorem all_take (f : Rl → Bool) (l : List Rl) (k : Nat) (h : k < l.length) : (l.take (k + 1)).all f = ((l.take k).all f && f l[k]) := by
  rw [List.take_succ_eq_append_getElem h, List.all_append]; simp
theorem all_false (f : Rl → Bool) (l : List Rl) (k : Nat) (h : k < l.length) (hf : f l[k] = false) : l.all f = false := by
  rw [List.all_eq_false]
  exact ⟨l[k], List.getElem_mem h, by rw [hf]; decide⟩

set_option maxRecDepth 100000 in
set_option maxHeartbeats 4000000 in
theorem formed_any {P : Nat → Prop} (p : Pg) (iv : Value) (x : Nd) (rv : Value) (hs : PgShort p) (w : World) (h : PgAt P w iv x rv p) : Calls Try.prog 44 #[pgv iv x rv] w fun e w' => e = .returned (.bool (formP p.init.length p.pol && p.rules.all (ruleB p.init.length))) ∧ Below w.heap.size w w' := by
  have hb0 := (Below.refl _ w).alloc (Nat.le_refl _) (gobj iv x rv)
  have cF := form_any (p.init.length : Int) 100000 p.pol x _ hs.s (by omega) (h.pol.below hb0)
  have HRu : Hid (RulesAt P w rv p.rules) := h.rul
  have HB0 : Hid (Below w.heap.size w (w.alloc (gobj iv x rv))) := hb0
  have HW : Hid ((w.alloc (gobj iv x rv)).heap[w.heap.size]? = some (gobj iv x rv)) := heap_alloc_new w _
  obtain ⟨sa, sc, rfl⟩ := h.ini
  obtain ⟨sr, scr, rfl, hc⟩ := h.rul
  have HC : Hid _ := hc
  obtain ⟨-, -, -, sk, skc, hkv⟩ := h.pol.shape
  obtain ⟨xo, xf, xn, xk⟩ := x
  dsimp only at hkv
  subst hkv
  have hi := hs.i
  have hr := hs.r
  have HL : Hid (∀ r ∈ p.rules, RlShort r) := hs.l
  generalize p.pol.kids.length = kn at *
  obtain ⟨n, en⟩ : ∃ n, p.init.length = n := ⟨_, rfl⟩
  rw [en] at hi cF HB0 HW ⊢
  clear hb0 h hs hc en
  cases hf : formP (n : Int) p.pol with
  | false =>
    rw [hf] at cF
    rw [Bool.false_and]
    clear hf HC HL HRu
    go_enter Try.func44, Try.ntmps44
    go_wp2_with fail
    refine cF.mono ?_
    rintro e w1 ⟨rfl, hb1⟩
    go_wp2
    go_ret
    exact ⟨rfl, HB0.out.trans (hb1.mono HB0.out.size)⟩
  | true =>
    rw [hf] at cF
    rw [Bool.true_and]
    clear hf
    go_enter Try.func44, Try.ntmps44
    go_wp2_with fail
    refine cF.mono ?_
    rintro e w1 ⟨rfl, hb1⟩
    have HB1 : Hid (Below w.heap.size w w1) := HB0.out.trans (hb1.mono HB0.out.size)
    obtain ⟨q0, q1, q2, q3, q4, q5⟩ := row6 ((hb1.block _ (heap_lt HW.out)).trans HW.out)
    clear hb1 cF q0 q1 q2 q3 q4 HB0 HW
    go_wp2
    go_loopw [17] (fun i wr => ∃ k : Nat, k ≤ p.rules.length ∧ i = .int .i64 (k : Int) ∧ Hid ((p.rules.take k).all (ruleB n) = true) ∧ Hid (Below w.heap.size w wr)) (fun i _ => p.rules.length - (intOf i).toNat)
    case atStart => exact ⟨0, Nat.zero_le _, rfl, by show _ = _; simp, HB1⟩
    case round =>
      obtain ⟨k, hkl, rfl, HT, HB⟩ := hrel
      by_cases hlt : k < p.rules.length
      · obtain ⟨b, off, v1, v2, v3, rfl, -, hb, ⟨a0, a1, a2⟩, hru'⟩ := HC.out k hlt
        have hru := hru'.at
        clear hru'
        have q : ∀ o, wr.cell? ⟨b, o, none⟩ = w.cell? ⟨b, o, none⟩ := fun o => HB.out.cell (p := ⟨b, o, none⟩) hb
        rw [← q] at a0 a1 a2
        have hwr := HB.out.size
        have htk := all_take (ruleB n) p.rules k hlt
        rw [HT.out, Bool.true_and] at htk
        obtain ⟨sa1, sc1, rfl⟩ := hru.p1.shape
        obtain ⟨sa2, sc2, rfl⟩ := hru.p2.shape
        obtain ⟨sa3, sc3, rfl⟩ := hru.p3.shape
        have cS := ruleF_any p.rules[k] (n : Int) (by omega) _ _ _ (HL.out _ (List.getElem_mem hlt)) _ ((hru.below HB.out).below ((Below.refl _ _).alloc (Nat.le_refl _) (robj3 (.slice sa1 p.rules[k].when.length sc1) (.slice sa2 p.rules[k].guard.length sc2) (.slice sa3 p.rules[k].thn.length sc3))))
        have HP : Hid (ruleB n p.rules[k] = false → p.rules.all (ruleB n) = false) := all_false _ _ k hlt
        clear hru q
        generalize p.rules[k].when.length = n1 at *
        generalize p.rules[k].guard.length = n2 at *
        generalize p.rules[k].thn.length = n3 at *
        cases hpk : ruleB n p.rules[k] with
        | true =>
          rw [hpk] at cS htk
          have HT2 : Hid ((p.rules.take (k + 1)).all (ruleB n) = true) := htk
          clear hpk htk
          go_wp2_with fail
          refine cS.mono ?_
          rintro e w2 ⟨rfl, hb2⟩
          have HB2 : Hid (Below w.heap.size w w2) := (HB.out.alloc hwr _).trans (hb2.mono (by simp; omega))
          clear hb2 cS
          go_wp2
          go_roundw
          case rel => exact ⟨k + 1, by omega, by go_num, HT2, HB2⟩
          case measure => simp [intOf]; omega
        | false =>
          rw [hpk] at cS
          have HP2 : Hid (p.rules.all (ruleB n) = false) := HP.out hpk
          clear hpk htk
          go_wp2_with fail
          refine cS.mono ?_
          rintro e w2 ⟨rfl, hb2⟩
          have HB2 : Hid (Below w.heap.size w w2) := (HB.out.alloc hwr _).trans (hb2.mono (by simp; omega))
          clear hb2 cS
          go_wp2
          go_ret
          exact ⟨by rw [HP2.out]; rfl, HB2.out⟩
      · obtain rfl : k = p.rules.length := by omega
        have HT2 : Hid (p.rules.all (ruleB n) = true) := by have := HT.out; rwa [List.take_length] at this
        go_wp2
        go_ret
        exact ⟨by rw [HT2.out]; rfl, HB.out⟩

set_option maxRecDepth 100000 in
set_option maxHeartbeats 4000000 in
theorem check_any {P : Nat → Prop} (p : Pg) (iv : Value) (x : Nd) (rv : Value) (hs : PgShort p) (w : World) (h : PgAt P w iv x rv p) : Calls Try.prog 32 #[pgv iv x rv] w fun e w' => e = .returned (.int .i64 (checkM p : Int)) ∧ Below w.heap.size w w' := by
  have hb0 := (Below.refl _ w).alloc (Nat.le_refl _) (gobj iv x rv)
  have cL := long_any p iv x rv hs _ (h.below hb0)
  have HS : Hid (PgShort p) := hs
  have HG : Hid (PgAt P (w.alloc (gobj iv x rv)) iv x rv p) := h.below hb0
  have HB0 : Hid (Below w.heap.size w (w.alloc (gobj iv x rv))) := hb0
  have HW : Hid ((w.alloc (gobj iv x rv)).heap[w.heap.size]? = some (gobj iv x rv)) := heap_alloc_new w _
  obtain ⟨sa, sc, rfl⟩ := h.ini
  obtain ⟨sr, scr, rfl, -⟩ := h.rul
  obtain ⟨-, -, -, sk, skc, hkv⟩ := h.pol.shape
  obtain ⟨xo, xf, xn, xk⟩ := x
  dsimp only at hkv
  subst hkv
  clear hb0 h hs
  unfold checkM
  cases hl : longB p with
  | true =>
    rw [hl] at cL
    clear hl
    go_enter Try.func32, Try.ntmps32
    go_wp2_with fail
    refine cL.mono ?_
    rintro e w1 ⟨rfl, hb1⟩
    go_wp2
    go_ret
    exact ⟨rfl, HB0.out.trans (hb1.mono HB0.out.size)⟩
  | false =>
    rw [hl] at cL
    clear hl
    have cF := fun W hW => formed_any (P := P) p (.slice sa p.init.length sc) ⟨xo, xf, xn, .slice sk p.pol.kids.length skc⟩ (.slice sr p.rules.length scr) HS.out W hW
    cases hf : (formP p.init.length p.pol && p.rules.all (ruleB p.init.length)) with
    | true =>
      rw [hf] at cF
      clear hf
      go_enter Try.func32, Try.ntmps32
      go_wp2_with fail
      refine cL.mono ?_
      rintro e w1 ⟨rfl, hb1⟩
      have HB1 : Hid (Below w.heap.size w w1) := HB0.out.trans (hb1.mono HB0.out.size)
      replace cF := cF w1 (HG.out.below hb1)
      obtain ⟨q0, q1, q2, q3, q4, q5⟩ := row6 ((hb1.block _ (heap_lt HW.out)).trans HW.out)
      clear hb1 cL
      go_wp2_with fail
      refine cF.mono ?_
      rintro e w2 ⟨rfl, hb2⟩
      have HB2 : Hid (Below w.heap.size w w2) := HB1.out.trans (hb2.mono HB1.out.size)
      clear hb2 cF
      go_wp2
      go_ret
      exact ⟨rfl, HB2.out⟩
    | false =>
      rw [hf] at cF
      clear hf
      go_enter Try.func32, Try.ntmps32
      go_wp2_with fail
      refine cL.mono ?_
      rintro e w1 ⟨rfl, hb1⟩
      have HB1 : Hid (Below w.heap.size w w1) := HB0.out.trans (hb1.mono HB0.out.size)
      replace cF := cF w1 (HG.out.below hb1)
      obtain ⟨q0, q1, q2, q3, q4, q5⟩ := row6 ((hb1.block _ (heap_lt HW.out)).trans HW.out)
      clear hb1 cL
      go_wp2_with fail
      refine cF.mono ?_
      rintro e w2 ⟨rfl, hb2⟩
      have HB2 : Hid (Below w.heap.size w w2) := HB1.out.trans (hb2.mono HB1.out.size)
      clear hb2 cF
      go_wp2
      go_ret
      exact ⟨rfl, HB2.out⟩
end Go.Proofs.Ytipiepcbgjceaaa

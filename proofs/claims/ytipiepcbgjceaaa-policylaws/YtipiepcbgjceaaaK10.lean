/- What isLong, isFormed and Check answer; policies of up to 100000 nodes, lists of up to 100000. -/
import Derived.Test.YtipiepcbgjceaaaK8
import Derived.Test.YtipiepcbgjceaaaK6
set_option linter.unusedVariables false
set_option linter.unusedSimpArgs false
namespace Go.Proofs.Ytipiepcbgjceaaa
open Go.RowKit Go.Joins

/-- Rules lie behind a slice, in blocks of P. -/
def RulesAt (P : Nat → Prop) (w : World) (v : Value) (rs : List Rl) : Prop :=
  ∃ sa sc, v = .slice sa rs.length sc ∧ ∀ k (hk : k < rs.length), ∃ b off v1 v2 v3, sa = some ⟨b, off, none⟩ ∧ P b ∧ b < w.heap.size ∧ (w.cell? ⟨b, off + k * 3, none⟩ = some v1 ∧ w.cell? ⟨b, off + k * 3 + 1, none⟩ = some v2 ∧ w.cell? ⟨b, off + k * 3 + 2, none⟩ = some v3) ∧ RulPv P w v1 v2 v3 rs[k]
theorem RulesAt.keep {P Q : Nat → Prop} {w w' : World} {v : Value} {rs : List Rl} (h : RulesAt P w v rs) (hs : w.heap.size ≤ w'.heap.size) (hk : ∀ b, P b → b < w.heap.size → Q b ∧ w'.heap[b]? = w.heap[b]?) : RulesAt Q w' v rs := by
  obtain ⟨sa, sc, e, hc⟩ := h
  refine ⟨sa, sc, e, fun k hkk => ?_⟩
  obtain ⟨b, off, v1, v2, v3, e1, hp, hlt, ⟨a0, a1, a2⟩, hr⟩ := hc k hkk
  have q : ∀ o, w'.cell? ⟨b, o, none⟩ = w.cell? ⟨b, o, none⟩ := fun o => World.cell?_of_block (w := w) (w' := w') (hk b hp hlt).2
  exact ⟨b, off, v1, v2, v3, e1, (hk b hp hlt).1, Nat.lt_of_lt_of_le hlt hs, ⟨by rw [q]; exact a0, by rw [q]; exact a1, by rw [q]; exact a2⟩, hr.keep hs hk⟩
theorem RulesAt.below {P : Nat → Prop} {w w' : World} {v : Value} {rs : List Rl} (h : RulesAt P w v rs) (hb : Below w.heap.size w w') : RulesAt P w' v rs := h.keep hb.size fun b h1 h2 => ⟨h1, hb.block b h2⟩
/-- A program as a value: its numbers, its policy, its rules. -/
abbrev pgv (i : Value) (x : Nd) (r : Value) : Value := .agg #[i, .int .i64 x.op, .int .i64 x.f, .int .u16 x.n, x.kv, r]
abbrev gobj (i : Value) (x : Nd) (r : Value) : Obj := .cells #[i, .int .i64 x.op, .int .i64 x.f, .int .u16 x.n, x.kv, r] 67
/-- A program lies there. -/
structure PgAt (P : Nat → Prop) (w : World) (iv : Value) (x : Nd) (rv : Value) (p : Pg) : Prop where
  ini : ∃ sa sc, iv = .slice sa p.init.length sc
  pol : PolAt P w p.pol x
  rul : RulesAt P w rv p.rules
theorem PgAt.below {P : Nat → Prop} {w w' : World} {iv : Value} {x : Nd} {rv : Value} {p : Pg} (h : PgAt P w iv x rv p) (hb : Below w.heap.size w w') : PgAt P w' iv x rv p := ⟨h.ini, h.pol.below hb, h.rul.below hb⟩
theorem PgAt.keep {P Q : Nat → Prop} {w w' : World} {iv : Value} {x : Nd} {rv : Value} {p : Pg} (h : PgAt P w iv x rv p) (hs : w.heap.size ≤ w'.heap.size) (hk : ∀ b, P b → b < w.heap.size → Q b ∧ w'.heap[b]? = w.heap[b]?) : PgAt Q w' iv x rv p := ⟨h.ini, PolAt.keep hs hk _ _ h.pol, h.rul.keep hs hk⟩
/-- It is not too great. -/
structure PgShort (p : Pg) : Prop where
  i : p.init.length ≤ 100000
  s : sizeP p.pol ≤ 100000
  r : p.rules.length ≤ 100000
  l : ∀ r ∈ p.rules, RlShort r
theorem nat0 (k : Nat) : (((k : Int) == 0) = true ∧ decide (k = 0) = true) ∨ (((k : Int) == 0) = false ∧ decide (k = 0) = false) := nat_int0 k
theorem nat4 (k : Nat) : (decide ((4 : Int) < (k : Int)) = true ∧ decide (4 < k) = true) ∨ (decide ((4 : Int) < (k : Int)) = false ∧ decide (4 < k) = false) := by
  by_cases h : 4 < k
  · exact .inl ⟨by simp; omega, by simp [h]⟩
  · exact .inr ⟨by simp; omega, by simp [h]⟩
theorem nat24 (k : Nat) : (decide ((24 : Int) < (k : Int)) = true ∧ decide (24 < k) = true) ∨ (decide ((24 : Int) < (k : Int)) = false ∧ decide (24 < k) = false) := by
  by_cases h : 24 < k
  · exact .inl ⟨by simp; omega, by simp [h]⟩
  · exact .inr ⟨by simp; omega, by simp [h]⟩

set_option maxRecDepth 100000 in
set_option maxHeartbeats 4000000 in
theorem long_any {P : Nat → Prop} (p : Pg) (iv : Value) (x : Nd) (rv : Value) (hs : PgShort p) (w : World) (h : PgAt P w iv x rv p) : Calls Try.prog 43 #[pgv iv x rv] w fun e w' => e = .returned (.bool (longB p)) ∧ Below w.heap.size w w' := by
  have hb0 := (Below.refl _ w).alloc (Nat.le_refl _) (gobj iv x rv)
  have hp0 := h.pol.below hb0
  have cR := room_any 100000 p.pol x 300 20 _ hs.s (by omega) (by omega) (by omega) (by omega) (by omega) hp0
  have hbd := room_bd p.pol 300 20 (by omega)
  have hrn := room_neg p.pol
  obtain ⟨sa, sc, rfl⟩ := h.ini
  obtain ⟨sr, scr, rfl, -⟩ := h.rul
  obtain ⟨-, -, -, sk, skc, hkv⟩ := h.pol.shape
  obtain ⟨xo, xf, xn, xk⟩ := x
  dsimp only at hkv
  subst hkv
  have hi := hs.i
  have hr := hs.r
  have e : longB p = (decide (p.init.length = 0) || decide (4 < p.init.length) || decide (24 < p.rules.length) || (decide (300 < sizeP p.pol) || decide (20 < depthP p.pol))) := by unfold longB; simp only [Bool.or_assoc]
  rw [e, ← hrn]
  have h0 := nat0 p.init.length
  have h4 := nat4 p.init.length
  have h24 := nat24 p.rules.length
  clear e hrn hp0 h hs
  generalize roomP p.pol 300 20 = z at *
  generalize p.pol.kids.length = kn at *
  generalize p.init.length = n at *
  generalize p.rules.length = rn at *
  rcases h0 with ⟨k1, k2⟩ | ⟨k1, k2⟩
  · rw [k2]
    simp only [Bool.true_or]
    clear k2 h4 h24 cR
    go_enter Try.func43, Try.ntmps43
    go_wp2
    go_ret
    exact ⟨rfl, hb0⟩
  · rw [k2, Bool.false_or]
    clear k2
    rcases h4 with ⟨k3, k4⟩ | ⟨k3, k4⟩
    · rw [k4]
      simp only [Bool.true_or]
      clear k4 h24 cR
      go_enter Try.func43, Try.ntmps43
      go_wp2
      go_ret
      exact ⟨rfl, hb0⟩
    · rw [k4, Bool.false_or]
      clear k4
      rcases h24 with ⟨k5, k6⟩ | ⟨k5, k6⟩
      · rw [k6]
        simp only [Bool.true_or]
        clear k6 cR
        go_enter Try.func43, Try.ntmps43
        go_wp2
        go_ret
        exact ⟨rfl, hb0⟩
      · rw [k6, Bool.false_or]
        clear k6
        have HB : Hid _ := hb0
        clear hb0
        go_enter Try.func43, Try.ntmps43
        go_wp2_with fail
        refine cR.mono ?_
        rintro e w1 ⟨rfl, hb1⟩
        have HB1 : Hid (Below w.heap.size w w1) := HB.out.trans (hb1.mono HB.out.size)
        clear hb1 cR HB
        go_wp2
        go_ret
        exact ⟨rfl, HB1.out⟩
end Go.Proofs.Ytipiepcbgjceaaa
/- What isFormed and Check answer; policies of up to 100000 nodes, lists of up to 100000. -/
set_option linter.unusedVariables false
set_option linter.unusedSimpArgs false
namespace Go.Proofs.Ytipiepcbgjceaaa
open Go.RowKit Go.Joins

theorem all_take (f : Rl → Bool) (l : List Rl) (k : Nat) (h : k < l.length) : (l.take (k + 1)).all f = ((l.take k).all f && f l[k]) := by
  rw [List.take_succ_eq_append_getElem h, List.all_append]; simp
theorem all_false (f : Rl → Bool) (l : List Rl) (k : Nat) (h : k < l.length) (hf : f l[k] = false) : l.all f = false := by
  rw [List.all_eq_false]
  exact ⟨l[k], List.getElem_mem h, by rw [hf]; decide⟩

set_option maxRecDepth 100000 in
set_option maxHeartbeats 4000000 in
theorem formed_any {P : Nat → Prop} (p : Pg) (iv : Value) (x : Nd) (rv : Value) (hs : PgShort p) (w : World) (h : PgAt P w iv x rv p) : Calls Try.prog 44 #[pgv iv x rv] w fun e w' => e = .returned (.bool (formP p.init.length p.pol && p.rules.all (ruleB p.init.length))) ∧ Below w.heap.size w w' := by
  have hb0 := (Below.refl _ w).alloc (Nat.le_refl _) (gobj iv x rv)
  have cF := form_any (p.init.length : Int) 100000 p.pol x _ hs.s (by omega) (h.pol.below hb0)
  have HRu : Hid (RulesAt P w rv p.rules) := h.rul
  have HB0 : Hid (Below w.heap.size w (w.alloc (gobj iv x rv))) := hb0
  have HW : Hid ((w.alloc (gobj iv x rv)).heap[w.heap.size]? = some (gobj iv x rv)) := heap_alloc_new w _
  obtain ⟨sa, sc, rfl⟩ := h.ini
  obtain ⟨sr, scr, rfl, hc⟩ := h.rul
  have HC : Hid _ := hc
  obtain ⟨-, -, -, sk, skc, hkv⟩ := h.pol.shape
  obtain ⟨xo, xf, xn, xk⟩ := x
  dsimp only at hkv
  subst hkv
  have hi := hs.i
  have hr := hs.r
  have HL : Hid (∀ r ∈ p.rules, RlShort r) := hs.l
  generalize p.pol.kids.length = kn at *
  obtain ⟨n, en⟩ : ∃ n, p.init.length = n := ⟨_, rfl⟩
  rw [en] at hi cF HB0 HW ⊢
  clear hb0 h hs hc en
  cases hf : formP (n : Int) p.pol with
  | false =>
    rw [hf] at cF
    rw [Bool.false_and]
    clear hf HC HL HRu
    go_enter Try.func44, Try.ntmps44
    go_wp2_with fail
    refine cF.mono ?_
    rintro e w1 ⟨rfl, hb1⟩
    go_wp2
    go_ret
    exact ⟨rfl, HB0.out.trans (hb1.mono HB0.out.size)⟩
  | true =>
    rw [hf] at cF
    rw [Bool.true_and]
    clear hf
    go_enter Try.func44, Try.ntmps44
    go_wp2_with fail
    refine cF.mono ?_
    rintro e w1 ⟨rfl, hb1⟩
    have HB1 : Hid (Below w.heap.size w w1) := HB0.out.trans (hb1.mono HB0.out.size)
    obtain ⟨q0, q1, q2, q3, q4, q5⟩ := row6 ((hb1.block _ (heap_lt HW.out)).trans HW.out)
    clear hb1 cF q0 q1 q2 q3 q4 HB0 HW
    go_wp2
    go_loopw [17] (fun i wr => ∃ k : Nat, k ≤ p.rules.length ∧ i = .int .i64 (k : Int) ∧ Hid ((p.rules.take k).all (ruleB n) = true) ∧ Hid (Below w.heap.size w wr)) (fun i _ => p.rules.length - (intOf i).toNat)
    case atStart => exact ⟨0, Nat.zero_le _, rfl, by show _ = _; simp, HB1⟩
    case round =>
      obtain ⟨k, hkl, rfl, HT, HB⟩ := hrel
      by_cases hlt : k < p.rules.length
      · obtain ⟨b, off, v1, v2, v3, rfl, -, hb, ⟨a0, a1, a2⟩, hru'⟩ := HC.out k hlt
        have hru := hru'.at
        clear hru'
        have q : ∀ o, wr.cell? ⟨b, o, none⟩ = w.cell? ⟨b, o, none⟩ := fun o => HB.out.cell (p := ⟨b, o, none⟩) hb
        rw [← q] at a0 a1 a2
        have hwr := HB.out.size
        have htk := all_take (ruleB n) p.rules k hlt
        rw [HT.out, Bool.true_and] at htk
        obtain ⟨sa1, sc1, rfl⟩ := hru.p1.shape
        obtain ⟨sa2, sc2, rfl⟩ := hru.p2.shape
        obtain ⟨sa3, sc3, rfl⟩ := hru.p3.shape
        have cS := ruleF_any p.rules[k] (n : Int) (by omega) _ _ _ (HL.out _ (List.getElem_mem hlt)) _ ((hru.below HB.out).below ((Below.refl _ _).alloc (Nat.le_refl _) (robj3 (.slice sa1 p.rules[k].when.length sc1) (.slice sa2 p.rules[k].guard.length sc2) (.slice sa3 p.rules[k].thn.length sc3))))
        have HP : Hid (ruleB n p.rules[k] = false → p.rules.all (ruleB n) = false) := all_false _ _ k hlt
        clear hru q
        generalize p.rules[k].when.length = n1 at *
        generalize p.rules[k].guard.length = n2 at *
        generalize p.rules[k].thn.length = n3 at *
        cases hpk : ruleB n p.rules[k] with
        | true =>
          rw [hpk] at cS htk
          have HT2 : Hid ((p.rules.take (k + 1)).all (ruleB n) = true) := htk
          clear hpk htk
          go_wp2_with fail
          refine cS.mono ?_
          rintro e w2 ⟨rfl, hb2⟩
          have HB2 : Hid (Below w.heap.size w w2) := (HB.out.alloc hwr _).trans (hb2.mono (by simp; omega))
          clear hb2 cS
          go_wp2
          go_roundw
          case rel => exact ⟨k + 1, by omega, by go_num, HT2, HB2⟩
          case measure => simp [intOf]; omega
        | false =>
          rw [hpk] at cS
          have HP2 : Hid (p.rules.all (ruleB n) = false) := HP.out hpk
          clear hpk htk
          go_wp2_with fail
          refine cS.mono ?_
          rintro e w2 ⟨rfl, hb2⟩
          have HB2 : Hid (Below w.heap.size w w2) := (HB.out.alloc hwr _).trans (hb2.mono (by simp; omega))
          clear hb2 cS
          go_wp2
          go_ret
          exact ⟨by rw [HP2.out]; rfl, HB2.out⟩
      · obtain rfl : k = p.rules.length := by omega
        have HT2 : Hid (p.rules.all (ruleB n) = true) := by have := HT.out; rwa [List.take_length] at this
        go_wp2
        go_ret
        exact ⟨by rw [HT2.out]; rfl, HB.out⟩

set_option maxRecDepth 100000 in
set_option maxHeartbeats 4000000 in
theorem check_any {P : Nat → Prop} (p : Pg) (iv : Value) (x : Nd) (rv : Value) (hs : PgShort p) (w : World) (h : PgAt P w iv x rv p) : Calls Try.prog 32 #[pgv iv x rv] w fun e w' => e = .returned (.int .i64 (checkM p : Int)) ∧ Below w.heap.size w w' := by
  have hb0 := (Below.refl _ w).alloc (Nat.le_refl _) (gobj iv x rv)
  have cL := long_any p iv x rv hs _ (h.below hb0)
  have HS : Hid (PgShort p) := hs
  have HG : Hid (PgAt P (w.alloc (gobj iv x rv)) iv x rv p) := h.below hb0
  have HB0 : Hid (Below w.heap.size w (w.alloc (gobj iv x rv))) := hb0
  have HW : Hid ((w.alloc (gobj iv x rv)).heap[w.heap.size]? = some (gobj iv x rv)) := heap_alloc_new w _
  obtain ⟨sa, sc, rfl⟩ := h.ini
  obtain ⟨sr, scr, rfl, -⟩ := h.rul
  obtain ⟨-, -, -, sk, skc, hkv⟩ := h.pol.shape
  obtain ⟨xo, xf, xn, xk⟩ := x
  dsimp only at hkv
  subst hkv
  clear hb0 h hs
  unfold checkM
  cases hl : longB p with
  | true =>
    rw [hl] at cL
    clear hl
    go_enter Try.func32, Try.ntmps32
    go_wp2_with fail
    refine cL.mono ?_
    rintro e w1 ⟨rfl, hb1⟩
    go_wp2
    go_ret
    exact ⟨rfl, HB0.out.trans (hb1.mono HB0.out.size)⟩
  | false =>
    rw [hl] at cL
    clear hl
    have cF := fun W hW => formed_any (P := P) p (.slice sa p.init.length sc) ⟨xo, xf, xn, .slice sk p.pol.kids.length skc⟩ (.slice sr p.rules.length scr) HS.out W hW
    cases hf : (formP p.init.length p.pol && p.rules.all (ruleB p.init.length)) with
    | true =>
      rw [hf] at cF
      clear hf
      go_enter Try.func32, Try.ntmps32
      go_wp2_with fail
      refine cL.mono ?_
      rintro e w1 ⟨rfl, hb1⟩
      have HB1 : Hid (Below w.heap.size w w1) := HB0.out.trans (hb1.mono HB0.out.size)
      replace cF := cF w1 (HG.out.below hb1)
      obtain ⟨q0, q1, q2, q3, q4, q5⟩ := row6 ((hb1.block _ (heap_lt HW.out)).trans HW.out)
      clear hb1 cL
      go_wp2_with fail
      refine cF.mono ?_
      rintro e w2 ⟨rfl, hb2⟩
      have HB2 : Hid (Below w.heap.size w w2) := HB1.out.trans (hb2.mono HB1.out.size)
      clear hb2 cF
      go_wp2
      go_ret
      exact ⟨rfl, HB2.out⟩
    | false =>
      rw [hf] at cF
      clear hf
      go_enter Try.func32, Try.ntmps32
      go_wp2_with fail
      refine cL.mono ?_
      rintro e w1 ⟨rfl, hb1⟩
      have HB1 : Hid (Below w.heap.size w w1) := HB0.out.trans (hb1.mono HB0.out.size)
      replace cF := cF w1 (HG.out.below hb1)
      obtain ⟨q0, q1, q2, q3, q4, q5⟩ := row6 ((hb1.block _ (heap_lt HW.out)).trans HW.out)
      clear hb1 cL
      go_wp2_with fail
      refine cF.mono ?_
      rintro e w2 ⟨rfl, hb2⟩
      have HB2 : Hid (Below w.heap.size w w2) := HB1.out.trans (hb2.mono HB1.out.size)
      clear hb2 cF
      go_wp2
      go_ret
      exact ⟨rfl, HB2.out⟩
end Go.Proofs.Ytipiepcbgjceaaa

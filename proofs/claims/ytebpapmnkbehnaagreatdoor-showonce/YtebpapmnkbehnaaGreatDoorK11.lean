/- What isFormed and Check answer; policies of up to 100000 nodes, lists of up to 100000. -/
import Derived.Test.YtebpapmnkbehnaaGreatDoorK7
import Derived.Test.YtebpapmnkbehnaaGreatDoorA6
set_option linter.unusedVariables false
set_option linter.unusedSimpArgs false
namespace Go.Proofs.YtebpapmnkbehnaaGreatDoor
open Go.RowKit Go.Joins

theorem all_take (f : Rl → Bool) (l : List Rl) (k : Nat) (h : k < l.length) : (l.take (k + 1)).all f = ((l.take k).all f && f l[k]) := by
  rw [List.take_succ_eq_append_getElem h, List.all_append]; simp
theorem all_false (f : Rl → Bool) (l : List Rl) (k : Nat) (h : k < l.length) (hf : f l[k] = false) : l.all f = false := by
  rw [List.all_eq_false]
  exact ⟨l[k], List.getElem_mem h, by rw [hf]; decide⟩

set_option maxRecDepth 100000 in
set_option maxHeartbeats 4000000 in
theorem formed_any {P : Nat → Prop} (p : Pg) (iv : Value) (x : Nd) (rv : Value) (hs : PgShort p) (w : World) (h : PgAt P w iv x rv p) : Calls Tryz.prog 52 #[pgv iv x rv] w fun e w' => e = .returned (.bool (formP p.init.length p.pol && p.rules.all (ruleB p.init.length))) ∧ Below w.heap.size w w' := by
  have hb0 := (Below.refl _ w).alloc (Nat.le_refl _) (gobj iv x rv)
  have cF := form_any (p.init.length : Int) 100000 p.pol x _ hs.s (by omega) (h.pol.below hb0)
  have HRu : Hid (RulesAt P w rv p.rules) := h.rul
  have HB0 : Hid (Below w.heap.size w (w.alloc (gobj iv x rv))) := hb0
  have HW : Hid ((w.alloc (gobj iv x rv)).heap[w.heap.size]? = some (gobj iv x rv)) := heap_alloc_new w _
  obtain ⟨sa, sc, rfl⟩ := h.ini
  obtain ⟨sr, scr, rfl, hc⟩ := h.rul
  have HC : Hid _ := hc
  obtain ⟨-, -, -, sk, skc, hkv⟩ := h.pol.shape
  obtain ⟨xo, xf, xn, xk⟩ := x
  dsimp only at hkv
  subst hkv
  have hi := hs.i
  have hr := hs.r
  have HL : Hid (∀ r ∈ p.rules, RlShort r) := hs.l
  generalize p.pol.kids.length = kn at *
  obtain ⟨n, en⟩ : ∃ n, p.init.length = n := ⟨_, rfl⟩
  rw [en] at hi cF HB0 HW ⊢
  clear hb0 h hs hc en
  cases hf : formP (n : Int) p.pol with
  | false =>
    rw [hf] at cF
    rw [Bool.false_and]
    clear hf HC HL HRu
    go_enter Tryz.func52, Tryz.ntmps52
    go_wp2_with fail
    refine cF.mono ?_
    rintro e w1 ⟨rfl, hb1⟩
    go_wp2
    go_ret
    exact ⟨rfl, HB0.out.trans (hb1.mono HB0.out.size)⟩
  | true =>
    rw [hf] at cF
    rw [Bool.true_and]
    clear hf
    go_enter Tryz.func52, Tryz.ntmps52
    go_wp2_with fail
    refine cF.mono ?_
    rintro e w1 ⟨rfl, hb1⟩
    have HB1 : Hid (Below w.heap.size w w1) := HB0.out.trans (hb1.mono HB0.out.size)
    obtain ⟨q0, q1, q2, q3, q4, q5⟩ := row6 ((hb1.block _ (heap_lt HW.out)).trans HW.out)
    clear hb1 cF q0 q1 q2 q3 q4 HB0 HW
    go_wp2
    go_loopw [17] (fun i wr => ∃ k : Nat, k ≤ p.rules.length ∧ i = .int .i64 (k : Int) ∧ Hid ((p.rules.take k).all (ruleB n) = true) ∧ Hid (Below w.heap.size w wr)) (fun i _ => p.rules.length - (intOf i).toNat)
    case atStart => exact ⟨0, Nat.zero_le _, rfl, by show _ = _; simp, HB1⟩
    case round =>
      obtain ⟨k, hkl, rfl, HT, HB⟩ := hrel
      by_cases hlt : k < p.rules.length
      · obtain ⟨b, off, v1, v2, v3, rfl, -, hb, ⟨a0, a1, a2⟩, hru'⟩ := HC.out k hlt
        have hru := hru'.at
        clear hru'
        have q : ∀ o, wr.cell? ⟨b, o, none⟩ = w.cell? ⟨b, o, none⟩ := fun o => HB.out.cell (p := ⟨b, o, none⟩) hb
        rw [← q] at a0 a1 a2
        have hwr := HB.out.size
        have htk := all_take (ruleB n) p.rules k hlt
        rw [HT.out, Bool.true_and] at htk
        obtain ⟨sa1, sc1, rfl⟩ := hru.p1.shape
        obtain ⟨sa2, sc2, rfl⟩ := hru.p2.shape
        obtain ⟨sa3, sc3, rfl⟩ := hru.p3.shape
        have cS := ruleF_any p.rules[k] (n : Int) (by omega) _ _ _ (HL.out _ (List.getElem_mem hlt)) _ ((hru.below HB.out).below ((Below.refl _ _).alloc (Nat.le_refl _) (robj3 (.slice sa1 p.rules[k].when.length sc1) (.slice sa2 p.rules[k].guard.length sc2) (.slice sa3 p.rules[k].thn.length sc3))))
        have HP : Hid (ruleB n p.rules[k] = false → p.rules.all (ruleB n) = false) := all_false _ _ k hlt
        clear hru q
        generalize p.rules[k].when.length = n1 at *
        generalize p.rules[k].guard.length = n2 at *
        generalize p.rules[k].thn.length = n3 at *
        cases hpk : ruleB n p.rules[k] with
        | true =>
          rw [hpk] at cS htk
          have HT2 : Hid ((p.rules.take (k + 1)).all (ruleB n) = true) := htk
          clear hpk htk
          go_wp2_with fail
          refine cS.mono ?_
          rintro e w2 ⟨rfl, hb2⟩
          have HB2 : Hid (Below w.heap.size w w2) := (HB.out.alloc hwr _).trans (hb2.mono (by simp; omega))
          clear hb2 cS
          go_wp2
          go_roundw
          case rel => exact ⟨k + 1, by omega, by go_num, HT2, HB2⟩
          case measure => simp [intOf]; omega
        | false =>
          rw [hpk] at cS
          have HP2 : Hid (p.rules.all (ruleB n) = false) := HP.out hpk
          clear hpk htk
          go_wp2_with fail
          refine cS.mono ?_
          rintro e w2 ⟨rfl, hb2⟩
          have HB2 : Hid (Below w.heap.size w w2) := (HB.out.alloc hwr _).trans (hb2.mono (by simp; omega))
          clear hb2 cS
          go_wp2
          go_ret
          exact ⟨by rw [HP2.out]; rfl, HB2.out⟩
      · obtain rfl : k = p.rules.length := by omega
        have HT2 : Hid (p.rules.all (ruleB n) = true) := by have := HT.out; rwa [List.take_length] at this
        go_wp2
        go_ret
        exact ⟨by rw [HT2.out]; rfl, HB.out⟩

set_option maxRecDepth 100000 in
set_option maxHeartbeats 4000000 in
theorem check_any {P : Nat → Prop} (p : Pg) (iv : Value) (x : Nd) (rv : Value) (hs : PgShort p) (w : World) (h : PgAt P w iv x rv p) : Calls Tryz.prog 26 #[pgv iv x rv] w fun e w' => e = .returned (.int .i64 (checkM p : Int)) ∧ Below w.heap.size w w' := by
  have hb0 := (Below.refl _ w).alloc (Nat.le_refl _) (gobj iv x rv)
  have cL := long_any p iv x rv hs _ (h.below hb0)
  have HS : Hid (PgShort p) := hs
  have HG : Hid (PgAt P (w.alloc (gobj iv x rv)) iv x rv p) := h.below hb0
  have HB0 : Hid (Below w.heap.size w (w.alloc (gobj iv x rv))) := hb0
  have HW : Hid ((w.alloc (gobj iv x rv)).heap[w.heap.size]? = some (gobj iv x rv)) := heap_alloc_new w _
  obtain ⟨sa, sc, rfl⟩ := h.ini
  obtain ⟨sr, scr, rfl, -⟩ := h.rul
  obtain ⟨-, -, -, sk, skc, hkv⟩ := h.pol.shape
  obtain ⟨xo, xf, xn, xk⟩ := x
  dsimp only at hkv
  subst hkv
  clear hb0 h hs
  unfold checkM
  cases hl : longB p with
  | true =>
    rw [hl] at cL
    clear hl
    go_enter Tryz.func26, Tryz.ntmps26
    go_wp2_with fail
    refine cL.mono ?_
    rintro e w1 ⟨rfl, hb1⟩
    go_wp2
    go_ret
    exact ⟨rfl, HB0.out.trans (hb1.mono HB0.out.size)⟩
  | false =>
    rw [hl] at cL
    clear hl
    have cF := fun W hW => formed_any (P := P) p (.slice sa p.init.length sc) ⟨xo, xf, xn, .slice sk p.pol.kids.length skc⟩ (.slice sr p.rules.length scr) HS.out W hW
    cases hf : (formP p.init.length p.pol && p.rules.all (ruleB p.init.length)) with
    | true =>
      rw [hf] at cF
      clear hf
      go_enter Tryz.func26, Tryz.ntmps26
      go_wp2_with fail
      refine cL.mono ?_
      rintro e w1 ⟨rfl, hb1⟩
      have HB1 : Hid (Below w.heap.size w w1) := HB0.out.trans (hb1.mono HB0.out.size)
      replace cF := cF w1 (HG.out.below hb1)
      obtain ⟨q0, q1, q2, q3, q4, q5⟩ := row6 ((hb1.block _ (heap_lt HW.out)).trans HW.out)
      clear hb1 cL
      go_wp2_with fail
      refine cF.mono ?_
      rintro e w2 ⟨rfl, hb2⟩
      have HB2 : Hid (Below w.heap.size w w2) := HB1.out.trans (hb2.mono HB1.out.size)
      clear hb2 cF
      go_wp2
      go_ret
      exact ⟨rfl, HB2.out⟩
    | false =>
      rw [hf] at cF
      clear hf
      go_enter Tryz.func26, Tryz.ntmps26
      go_wp2_with fail
      refine cL.mono ?_
      rintro e w1 ⟨rfl, hb1⟩
      have HB1 : Hid (Below w.heap.size w w1) := HB0.out.trans (hb1.mono HB0.out.size)
      replace cF := cF w1 (HG.out.below hb1)
      obtain ⟨q0, q1, q2, q3, q4, q5⟩ := row6 ((hb1.block _ (heap_lt HW.out)).trans HW.out)
      clear hb1 cL
      go_wp2_with fail
      refine cF.mono ?_
      rintro e w2 ⟨rfl, hb2⟩
      have HB2 : Hid (Below w.heap.size w w2) := HB1.out.trans (hb2.mono HB1.out.size)
      clear hb2 cF
      go_wp2
      go_ret
      exact ⟨rfl, HB2.out⟩
end Go.Proofs.YtebpapmnkbehnaaGreatDoor
/- What lex.number answers of a row of code points that begins with a digit; texts of up to 100000 bytes. -/
set_option linter.unusedVariables false
set_option linter.unusedSimpArgs false
namespace Go.Proofs.YtebpapmnkbehnaaGreatDoor
open Go.RowKit Go.Joins Go.Lib

/-- What strconv.ParseUint answers of digits. -/
theorem parse_any (D : List UInt8) (hl : D.length ≤ 100000) (u : Nat) (hp : parseUintB 16 D = .ok u) (w : World) :
    Calls Tryz.prog 80 #[str D, .int .i64 10, .int .i64 16] w fun e w' => e = .returned (.tuple #[.int .u64 (u : Int), .nilIface]) ∧ Below w.heap.size w w' :=
  (Tryz.strconv_ParseUint_10_at16_ok ⟨D.toArray⟩ (by rw [size_mk]; omega) u hp w).mono fun e w' ⟨he, hw⟩ => ⟨he, by
    rcases hw with rfl | rfl
    · exact Below.refl _ _
    · exact bytesWorld_below _ _ _⟩
theorem parse_long (D : List UInt8) (hl : D.length ≤ 100000) (hp : parseUintB 16 D = .range) (w : World) (h : Env w) :
    Calls Tryz.prog 80 #[str D, .int .i64 10, .int .i64 16] w fun e w' => (∃ N : Nat, e = .returned (.tuple #[.int .u64 65535, .iface 165 (.pointer (some ⟨N, 0, none⟩))])) ∧ Below w.heap.size w w' := by
  obtain ⟨tp, p, hv⟩ := h.rng
  exact (Tryz.strconv_ParseUint_10_at16_range_var ⟨D.toArray⟩ (by rw [size_mk]; omega) hp tp p w hv).mono fun e w' ⟨N, he, _, _, hb⟩ => ⟨⟨N, he⟩, hb⟩
theorem parseM_digits (M : Nat) : ∀ (l : List UInt8) (acc : Nat), (∀ b ∈ l, 48 ≤ b.toNat ∧ b.toNat ≤ 57) → (∃ v, parseUintM M acc l = .ok v) ∨ parseUintM M acc l = .range
  | [], acc, _ => .inl ⟨acc, rfl⟩
  | c :: r, acc, h => by
    rw [parseM_cons, if_pos (h c (by simp))]
    split
    · exact .inr rfl
    · split
      · exact .inr rfl
      · exact parseM_digits M r _ (fun b hb => h b (by simp [hb]))
theorem dg_bytes {cs : List R} (hg : Good cs) (hd : ∀ x ∈ cs, dg x.1 = true) : ∀ b ∈ fl cs, 48 ≤ b.toNat ∧ b.toNat ≤ 57 := by
  intro b hb
  obtain ⟨x, hx, hbx⟩ := List.mem_flatMap.1 hb
  have h1 := hd x hx
  simp only [dg, Bool.and_eq_true, decide_eq_true_eq] at h1
  rw [good_small (hg x hx) (by omega), List.mem_singleton] at hbx
  subst hbx
  have e : (x.1.toUInt8).toNat = x.1 := by simp; omega
  rw [e]; exact h1
theorem parse_cases (x : R) (t : List R) (hg : Good (x :: t)) (hx : dg x.1 = true) : (∃ v, parseUintB 16 (fl (x :: span dg t)) = .ok v) ∨ parseUintB 16 (fl (x :: span dg t)) = .range := by
  have hne : fl (x :: span dg t) ≠ [] := by
    intro e
    have := congrArg List.length e
    rw [fl_cons, List.length_append, List.length_nil] at this
    have := hg.head.1
    omega
  unfold parseUintB
  rw [if_neg hne]
  exact parseM_digits _ _ _ (dg_bytes (Good.cons hg.head hg.tail.span) (fun y hy => by
    rcases List.mem_cons.1 hy with rfl | h
    · exact hx
    · exact span_mem dg t y h))

theorem fl_pos {cs : List R} (hg : Good cs) (hne : cs ≠ []) : 0 < (fl cs).length := by
  have := fl_length_ge cs hg
  have := List.length_pos_iff.2 hne
  omega

set_option maxRecDepth 100000 in
set_option maxHeartbeats 1000000 in
theorem number_any (x : R) (t : List R) (hg : Good (x :: t)) (hl : dg x.1 = true) (hlen : (fl (x :: t)).length ≤ 100000) (w : World) (h : Env w) :
    Calls Tryz.prog 62 #[str (fl (x :: t))] w fun e w' => e = .returned (fv x t (numOf x t)) ∧ Below w.heap.size w w' := by
  have cS := span_digit (x :: t) hg
  rw [span_cons dg x t hl] at cS
  have hsp := fl_split x t (span dg t).length
  rw [← span_take] at hsp
  have hR : Good (t.drop (span dg t).length) := hg.tail.drop
  have cW := span_word (t.drop (span dg t).length) hR
  have hcl := cut_left (fl (x :: span dg t)) (fl (t.drop (span dg t).length))
  have hcr := cut_right (fl (x :: span dg t)) (fl (t.drop (span dg t).length))
  rw [hsp] at hlen cS ⊢
  have hll : (fl (x :: span dg t)).length ≤ 100000 := by rw [List.length_append] at hlen; omega
  have HE : Hid (Env w) := h
  have HC : Hid ((∃ v, parseUintB 16 (fl (x :: span dg t)) = .ok v) ∨ parseUintB 16 (fl (x :: span dg t)) = .range) := parse_cases x t hg hl
  by_cases hq : span iw (t.drop (span dg t).length) ≠ []
  · have HV : Hid (fv x t (numOf x t) = .tuple #[tv tkEnd, .int .i64 0, .int .i64 10]) := by
      show _ = _
      unfold numOf
      rw [if_pos hq]; rfl
    have hpos := fl_pos (hR.span (p := iw)) hq
    clear hR hq hg hsp hlen h HC
    generalize (fl (span iw (t.drop (span dg t).length))).length = m at *
    generalize fl (x :: span dg t) = A at *
    generalize fl (t.drop (span dg t).length) = B at *
    have d : decide ((0 : Int) < (m : Int)) = true := by simp; omega
    have d2 : decide (0 < m) = true := by simp; omega
    go_enter Tryz.func62, Tryz.ntmps62
    go_wp2_with fail
    refine (cS _).mono ?_
    rintro e w1 ⟨rfl, hb1⟩
    have hrow := row_kept hb1
    have HB1 : Hid (Below w.heap.size w w1) := ((Below.refl _ w).alloc (Nat.le_refl _) _).trans (hb1.mono (by simp))
    clear hb1
    go_wp2_with fail
    refine (cW _ (HE.out.below HB1.out)).mono ?_
    rintro e w2 ⟨rfl, hb2⟩
    have hrow2 := (hb2.block _ (heap_lt hrow)).trans hrow
    have HB2 : Hid (Below w.heap.size w w2) := HB1.out.trans (hb2.mono HB1.out.size)
    clear hrow HB1 hb2 cS cW
    obtain ⟨⟨q0, q1, q2⟩, hsz2⟩ := row3 hrow2
    obtain ⟨f0, f1, f2⟩ := frz3 hrow2
    go_wp2
    refine bodyPost_ret (v := .tuple #[tv tkEnd, .int .i64 0, .int .i64 10]) ?_ rfl ⟨by rw [HV.out], below3 HB2.out (Nat.le_refl _) _ _ _⟩
    obtain ⟨⟨g0, g1, g2⟩, _⟩ := row3 (set3 (.int .i64 0) (.string ⟨#[]⟩) (.int .u16 0) hrow2)
    simp [results, Tryz.results62, go_sem, g0, g1, g2, tkEnd]
  · have hm0 : (fl (span iw (t.drop (span dg t).length))).length = 0 := by
      have : span iw (t.drop (span dg t).length) = [] := Classical.not_not.1 hq
      rw [this]; rfl
    rw [hm0] at cW
    rcases HC.out with ⟨u, hu⟩ | hu
    · have HV : Hid (fv x t (numOf x t) = .tuple #[tv ⟨2, [], u⟩, .int .i64 ((fl (x :: span dg t)).length : Int), .int .i64 0]) := by
        show _ = _
        unfold numOf
        rw [if_neg hq, hu]
        show Value.tuple #[_, .int .i64 ((fl (x :: t.take (span dg t).length)).length : Int), _] = _
        rw [← span_take]
      have cP := parse_any _ hll u hu
      have hu5 := parseB_le hu
      clear hR hq hg hsp hlen h HC hm0 hu
      generalize fl (x :: span dg t) = A at *
      generalize fl (t.drop (span dg t).length) = B at *
      go_enter Tryz.func62, Tryz.ntmps62
      go_wp2_with fail
      refine (cS _).mono ?_
      rintro e w1 ⟨rfl, hb1⟩
      have hrow := row_kept hb1
      have HB1 : Hid (Below w.heap.size w w1) := ((Below.refl _ w).alloc (Nat.le_refl _) _).trans (hb1.mono (by simp))
      clear hb1
      go_wp2_with fail
      refine (cW _ (HE.out.below HB1.out)).mono ?_
      rintro e w2 ⟨rfl, hb2⟩
      have hrow2 := (hb2.block _ (heap_lt hrow)).trans hrow
      have HB2 : Hid (Below w.heap.size w w2) := HB1.out.trans (hb2.mono HB1.out.size)
      clear hrow HB1 hb2 cS cW
      go_wp2_with fail
      refine (cP _).mono ?_
      rintro e w3 ⟨rfl, hb3⟩
      have hrow3 := (hb3.block _ (heap_lt hrow2)).trans hrow2
      have HB3 : Hid (Below w.heap.size w w3) := HB2.out.trans (hb3.mono HB2.out.size)
      clear hrow2 HB2 hb3 cP
      obtain ⟨⟨q0, q1, q2⟩, hsz2⟩ := row3 hrow3
      obtain ⟨f0, f1, f2⟩ := frz3 hrow3
      have ew : IntKind.u16.wrap (u : Int) = (u : Int) := by simp [IntKind.wrap, IntKind.signed, IntKind.bits]; omega
      go_wp2
      refine bodyPost_ret (v := .tuple #[tv ⟨2, [], u⟩, .int .i64 (A.length : Int), .int .i64 0]) ?_ rfl ⟨by rw [HV.out], below3 HB3.out (Nat.le_refl _) _ _ _⟩
      obtain ⟨⟨g0, g1, g2⟩, _⟩ := row3 (set3 (.int .i64 2) (.string ⟨#[]⟩) (.int .u16 (u : Int)) hrow3)
      simp [results, Tryz.results62, go_sem, g0, g1, g2]
    · have HV : Hid (fv x t (numOf x t) = .tuple #[tv tkEnd, .int .i64 0, .int .i64 2]) := by
        show _ = _
        unfold numOf
        rw [if_neg hq, hu]; rfl
      have cP := parse_long _ hll hu
      clear hR hq hg hsp hlen h HC hm0 hu
      generalize fl (x :: span dg t) = A at *
      generalize fl (t.drop (span dg t).length) = B at *
      go_enter Tryz.func62, Tryz.ntmps62
      go_wp2_with fail
      refine (cS _).mono ?_
      rintro e w1 ⟨rfl, hb1⟩
      have hrow := row_kept hb1
      have HB1 : Hid (Below w.heap.size w w1) := ((Below.refl _ w).alloc (Nat.le_refl _) _).trans (hb1.mono (by simp))
      clear hb1
      go_wp2_with fail
      refine (cW _ (HE.out.below HB1.out)).mono ?_
      rintro e w2 ⟨rfl, hb2⟩
      have hrow2 := (hb2.block _ (heap_lt hrow)).trans hrow
      have HB2 : Hid (Below w.heap.size w w2) := HB1.out.trans (hb2.mono HB1.out.size)
      clear hrow HB1 hb2 cS cW
      go_wp2_with fail
      refine (cP _ (HE.out.below HB2.out)).mono ?_
      rintro e w3 ⟨⟨N, rfl⟩, hb3⟩
      have hrow3 := (hb3.block _ (heap_lt hrow2)).trans hrow2
      have HB3 : Hid (Below w.heap.size w w3) := HB2.out.trans (hb3.mono HB2.out.size)
      clear hrow2 HB2 hb3 cP
      obtain ⟨⟨q0, q1, q2⟩, hsz2⟩ := row3 hrow3
      obtain ⟨f0, f1, f2⟩ := frz3 hrow3
      go_wp2
      refine bodyPost_ret (v := .tuple #[tv tkEnd, .int .i64 0, .int .i64 2]) ?_ rfl ⟨by rw [HV.out], below3 HB3.out (Nat.le_refl _) _ _ _⟩
      obtain ⟨⟨g0, g1, g2⟩, _⟩ := row3 (set3 (.int .i64 0) (.string ⟨#[]⟩) (.int .u16 0) hrow3)
      simp [results, Tryz.results62, go_sem, g0, g1, g2, tkEnd]
end Go.Proofs.YtebpapmnkbehnaaGreatDoor

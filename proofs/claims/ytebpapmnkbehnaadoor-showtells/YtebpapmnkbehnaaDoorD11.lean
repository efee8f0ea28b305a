/- What the document's Program answers: a program's text, and the empty text of one that isn't well formed; numbers of 16 bits. -/
import Derived.Test.YtebpapmnkbehnaaDoorD9
import Derived.Test.YtebpapmnkbehnaaDoorV6
import Derived.Deep.DeepCutAuto
set_option linter.unusedVariables false
set_option linter.unusedSimpArgs false
namespace Go.Proofs.YtebpapmnkbehnaaDoor
open Go.RowKit Go.Joins Go.Lib Go.Sort

theorem rise_mono : ∀ (l : List Pr) (a e e' : Int), e ≤ e' → riseB a e l = true → riseB a e' l = true
  | [], a, e, e', _, _ => rfl
  | c :: t, a, e, e', h, hr => by
    unfold riseB at hr ⊢
    simp only [Bool.and_eq_true, decide_eq_true_eq] at hr ⊢
    exact ⟨⟨hr.1.1, by omega⟩, rise_mono t _ e e' h hr.2⟩
theorem rule_mono {n : Int} {r : Rl} (h : ruleB n r = true) (hn : n ≤ 4) : ruleB 4 r = true := by
  unfold ruleB at h ⊢
  simp only [Bool.and_eq_true, decide_eq_true_eq] at h ⊢
  exact ⟨⟨⟨h.1.1.1, rise_mono _ _ _ _ hn h.1.1.2⟩, rise_mono _ _ _ _ hn h.1.2⟩, h.2⟩

set_option maxRecDepth 100000 in
set_option maxHeartbeats 8000000 in
theorem rprogram_any {P : Nat → Prop} (p : Pg) (iv : Value) (x : Nd) (rv : Value) (hs : PgShort p) (hN : checkM p = 0 → PgN p) (w : World) (h : PgAt P w iv x rv p) (hI : NmAt w iv p.init)
    (cRule : ∀ (r : Rl) (v1 v2 v3 : Value) (W : World), RlShort r → ((∀ c ∈ r.when, c.2 ≤ 65535) ∧ (∀ c ∈ r.guard, c.2 ≤ 65535) ∧ (∀ c ∈ r.thn, c.2 ≤ 65535)) → RulPv (fun _ => True) W v1 v2 v3 r → Calls Tryd.prog 12 #[.agg #[v1, v2, v3]] W fun e w' => e = .returned (.string ⟨(rulT r).toArray⟩) ∧ Below W.heap.size W w') :
    Calls Tryd.prog 10 #[pgv iv x rv] w fun e w' => e = .returned (.string ⟨(progT p).toArray⟩) ∧ Below w.heap.size w w' := by
  have hb0 := (Below.refl _ w).alloc (Nat.le_refl _) (gobj iv x rv)
  have HB0 : Hid (Below w.heap.size w (w.alloc (gobj iv x rv))) := hb0
  have HW : Hid ((w.alloc (gobj iv x rv)).heap[w.heap.size]? = some (gobj iv x rv)) := heap_alloc_new w _
  have cF := rcheck_any p iv x rv hs _ (h.below hb0)
  have hcl := sh_check_lt p
  have HP : Hid (PgAt P w iv x rv p) := h
  have HN : Hid _ := hN
  have HS : Hid _ := hs
  have HRu0 : Hid _ := cRule
  obtain ⟨sa, sc, rfl, hci⟩ := hI
  obtain ⟨sr, scr, rfl, hcr⟩ := h.rul
  obtain ⟨-, -, -, sk, skc, hkv⟩ := h.pol.shape
  obtain ⟨xo, xf, xn, xk⟩ := x
  dsimp only at hkv
  subst hkv
  have HCI : Hid (∀ k (hk : k < p.init.length), ∃ b off, sa = some ⟨b, off, none⟩ ∧ b < w.heap.size ∧ w.cell? ⟨b, off + k, none⟩ = some (.int .u16 (p.init[k] : Int))) := hci
  have HCR : Hid _ := hcr
  generalize p.pol.kids.length = kn at *
  clear h hN hb0 hs hci hcr cRule
  by_cases h0 : checkM p = 0
  · have hG : Hid (progT p = textG p) := by show _ = _; unfold progT; rw [if_pos h0]
    have hPN := HN.out h0
    rw [h0] at cF
    obtain ⟨-, hfo, hru⟩ := chk_open h0
    obtain ⟨hl1, hl2, hl3, hl4, hl5⟩ := hPN.len
    have HFo : Hid _ := hfo
    have HRu : Hid (∀ r ∈ p.rules, ruleB 4 r = true ∧ (∀ c ∈ r.when, c.2 ≤ 65535) ∧ (∀ c ∈ r.guard, c.2 ≤ 65535) ∧ (∀ c ∈ r.thn, c.2 ≤ 65535)) := fun r hr => ⟨rule_mono (hru r hr) (by omega), hPN.nr r hr⟩
    have HNi : Hid (∀ n ∈ p.init, n ≤ 65535) := hPN.ni
    have HNp : Hid (okN p.pol) := hPN.np
    have HSl : Hid (∀ r ∈ p.rules, RlShort r) := HS.out.l
    clear hfo hru hPN h0 HN HS hcl
    go_enter Tryd.func10, Tryd.ntmps10
    go_wp2_with fail
    refine cF.mono ?_
    rintro e w1 ⟨rfl, hb1⟩
    have HB1 : Hid (Below w.heap.size w w1) := HB0.out.trans (hb1.mono HB0.out.size)
    have HW1 : Hid (w1.heap[w.heap.size]? = some (gobj (.slice sa p.init.length sc) ⟨xo, xf, xn, .slice sk kn skc⟩ (.slice sr p.rules.length scr))) := (hb1.block _ (heap_lt HW.out)).trans HW.out
    clear hb1 cF HB0 HW
    go_wp2_with fail
    go_loopw [3, 4] (fun o i wr => ∃ (k : Nat) (acc : List UInt8), k ≤ p.init.length ∧ i = .int .i64 (k : Int) ∧ o = .string ⟨acc.toArray⟩ ∧ acc.length ≤ 4 + 6 * k ∧ Hid (acc = [105, 110, 105, 116] ++ (p.init.take k).flatMap (fun n => 32 :: decDigits n)) ∧ Hid (Below w.heap.size w wr) ∧ Hid (wr.heap[w.heap.size]? = some (gobj (.slice sa p.init.length sc) ⟨xo, xf, xn, .slice sk kn skc⟩ (.slice sr p.rules.length scr)))) (fun _ i _ => p.init.length - (intOf i).toNat)
    case atStart => exact ⟨0, [105, 110, 105, 116], Nat.zero_le _, rfl, rfl, by simp, by show _ = _; simp, HB1, HW1⟩
    case round =>
      clear HB1 HW1
      obtain ⟨k, acc, hkl, rfl, rfl, hal, HA, HB, HW⟩ := hrel
      obtain ⟨q0, q1, q2, q3, q4, q5⟩ := row6 HW.out
      have hwr := HB.out.size
      by_cases hlt : k < p.init.length
      · obtain ⟨b, off, rfl, hb, hc⟩ := HCI.out k hlt
        have a0 := (HB.out.cell (p := ⟨b, off + k, none⟩) hb).trans hc
        have hn := HNi.out _ (List.getElem_mem hlt)
        have hd5 := digits_len5 _ hn
        have cD := digits_any p.init[k] hn wr
        have HA1 : Hid (acc ++ (32 :: decDigits p.init[k]) = [105, 110, 105, 116] ++ (p.init.take (k + 1)).flatMap (fun n => 32 :: decDigits n)) := by
          show _ = _
          rw [flat_take _ _ _ hlt, HA.out, List.append_assoc]
        clear hc HA
        generalize p.init[k] = n at *
        have ew : IntKind.i64.wrap (n : Int) = (n : Int) := wr64 _ (by omega) (by omega)
        go_wp2_with fail
        refine cD.mono ?_
        rintro e WE ⟨rfl, hbE⟩
        have HBE : Hid (Below w.heap.size w WE) := HB.out.trans (hbE.mono hwr)
        have HWE : Hid _ := (hbE.block _ (heap_lt HW.out)).trans HW.out
        clear cD HB HW hbE q0 q1 q2 q3 q4 q5 a0
        go_wp2
        go_roundw
        case rel => exact ⟨k + 1, acc ++ (32 :: decDigits n), by omega, by go_num, by rw [show acc ++ (32 :: decDigits n) = acc ++ [32] ++ decDigits n by simp, ← sh_cat, ← sh_cat], by simp only [List.length_append, List.length_cons]; omega, HA1, HBE, HWE⟩
        case measure => simp [intOf]; omega
      · obtain rfl : k = p.init.length := by omega
        have HA1 : Hid (acc = [105, 110, 105, 116] ++ p.init.flatMap (fun n => 32 :: decDigits n)) := by
          show _ = _
          rw [HA.out, List.take_length]
        clear HA hlt
        have cP := rtext_any p.init.length (by omega) 300 p.pol ⟨xo, xf, xn, .slice sk kn skc⟩ wr hl4 (by omega) HFo.out HNp.out (HP.out.pol.below HB.out)
        have hpl := textP_len p.init.length (by omega) 300 p.pol hl4 HFo.out HNp.out
        generalize hPT : textP p.pol = PT at *
        have HPT : Hid _ := hPT
        clear hPT
        go_wp2_with fail
        refine cP.mono ?_
        rintro e w2 ⟨rfl, hb2⟩
        have HB2 : Hid (Below w.heap.size w w2) := HB.out.trans (hb2.mono hwr)
        have HW2 : Hid (w2.heap[w.heap.size]? = some (gobj (.slice sa p.init.length sc) ⟨xo, xf, xn, .slice sk kn skc⟩ (.slice sr p.rules.length scr))) := (hb2.block _ (heap_lt HW.out)).trans HW.out
        obtain ⟨H, hH⟩ : ∃ H, acc ++ [32, 46, 10, 112, 111, 108, 105, 99, 121, 32] ++ PT ++ [32, 46, 10] = H := ⟨_, rfl⟩
        have HH0 : Hid ((⟨acc.toArray⟩ : ByteArray) ++ ⟨#[32, 46, 10, 112, 111, 108, 105, 99, 121, 32]⟩ ++ ⟨PT.toArray⟩ ++ ⟨#[32, 46, 10]⟩ = ⟨H.toArray⟩) := by
          show _ = _
          rw [← hH, ← sh_cat, ← sh_cat, ← sh_cat]
        have hHl : H.length ≤ 6000 := by rw [← hH]; simp only [List.length_append, List.length_cons, List.length_nil]; omega
        have HG3 : Hid (H ++ (p.rules.flatMap fun r => ruleT r ++ [10]) = textG p) := by
          show _ = _
          rw [← hH, HA1.out, ← HPT.out]
          unfold textG
          simp only [List.append_assoc, List.cons_append, List.nil_append]
        clear hb2 cP HB HW q0 q1 q2 q3 q4 q5 hH HA1 HPT hkl hwr
        obtain ⟨q0, q1, q2, q3, q4, q5⟩ := row6 HW2.out
        go_wp2_with fail
        clear q0 q1 q2 q3 q4 q5
        go_loopw [3, 5] (fun o i wr => ∃ (k : Nat) (acc : List UInt8), k ≤ p.rules.length ∧ i = .int .i64 (k : Int) ∧ o = .string ⟨acc.toArray⟩ ∧ acc.length ≤ 6000 + 1001 * k ∧ Hid (acc = H ++ (p.rules.take k).flatMap (fun r => ruleT r ++ [10])) ∧ Hid (Below w.heap.size w wr) ∧ Hid (wr.heap[w.heap.size]? = some (gobj (.slice sa p.init.length sc) ⟨xo, xf, xn, .slice sk kn skc⟩ (.slice sr p.rules.length scr)))) (fun _ i _ => p.rules.length - (intOf i).toNat)
        case atStart => exact ⟨0, H, Nat.zero_le _, rfl, by rw [HH0.out], by omega, by show _ = _; simp, HB2, HW2⟩
        case round =>
          clear HB2 HW2
          obtain ⟨k, acc2, hkl, rfl, rfl, hal2, HA, HB, HW⟩ := hrel
          obtain ⟨q0, q1, q2, q3, q4, q5⟩ := row6 HW.out
          have hwr := HB.out.size
          by_cases hlt : k < p.rules.length
          · obtain ⟨b, off, v1, v2, v3, rfl, -, hb, ⟨c0, c1, c2⟩, hr⟩ := HCR.out k hlt
            have a0 := (HB.out.cell (p := ⟨b, off + k * 3, none⟩) hb).trans c0
            have a1 := (HB.out.cell (p := ⟨b, off + k * 3 + 1, none⟩) hb).trans c1
            have a2 := (HB.out.cell (p := ⟨b, off + k * 3 + 2, none⟩) hb).trans c2
            obtain ⟨hrb, hrn⟩ := HRu.out _ (List.getElem_mem hlt)
            have hrl := ruleT_len (parts := 4) (by decide) ⟨hrb, hrn.1, hrn.2.1, hrn.2.2⟩
            have cR := HRu0.out p.rules[k] v1 v2 v3 wr (HSl.out _ (List.getElem_mem hlt)) hrn (rul_below hr HB.out)
            rw [show rulT p.rules[k] = ruleT p.rules[k] by unfold rulT; rw [if_pos hrb]] at cR
            obtain ⟨t1, u1, rfl⟩ := hr.at.p1.shape
            obtain ⟨t2, u2, rfl⟩ := hr.at.p2.shape
            obtain ⟨t3, u3, rfl⟩ := hr.at.p3.shape
            have HA2 : Hid (acc2 ++ (ruleT p.rules[k] ++ [10]) = H ++ (p.rules.take (k + 1)).flatMap (fun r => ruleT r ++ [10])) := by
              show _ = _
              rw [flat_take _ _ _ hlt, HA.out, List.append_assoc]
            clear HA hrn hr c0 c1 c2 hrb
            generalize ruleT p.rules[k] = X at *
            generalize p.rules[k].when.length = m1 at *
            generalize p.rules[k].guard.length = m2 at *
            generalize p.rules[k].thn.length = m3 at *
            go_wp2_with fail
            refine cR.mono ?_
            rintro e WE ⟨rfl, hbE⟩
            have HBE : Hid (Below w.heap.size w WE) := HB.out.trans (hbE.mono hwr)
            have HWE : Hid _ := (hbE.block _ (heap_lt HW.out)).trans HW.out
            clear hbE cR a0 a1 a2 HB HW q0 q1 q2 q3 q4 q5
            go_wp2
            go_roundw
            case rel => exact ⟨k + 1, acc2 ++ (X ++ [10]), by omega, by go_num, by rw [← List.append_assoc, ← sh_cat, ← sh_cat], by simp only [List.length_append, List.length_cons, List.length_nil]; omega, HA2, HBE, HWE⟩
            case measure => simp [intOf]; omega
          · obtain rfl : k = p.rules.length := by omega
            have HA2 : Hid (acc2 = textG p) := by
              show _ = _
              rw [HA.out, List.take_length, HG3.out]
            clear HA
            go_wp2
            go_ret
            exact ⟨by rw [hG.out, ← HA2.out]; rfl, HB.out⟩
  · have hG : Hid (progT p = []) := by show _ = _; unfold progT; rw [if_neg h0]
    have d0 : ((checkM p : Int) != 0) = true := by simp; omega
    generalize checkM p = cv at *
    clear HN HS
    go_enter Tryd.func10, Tryd.ntmps10
    go_wp2_with fail
    refine cF.mono ?_
    rintro e w1 ⟨rfl, hb1⟩
    have HB1 : Hid (Below w.heap.size w w1) := HB0.out.trans (hb1.mono HB0.out.size)
    clear hb1 cF
    go_wp2
    go_ret
    exact ⟨by rw [hG.out]; rfl, HB1.out⟩
end Go.Proofs.YtebpapmnkbehnaaDoor

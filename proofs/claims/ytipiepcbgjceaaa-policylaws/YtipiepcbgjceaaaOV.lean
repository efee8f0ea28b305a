/- What the document's run answers of a sum, where it answers so of the kids; no conditions but the sizes. -/
import Derived.Test.YtipiepcbgjceaaaOT
set_option linter.unusedVariables false
set_option linter.unusedSimpArgs false
namespace Go.Proofs.Ytipiepcbgjceaaa
open Go.RowKit Go.Joins

set_option maxRecDepth 100000 in
set_option maxHeartbeats 4000000 in
theorem run_7 {P : Nat → Prop} (st : List Nat) (sv : Value) (f n : Int) (kids : List Pl) (y : Nd) (q : P8) (w : World) (hq8 : Q8 q) (hp : PolAt P w (.mk 7 f n kids) y) (hC : ∀ k (hk : k < kids.length), RunC P st sv kids[k] w) (hkl : kids.length ≤ 1000000) :
    Calls Try.prog 26 #[nv y, sv, q.v] w fun e w' => RunEnd st (.mk 7 f n kids) q w e w' := by
  obtain ⟨sa, sc, rfl, hk⟩ := hp.open
  have hmk : mkP st (.mk 7 f n kids) q = mkP.mkSum st kids q [] := by rw [mkP_mk]; rfl
  obtain ⟨R, hR⟩ : ∃ R, kids.length = R := ⟨_, rfl⟩
  obtain ⟨W, hW, hb, hx, hq, h1, hsz⟩ := run_start w ⟨7, f, n, .slice sa kids.length sc⟩ q
  rw [hR] at hx hW
  rw [hR]
  have HR := hid hR
  have HMK := hid hmk
  have HK := hid hk
  have HC := hid hC
  have HB := hid hb
  obtain ⟨p0, p1, p2, p3⟩ := row4 hx
  have hR6 : R ≤ 1000000 := by omega
  have HX := hid hx
  have HQ := hid hq
  clear hx hq hb h1 hC hp hk hmk hR hkl p0 p1 p2 p3
  have HT : Hid (∀ r, mkP.mkSum st kids q [] = r → ∀ v w', Below W.heap.size W w' → (∀ l, r = some l → Pks w' v l → RunEnd st (.mk 7 f n kids) q w (.returned (.tuple #[v, .bool true])) w') ∧ (r = none → RunEnd st (.mk 7 f n kids) q w (.returned (.tuple #[.slice none 0 0, .bool false])) w')) := fun r hr v w' hW' => ⟨fun l h hv => RunEnd.yes (HB.out.trans (hW'.mono HB.out.size)) (by rw [HMK.out, hr, h]) hv, fun h => RunEnd.no (HB.out.trans (hW'.mono HB.out.size)) (by rw [HMK.out, hr, h])⟩
  obtain ⟨p0, p1, p2, p3⟩ := row4 HX.out
  go_enter Try.func26, Try.ntmps26
  go_wp2
  (try rw [hW])
  go_loopw [17, 18] (fun v i wr => ∃ (k : Nat) (acc : List P8), k ≤ R ∧ i = .int .i64 (k : Int) ∧ Hid (mkP.mkSum st (kids.drop k) q acc = mkP.mkSum st kids q []) ∧ Hid (SS acc) ∧ acc.length ≤ 64 ∧ Hid (Pks wr v acc) ∧ Hid (Below W.heap.size W wr)) (fun _ i _ => R - (intOf i).toNat)
  case atStart => exact ⟨0, [], Nat.zero_le _, rfl, rfl, ss_nil, by simp, pks_nil _, Below.refl _ _⟩
  case round =>
    obtain ⟨k, acc, hk, rfl, HA, HS, hal, HP, HBr⟩ := hrel
    obtain ⟨va, vc, rfl, -⟩ := HP.out.form
    have HXr : wr.heap[w.heap.size]? = some (pobj ⟨7, f, n, .slice sa R sc⟩) := (HBr.out.block _ (by omega)).trans HX.out
    have HQr : wr.heap[w.heap.size + 1]? = some (pobj8 q) := (HBr.out.block _ (by omega)).trans HQ.out
    clear p0 p1 p2 p3
    obtain ⟨p0, p1, p2, p3⟩ := row4 HXr
    obtain ⟨⟨q0, q1, q2, q3, q4, q5, q6, q7⟩, -, -⟩ := row8 HQr
    by_cases hlt : k < R
    · have hlt' : k < kids.length := by rw [HR.out]; exact hlt
      have hltd : decide ((k : Int) < (R : Int)) = true := by simp; omega
      obtain ⟨b, off, sa2, n2, sc2, y0, y1, y2, rfl, hbk, ha, hpk⟩ := HK.out k hlt'
      obtain ⟨a0, a1, a2, a3⟩ := ha.same ((HB.out.trans (HBr.out.mono HB.out.size)).block b hbk)
      have HTk : Hid (mkP.mkSum st (kids[k] :: kids.drop (k + 1)) q acc = mkP.mkSum st kids q []) := by
        unfold Hid
        rw [← HA.out, List.drop_eq_getElem_cons hlt']
      have cK : Hid (∀ W', Below wr.heap.size wr W' → Calls Try.prog 26 #[nv ⟨y0, y1, y2, .slice sa2 n2 sc2⟩, sv, q.v] W' fun e w' => RunEnd st kids[k] q W' e w') := fun W' hW' => HC.out k hlt' _ q W' hq8 ((HB.out.trans (HBr.out.mono HB.out.size)).trans (hW'.mono (Nat.le_trans HB.out.size HBr.out.size))) hpk
      have HD : Hid (Below wr.heap.size wr wr.drew) := below_drewN (Below.refl _ wr) 1
      clear ha hpk hbk HXr HQr
      generalize kids[k] = T at *
      go_wp2
      go_region_with (go_at_call 26; refine (cK.out _ HD.out).mono ?_; rintro e w2 ⟨v2, ok, rfl, ⟨va2, vl2, vc2, rfl⟩, hb2, hs2, hn2⟩)
      all_goals
        have HBw2 : Hid (Below W.heap.size W w2) := HBr.out.trans ((HD.out.trans (hb2.mono HD.out.size)).mono HBr.out.size)
        have HB2 : Hid (Below wr.heap.size wr w2) := HD.out.trans (hb2.mono HD.out.size)
        have HP2 : Hid (Pks w2 (.slice va acc.length vc) acc) := HP.out.below HB2.out
        have HN := hid hn2
        have HS2 := hid hs2
        clear hb2 hn2 hs2 q0 q1 q2 q3 q4 q5 q6 q7 p0 p1 p2 p3
        cases hr : mkP st T q with
        | none =>
          obtain rfl := HN.out hr
          have HE : Hid (mkP.mkSum st kids q [] = none) := by
            unfold Hid
            rw [← HTk.out, mkSum_cons, hr]
          clear hr
          go_wp2
          refine bodyPost_ret (v := .tuple #[.slice none 0 0, .bool false]) ?_ rfl ((HT.out none HE.out (.slice none 0 0) w2 HBw2.out).2 rfl)
          simp [results, Try.results26, go_sem]
        | some m =>
          obtain ⟨rfl, hpm⟩ := HS2.out m hr
          have hml := mkP_len st T q m hr
          have cU := union_any _ _ acc m w2 HP2.out hpm (by omega) HS.out
          have HE : Hid (mkP.mkSum st kids q [] = if 64 < (uni acc m).length then none else mkP.mkSum st (kids.drop (k + 1)) q (uni acc m)) := by
            unfold Hid
            rw [← HTk.out, mkSum_cons, hr]
          clear hr hpm HS2 HN
          go_wp2_with fail
          refine cU.mono ?_
          rintro e w3 ⟨v3, rfl, hp3, hb3⟩
          have HBw3 : Hid (Below W.heap.size W w3) := HBw2.out.trans (hb3.mono HBw2.out.size)
          obtain ⟨va3, vc3, rfl, -⟩ := hp3.form
          have HP3 := hid hp3
          have HSu : Hid (SS (uni acc m)) := uni_ss _ _
          clear hp3 hb3 cU
          generalize uni acc m = U at *
          obtain ⟨L3, hL3⟩ : ∃ L3, U.length = L3 := ⟨_, rfl⟩
          have HL3 := hid hL3
          rw [hL3] at HP3 ⊢
          by_cases h64 : 64 < L3
          · have d64 : decide ((64 : Int) < (L3 : Int)) = true := by simp; omega
            have HE2 : Hid (mkP.mkSum st kids q [] = none) := by
              unfold Hid
              rw [HE.out, if_pos (by rw [HL3.out]; exact h64)]
            clear hL3 h64
            go_wp2_with fail
            refine bodyPost_ret (v := .tuple #[.slice none 0 0, .bool false]) ?_ rfl ((HT.out none HE2.out (.slice none 0 0) w3 HBw3.out).2 rfl)
            simp [results, Try.results26, go_sem]
          · have d64 : decide ((64 : Int) < (L3 : Int)) = false := by simp; omega
            have HE2 : Hid (mkP.mkSum st (kids.drop (k + 1)) q U = mkP.mkSum st kids q []) := by
              unfold Hid
              rw [HE.out, if_neg (by rw [HL3.out]; exact h64)]
            have hU64 : U.length ≤ 64 := by omega
            clear hL3
            go_wp2_with fail
            go_roundw
            case rel => exact ⟨k + 1, U, by omega, by go_num, HE2, HSu, hU64, HP3, HBw3⟩
            case measure => simp [intOf]; omega
    · obtain rfl : k = R := by omega
      have hltd : decide ((k : Int) < (k : Int)) = false := by simp
      go_wp2
      refine bodyPost_ret (v := .tuple #[.slice va acc.length vc, .bool true]) ?_ rfl ?_
      · simp [results, Try.results26, go_sem]
      · have e := HA.out
        rw [List.drop_of_length_le (by rw [HR.out]; exact Nat.le_refl _), mkP.mkSum] at e
        exact (HT.out (some acc) e.symm _ wr HBr.out).1 acc rfl HP.out
end Go.Proofs.Ytipiepcbgjceaaa

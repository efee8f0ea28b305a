/- What the document's run answers of a sequence, where it answers so of the kids; no conditions but the sizes. -/
import Derived.Test.YtipiepcbgjceaaaOV
import Derived.Test.YtipiepcbgjceaaaOR
set_option linter.unusedVariables false
set_option linter.unusedSimpArgs false
namespace Go.Proofs.Ytipiepcbgjceaaa
open Go.RowKit Go.Joins

/-- Of each one of a list, together with what was made before; no bound. -/
def eachU (g : P8 → Option (List P8)) : List P8 → List P8 → Option (List P8)
  | [], acc => some acc
  | x :: l, acc => match g x with
    | none => none
    | some m => eachU g l (uni acc m)
theorem eachU_ge (g : P8 → Option (List P8)) : ∀ (l acc r : List P8), SS acc → eachU g l acc = some r → acc.length ≤ r.length
  | [], acc, r, _, h => by rw [eachU] at h; injection h with h; subst h; exact Nat.le_refl _
  | x :: l, acc, r, hs, h => by
    rw [eachU] at h
    cases hx : g x with
    | none => rw [hx] at h; cases h
    | some m =>
      rw [hx] at h
      exact Nat.le_trans (len_uni_left m hs) (eachU_ge g l _ r (uni_ss _ _) h)
theorem each_MU (g : P8 → Option (List P8)) : ∀ (l acc : List P8), SS acc → acc.length ≤ 64 → eachM g l acc = match eachU g l acc with
    | none => none
    | some m => if 64 < m.length then none else some m
  | [], acc, _, ha => by
    rw [eachM, eachU]
    simp only
    rw [if_neg (by omega)]
  | x :: l, acc, hs, ha => by
    rw [eachM, eachU]
    cases hx : g x with
    | none => rfl
    | some m =>
      simp only
      by_cases h : 64 < (uni acc m).length
      · rw [if_pos h]
        cases hu : eachU g l (uni acc m) with
        | none => rfl
        | some r =>
          have := eachU_ge g l _ r (uni_ss _ _) hu
          simp only
          rw [if_pos (by omega)]
      · rw [if_neg h]
        exact each_MU g l _ (uni_ss _ _) (by omega)
theorem eachU_cons (g : P8 → Option (List P8)) (x : P8) (l acc : List P8) : eachU g (x :: l) acc = match g x with
    | none => none
    | some m => eachU g l (uni acc m) := by rw [eachU]
theorem mkSeq_each (st : List Nat) (p : Pl) (r : List Pl) (l : List P8) : mkP.mkSeq st (p :: r) l = match eachU (fun x => mkP st p x) l [] with
    | none => none
    | some m => if 64 < m.length then none else mkP.mkSeq st r m := by
  rw [mkP.mkSeq, each_MU _ _ _ ss_nil (by simp)]
  cases eachU (fun x => mkP st p x) l [] with
  | none => rfl
  | some m =>
    simp only
    by_cases h : 64 < m.length
    · rw [if_pos h, if_pos h]
    · rw [if_neg h, if_neg h]
set_option maxRecDepth 100000 in
set_option maxHeartbeats 8000000 in
theorem run_6 {P : Nat → Prop} (st : List Nat) (sv : Value) (f n : Int) (kids : List Pl) (y : Nd) (q : P8) (w : World) (hq8 : Q8 q) (hp : PolAt P w (.mk 6 f n kids) y) (hC : ∀ k (hk : k < kids.length), RunC P st sv kids[k] w) (hok : ∀ k (hk : k < kids.length), okN kids[k]) (hkl : kids.length ≤ 1000000) :
    Calls Try.prog 26 #[nv y, sv, q.v] w fun e w' => RunEnd st (.mk 6 f n kids) q w e w' := by
  obtain ⟨sa, sc, rfl, hk⟩ := hp.open
  have hmk : mkP st (.mk 6 f n kids) q = mkP.mkSeq st kids [q] := by rw [mkP_mk]; rfl
  obtain ⟨R, hR⟩ : ∃ R, kids.length = R := ⟨_, rfl⟩
  obtain ⟨W, hW, hb, hx, hq, h1, hsz⟩ := run_start w ⟨6, f, n, .slice sa kids.length sc⟩ q
  rw [hR] at hx hW
  rw [hR]
  have HR := hid hR
  have HMK := hid hmk
  have HK := hid hk
  have HC := hid hC
  have HO := hid hok
  have HB := hid hb
  have H1 := hid h1
  have HQ8 : Hid (∀ x ∈ [q], Q8 x) := fun x hx => by rw [List.mem_singleton] at hx; subst hx; exact hq8
  have hR6 : R ≤ 1000000 := by omega
  have HX := hid hx
  have HQ := hid hq
  clear hx hq hb h1 hC hp hk hmk hR hkl hok hq8
  have HT : Hid (∀ r, mkP.mkSeq st kids [q] = r → ∀ v w', Below W.heap.size W w' → (∀ l, r = some l → Pks w' v l → RunEnd st (.mk 6 f n kids) q w (.returned (.tuple #[v, .bool true])) w') ∧ (r = none → RunEnd st (.mk 6 f n kids) q w (.returned (.tuple #[.slice none 0 0, .bool false])) w')) := fun r hr v w' hW' => ⟨fun l h hv => RunEnd.yes (HB.out.trans (hW'.mono HB.out.size)) (by rw [HMK.out, hr, h]) hv, fun h => RunEnd.no (HB.out.trans (hW'.mono HB.out.size)) (by rw [HMK.out, hr, h])⟩
  obtain ⟨p0, p1, p2, p3⟩ := row4 HX.out
  obtain ⟨⟨q0, q1, q2, q3, q4, q5, q6, q7⟩, -, -⟩ := row8 HQ.out
  go_enter Try.func26, Try.ntmps26
  go_wp2
  (try rw [hW])
  go_loopw [11, 12] (fun v i wr => ∃ (k : Nat) (L : List P8), k ≤ R ∧ i = .int .i64 (k : Int) ∧ Hid (mkP.mkSeq st (kids.drop k) L = mkP.mkSeq st kids [q]) ∧ Hid (SS L) ∧ L.length ≤ 64 ∧ Hid (∀ x ∈ L, Q8 x) ∧ Hid (Pks wr v L) ∧ Hid (Below W.heap.size W wr)) (fun _ i _ => R - (intOf i).toNat)
  case atStart => exact ⟨0, [q], Nat.zero_le _, rfl, rfl, ss_one q, by simp, HQ8, H1, Below.refl _ _⟩
  case round =>
    obtain ⟨k, L, hk, rfl, HA, HS, hal, HL8, HP, HBr⟩ := hrel
    obtain ⟨M0, hM0⟩ : ∃ M0, L.length = M0 := ⟨_, rfl⟩
    obtain ⟨va, vc, rfl, hcells⟩ := HP.out.form
    have HM0 := hid hM0
    have HCL := hid hcells
    rw [hM0] at hal HP ⊢
    have HXr : Hid (wr.heap[w.heap.size]? = some (pobj ⟨6, f, n, .slice sa R sc⟩)) := (HBr.out.block _ (by omega)).trans HX.out
    clear p0 p1 p2 p3 q0 q1 q2 q3 q4 q5 q6 q7 hM0 hcells
    obtain ⟨p0, p1, p2, p3⟩ := row4 HXr.out
    by_cases hlt : k < R
    · have hlt' : k < kids.length := by rw [HR.out]; exact hlt
      have hltd : decide ((k : Int) < (R : Int)) = true := by simp; omega
      obtain ⟨b, off, sa2, n2, sc2, y0, y1, y2, rfl, hbk, ha, hpk⟩ := HK.out k hlt'
      have HAk : Hid (At4 wr b (off + k * 4) ⟨y0, y1, y2, .slice sa2 n2 sc2⟩) := ha.same ((HB.out.trans (HBr.out.mono HB.out.size)).block b hbk)
      have HBwr := hid (HB.out.trans (HBr.out.mono HB.out.size))
      have hbr : b < wr.heap.size := Nat.lt_of_lt_of_le hbk HBwr.out.size
      have hxr : w.heap.size < wr.heap.size := by
        have := HBr.out.size
        omega
      have HTk : Hid (mkP.mkSeq st (kids[k] :: kids.drop (k + 1)) L = mkP.mkSeq st kids [q]) := by
        unfold Hid
        rw [← HA.out, List.drop_eq_getElem_cons hlt']
      have HOk := hid (HO.out k hlt')
      have cK : Hid (∀ x W', Q8 x → Below wr.heap.size wr W' → Calls Try.prog 26 #[nv ⟨y0, y1, y2, .slice sa2 n2 sc2⟩, sv, x.v] W' fun e w' => RunEnd st kids[k] x W' e w') := fun x W' hx hW' => HC.out k hlt' _ x W' hx (HBwr.out.trans (hW'.mono HBwr.out.size)) hpk
      clear ha hpk hbk
      generalize kids[k] = T at *
      generalize wr = wo at *
      go_wp2
      go_loopw [13, 14] (fun v i wi => ∃ (j : Nat) (M : List P8), j ≤ M0 ∧ i = .int .i64 (j : Int) ∧ Hid (eachU (fun x => mkP st T x) (L.drop j) M = eachU (fun x => mkP st T x) L []) ∧ Hid (SS M) ∧ M.length ≤ 64 * j ∧ Hid (∀ x ∈ M, Q8 x) ∧ Hid (Pks wi v M) ∧ Hid (Below wo.heap.size wo wi)) (fun _ i _ => M0 - (intOf i).toNat)
      case atStart => exact ⟨0, [], Nat.zero_le _, rfl, rfl, ss_nil, by simp, (fun x hx => by cases hx), pks_nil _, Below.refl _ _⟩
      case round =>
        obtain ⟨j, M, hj, rfl, HE, HSM, hMl, HM8, HPM, HBi⟩ := hrel
        obtain ⟨vm, vmc, rfl, -⟩ := HPM.out.form
        have HXi : Hid (wr.heap[w.heap.size]? = some (pobj ⟨6, f, n, .slice (some ⟨b, off, none⟩) R sc⟩)) := (HBi.out.block _ hxr).trans HXr.out
        clear p0 p1 p2 p3
        obtain ⟨p0, p1, p2, p3⟩ := row4 HXi.out
        by_cases hj2 : j < M0
        · have hj' : j < L.length := by rw [HM0.out]; exact hj2
          have dj : decide ((j : Int) < (M0 : Int)) = true := by simp; omega
          obtain ⟨b2, off2, rfl, hb2, hat⟩ := HCL.out j hj'
          obtain ⟨q0, q1, q2, q3, q4, q5, q6, q7⟩ := At8.below hat HBi.out hb2
          obtain ⟨a0, a1, a2, a3⟩ := HAk.out.same (HBi.out.block b hbr)
          have HEj : Hid (eachU (fun x => mkP st T x) (L[j] :: L.drop (j + 1)) M = eachU (fun x => mkP st T x) L []) := by
            unfold Hid
            rw [← HE.out, List.drop_eq_getElem_cons hj']
          have hx8 : Hid (Q8 L[j]) := HL8.out _ (List.getElem_mem hj')
          clear hat
          generalize L[j] = x at *
          have HD : Hid (Below wo.heap.size wo wr.drew) := HBi.out.trans ((below_drewN (Below.refl _ wr) 1).mono HBi.out.size)
          have HDr : Hid (Below wr.heap.size wr wr.drew) := below_drewN (Below.refl _ wr) 1
          go_wp2
          go_region_with (go_at_call 26; refine (cK.out x _ hx8.out HD.out).mono ?_; rintro e w2 ⟨v2, ok, rfl, ⟨va2, vl2, vc2, rfl⟩, hb2, hs2, hn2⟩)
          all_goals
            have HB2 : Hid (Below wr.heap.size wr w2) := HDr.out.trans (hb2.mono HDr.out.size)
            have HBo : Hid (Below wo.heap.size wo w2) := HBi.out.trans (HB2.out.mono HBi.out.size)
            have HBw2 : Hid (Below W.heap.size W w2) := HBr.out.trans (HBo.out.mono HBr.out.size)
            have HP2 : Hid (Pks w2 (.slice vm M.length vmc) M) := HPM.out.below HB2.out
            have HN := hid hn2
            have HS2 := hid hs2
            clear hb2 hn2 hs2 q0 q1 q2 q3 q4 q5 q6 q7 p0 p1 p2 p3 a0 a1 a2 a3
            cases hr : mkP st T x with
            | none =>
              obtain rfl := HN.out hr
              have HE2 : Hid (mkP.mkSeq st kids [q] = none) := by
                unfold Hid
                rw [← HTk.out, mkSeq_each, ← HEj.out, eachU_cons, hr]
              clear hr
              go_wp2
              refine bodyPost_ret (v := .tuple #[.slice none 0 0, .bool false]) ?_ rfl ((HT.out none HE2.out (.slice none 0 0) w2 HBw2.out).2 rfl)
              simp [results, Try.results26, go_sem]
            | some m =>
              obtain ⟨rfl, hpm⟩ := HS2.out m hr
              have hml := mkP_len st T x m hr
              have cU := union_g _ _ M m w2 HP2.out hpm (by omega) HSM.out
              have HE2 : Hid (eachU (fun x => mkP st T x) (L.drop (j + 1)) (uni M m) = eachU (fun x => mkP st T x) L []) := by
                unfold Hid
                rw [← HEj.out, eachU_cons, hr]
              have HM8u : Hid (∀ z ∈ uni M m, Q8 z) := fun z hz => by
                rcases (mem_uni M m z).1 hz with h | h
                · exact HM8.out z h
                · exact mkP_q8 HOk.out hx8.out hr z h
              have hul : (uni M m).length ≤ 64 * (j + 1) := by
                have := fold_len M m HSM.out
                rw [fold_uni M m HSM.out] at this
                omega
              clear hr hpm HS2 HN
              go_wp2_with fail
              refine cU.mono ?_
              rintro e w3 ⟨v3, rfl, hp3, hb3⟩
              have HBo3 : Hid (Below wo.heap.size wo w3) := HBo.out.trans (hb3.mono HBo.out.size)
              have HP3 := hid hp3
              have HSu : Hid (SS (uni M m)) := uni_ss _ _
              clear hp3 hb3 cU
              generalize uni M m = U at *
              go_wp2
              go_roundw
              case rel => exact ⟨j + 1, U, by omega, by go_num, HE2, HSu, hul, HM8u, HP3, HBo3⟩
              case measure => simp [intOf]; omega
        · obtain rfl : j = M0 := by omega
          have dj : decide ((j : Int) < (j : Int)) = false := by simp
          have HEe : Hid (eachU (fun x => mkP st T x) L [] = some M) := by
            unfold Hid
            rw [← HE.out, List.drop_of_length_le (by rw [HM0.out]; exact Nat.le_refl _), eachU]
          have HBw : Hid (Below W.heap.size W wr) := HBr.out.trans (HBi.out.mono HBr.out.size)
          obtain ⟨L3, hL3⟩ : ∃ L3, M.length = L3 := ⟨_, rfl⟩
          have HL3 := hid hL3
          rw [hL3] at HPM ⊢
          by_cases h64 : 64 < L3
          · have d64 : decide ((64 : Int) < (L3 : Int)) = true := by simp; omega
            have HE2 : Hid (mkP.mkSeq st kids [q] = none) := by
              unfold Hid
              rw [← HTk.out, mkSeq_each, HEe.out]
              dsimp only
              rw [if_pos (by rw [HL3.out]; exact h64)]
            clear hL3 h64
            go_wp2_with fail
            refine bodyPost_ret (v := .tuple #[.slice none 0 0, .bool false]) ?_ rfl ((HT.out none HE2.out (.slice none 0 0) wr HBw.out).2 rfl)
            simp [results, Try.results26, go_sem]
          · have d64 : decide ((64 : Int) < (L3 : Int)) = false := by simp; omega
            have HE2 : Hid (mkP.mkSeq st (kids.drop (k + 1)) M = mkP.mkSeq st kids [q]) := by
              unfold Hid
              rw [← HTk.out, mkSeq_each, HEe.out]
              dsimp only
              rw [if_neg (by rw [HL3.out]; exact h64)]
            have hU64 : M.length ≤ 64 := by omega
            clear hL3
            go_wp2_with fail
            go_roundw
            case rel => exact ⟨k + 1, M, by omega, by go_num, HE2, HSM, hU64, HM8, HPM, HBw⟩
            case measure => simp [intOf]; omega
    · obtain rfl : k = R := by omega
      have hltd : decide ((k : Int) < (k : Int)) = false := by simp
      go_wp2
      refine bodyPost_ret (v := .tuple #[.slice va M0 vc, .bool true]) ?_ rfl ?_
      · simp [results, Try.results26, go_sem]
      · have e := HA.out
        rw [List.drop_of_length_le (by rw [HR.out]; exact Nat.le_refl _), mkP.mkSeq] at e
        exact (HT.out (some L) e.symm _ wr HBr.out).1 L rfl HP.out
end Go.Proofs.Ytipiepcbgjceaaa
/- What the document's run and Make answer of any policy; no conditions but that it is well formed, and the sizes. -/
set_option linter.unusedVariables false
set_option linter.unusedSimpArgs false
namespace Go.Proofs.Ytipiepcbgjceaaa
open Go.RowKit Go.Joins

theorem op_form {parts op f n : Int} {kids : List Pl} (h : formP parts (.mk op f n kids) = true) : (op = 0 ∨ op = 1 ∨ op = 2 ∨ op = 4 ∨ op = 5 ∨ op = 6 ∨ op = 7) ∨ (op = 3 ∧ 0 ≤ f) := by
  by_cases h3 : op = 3
  · subst h3
    rw [formP_eq, Bool.and_eq_true] at h
    have h1 := h.1
    unfold nodeB at h1
    simp only [show ¬((3 : Int) = 0 ∨ (3 : Int) = 1) by omega, show ¬(3 : Int) = 2 by omega, if_false, if_true, Bool.and_eq_true, decide_eq_true_eq] at h1
    exact .inr ⟨rfl, h1.2.1⟩
  · exact .inl (op_cases h h3)
theorem formL_get (parts : Int) : ∀ (kids : List Pl), formP.formL parts kids = true → ∀ k (hk : k < kids.length), formP parts kids[k] = true
  | p :: r, h, 0, _ => by rw [formP.formL, Bool.and_eq_true] at h; exact h.1
  | p :: r, h, k + 1, hk => by
    rw [formP.formL, Bool.and_eq_true] at h
    simpa using formL_get parts r h.2 k (by simpa using hk)
theorem run_any {P : Nat → Prop} (st : List Nat) (sv : Value) (hm63 : st.length ≤ 9223372036854775807) : ∀ (m : Nat) (T : Pl), sizeP T ≤ m → sizeP T ≤ 1000 → formP 4 T = true → okN T → ∀ w, StAt w sv st → RunC P st sv T w
  | 0, T, h, _, _, _, _, _ => absurd (size_pos T) (by omega)
  | m + 1, .mk op f n kids, hs, hs1, hf, ho, w0, hst => by
    rw [sizeP_mk] at hs hs1
    have hfl := hf
    rw [formP_eq, Bool.and_eq_true] at hfl
    have hol := ho
    rw [okN] at hol
    have hkl : kids.length ≤ 1000000 := by
      have : ∀ ks : List Pl, ks.length ≤ sizeP.sizeL ks := by
        intro ks
        induction ks with
        | nil => simp
        | cons a r ih =>
          rw [sizeP.sizeL]
          have := size_pos a
          simp only [List.length_cons]
          omega
      have := this kids
      omega
    have ih : ∀ k (hk : k < kids.length) W, StAt W sv st → RunC P st sv kids[k] W := fun k hk W hW => run_any st sv hm63 m kids[k] (by have := size_get kids k hk; omega) (by have := size_get kids k hk; omega) (formL_get 4 kids hfl.2 k hk) (okN_get kids hol.2 k hk) W hW
    intro y q W hq8 hW hp
    have hstW := hst.below hW
    have hpW := hp.below hW
    obtain ⟨sa, sc, e0, -⟩ := hpW.open
    rcases op_form hf with (rfl | rfl | rfl | rfl | rfl | rfl | rfl) | ⟨rfl, hf0⟩
    · subst e0; exact run_0 st sv f n kids _ q W
    · subst e0; exact run_1 st sv f n kids _ q W
    · subst e0; exact run_2 st sv f n kids _ q W (form_f hf ho (.inl rfl))
    · obtain ⟨k, rfl, -, -⟩ := kid_pred hf
      subst e0
      exact run_4 st sv f n k _ q W hq8 hpW (ih 0 (by simp) W hstW)
    · subst e0; exact run_5 st sv f n kids _ q W
    · exact run_6 st sv f n kids y q W hq8 hpW (fun k hk => ih k hk W hstW) (fun k hk => okN_get kids hol.2 k hk) hkl
    · exact run_7 st sv f n kids y q W hq8 hpW (fun k hk => ih k hk W hstW) hkl
    · subst e0; exact run_3 st sv f n kids _ q W hstW hm63 hf0

/-- How the document's Make ends. -/
def DMkEnd (st : List Nat) (T : Pl) (q : P8) (w : World) (e : Ending) (w' : World) : Prop :=
  ∃ v z, e = .returned (.tuple #[v, .int .i64 z]) ∧ Below w.heap.size w w' ∧ ((okT T = false ∧ z = 11 ∧ v = .slice none 0 0) ∨ (okT T = true ∧ mkP st T q = none ∧ z = 24 ∧ v = .slice none 0 0) ∨ (okT T = true ∧ ∃ l, mkP st T q = some l ∧ z = 0 ∧ Pks w' v l))
set_option maxRecDepth 100000 in
set_option maxHeartbeats 4000000 in
theorem dmake_any {P : Nat → Prop} (st : List Nat) (sv : Value) (hm63 : st.length ≤ 9223372036854775807) (T : Pl) (x : Nd) (q : P8) (w : World) (hs : sizeP T ≤ 1000) (ho : okN T) (hq : Q8 q) (hp : PolAt P w T x) (hst : StAt w sv st) :
    Calls Try.prog 10 #[nv x, sv, q.v] w fun e w' => DMkEnd st T q w e w' := by
  obtain ⟨W, hW⟩ : ∃ W, (w.alloc (pobj x)).alloc (pobj8 q) = W := ⟨_, rfl⟩
  have hb0 : Below w.heap.size w W := by
    rw [← hW]
    exact ((Below.refl _ w).alloc (Nat.le_refl _) _).alloc (by simp) _
  have hr0 : W.heap[w.heap.size + 1]? = some (pobj8 q) := by rw [← hW]; exact heap_alloc2_new w _ _
  have hr1 : W.heap[w.heap.size]? = some (pobj x) := by rw [← hW]; exact (Below.heap_alloc _ _ _ (by simp)).trans (heap_alloc_new w _)
  have cF := right_any (P := P) T x W hs (hp.below hb0)
  have HRn : Hid (okT T = true → ∀ W', Below w.heap.size w W' → Calls Try.prog 26 #[nv x, sv, q.v] W' fun e w' => RunEnd st T q W' e w') := fun h W' hW' => run_any (P := P) st sv hm63 _ T (Nat.le_refl _) hs ((okT_iff T).1 h).2.2 ho W' (hst.below hW') x q W' hq (Below.refl _ _) (hp.below hW')
  have HB0 := hid hb0
  have HR0 := hid hr0
  have HR1 := hid hr1
  obtain ⟨ss, ssc, rfl, -⟩ := hst
  obtain ⟨-, -, -, sa, sc, hkv⟩ := hp.shape
  obtain ⟨xo, xf, xn, xk⟩ := x
  dsimp only at hkv
  subst hkv
  obtain ⟨KL, eKL⟩ : ∃ KL, T.kids.length = KL := ⟨_, rfl⟩
  obtain ⟨SL, eSL⟩ : ∃ SL, st.length = SL := ⟨_, rfl⟩
  rw [eKL] at cF HRn HR1 hW ⊢
  rw [eSL] at HRn ⊢
  clear hp hb0 eKL eSL hr0 hr1
  cases hk : okT T with
  | false =>
    rw [hk] at cF
    have HE : Hid (∀ w', Below w.heap.size w w' → DMkEnd st T q w (.returned (.tuple #[.slice none 0 0, .int .i64 11])) w') := fun w' hb => ⟨_, _, rfl, hb, .inl ⟨hk, rfl, rfl⟩⟩
    clear hk HRn
    obtain ⟨r0, r1, r2, r3⟩ := row4 HR1.out
    go_enter Try.func10, Try.ntmps10
    go_wp2_with fail
    (try rw [hW])
    refine cF.mono ?_
    rintro e w1 ⟨rfl, hb1⟩
    have HE2 : Hid _ := HE.out w1 (HB0.out.trans (hb1.mono HB0.out.size))
    clear hb1 cF HE HB0 r0 r1 r2 r3
    go_wp2
    refine bodyPost_ret (v := .tuple #[.slice none 0 0, .int .i64 11]) ?_ rfl HE2.out
    simp [results, Try.results10, go_sem]
  | true =>
    rw [hk] at cF
    have cR := hid (HRn.out hk)
    have HE : Hid (∀ w', Below w.heap.size w w' → (mkP st T q = none → DMkEnd st T q w (.returned (.tuple #[.slice none 0 0, .int .i64 24])) w') ∧ (∀ l v, mkP st T q = some l → Pks w' v l → DMkEnd st T q w (.returned (.tuple #[v, .int .i64 0])) w')) := fun w' hb => ⟨fun h => ⟨_, _, rfl, hb, .inr (.inl ⟨hk, h, rfl, rfl⟩)⟩, fun l v h hv => ⟨_, _, rfl, hb, .inr (.inr ⟨hk, l, h, rfl, hv⟩)⟩⟩
    clear hk HRn
    obtain ⟨r0, r1, r2, r3⟩ := row4 HR1.out
    go_enter Try.func10, Try.ntmps10
    go_wp2_with fail
    (try rw [hW])
    refine cF.mono ?_
    rintro e w1 ⟨rfl, hb1⟩
    clear r0 r1 r2 r3 cF
    obtain ⟨r0, r1, r2, r3⟩ := row4 ((hb1.block _ (heap_lt HR1.out)).trans HR1.out)
    obtain ⟨⟨s0, s1, s2, s3, s4, s5, s6, s7⟩, -, -⟩ := row8 ((hb1.block _ (heap_lt HR0.out)).trans HR0.out)
    have HB1 : Hid (Below w.heap.size w w1) := HB0.out.trans (hb1.mono HB0.out.size)
    have HBd : Hid (Below w.heap.size w w1.drew) := HB1.out.trans ((below_drewN (Below.refl _ w1) 1).mono HB1.out.size)
    clear hb1 HR0 HR1 HB0
    go_wp2_with fail
    refine (cR.out _ HB1.out).mono ?_
    rintro e w2 ⟨v2, ok, rfl, ⟨va2, vl2, vc2, rfl⟩, hb2, hs2, hn2⟩
    have HB2 : Hid (Below w.heap.size w w2) := HB1.out.trans (hb2.mono HB1.out.size)
    have HN := hid hn2
    have HS2 := hid hs2
    obtain ⟨e1, e2⟩ := HE.out w2 HB2.out
    have E1 := hid e1
    have E2 := hid e2
    clear hb2 hn2 hs2 e1 e2 r0 r1 r2 r3 s0 s1 s2 s3 s4 s5 s6 s7
    cases hr : mkP st T q with
    | none =>
      obtain rfl := HN.out hr
      have E3 := hid (E1.out hr)
      clear hr
      go_wp2
      refine bodyPost_ret (v := .tuple #[.slice none 0 0, .int .i64 24]) ?_ rfl E3.out
      simp [results, Try.results10, go_sem]
    | some l =>
      obtain ⟨rfl, hpm⟩ := HS2.out l hr
      have E3 := hid (E2.out l _ hr hpm)
      clear hr hpm
      go_wp2
      refine bodyPost_ret (v := .tuple #[.slice va2 vl2 vc2, .int .i64 0]) ?_ rfl E3.out
      simp [results, Try.results10, go_sem]
end Go.Proofs.Ytipiepcbgjceaaa

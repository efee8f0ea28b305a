/- What the document's run answers of a part of the state, a put, a not; no conditions but that it is well formed. -/
import Derived.Test.YtipiepcbgjceaaaOS
set_option linter.unusedVariables false
set_option linter.unusedSimpArgs false
namespace Go.Proofs.Ytipiepcbgjceaaa
open Go.RowKit Go.Joins

set_option maxRecDepth 100000 in
set_option maxHeartbeats 4000000 in
theorem run_3 (st : List Nat) (sv : Value) (f n : Int) (kids : List Pl) (kv : Value) (q : P8) (w : World) (hst : StAt w sv st) (hm63 : st.length ≤ 9223372036854775807) (hf : 0 ≤ f) :
    Calls Try.prog 26 #[nv ⟨3, f, n, kv⟩, sv, q.v] w fun e w' => RunEnd st (.mk 3 f n kids) q w e w' := by
  obtain ⟨W, hW, hb, hx, hq, h1, hsz⟩ := run_start w ⟨3, f, n, kv⟩ q
  have HE1 : Hid (partIs st f n = true → ∀ W', Below W.heap.size W W' → RunEnd st (.mk 3 f n kids) q w (.returned (.tuple #[.slice (some ⟨w.heap.size + 1 + 1, 0, none⟩) 1 1, .bool true])) W') := fun h W' hW' => RunEnd.yes (hb.trans (hW'.mono hb.size)) (by rw [mkP_mk]; simp [h]) (h1.below hW')
  have HE0 : Hid (partIs st f n = false → ∀ W', Below W.heap.size W W' → RunEnd st (.mk 3 f n kids) q w (.returned (.tuple #[.slice none 0 0, .bool true])) W') := fun h W' hW' => RunEnd.yes (hb.trans (hW'.mono hb.size)) (by rw [mkP_mk]; simp [h]) (pks_nil _)
  obtain ⟨p0, p1, p2, p3⟩ := row4 hx
  obtain ⟨⟨q0, q1, q2, q3, q4, q5, q6, q7⟩, -, -⟩ := row8 hq
  have HWl : Hid (∀ k, Below W.heap.size W (W.drewN k)) := fun k => below_drewN (Below.refl _ W) k
  obtain ⟨F, rfl⟩ : ∃ F : Nat, f = (F : Int) := ⟨f.toNat, by omega⟩
  obtain ⟨ss, ssc, rfl, hsc⟩ := hst.below hb
  obtain ⟨R, hR⟩ : ∃ R, st.length = R := ⟨_, rfl⟩
  have HR := hid hR
  have HSc := hid hsc
  rw [hR] at hm63 ⊢
  clear hx hq h1 hb hR hsc
  by_cases hlt : F < R
  · have hlt' : F < st.length := by rw [HR.out]; exact hlt
    obtain ⟨b, off, rfl, hbl, hc⟩ := HSc.out F hlt'
    obtain ⟨x, hxx⟩ : ∃ x, st[F] = x := ⟨_, rfl⟩
    rw [hxx] at hc
    have dF : decide ((F : Int) < (R : Int)) = true := by simp; omega
    have HX : Hid (partIs st (F : Int) n = decide ((x : Int) = n)) := by
      unfold Hid partIs
      rw [decide_eq_true (show (0 : Int) ≤ (F : Int) by omega), decide_eq_true (show (F : Int) < (st.length : Int) by omega), Int.toNat_natCast, List.getD_eq_getElem?_getD, List.getElem?_eq_getElem hlt', Option.getD_some, hxx]
      simp
    clear hxx
    by_cases hn : (x : Int) = n
    · have dn : ((x : Int) == n) = true := by simp [hn]
      have HP : Hid (partIs st (F : Int) n = true) := by unfold Hid; rw [HX.out]; exact decide_eq_true hn
      clear hn
      go_enter Try.func26, Try.ntmps26
      go_wp2
      (try rw [hW])
      go_quiet (fail)
      go_wp2
      refine bodyPost_ret (v := .tuple #[.slice (some ⟨w.heap.size + 1 + 1, 0, none⟩) 1 1, .bool true]) ?_ rfl (HE1.out HP.out _ (HWl.out nq))
      simp [results, Try.results26, go_sem]
    · have dn : ((x : Int) == n) = false := by simp [hn]
      have HP : Hid (partIs st (F : Int) n = false) := by unfold Hid; rw [HX.out]; exact decide_eq_false hn
      clear hn
      go_enter Try.func26, Try.ntmps26
      go_wp2
      (try rw [hW])
      go_quiet (fail)
      go_wp2
      refine bodyPost_ret (v := .tuple #[.slice none 0 0, .bool true]) ?_ rfl (HE0.out HP.out _ (HWl.out nq))
      simp [results, Try.results26, go_sem]
  · have dF : decide ((F : Int) < (R : Int)) = false := by simp; omega
    have HP : Hid (partIs st (F : Int) n = false) := by
      unfold Hid partIs
      rw [decide_eq_false (show ¬ (F : Int) < (st.length : Int) by rw [HR.out]; omega)]
      simp
    go_enter Try.func26, Try.ntmps26
    go_wp2
    (try rw [hW])
    go_quiet (fail)
    go_wp2
    refine bodyPost_ret (v := .tuple #[.slice none 0 0, .bool true]) ?_ rfl (HE0.out HP.out _ (HWl.out nq))
    simp [results, Try.results26, go_sem]
set_option maxRecDepth 100000 in
set_option maxHeartbeats 4000000 in
theorem run_5 (st : List Nat) (sv : Value) (f n : Int) (kids : List Pl) (kv : Value) (q : P8) (w : World) :
    Calls Try.prog 26 #[nv ⟨5, f, n, kv⟩, sv, q.v] w fun e w' => RunEnd st (.mk 5 f n kids) q w e w' := by
  obtain ⟨W, hW, hb, hx, hq, h1, hsz⟩ := run_start w ⟨5, f, n, kv⟩ q
  have cW : Calls Try.prog 36 #[pk q.a0 q.a1 q.a2 q.a3 q.a4 q.a5 q.a6 q.a7, .int .i64 f, .int .u16 n] W fun e w' => e = .returned (q.wth f n).v ∧ Below W.heap.size W w' := (rwith_any q.a0 q.a1 q.a2 q.a3 q.a4 q.a5 q.a6 q.a7 f n W).mono fun e w' ⟨b0, b1, b2, b3, b4, b5, b6, b7, he, hp, hb⟩ => ⟨by
    have hx : q.wth f n = ⟨b0, b1, b2, b3, b4, b5, b6, b7⟩ := by unfold P8.wth; rw [show q.l = [q.a0, q.a1, q.a2, q.a3, q.a4, q.a5, q.a6, q.a7] from rfl, hp]; rfl
    rw [he, hx], hb⟩
  have HE : Hid (∀ W', Below W.heap.size W W' → RunEnd st (.mk 5 f n kids) q w (.returned (.tuple #[.slice (some ⟨W'.heap.size, 0, none⟩) 1 1, .bool true])) (W'.alloc (pobj8 (q.wth f n)))) := fun W' hW' => RunEnd.yes ((hb.trans (hW'.mono hb.size)).alloc (Nat.le_trans hb.size hW'.size) _) (by rw [mkP_mk]; rfl) (pv_one W' _).pks
  obtain ⟨p0, p1, p2, p3⟩ := row4 hx
  obtain ⟨⟨q0, q1, q2, q3, q4, q5, q6, q7⟩, -, -⟩ := row8 hq
  clear hx hq h1 hb
  generalize q.wth f n = y at *
  go_enter Try.func26, Try.ntmps26
  go_wp2_with fail
  refine cW.mono ?_
  rintro e w1 ⟨rfl, hb1⟩
  have HE1 := hid (HE.out w1 hb1)
  clear hb1 cW HE
  go_wp2
  refine bodyPost_ret (v := .tuple #[.slice (some ⟨w1.heap.size, 0, none⟩) 1 1, .bool true]) ?_ rfl HE1.out
  simp [results, Try.results26, go_sem]
end Go.Proofs.Ytipiepcbgjceaaa
/- What the document's run answers of a not, a sequence, a sum, where it answers so of the kids; no conditions but the sizes. -/
set_option linter.unusedVariables false
set_option linter.unusedSimpArgs false
namespace Go.Proofs.Ytipiepcbgjceaaa
open Go.RowKit Go.Joins

/-- What run answers of a policy, wherever it lies. -/
def RunC (P : Nat → Prop) (st : List Nat) (sv : Value) (T : Pl) (w0 : World) : Prop := ∀ (y : Nd) (q : P8) (W : World), Q8 q → Below w0.heap.size w0 W → PolAt P w0 T y → Calls Try.prog 26 #[nv y, sv, q.v] W fun e w' => RunEnd st T q W e w'
set_option maxRecDepth 100000 in
set_option maxHeartbeats 4000000 in
theorem run_4 {P : Nat → Prop} (st : List Nat) (sv : Value) (f n : Int) (k : Pl) (kv : Value) (q : P8) (w : World) (hq8 : Q8 q) (hp : PolAt P w (.mk 4 f n [k]) ⟨4, f, n, kv⟩) (hC : RunC P st sv k w) :
    Calls Try.prog 26 #[nv ⟨4, f, n, kv⟩, sv, q.v] w fun e w' => RunEnd st (.mk 4 f n [k]) q w e w' := by
  obtain ⟨sa, sc, e0, hk⟩ := hp.open
  simp only [Nd.mk.injEq, true_and] at e0
  subst e0
  show Calls Try.prog 26 #[nv ⟨4, f, n, .slice sa 1 sc⟩, sv, q.v] w fun e w' => RunEnd st (.mk 4 f n [k]) q w e w'
  obtain ⟨W, hW, hb, hx, hq, h1, hsz⟩ := run_start w ⟨4, f, n, .slice sa 1 sc⟩ q
  obtain ⟨b, off, sa2, n2, sc2, y0, y1, y2, rfl, hbk, ha, hpk⟩ := hk 0 (by simp)
  obtain ⟨a0, a1, a2, a3⟩ := ha.same (hb.block b hbk)
  simp only [Nat.zero_mul, Nat.add_zero] at a0 a1 a2 a3
  obtain ⟨p0, p1, p2, p3⟩ := row4 hx
  obtain ⟨⟨q0, q1, q2, q3, q4, q5, q6, q7⟩, -, -⟩ := row8 hq
  have cK : Hid (∀ W', Below W.heap.size W W' → Calls Try.prog 26 #[nv ⟨y0, y1, y2, .slice sa2 n2 sc2⟩, sv, q.v] W' fun e w' => RunEnd st k q W' e w') := fun W' hW' => hC _ q W' hq8 (hb.trans (hW'.mono hb.size)) hpk
  have HD : Hid (Below W.heap.size W W.drew) := below_drewN (Below.refl _ W) 1
  have HB := hid hb
  have H1 := hid h1
  have HEy : Hid (∀ W', Below W.heap.size W W' → (∀ l, mkP st k q = some l → l = [] → RunEnd st (.mk 4 f n [k]) q w (.returned (.tuple #[.slice (some ⟨w.heap.size + 1 + 1, 0, none⟩) 1 1, .bool true])) W') ∧ (∀ l, mkP st k q = some l → l ≠ [] → RunEnd st (.mk 4 f n [k]) q w (.returned (.tuple #[.slice none 0 0, .bool true])) W') ∧ (mkP st k q = none → ∀ a l c, RunEnd st (.mk 4 f n [k]) q w (.returned (.tuple #[.slice a l c, .bool false])) W')) := fun W' hW' => by
    have h2 := hb.trans (hW'.mono hb.size)
    have e : mkP st (.mk 4 f n [k]) q = (mkP st k q).map fun l => if l = [] then [q] else [] := by rw [mkP_mk]; rfl
    exact ⟨fun l h h3 => RunEnd.yes h2 (by rw [e, h]; simp [h3]) (h1.below hW'), fun l h h3 => RunEnd.yes h2 (by rw [e, h]; simp [h3]) (pks_nil _), fun h a l c => RunEnd.no h2 (by rw [e, h]; rfl)⟩
  clear hx hq hb h1 hC hp hk ha
  go_enter Try.func26, Try.ntmps26
  go_wp2
  (try rw [hW])
  go_region_with (go_at_call 26; refine (cK.out _ HD.out).mono ?_; rintro e w2 ⟨v2, ok, rfl, ⟨va, vl, vc, rfl⟩, hb2, hs2, hn2⟩)
  all_goals
    obtain ⟨e1, e2, e3⟩ := HEy.out w2 (HD.out.trans (hb2.mono HD.out.size))
    have E1 := hid e1
    have E2 := hid e2
    have E3 := hid e3
    clear e1 e2 e3 hb2
    cases hr : mkP st k q with
    | none =>
      obtain rfl := hn2 hr
      clear hs2 hn2
      by_cases hv : 0 < vl
      · have dv : decide ((0 : Int) < (vl : Int)) = true := by simp; omega
        go_wp2_with fail
        refine bodyPost_ret (v := .tuple #[.slice none 0 0, .bool false]) ?_ rfl (E3.out hr _ _ _)
        simp [results, Try.results26, go_sem]
      · have dv : decide ((0 : Int) < (vl : Int)) = false := by simp; omega
        go_wp2_with fail
        refine bodyPost_ret (v := .tuple #[.slice (some ⟨w.heap.size + 1 + 1, 0, none⟩) 1 1, .bool false]) ?_ rfl (E3.out hr _ _ _)
        simp [results, Try.results26, go_sem]
    | some l =>
      obtain ⟨rfl, hpk2⟩ := hs2 l hr
      have hvl : vl = l.length := by
        obtain ⟨_, _, e, _⟩ := hpk2.form
        simp only [Value.slice.injEq] at e
        exact e.2.1
      clear hs2 hn2 hpk2
      by_cases hv : l = []
      · have hv0 : vl = 0 := by rw [hvl, hv]; rfl
        subst hv0
        clear hvl
        go_wp2_with fail
        refine bodyPost_ret (v := .tuple #[.slice (some ⟨w.heap.size + 1 + 1, 0, none⟩) 1 1, .bool true]) ?_ rfl (E1.out l hr hv)
        simp [results, Try.results26, go_sem]
      · have hv0 : 0 < vl := by rw [hvl]; exact List.length_pos_iff.2 hv
        have dv : decide ((0 : Int) < (vl : Int)) = true := by simp; omega
        have HR := hid hr
        have HV := hid hv
        clear hvl hr hv
        go_wp2_with fail
        refine bodyPost_ret (v := .tuple #[.slice none 0 0, .bool true]) ?_ rfl (E2.out l HR.out HV.out)
        simp [results, Try.results26, go_sem]
end Go.Proofs.Ytipiepcbgjceaaa

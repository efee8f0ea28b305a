/- Whether a list of rows is right: table.Right and the document's; any rows. -/
import Derived.Test.YtbcikkofbdfmaaaXA
set_option linter.unusedVariables false
set_option linter.unusedSimpArgs false
namespace Go.Proofs.Ytbcikkofbdfmaaa
open Go.RowKit Go.Joins Go.Sort

set_option maxRecDepth 100000 in
set_option maxHeartbeats 4000000 in
theorem idxR_any (v : Value) (L : List Rx) (w : World) (h : RowsAt w v L) : Calls Try.prog 56 #[v, .func (.func 46) #[] #[]] w fun e w' => ∃ z : Int, e = .returned (.int .i64 z) ∧ decide (0 ≤ z) = L.any (fun c => !rowOK c) ∧ Below w.heap.size w w' := by
  obtain ⟨sa, sc, rfl, hl, -, hc⟩ := h
  have HC := hid hc
  obtain ⟨R, hR⟩ : ∃ R, L.length = R := ⟨_, rfl⟩
  have HR := hid hR
  rw [hR] at hl ⊢
  clear hc hR
  go_enter Try.func56, Try.ntmps56
  go_wp2
  go_loopw [8] (fun i wr => ∃ (k : Nat), k ≤ R ∧ i = .int .i64 (k : Int) ∧ Hid (∀ j (h : j < L.length), j < k → rowOK L[j] = true) ∧ Hid (Below w.heap.size w wr)) (fun i _ => R - (intOf i).toNat)
  case atStart => exact ⟨0, Nat.zero_le _, rfl, fun j h hj => absurd hj (by omega), Below.refl _ _⟩
  case round =>
    obtain ⟨k, hk, rfl, HN, HB⟩ := hrel
    by_cases hlt : k < R
    · have hlt' : k < L.length := by rw [HR.out]; exact hlt
      have dk : decide ((k : Int) < (R : Int)) = true := by simp; omega
      have hk1 : (k : Int) < (R : Int) := by omega
      obtain ⟨b, off, rfl, hb, x, y, hx, hy, hp⟩ := HC.out k hlt'
      have hx2 := (HB.out.cell (p := ⟨b, off + k * 2, none⟩) hb).trans hx
      have hy2 := (HB.out.cell (p := ⟨b, off + k * 2 + 1, none⟩) hb).trans hy
      have cU := hid (wrong_any x y L[k] wr (hp.below HB.out))
      obtain ⟨xa, xc, hxe, -⟩ := hp.1.form
      obtain ⟨ya, yc, hye⟩ := hp.2.form
      generalize (L[k]).a.length = yn at *
      generalize (L[k]).m.length = xn at *
      subst hxe hye
      clear hx hy hp
      cases hq : rowOK L[k] with
      | false =>
        have HE : Hid (decide ((0 : Int) ≤ (k : Int)) = L.any (fun c => !rowOK c)) := by
          show _ = _
          rw [any_hit (fun c => !rowOK c) L k hlt' (by simp [hq]), decide_eq_true (by omega)]
        rw [hq] at cU
        clear hq
        go_wp2_with fail
        refine cU.out.mono ?_
        rintro e w' ⟨rfl, hb'⟩
        have HBe := hid (HB.out.trans (hb'.mono HB.out.size))
        go_wp2
        go_ret
        exact ⟨k, rfl, HE.out, HBe.out⟩
      | true =>
        have HN2 : Hid (∀ j (h : j < L.length), j < k + 1 → rowOK L[j] = true) := fun j h hj => by
          by_cases e : j = k
          · subst e; exact hq
          · exact HN.out j h (by omega)
        rw [hq] at cU
        clear hq
        go_wp2_with fail
        refine cU.out.mono ?_
        rintro e w' ⟨rfl, hb'⟩
        have HBe := hid (HB.out.trans (hb'.mono HB.out.size))
        clear hb' cU
        go_wp2
        go_roundw
        case rel => exact ⟨k + 1, by omega, by go_num, HN2, HBe⟩
        case measure => simp [intOf]; omega
    · obtain rfl : k = R := by omega
      have dk : decide ((k : Int) < (k : Int)) = false := by simp
      have HE : Hid (decide ((0 : Int) ≤ -1) = L.any (fun c => !rowOK c)) := by
        show _ = _
        rw [any_miss (fun c => !rowOK c) L fun j hj => by simp [HN.out j hj (by rw [HR.out] at hj; omega)]]
        rfl
      go_wp2
      go_ret
      exact ⟨-1, rfl, HE.out, HB.out⟩
set_option maxHeartbeats 1000000 in
theorem conR_any (v : Value) (L : List Rx) (w : World) (h : RowsAt w v L) : Calls Try.prog 45 #[v, .func (.func 46) #[] #[]] w fun e w' => e = .returned (.bool (L.any (fun c => !rowOK c))) ∧ Below w.heap.size w w' := by
  have cI := hid (idxR_any v L w h)
  go_enter Try.func45, Try.ntmps45
  go_wp2_with fail
  refine cI.out.mono ?_
  rintro e w' ⟨z, rfl, hz, hb⟩
  go_wp2
  go_ret
  exact ⟨by rw [← hz]; rfl, hb⟩
set_option maxHeartbeats 1000000 in
theorem right_any (v : Value) (L : List Rx) (w : World) (h : RowsAt w v L) : Calls Try.prog 34 #[v] w fun e w' => e = .returned (.bool (rightM L)) ∧ Below w.heap.size w w' := by
  have cC := hid (conR_any v L w h)
  obtain ⟨sa, sc, rfl, -⟩ := h
  by_cases h1 : L.length ≤ 1000
  · have HE : Hid (rightM L = !(L.any fun c => !rowOK c)) := by
      show _ = _
      unfold rightM
      rw [decide_eq_true h1, Bool.and_true]
      simp [List.not_any_eq_all_not]
    generalize L.length = n at *
    have d1 : decide ((n : Int) ≤ 1000) = true := by rw [decide_eq_true_eq]; omega
    go_enter Try.func34, Try.ntmps34
    go_wp2_with fail
    refine cC.out.mono ?_
    rintro e w' ⟨rfl, hb⟩
    go_wp2
    go_ret
    exact ⟨by rw [HE.out]; rfl, hb⟩
  · have HE : Hid (rightM L = false) := by show _ = _; unfold rightM; rw [decide_eq_false h1, Bool.and_false]
    generalize L.length = n at *
    have d1 : decide ((n : Int) ≤ 1000) = false := by rw [decide_eq_false_iff_not]; omega
    go_enter Try.func34, Try.ntmps34
    go_wp2
    go_ret
    exact ⟨by rw [HE.out]; rfl, Below.refl _ _⟩

set_option maxRecDepth 100000 in
set_option maxHeartbeats 8000000 in
theorem rright_any (v : Value) (L : List Rx) (w : World) (h : RowsAt w v L) : Calls Try.prog 23 #[v] w fun e w' => e = .returned (.bool (rightM L)) ∧ Below w.heap.size w w' := by
  obtain ⟨sa, sc, rfl, hl, -, hc⟩ := h
  have HC := hid hc
  obtain ⟨R, hR⟩ : ∃ R, L.length = R := ⟨_, rfl⟩
  have HR := hid hR
  rw [hR] at hl ⊢
  clear hc hR
  go_enter Try.func23, Try.ntmps23
  go_wp2
  go_loopw [3] (fun i wr => ∃ (k : Nat), k ≤ R ∧ i = .int .i64 (k : Int) ∧ Hid (∀ j (h : j < L.length), j < k → rowOK L[j] = true) ∧ Hid (Below w.heap.size w wr)) (fun i _ => R - (intOf i).toNat)
  case atStart => exact ⟨0, Nat.zero_le _, rfl, fun j h hj => absurd hj (by omega), Below.refl _ _⟩
  case round =>
    obtain ⟨k, hk, rfl, HN, HB⟩ := hrel
    by_cases hlt : k < R
    · have hlt' : k < L.length := by rw [HR.out]; exact hlt
      have dk : decide ((k : Int) < (R : Int)) = true := by simp; omega
      have hk1 : (k : Int) < (R : Int) := by omega
      obtain ⟨b, off, rfl, hb, x, y, hx, hy, hp⟩ := HC.out k hlt'
      have HCX : Hid (∀ W, Below w.heap.size w W → W.cell? ⟨b, off + k * 2, none⟩ = some x ∧ W.cell? ⟨b, off + k * 2 + 1, none⟩ = some y ∧ RowAt W x y L[k]) := fun W hW => ⟨(hW.cell (p := ⟨b, off + k * 2, none⟩) hb).trans hx, (hW.cell (p := ⟨b, off + k * 2 + 1, none⟩) hb).trans hy, hp.below hW⟩
      have HNOT : Hid (rowOK L[k] = false → rightM L = false) := fun e => by
        unfold rightM
        rw [show L.all rowOK = false from List.all_eq_false.2 ⟨_, List.getElem_mem hlt', by simp [e]⟩, Bool.false_and]
      have HN2 : Hid (rowOK L[k] = true → ∀ j (h : j < L.length), j < k + 1 → rowOK L[j] = true) := fun e j h hj => by
        by_cases e2 : j = k
        · subst e2; exact e
        · exact HN.out j h (by omega)
      obtain ⟨xa, xc, hxe, -⟩ := hp.1.form
      obtain ⟨ya, yc, hye⟩ := hp.2.form
      generalize L[k] = r at *
      generalize hyn : r.a.length = yn at *
      generalize hxn : r.m.length = xn at *
      have HYN := hid hyn
      subst hxe hye
      clear hx hy hp hyn hxn
      obtain ⟨x2, y2, r2⟩ := HCX.out wr HB.out
      have cM := hid (rrise_any _ r.m wr r2.1)
      clear r2
      cases hm : rises r.m with
      | false =>
        have HE : Hid (rightM L = false) := HNOT.out (by unfold rowOK; rw [hm, Bool.false_and])
        rw [hm] at cM
        clear hm
        go_wp2_with fail
        refine cM.out.mono ?_
        rintro e w2 ⟨rfl, hb2⟩
        have HB2 := hid (HB.out.trans (hb2.mono HB.out.size))
        clear hb2 cM
        go_wp2
        go_ret
        exact ⟨by rw [HE.out]; rfl, HB2.out⟩
      | true =>
        have HMT := hid hm
        rw [hm] at cM
        clear hm
        go_wp2_with fail
        refine cM.out.mono ?_
        rintro e w2 ⟨rfl, hb2⟩
        have HB2 := hid (HB.out.trans (hb2.mono HB.out.size))
        clear hb2 cM x2 y2 HB
        obtain ⟨x2, y2, r2⟩ := HCX.out w2 HB2.out
        clear r2
        by_cases h32 : 32 < yn
        · have d1 : decide ((32 : Int) < (yn : Int)) = true := by rw [decide_eq_true_eq]; omega
          have HE : Hid (rightM L = false) := HNOT.out (by unfold rowOK; rw [HYN.out, decide_eq_false (show ¬ yn ≤ 32 by omega), Bool.false_and, Bool.and_false])
          go_wp2
          go_ret
          exact ⟨by rw [HE.out]; rfl, HB2.out⟩
        · have d1 : decide ((32 : Int) < (yn : Int)) = false := by rw [decide_eq_false_iff_not]; omega
          have H32 : Hid (yn ≤ 32) := (show yn ≤ 32 by omega)
          clear h32
          go_wp2
          clear x2 y2
          go_loopw [4] (fun mi wx => ∃ (m : Nat), m ≤ yn ∧ mi = .int .i64 (m : Int) ∧ Hid (∀ j (h : j < r.a.length), j < m → rises r.a[j] = true) ∧ Hid (Below w.heap.size w wx)) (fun mi _ => yn - (intOf mi).toNat)
          case atStart => exact ⟨0, Nat.zero_le _, rfl, fun j h hj => absurd hj (by omega), HB2⟩
          case round =>
            clear HB2
            obtain ⟨m, hm, rfl, HM, HB⟩ := hrel
            obtain ⟨x2, y2, r2⟩ := HCX.out wr HB.out
            by_cases hlm : m < yn
            · have hlm' : m < r.a.length := by rw [HYN.out]; exact hlm
              have dm : decide ((m : Int) < (yn : Int)) = true := by simp; omega
              have hm1 : (m : Int) < (yn : Int) := by omega
              have h32v : yn ≤ 32 := H32.out
              obtain ⟨sa', sc', e, -, hcc⟩ := r2.2
              obtain ⟨b2, off2, e2, hb2, u, hu, hpu⟩ := hcc m hlm'
              injection e with e ez1 ez2
              subst e ez2
              clear ez1
              subst e2
              have cU := hid (rrise_any u r.a[m] wr hpu)
              clear hcc r2 hpu
              cases hq : rises r.a[m] with
              | false =>
                have HE : Hid (rightM L = false) := HNOT.out (by unfold rowOK; rw [show r.a.all rises = false from List.all_eq_false.2 ⟨_, List.getElem_mem hlm', by simp [hq]⟩, Bool.and_false, Bool.and_false])
                rw [hq] at cU
                clear hq
                go_wp2_with fail
                refine cU.out.mono ?_
                rintro e w' ⟨rfl, hb'⟩
                have HBe := hid (HB.out.trans (hb'.mono HB.out.size))
                go_wp2
                go_ret
                exact ⟨by rw [HE.out]; rfl, HBe.out⟩
              | true =>
                have HM2 : Hid (∀ j (h : j < r.a.length), j < m + 1 → rises r.a[j] = true) := fun j h hj => by
                  by_cases e : j = m
                  · subst e; exact hq
                  · exact HM.out j h (by omega)
                rw [hq] at cU
                clear hq
                go_wp2_with fail
                refine cU.out.mono ?_
                rintro e w' ⟨rfl, hb'⟩
                have HBe := hid (HB.out.trans (hb'.mono HB.out.size))
                clear hb' cU
                go_wp2
                go_roundw
                case rel => exact ⟨m + 1, by omega, by go_num, HM2, HBe⟩
                case measure => simp [intOf]; omega
            · obtain rfl : m = yn := by omega
              have dm : decide ((m : Int) < (m : Int)) = false := by simp
              have hall : r.a.all rises = true := List.all_eq_true.2 fun c hc => by
                obtain ⟨j, hj, hje⟩ := List.getElem_of_mem hc
                rw [← hje]
                exact HM.out j hj (by have h9 := HYN.out; omega)
              have HOK : Hid (rowOK r = true) := by
                show _ = _
                unfold rowOK
                rw [HMT.out, hall, decide_eq_true (show r.a.length ≤ 32 by have h1 := HYN.out; have h2 : m ≤ 32 := H32.out; omega)]
                rfl
              clear hall
              have HN3 := hid (HN2.out HOK.out)
              clear r2
              go_wp2
              go_roundw
              case rel => exact ⟨k + 1, by omega, by go_num, HN3, HB⟩
              case measure => simp [intOf]; omega
    · obtain rfl : k = R := by omega
      have dk : decide ((k : Int) < (k : Int)) = false := by simp
      have HALL : Hid (L.all rowOK = true) := List.all_eq_true.2 fun r hr => by
        obtain ⟨j, hj, rfl⟩ := List.getElem_of_mem hr
        exact HN.out j hj (by rw [HR.out] at hj; exact hj)
      by_cases h1 : k ≤ 1000
      · have d1 : decide ((k : Int) ≤ 1000) = true := by rw [decide_eq_true_eq]; omega
        have HE : Hid (rightM L = true) := by show _ = _; unfold rightM; rw [HALL.out, HR.out, decide_eq_true h1]; rfl
        go_wp2
        go_ret
        exact ⟨by rw [HE.out]; rfl, HB.out⟩
      · have d1 : decide ((k : Int) ≤ 1000) = false := by rw [decide_eq_false_iff_not]; omega
        have HE : Hid (rightM L = false) := by show _ = _; unfold rightM; rw [HR.out, decide_eq_false h1, Bool.and_false]
        go_wp2
        go_ret
        exact ⟨by rw [HE.out]; rfl, HB.out⟩
end Go.Proofs.Ytbcikkofbdfmaaa

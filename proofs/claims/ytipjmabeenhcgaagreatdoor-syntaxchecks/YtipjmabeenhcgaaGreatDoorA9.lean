/- What lex.sign and lex.first answer of a row of code points; texts of up to 100000 bytes. -/
import Derived.Test.YtipjmabeenhcgaaGreatDoorA8
set_option linter.unusedVariables false
set_option linter.unusedSimpArgs false
namespace Go.Proofs.YtipjmabeenhcgaaGreatDoor
open Go.RowKit Go.Joins Go.Lib

/-- A code point whose first byte is ASCII is that byte. -/
theorem good_first {x : R} (h : good x) {b : UInt8} {u : List UInt8} (hx : x.2 = b :: u) (hb : b.toNat < 128) : x.1 = b.toNat ∧ u = [] := by
  have h0 := h.2.2 []
  rw [List.append_nil, hx, decodeL_ascii b u hb] at h0
  simp only [Prod.mk.injEq, List.length_cons] at h0
  exact ⟨h0.1.symm, List.eq_nil_of_length_eq_zero (by omega)⟩
theorem pre1 {x : R} {t : List R} (hg : Good (x :: t)) (c : UInt8) (hc : c.toNat < 128) (d : List UInt8) : Lib.hasPrefix (fl (x :: t)) (c :: d) = (decide (x.1 = c.toNat) && Lib.hasPrefix (fl t) d) := by
  have hx := hg.head
  obtain ⟨b, u, hbu⟩ := List.exists_cons_of_ne_nil (List.length_pos_iff.1 hx.1)
  rw [fl_cons, hbu]
  unfold Lib.hasPrefix
  rw [List.cons_append, List.isPrefixOf_cons_cons]
  by_cases hcb : c = b
  · subst hcb
    obtain ⟨h1, h2⟩ := good_first hx hbu hc
    subst h2
    rw [decide_eq_true h1, List.nil_append, beq_self_eq_true]
  · have hne : x.1 ≠ c.toNat := by
      intro e
      have hs := good_small hx (by omega)
      rw [hbu, e] at hs
      have : b = c.toNat.toUInt8 := (List.cons.inj hs).1
      apply hcb
      rw [this]; simp
    rw [decide_eq_false hne, Bool.false_and, beq_eq_false_iff_ne.2 hcb, Bool.false_and]
theorem pre2 {x : R} {t : List R} (hg : Good (x :: t)) (c d : UInt8) (hc : c.toNat < 128) (hd : d.toNat < 128) (h0 : d.toNat ≠ 0) : Lib.hasPrefix (fl (x :: t)) [c, d] = decide (x.1 = c.toNat ∧ Proofs.YtipjmabeenhcgaaGreatDoor.hd t = d.toNat) := by
  rw [pre1 hg c hc]
  cases t with
  | nil =>
    have e1 : Lib.hasPrefix (fl []) [d] = false := rfl
    rw [e1, Bool.and_false]
    symm
    rw [decide_eq_false_iff_not]
    rintro ⟨_, h⟩
    exact h0 h.symm
  | cons y u =>
    rw [pre1 hg.tail d hd]
    have e1 : Lib.hasPrefix (fl u) [] = true := by cases fl u <;> rfl
    rw [e1, Bool.and_true]
    show _ = decide (x.1 = c.toNat ∧ y.1 = d.toNat)
    rw [Bool.decide_and]
set_option maxRecDepth 100000 in
set_option maxHeartbeats 1000000 in
/-- The road to a sign's token: by the three tests. -/
theorem sign_walk (F : List UInt8) (r : Nat) (V : Value) (b1 b2 b3 : Bool) (w : World)
    (cH1 : ∀ w, Calls Tryz.prog 65 #[str F, .string ⟨#[58, 61]⟩] w fun e w' => e = .returned (.bool b1) ∧ w' = w)
    (cH2 : ∀ w, Calls Tryz.prog 65 #[str F, .string ⟨#[61, 62]⟩] w fun e w' => e = .returned (.bool b2) ∧ w' = w)
    (cH3 : ∀ w, Calls Tryz.prog 66 #[.string ⟨sgB.toArray⟩, .int .i32 (r : Int)] w fun e w' => e = .returned (.bool b3) ∧ Below w.heap.size w w')
    (A : List UInt8) (hO : ∀ n : Int, n = A.length → ∀ w, Calls Tryz.prog 63 #[str F, .int .i64 n] w fun e w' => e = .returned (str A) ∧ Below w.heap.size w w')
    (h1 : b1 = true → A.length = 2 ∧ V = .tuple #[tv ⟨3, A, 0⟩, .int .i64 2, .int .i64 0])
    (h2 : b1 = false → b2 = true → A.length = 2 ∧ V = .tuple #[tv ⟨3, A, 0⟩, .int .i64 2, .int .i64 0])
    (h3 : b1 = false → b2 = false → b3 = true → A.length = 1 ∧ V = .tuple #[tv ⟨3, A, 0⟩, .int .i64 1, .int .i64 0])
    (h4 : b1 = false → b2 = false → b3 = false → V = .tuple #[tv tkEnd, .int .i64 0, .int .i64 10]) :
    Calls Tryz.prog 52 #[str F, .int .i32 (r : Int)] w fun e w' => e = .returned V ∧ Below w.heap.size w w' := by
  have hA0 : (w.alloc (.cells #[.int .i64 0, .string ⟨#[]⟩, .int .u16 0] 72)).heap[w.heap.size]? = some (.cells #[.int .i64 0, .string ⟨#[]⟩, .int .u16 0] 72) := heap_alloc_new w _
  have HB0 : Hid (Below w.heap.size w (w.alloc (.cells #[.int .i64 0, .string ⟨#[]⟩, .int .u16 0] 72))) := (Below.refl _ w).alloc (Nat.le_refl _) _
  have hA0 := heap_alloc_new w (.cells #[.int .i64 0, .string ⟨#[]⟩, .int .u16 0] 72)
  cases b1 with
  | true =>
    obtain ⟨hl, HV⟩ := h1 rfl
    have HV : Hid (V = .tuple #[tv ⟨3, A, 0⟩, .int .i64 2, .int .i64 0]) := HV
    have cO := hO 2 (by rw [hl]; rfl)
    clear h1 h2 h3 h4 hO hl cH2 cH3
    go_enter Tryz.func52, Tryz.ntmps52
    go_wp2_with fail
    refine (cH1 _).mono ?_
    rintro e w1 ⟨rfl, hw1⟩
    subst w1
    go_wp2_with fail
    refine (cO _).mono ?_
    rintro e w3 ⟨rfl, hb3⟩
    have hrow3 := (hb3.block _ (heap_lt hA0)).trans hA0
    have HB3 : Hid (Below w.heap.size w w3) := HB0.out.trans (hb3.mono HB0.out.size)
    clear hA0 hb3 HB0
    obtain ⟨⟨q0, q1, q2⟩, hsz2⟩ := row3 hrow3
    obtain ⟨f0, f1, f2⟩ := frz3 hrow3
    go_wp2
    refine bodyPost_ret (v := .tuple #[tv ⟨3, A, 0⟩, .int .i64 2, .int .i64 0]) ?_ rfl ⟨by rw [HV.out], below3 HB3.out (Nat.le_refl _) _ _ _⟩
    obtain ⟨⟨g0, g1, g2⟩, _⟩ := row3 (set3 (.int .i64 3) (str A) (.int .u16 0) hrow3)
    simp [results, Tryz.results52, go_sem, g0, g1, g2]
  | false =>
    cases b2 with
    | true =>
      obtain ⟨hl, HV⟩ := h2 rfl rfl
      have HV : Hid (V = .tuple #[tv ⟨3, A, 0⟩, .int .i64 2, .int .i64 0]) := HV
      have cO := hO 2 (by rw [hl]; rfl)
      clear h1 h2 h3 h4 hO hl cH3
      go_enter Tryz.func52, Tryz.ntmps52
      go_wp2_with fail
      refine (cH1 _).mono ?_
      rintro e w1 ⟨rfl, hw1⟩
      subst w1
      go_wp2_with fail
      refine (cH2 _).mono ?_
      rintro e w1 ⟨rfl, hw1⟩
      subst w1
      go_wp2_with fail
      refine (cO _).mono ?_
      rintro e w3 ⟨rfl, hb3⟩
      have hrow3 := (hb3.block _ (heap_lt hA0)).trans hA0
      have HB3 : Hid (Below w.heap.size w w3) := HB0.out.trans (hb3.mono HB0.out.size)
      clear hA0 hb3 HB0
      obtain ⟨⟨q0, q1, q2⟩, hsz2⟩ := row3 hrow3
      obtain ⟨f0, f1, f2⟩ := frz3 hrow3
      go_wp2
      refine bodyPost_ret (v := .tuple #[tv ⟨3, A, 0⟩, .int .i64 2, .int .i64 0]) ?_ rfl ⟨by rw [HV.out], below3 HB3.out (Nat.le_refl _) _ _ _⟩
      obtain ⟨⟨g0, g1, g2⟩, _⟩ := row3 (set3 (.int .i64 3) (str A) (.int .u16 0) hrow3)
      simp [results, Tryz.results52, go_sem, g0, g1, g2]
    | false =>
      cases b3 with
      | true =>
        obtain ⟨hl, HV⟩ := h3 rfl rfl rfl
        have HV : Hid (V = .tuple #[tv ⟨3, A, 0⟩, .int .i64 1, .int .i64 0]) := HV
        have cO := hO 1 (by rw [hl]; rfl)
        clear h1 h2 h3 h4 hO hl
        go_enter Tryz.func52, Tryz.ntmps52
        go_wp2_with fail
        refine (cH1 _).mono ?_
        rintro e w1 ⟨rfl, hw1⟩
        subst w1
        go_wp2_with fail
        refine (cH2 _).mono ?_
        rintro e w1 ⟨rfl, hw1⟩
        subst w1
        go_wp2_with fail
        refine (cH3 _).mono ?_
        rintro e w2 ⟨rfl, hb2⟩
        have hrow2 := (hb2.block _ (heap_lt hA0)).trans hA0
        have HB2 : Hid (Below w.heap.size w w2) := HB0.out.trans (hb2.mono HB0.out.size)
        clear hA0 hb2 HB0
        go_wp2_with fail
        refine (cO _).mono ?_
        rintro e w3 ⟨rfl, hb3⟩
        have hrow3 := (hb3.block _ (heap_lt hrow2)).trans hrow2
        have HB3 : Hid (Below w.heap.size w w3) := HB2.out.trans (hb3.mono HB2.out.size)
        clear hrow2 hb3 HB2
        obtain ⟨⟨q0, q1, q2⟩, hsz2⟩ := row3 hrow3
        obtain ⟨f0, f1, f2⟩ := frz3 hrow3
        go_wp2
        refine bodyPost_ret (v := .tuple #[tv ⟨3, A, 0⟩, .int .i64 1, .int .i64 0]) ?_ rfl ⟨by rw [HV.out], below3 HB3.out (Nat.le_refl _) _ _ _⟩
        obtain ⟨⟨g0, g1, g2⟩, _⟩ := row3 (set3 (.int .i64 3) (str A) (.int .u16 0) hrow3)
        simp [results, Tryz.results52, go_sem, g0, g1, g2]
      | false =>
        have HV : Hid (V = .tuple #[tv tkEnd, .int .i64 0, .int .i64 10]) := h4 rfl rfl rfl
        clear h1 h2 h3 h4 hO
        go_enter Tryz.func52, Tryz.ntmps52
        go_wp2_with fail
        refine (cH1 _).mono ?_
        rintro e w1 ⟨rfl, hw1⟩
        subst w1
        go_wp2_with fail
        refine (cH2 _).mono ?_
        rintro e w1 ⟨rfl, hw1⟩
        subst w1
        go_wp2_with fail
        refine (cH3 _).mono ?_
        rintro e w2 ⟨rfl, hb2⟩
        have hrow2 := (hb2.block _ (heap_lt hA0)).trans hA0
        have HB2 : Hid (Below w.heap.size w w2) := HB0.out.trans (hb2.mono HB0.out.size)
        clear hA0 hb2 HB0
        obtain ⟨⟨q0, q1, q2⟩, hsz2⟩ := row3 hrow2
        obtain ⟨f0, f1, f2⟩ := frz3 hrow2
        go_wp2
        refine bodyPost_ret (v := .tuple #[tv tkEnd, .int .i64 0, .int .i64 10]) ?_ rfl ⟨by rw [HV.out], below3 HB2.out (Nat.le_refl _) _ _ _⟩
        obtain ⟨⟨g0, g1, g2⟩, _⟩ := row3 (set3 (.int .i64 0) (.string ⟨#[]⟩) (.int .u16 0) hrow2)
        simp [results, Tryz.results52, go_sem, g0, g1, g2, tkEnd]
end Go.Proofs.YtipjmabeenhcgaaGreatDoor

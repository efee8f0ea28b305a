/- What lex.number answers of a row of code points that begins with a digit; texts of up to 100000 bytes. -/
import Derived.Test.YtipjmabeenhcgaaGreatDoorA6
set_option linter.unusedVariables false
set_option linter.unusedSimpArgs false
namespace Go.Proofs.YtipjmabeenhcgaaGreatDoor
open Go.RowKit Go.Joins Go.Lib

/-- What strconv.ParseUint answers of digits. -/
theorem parse_any (D : List UInt8) (hl : D.length ≤ 100000) (u : Nat) (hp : parseUintB 16 D = .ok u) (w : World) :
    Calls Tryz.prog 64 #[str D, .int .i64 10, .int .i64 16] w fun e w' => e = .returned (.tuple #[.int .u64 (u : Int), .nilIface]) ∧ Below w.heap.size w w' :=
  (Tryz.strconv_ParseUint_10_at16_ok ⟨D.toArray⟩ (by rw [size_mk]; omega) u hp w).mono fun e w' ⟨he, hw⟩ => ⟨he, by
    rcases hw with rfl | rfl
    · exact Below.refl _ _
    · exact bytesWorld_below _ _ _⟩
theorem parse_long (D : List UInt8) (hl : D.length ≤ 100000) (hp : parseUintB 16 D = .range) (w : World) (h : Env w) :
    Calls Tryz.prog 64 #[str D, .int .i64 10, .int .i64 16] w fun e w' => (∃ N : Nat, e = .returned (.tuple #[.int .u64 65535, .iface 133 (.pointer (some ⟨N, 0, none⟩))])) ∧ Below w.heap.size w w' := by
  obtain ⟨tp, p, hv⟩ := h.rng
  exact (Tryz.strconv_ParseUint_10_at16_range_var ⟨D.toArray⟩ (by rw [size_mk]; omega) hp tp p w hv).mono fun e w' ⟨N, he, _, _, hb⟩ => ⟨⟨N, he⟩, hb⟩
theorem parseM_digits (M : Nat) : ∀ (l : List UInt8) (acc : Nat), (∀ b ∈ l, 48 ≤ b.toNat ∧ b.toNat ≤ 57) → (∃ v, parseUintM M acc l = .ok v) ∨ parseUintM M acc l = .range
  | [], acc, _ => .inl ⟨acc, rfl⟩
  | c :: r, acc, h => by
    rw [parseM_cons, if_pos (h c (by simp))]
    split
    · exact .inr rfl
    · split
      · exact .inr rfl
      · exact parseM_digits M r _ (fun b hb => h b (by simp [hb]))
theorem dg_bytes {cs : List R} (hg : Good cs) (hd : ∀ x ∈ cs, dg x.1 = true) : ∀ b ∈ fl cs, 48 ≤ b.toNat ∧ b.toNat ≤ 57 := by
  intro b hb
  obtain ⟨x, hx, hbx⟩ := List.mem_flatMap.1 hb
  have h1 := hd x hx
  simp only [dg, Bool.and_eq_true, decide_eq_true_eq] at h1
  rw [good_small (hg x hx) (by omega), List.mem_singleton] at hbx
  subst hbx
  have e : (x.1.toUInt8).toNat = x.1 := by simp; omega
  rw [e]; exact h1
theorem parse_cases (x : R) (t : List R) (hg : Good (x :: t)) (hx : dg x.1 = true) : (∃ v, parseUintB 16 (fl (x :: span dg t)) = .ok v) ∨ parseUintB 16 (fl (x :: span dg t)) = .range := by
  have hne : fl (x :: span dg t) ≠ [] := by
    intro e
    have := congrArg List.length e
    rw [fl_cons, List.length_append, List.length_nil] at this
    have := hg.head.1
    omega
  unfold parseUintB
  rw [if_neg hne]
  exact parseM_digits _ _ _ (dg_bytes (Good.cons hg.head hg.tail.span) (fun y hy => by
    rcases List.mem_cons.1 hy with rfl | h
    · exact hx
    · exact span_mem dg t y h))

theorem fl_pos {cs : List R} (hg : Good cs) (hne : cs ≠ []) : 0 < (fl cs).length := by
  have := fl_length_ge cs hg
  have := List.length_pos_iff.2 hne
  omega

set_option maxRecDepth 100000 in
set_option maxHeartbeats 1000000 in
theorem number_any (x : R) (t : List R) (hg : Good (x :: t)) (hl : dg x.1 = true) (hlen : (fl (x :: t)).length ≤ 100000) (w : World) (h : Env w) :
    Calls Tryz.prog 51 #[str (fl (x :: t))] w fun e w' => e = .returned (fv x t (numOf x t)) ∧ Below w.heap.size w w' := by
  have cS := span_digit (x :: t) hg
  rw [span_cons dg x t hl] at cS
  have hsp := fl_split x t (span dg t).length
  rw [← span_take] at hsp
  have hR : Good (t.drop (span dg t).length) := hg.tail.drop
  have cW := span_word (t.drop (span dg t).length) hR
  have hcl := cut_left (fl (x :: span dg t)) (fl (t.drop (span dg t).length))
  have hcr := cut_right (fl (x :: span dg t)) (fl (t.drop (span dg t).length))
  rw [hsp] at hlen cS ⊢
  have hll : (fl (x :: span dg t)).length ≤ 100000 := by rw [List.length_append] at hlen; omega
  have HE : Hid (Env w) := h
  have HC : Hid ((∃ v, parseUintB 16 (fl (x :: span dg t)) = .ok v) ∨ parseUintB 16 (fl (x :: span dg t)) = .range) := parse_cases x t hg hl
  by_cases hq : span iw (t.drop (span dg t).length) ≠ []
  · have HV : Hid (fv x t (numOf x t) = .tuple #[tv tkEnd, .int .i64 0, .int .i64 10]) := by
      show _ = _
      unfold numOf
      rw [if_pos hq]; rfl
    have hpos := fl_pos (hR.span (p := iw)) hq
    clear hR hq hg hsp hlen h HC
    generalize (fl (span iw (t.drop (span dg t).length))).length = m at *
    generalize fl (x :: span dg t) = A at *
    generalize fl (t.drop (span dg t).length) = B at *
    have d : decide ((0 : Int) < (m : Int)) = true := by simp; omega
    have d2 : decide (0 < m) = true := by simp; omega
    go_enter Tryz.func51, Tryz.ntmps51
    go_wp2_with fail
    refine (cS _).mono ?_
    rintro e w1 ⟨rfl, hb1⟩
    have hrow := row_kept hb1
    have HB1 : Hid (Below w.heap.size w w1) := ((Below.refl _ w).alloc (Nat.le_refl _) _).trans (hb1.mono (by simp))
    clear hb1
    go_wp2_with fail
    refine (cW _ (HE.out.below HB1.out)).mono ?_
    rintro e w2 ⟨rfl, hb2⟩
    have hrow2 := (hb2.block _ (heap_lt hrow)).trans hrow
    have HB2 : Hid (Below w.heap.size w w2) := HB1.out.trans (hb2.mono HB1.out.size)
    clear hrow HB1 hb2 cS cW
    obtain ⟨⟨q0, q1, q2⟩, hsz2⟩ := row3 hrow2
    obtain ⟨f0, f1, f2⟩ := frz3 hrow2
    go_wp2
    refine bodyPost_ret (v := .tuple #[tv tkEnd, .int .i64 0, .int .i64 10]) ?_ rfl ⟨by rw [HV.out], below3 HB2.out (Nat.le_refl _) _ _ _⟩
    obtain ⟨⟨g0, g1, g2⟩, _⟩ := row3 (set3 (.int .i64 0) (.string ⟨#[]⟩) (.int .u16 0) hrow2)
    simp [results, Tryz.results51, go_sem, g0, g1, g2, tkEnd]
  · have hm0 : (fl (span iw (t.drop (span dg t).length))).length = 0 := by
      have : span iw (t.drop (span dg t).length) = [] := Classical.not_not.1 hq
      rw [this]; rfl
    rw [hm0] at cW
    rcases HC.out with ⟨u, hu⟩ | hu
    · have HV : Hid (fv x t (numOf x t) = .tuple #[tv ⟨2, [], u⟩, .int .i64 ((fl (x :: span dg t)).length : Int), .int .i64 0]) := by
        show _ = _
        unfold numOf
        rw [if_neg hq, hu]
        show Value.tuple #[_, .int .i64 ((fl (x :: t.take (span dg t).length)).length : Int), _] = _
        rw [← span_take]
      have cP := parse_any _ hll u hu
      have hu5 := parseB_le hu
      clear hR hq hg hsp hlen h HC hm0 hu
      generalize fl (x :: span dg t) = A at *
      generalize fl (t.drop (span dg t).length) = B at *
      go_enter Tryz.func51, Tryz.ntmps51
      go_wp2_with fail
      refine (cS _).mono ?_
      rintro e w1 ⟨rfl, hb1⟩
      have hrow := row_kept hb1
      have HB1 : Hid (Below w.heap.size w w1) := ((Below.refl _ w).alloc (Nat.le_refl _) _).trans (hb1.mono (by simp))
      clear hb1
      go_wp2_with fail
      refine (cW _ (HE.out.below HB1.out)).mono ?_
      rintro e w2 ⟨rfl, hb2⟩
      have hrow2 := (hb2.block _ (heap_lt hrow)).trans hrow
      have HB2 : Hid (Below w.heap.size w w2) := HB1.out.trans (hb2.mono HB1.out.size)
      clear hrow HB1 hb2 cS cW
      go_wp2_with fail
      refine (cP _).mono ?_
      rintro e w3 ⟨rfl, hb3⟩
      have hrow3 := (hb3.block _ (heap_lt hrow2)).trans hrow2
      have HB3 : Hid (Below w.heap.size w w3) := HB2.out.trans (hb3.mono HB2.out.size)
      clear hrow2 HB2 hb3 cP
      obtain ⟨⟨q0, q1, q2⟩, hsz2⟩ := row3 hrow3
      obtain ⟨f0, f1, f2⟩ := frz3 hrow3
      have ew : IntKind.u16.wrap (u : Int) = (u : Int) := by simp [IntKind.wrap, IntKind.signed, IntKind.bits]; omega
      go_wp2
      refine bodyPost_ret (v := .tuple #[tv ⟨2, [], u⟩, .int .i64 (A.length : Int), .int .i64 0]) ?_ rfl ⟨by rw [HV.out], below3 HB3.out (Nat.le_refl _) _ _ _⟩
      obtain ⟨⟨g0, g1, g2⟩, _⟩ := row3 (set3 (.int .i64 2) (.string ⟨#[]⟩) (.int .u16 (u : Int)) hrow3)
      simp [results, Tryz.results51, go_sem, g0, g1, g2]
    · have HV : Hid (fv x t (numOf x t) = .tuple #[tv tkEnd, .int .i64 0, .int .i64 2]) := by
        show _ = _
        unfold numOf
        rw [if_neg hq, hu]; rfl
      have cP := parse_long _ hll hu
      clear hR hq hg hsp hlen h HC hm0 hu
      generalize fl (x :: span dg t) = A at *
      generalize fl (t.drop (span dg t).length) = B at *
      go_enter Tryz.func51, Tryz.ntmps51
      go_wp2_with fail
      refine (cS _).mono ?_
      rintro e w1 ⟨rfl, hb1⟩
      have hrow := row_kept hb1
      have HB1 : Hid (Below w.heap.size w w1) := ((Below.refl _ w).alloc (Nat.le_refl _) _).trans (hb1.mono (by simp))
      clear hb1
      go_wp2_with fail
      refine (cW _ (HE.out.below HB1.out)).mono ?_
      rintro e w2 ⟨rfl, hb2⟩
      have hrow2 := (hb2.block _ (heap_lt hrow)).trans hrow
      have HB2 : Hid (Below w.heap.size w w2) := HB1.out.trans (hb2.mono HB1.out.size)
      clear hrow HB1 hb2 cS cW
      go_wp2_with fail
      refine (cP _ (HE.out.below HB2.out)).mono ?_
      rintro e w3 ⟨⟨N, rfl⟩, hb3⟩
      have hrow3 := (hb3.block _ (heap_lt hrow2)).trans hrow2
      have HB3 : Hid (Below w.heap.size w w3) := HB2.out.trans (hb3.mono HB2.out.size)
      clear hrow2 HB2 hb3 cP
      obtain ⟨⟨q0, q1, q2⟩, hsz2⟩ := row3 hrow3
      obtain ⟨f0, f1, f2⟩ := frz3 hrow3
      go_wp2
      refine bodyPost_ret (v := .tuple #[tv tkEnd, .int .i64 0, .int .i64 2]) ?_ rfl ⟨by rw [HV.out], below3 HB3.out (Nat.le_refl _) _ _ _⟩
      obtain ⟨⟨g0, g1, g2⟩, _⟩ := row3 (set3 (.int .i64 0) (.string ⟨#[]⟩) (.int .u16 0) hrow3)
      simp [results, Tryz.results51, go_sem, g0, g1, g2, tkEnd]
end Go.Proofs.YtipjmabeenhcgaaGreatDoor

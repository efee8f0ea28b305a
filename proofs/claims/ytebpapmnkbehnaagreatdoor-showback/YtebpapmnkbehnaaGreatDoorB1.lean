/- What lex.sign and lex.first answer of a row of code points; texts of up to 100000 bytes. -/
import Derived.Test.YtebpapmnkbehnaaGreatDoorA8
set_option linter.unusedVariables false
set_option linter.unusedSimpArgs false
namespace Go.Proofs.YtebpapmnkbehnaaGreatDoor
open Go.RowKit Go.Joins Go.Lib

theorem rune_le_good {x : R} (h : good x) : x.1 ≤ 1114111 := by
  have h0 := h.2.2 []
  have := decodeL_rune (x.2 ++ [])
  rw [h0] at this
  exact this
theorem own_of {F A B : List UInt8} (hF : F = A ++ B) (hl : A.length ≤ 1000000) (n : Int) (hn : n = A.length) (w : World) : Calls Tryz.prog 79 #[str F, .int .i64 n] w fun e w' => e = .returned (str A) ∧ Below w.heap.size w w' := by
  subst hF; subst hn
  exact own_any A B hl w
theorem prefix_any (F : List UInt8) (p : List UInt8) (w : World) : Calls Tryz.prog 81 #[str F, .string ⟨p.toArray⟩] w fun e w' => e = .returned (.bool (Lib.hasPrefix F p)) ∧ w' = w :=
  Tryz.strings_HasPrefix ⟨F.toArray⟩ ⟨p.toArray⟩ w

set_option maxHeartbeats 1000000 in
theorem sign_any (x : R) (t : List R) (hg : Good (x :: t)) (hlen : (fl (x :: t)).length ≤ 100000) (w : World) :
    Calls Tryz.prog 63 #[str (fl (x :: t)), .int .i32 (x.1 : Int)] w fun e w' => e = .returned (fv x t (signOf x t)) ∧ Below w.heap.size w w' := by
  have hx := hg.head
  have hF : fl (x :: t) = x.2 ++ fl t := fl_cons x t
  have hx2 : x.2.length ≤ 1000000 := by rw [hF, List.length_append] at hlen; omega
  have c1 : ∀ w, Calls Tryz.prog 81 #[str (fl (x :: t)), .string ⟨#[58, 61]⟩] w fun e w' => e = .returned (.bool (decide (x.1 = 58 ∧ hd t = 61))) ∧ w' = w := fun w => by
    have h := prefix_any (fl (x :: t)) [58, 61] w
    rw [pre2 hg 58 61 (by decide) (by decide) (by decide)] at h
    exact h
  have c2 : ∀ w, Calls Tryz.prog 81 #[str (fl (x :: t)), .string ⟨#[61, 62]⟩] w fun e w' => e = .returned (.bool (decide (x.1 = 61 ∧ hd t = 62))) ∧ w' = w := fun w => by
    have h := prefix_any (fl (x :: t)) [61, 62] w
    rw [pre2 hg 61 62 (by decide) (by decide) (by decide)] at h
    exact h
  have c3 := contains_any x.1 (rune_le_good hx)
  by_cases h1 : x.1 = 58 ∧ hd t = 61
  · obtain ⟨hx1, ht⟩ := h1
    cases t with
    | nil => simp [hd] at ht
    | cons y u =>
      have hy : y.1 = 61 := ht
      have ex : x.2 = [58] := by rw [good_small hx (by omega), hx1]; rfl
      have ey : y.2 = [61] := by rw [good_small hg.tail.head (by omega), hy]; rfl
      have eF : fl (x :: y :: u) = [58, 61] ++ fl u := by rw [fl_cons, fl_cons, ex, ey]; rfl
      refine sign_walk _ x.1 _ _ _ _ w c1 c2 c3 [58, 61] (own_of eF (by decide)) (fun _ => ⟨rfl, ?_⟩) (fun h => ?_) (fun h => ?_) (fun h => ?_)
      · unfold signOf
        rw [if_pos ⟨hx1, ht⟩]
        show Value.tuple #[_, .int .i64 ((fl (x :: (y :: u).take 1)).length : Int), _] = _
        rw [List.take_succ_cons, List.take_zero, fl_cons, fl_cons, ex, ey]
        rfl
      all_goals (rw [decide_eq_false_iff_not] at h; exact absurd ⟨hx1, ht⟩ h)
  · by_cases h2 : x.1 = 61 ∧ hd t = 62
    · have h1' := h1
      obtain ⟨hx1, ht⟩ := h2
      cases t with
      | nil => simp [hd] at ht
      | cons y u =>
        have hy : y.1 = 62 := ht
        have ex : x.2 = [61] := by rw [good_small hx (by omega), hx1]; rfl
        have ey : y.2 = [62] := by rw [good_small hg.tail.head (by omega), hy]; rfl
        have eF : fl (x :: y :: u) = [61, 62] ++ fl u := by rw [fl_cons, fl_cons, ex, ey]; rfl
        refine sign_walk _ x.1 _ _ _ _ w c1 c2 c3 [61, 62] (own_of eF (by decide)) (fun h => ?_) (fun _ _ => ⟨rfl, ?_⟩) (fun _ h => ?_) (fun _ h => ?_)
        · rw [decide_eq_true_eq] at h; exact absurd h h1'
        · unfold signOf
          rw [if_neg h1', if_pos ⟨hx1, ht⟩]
          show Value.tuple #[_, .int .i64 ((fl (x :: (y :: u).take 1)).length : Int), _] = _
          rw [List.take_succ_cons, List.take_zero, fl_cons, fl_cons, ex, ey]
          rfl
        all_goals (rw [decide_eq_false_iff_not] at h; exact absurd ⟨hx1, ht⟩ h)
    · refine sign_walk _ x.1 _ _ _ _ w c1 c2 c3 x.2 (own_of hF hx2) (fun h => ?_) (fun _ h => ?_) (fun _ _ h => ?_) (fun _ _ h => ?_)
      · rw [decide_eq_true_eq] at h; exact absurd h h1
      · rw [decide_eq_true_eq] at h; exact absurd h h2
      · have hs : x.2.length = 1 := by rw [good_small hx (sg_in h).1]; rfl
        refine ⟨hs, ?_⟩
        unfold signOf
        rw [if_neg h1, if_neg h2, if_pos h]
        show Value.tuple #[_, .int .i64 ((fl (x :: t.take 0)).length : Int), _] = _
        rw [List.take_zero, fl_cons, fl_nil, List.append_nil, hs]
        rfl
      · unfold signOf
        rw [if_neg h1, if_neg h2, if_neg (by rw [h]; decide)]
        rfl

theorem fv_tuple (x : R) (t : List R) (r : Except Nat (Tk × Nat)) : ∃ tk n e, fv x t r = .tuple #[tv tk, .int .i64 n, .int .i64 e] := by
  cases r with
  | error e => exact ⟨_, _, _, rfl⟩
  | ok y => exact ⟨_, _, _, rfl⟩

set_option maxRecDepth 100000 in
set_option maxHeartbeats 1000000 in
theorem first_any (x : R) (t : List R) (hg : Good (x :: t)) (hlen : (fl (x :: t)).length ≤ 100000) (w : World) (h : Env w) :
    Calls Tryz.prog 42 #[str (fl (x :: t)), .int .i32 (x.1 : Int)] w fun e w' => e = .returned (fv x t (fst1 x t)) ∧ Below w.heap.size w w' := by
  have cL := letter_any x.1 (rune_le_good hg.head)
  have cD := digit_any x.1
  have HE : Hid (Env w) := h
  have hA0 := heap_alloc_new w (.cells #[.int .i64 0, .string ⟨#[]⟩, .int .u16 0] 89)
  have HB0 : Hid (Below w.heap.size w (w.alloc (.cells #[.int .i64 0, .string ⟨#[]⟩, .int .u16 0] 89))) := (Below.refl _ w).alloc (Nat.le_refl _) _
  cases hl : lt x.1 with
  | true =>
    have cW := word_any x t hg hl hlen
    have HV : Hid (fst1 x t = wordOf x t) := by show _ = _; unfold fst1; rw [if_pos hl]
    obtain ⟨tk, n, e, HT⟩ := fv_tuple x t (wordOf x t)
    rw [HT] at cW
    have HT : Hid (fv x t (wordOf x t) = _) := HT
    rw [hl] at cL
    clear hl hg hlen h cD
    generalize fl (x :: t) = F at *
    go_enter Tryz.func42, Tryz.ntmps42
    go_wp2_with fail
    refine (cL _ (HE.out.below HB0.out)).mono ?_
    rintro e w1 ⟨rfl, hb1⟩
    have hrow1 := (hb1.block _ (heap_lt hA0)).trans hA0
    have HB1 : Hid (Below w.heap.size w w1) := HB0.out.trans (hb1.mono HB0.out.size)
    clear hA0 hb1 HB0
    go_wp2_with fail
    refine (cW _ (HE.out.below HB1.out)).mono ?_
    rintro e w2 ⟨rfl, hb2⟩
    have hrow2 := (hb2.block _ (heap_lt hrow1)).trans hrow1
    have HB2 : Hid (Below w.heap.size w w2) := HB1.out.trans (hb2.mono HB1.out.size)
    clear hrow1 hb2 HB1
    obtain ⟨⟨q0, q1, q2⟩, hsz2⟩ := row3 hrow2
    obtain ⟨f0, f1, f2⟩ := frz3 hrow2
    go_wp2
    refine bodyPost_ret (v := .tuple #[tv tk, .int .i64 n, .int .i64 e]) ?_ rfl ⟨by rw [HV.out, HT.out], below3 HB2.out (Nat.le_refl _) _ _ _⟩
    obtain ⟨⟨g0, g1, g2⟩, _⟩ := row3 (set3 (.int .i64 tk.kind) (str tk.s) (.int .u16 (tk.n : Int)) hrow2)
    simp [results, Tryz.results42, go_sem, g0, g1, g2]
  | false =>
    rw [hl] at cL
    cases hdg : dg x.1 with
    | true =>
      have cW := number_any x t hg hdg hlen
      have HV : Hid (fst1 x t = numOf x t) := by show _ = _; unfold fst1; rw [if_neg (by rw [hl]; decide), if_pos hdg]
      obtain ⟨tk, n, e, HT⟩ := fv_tuple x t (numOf x t)
      rw [HT] at cW
      have HT : Hid (fv x t (numOf x t) = _) := HT
      rw [hdg] at cD
      clear hl hdg hg hlen h
      generalize fl (x :: t) = F at *
      go_enter Tryz.func42, Tryz.ntmps42
      go_wp2_with fail
      refine (cL _ (HE.out.below HB0.out)).mono ?_
      rintro e w1 ⟨rfl, hb1⟩
      have hrow1 := (hb1.block _ (heap_lt hA0)).trans hA0
      have HB1 : Hid (Below w.heap.size w w1) := HB0.out.trans (hb1.mono HB0.out.size)
      clear hA0 hb1 HB0
      go_wp2_with fail
      refine (cD _).mono ?_
      rintro e w3 ⟨rfl, hw3⟩
      subst w3
      go_wp2_with fail
      refine (cW _ (HE.out.below HB1.out)).mono ?_
      rintro e w2 ⟨rfl, hb2⟩
      have hrow2 := (hb2.block _ (heap_lt hrow1)).trans hrow1
      have HB2 : Hid (Below w.heap.size w w2) := HB1.out.trans (hb2.mono HB1.out.size)
      clear hrow1 hb2 HB1
      obtain ⟨⟨q0, q1, q2⟩, hsz2⟩ := row3 hrow2
      obtain ⟨f0, f1, f2⟩ := frz3 hrow2
      go_wp2
      refine bodyPost_ret (v := .tuple #[tv tk, .int .i64 n, .int .i64 e]) ?_ rfl ⟨by rw [HV.out, HT.out], below3 HB2.out (Nat.le_refl _) _ _ _⟩
      obtain ⟨⟨g0, g1, g2⟩, _⟩ := row3 (set3 (.int .i64 tk.kind) (str tk.s) (.int .u16 (tk.n : Int)) hrow2)
      simp [results, Tryz.results42, go_sem, g0, g1, g2]
    | false =>
      have cW := sign_any x t hg hlen
      have HV : Hid (fst1 x t = signOf x t) := by show _ = _; unfold fst1; rw [if_neg (by rw [hl]; decide), if_neg (by rw [hdg]; decide)]
      obtain ⟨tk, n, e, HT⟩ := fv_tuple x t (signOf x t)
      rw [HT] at cW
      have HT : Hid (fv x t (signOf x t) = _) := HT
      rw [hdg] at cD
      clear hl hdg hg hlen h
      generalize fl (x :: t) = F at *
      go_enter Tryz.func42, Tryz.ntmps42
      go_wp2_with fail
      refine (cL _ (HE.out.below HB0.out)).mono ?_
      rintro e w1 ⟨rfl, hb1⟩
      have hrow1 := (hb1.block _ (heap_lt hA0)).trans hA0
      have HB1 : Hid (Below w.heap.size w w1) := HB0.out.trans (hb1.mono HB0.out.size)
      clear hA0 hb1 HB0
      go_wp2_with fail
      refine (cD _).mono ?_
      rintro e w3 ⟨rfl, hw3⟩
      subst w3
      go_wp2_with fail
      refine (cW _).mono ?_
      rintro e w2 ⟨rfl, hb2⟩
      have hrow2 := (hb2.block _ (heap_lt hrow1)).trans hrow1
      have HB2 : Hid (Below w.heap.size w w2) := HB1.out.trans (hb2.mono HB1.out.size)
      clear hrow1 hb2 HB1
      obtain ⟨⟨q0, q1, q2⟩, hsz2⟩ := row3 hrow2
      obtain ⟨f0, f1, f2⟩ := frz3 hrow2
      go_wp2
      refine bodyPost_ret (v := .tuple #[tv tk, .int .i64 n, .int .i64 e]) ?_ rfl ⟨by rw [HV.out, HT.out], below3 HB2.out (Nat.le_refl _) _ _ _⟩
      obtain ⟨⟨g0, g1, g2⟩, _⟩ := row3 (set3 (.int .i64 tk.kind) (str tk.s) (.int .u16 (tk.n : Int)) hrow2)
      simp [results, Tryz.results42, go_sem, g0, g1, g2]
end Go.Proofs.YtebpapmnkbehnaaGreatDoor

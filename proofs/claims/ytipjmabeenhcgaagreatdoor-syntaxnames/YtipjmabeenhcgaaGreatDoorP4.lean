/- What isReserved, and the reader's name and field, answer; no conditions but that the reader stands. -/
import Derived.Test.YtipjmabeenhcgaaGreatDoorP3
set_option linter.unusedVariables false
set_option linter.unusedSimpArgs false
namespace Go.Proofs.YtipjmabeenhcgaaGreatDoor
open Go.RowKit Go.Joins

set_option maxRecDepth 100000 in
set_option maxHeartbeats 1000000 in
theorem reserved_any (s : List UInt8) (w : World) (h : NamesIs w) : Calls Tryz.prog 67 #[str s] w fun e w' => e = .returned (.bool (resv s)) ∧ w' = w := by
  have cF := field_list s w h
  clear h
  by_cases h1 : s ∈ rsv
  · have hr : resv s = true := by unfold resv; rw [List.contains_iff_mem.2 h1]; rfl
    rw [hr]
    clear cF hr
    simp only [rsv, List.mem_cons, List.mem_nil_iff, or_false] at h1
    rcases h1 with rfl | rfl | rfl | rfl | rfl | rfl | rfl | rfl | rfl
    all_goals
      go_enter Tryz.func67, Tryz.ntmps67
      go_wp2
      go_ret
      exact ⟨rfl, rfl⟩
  · have hr : resv s = fldB s := by
      unfold resv
      have : rsv.contains s = false := by simpa using h1
      rw [this, Bool.false_or]
    rw [hr]
    clear hr
    simp only [rsv, List.mem_cons, List.mem_nil_iff, or_false, not_or] at h1
    obtain ⟨n1, n2, n3, n4, n5, n6, n7, n8, n9⟩ := h1
    have d1 : (s == [105, 110, 105, 116]) = false := by simpa using n1
    have d2 : (s == [108, 101, 116]) = false := by simpa using n2
    have d3 : (s == [112, 111, 108, 105, 99, 121]) = false := by simpa using n3
    have d4 : (s == [111, 110]) = false := by simpa using n4
    have d5 : (s == [105, 100]) = false := by simpa using n5
    have d6 : (s == [100, 114, 111, 112]) = false := by simpa using n6
    have d7 : (s == [115, 119, 105, 116, 99, 104]) = false := by simpa using n7
    have d8 : (s == [108, 105, 110, 107]) = false := by simpa using n8
    have d9 : (s == [104, 111, 115, 116]) = false := by simpa using n9
    clear n1 n2 n3 n4 n5 n6 n7 n8 n9
    go_enter Tryz.func67, Tryz.ntmps67
    go_wp2_with fail
    refine cF.mono ?_
    rintro e w1 ⟨rfl, hw⟩
    subst w1
    go_wp2
    go_ret
    exact ⟨rfl, rfl⟩

abbrev tobj (t : Tk) : Obj := .cells #[.int .i64 t.kind, .string ⟨t.s.toArray⟩, .int .u16 (t.n : Int)] 72
set_option maxRecDepth 100000 in
set_option maxHeartbeats 1000000 in
theorem name_any {M : Nat} {tvl : Value} {L : List Tk} {σ : St} (hL : EndL L) (w : World) (h : Rd M tvl L σ w) :
    Calls Tryz.prog 54 #[rp M] w fun e w' => e = .returned (str (nameM L σ).1) ∧ Aft M tvl L w (nameM L σ).2 w' := by
  have cT := token_any hL w h
  have cR := reserved_any (tokAt L σ).s
  have HR : Hid (Rd M tvl L σ w) := h
  have HL : Hid (EndL L) := hL
  cases hi : isName L σ with
  | true =>
    have HO : Hid (Ok L σ.next) := next_of_name hL h.ok hi
    rw [show nameM L σ = ((tokAt L σ).s, σ.next) by unfold nameM; rw [if_pos hi]]
    have hp : σ.pos < L.length := h.ok
    have hf := hL.few
    unfold isName at hi
    simp only [Bool.and_eq_true, decide_eq_true_eq, Bool.not_eq_true'] at hi
    obtain ⟨hk, hv⟩ := hi
    have d : ((tokAt L σ).kind != 1) = false := by rw [hk]; rfl
    rw [hv] at cR
    clear h hL hk hv
    generalize tokAt L σ = t at *
    go_enter Tryz.func54, Tryz.ntmps54
    go_wp2_with fail
    refine cT.mono ?_
    rintro e w1 ⟨rfl, hb1⟩
    replace cR := cR (w1.alloc (tobj t)) (((HR.out.below hb1).below ((Below.refl _ w1).alloc (Nat.le_refl _) _)).names)
    obtain ⟨c0, c1, c2, c3, c4, c5⟩ := (HR.out.below hb1).cells
    have f1 := (HR.out.below hb1).free 1
    have hlt := (HR.out.below hb1).lt
    have HA : Hid (Aft M tvl L w σ.next ((w1.setCell ⟨M + 1, 1, none⟩ (.int .i64 ((σ.pos + 1 : Nat) : Int))).alloc (tobj t))) := moved HR.out hb1 HO.out _
    have en : ((σ.pos + 1 : Nat) : Int) = (σ.pos : Int) + 1 := by omega
    rw [en] at HA
    clear hb1 en
    go_wp2_with fail
    refine cR.mono ?_
    rintro e w2 ⟨rfl, hw2⟩
    subst w2
    go_wp2
    go_ret
    exact ⟨rfl, HA.out⟩
  | false =>
    have hn : ¬ isName L σ = true := by rw [hi]; decide
    rw [show nameM L σ = ([], failM L σ) by unfold nameM; rw [if_neg hn]]
    clear h hL hn
    by_cases hk : (tokAt L σ).kind = 1
    · have hv : resv (tokAt L σ).s = true := by
        unfold isName at hi
        rw [decide_eq_true hk] at hi
        simpa using hi
      have d : ((tokAt L σ).kind != 1) = false := by rw [hk]; rfl
      rw [hv] at cR
      clear hk hv hi
      generalize tokAt L σ = t at *
      go_enter Tryz.func54, Tryz.ntmps54
      go_wp2_with fail
      refine cT.mono ?_
      rintro e w1 ⟨rfl, hb1⟩
      have HR1 : Hid (Aft M tvl L w σ (w1.alloc (tobj t))) := (HR.out.aft hb1).below ((Below.refl _ w1).alloc (Nat.le_refl _) _)
      replace cR := cR (w1.alloc (tobj t)) HR1.out.rd.names
      have cF := fail_any HL.out _ HR1.out.rd
      clear hb1
      go_wp2_with fail
      refine cR.mono ?_
      rintro e w2 ⟨rfl, hw2⟩
      subst w2
      go_wp2_with fail
      refine cF.mono ?_
      rintro e w2 ⟨rfl, ha⟩
      have HA2 : Hid (Aft M tvl L w (failM L σ) w2) := HR1.out.trans ha
      clear ha
      go_wp2
      go_ret
      exact ⟨rfl, HA2.out⟩
    · have d : ((tokAt L σ).kind != 1) = true := by simpa using hk
      clear hk hi cR
      generalize tokAt L σ = t at *
      go_enter Tryz.func54, Tryz.ntmps54
      go_wp2_with fail
      refine cT.mono ?_
      rintro e w1 ⟨rfl, hb1⟩
      have HR1 : Hid (Aft M tvl L w σ (w1.alloc (tobj t))) := (HR.out.aft hb1).below ((Below.refl _ w1).alloc (Nat.le_refl _) _)
      have cF := fail_any HL.out _ HR1.out.rd
      clear hb1
      go_wp2_with fail
      refine cF.mono ?_
      rintro e w2 ⟨rfl, ha⟩
      have HA2 : Hid (Aft M tvl L w (failM L σ) w2) := HR1.out.trans ha
      clear ha
      go_wp2
      go_ret
      exact ⟨rfl, HA2.out⟩

set_option maxRecDepth 100000 in
set_option maxHeartbeats 1000000 in
theorem field_any5 {M : Nat} {tvl : Value} {L : List Tk} {σ : St} (hL : EndL L) (w : World) (h : Rd M tvl L σ w) :
    Calls Tryz.prog 71 #[rp M] w fun e w' => e = .returned (.int .i64 (fieldM L σ).1) ∧ Aft M tvl L w (fieldM L σ).2 w' := by
  have cT := token_any hL w h
  have cR := field_list (tokAt L σ).s
  have HR : Hid (Rd M tvl L σ w) := h
  have HL : Hid (EndL L) := hL
  have F1 := fld1 (tokAt L σ)
  cases hi : isField L σ with
  | true =>
    have HO : Hid (Ok L σ.next) := next_of_field hL h.ok hi
    rw [show fieldM L σ = (fldI (tokAt L σ).s, σ.next) by unfold fieldM; rw [if_pos hi]]
    have hp : σ.pos < L.length := h.ok
    have hf := hL.few
    rw [show fldB (tokAt L σ).s = true from hi] at cR
    clear h hL hi
    generalize tokAt L σ = t at *
    go_enter Tryz.func71, Tryz.ntmps71
    go_wp2_with fail
    refine cT.mono ?_
    rintro e w1 ⟨rfl, hb1⟩
    replace cR := cR w1 (HR.out.below hb1).names
    obtain ⟨c0, c1, c2, c3, c4, c5⟩ := (HR.out.below hb1).cells
    have f1 := (HR.out.below hb1).free 1
    have HA : Hid (Aft M tvl L w σ.next (w1.setCell ⟨M + 1, 1, none⟩ (.int .i64 ((σ.pos + 1 : Nat) : Int)))) :=
      ⟨(HR.out.below hb1).put 1 _ (by rfl) rfl HO.out, (Kp.of_below hb1).set rfl _⟩
    have en : ((σ.pos + 1 : Nat) : Int) = (σ.pos : Int) + 1 := by omega
    rw [en] at HA
    clear hb1 en
    go_wp2_with fail
    refine cR.mono ?_
    rintro e w2 ⟨rfl, hw2⟩
    subst w2
    go_wp2
    go_ret
    exact ⟨rfl, HA.out⟩
  | false =>
    have hn : ¬ isField L σ = true := by rw [hi]; decide
    rw [show fieldM L σ = (0, failM L σ) by unfold fieldM; rw [if_neg hn]]
    rw [show fldB (tokAt L σ).s = false from hi] at cR
    clear h hL hn hi
    generalize tokAt L σ = t at *
    go_enter Tryz.func71, Tryz.ntmps71
    go_wp2_with fail
    refine cT.mono ?_
    rintro e w1 ⟨rfl, hb1⟩
    have HR1 : Hid (Aft M tvl L w σ w1) := HR.out.aft hb1
    replace cR := cR w1 HR1.out.rd.names
    have cF := fail_any HL.out _ HR1.out.rd
    clear hb1
    go_wp2_with fail
    refine cR.mono ?_
    rintro e w2 ⟨rfl, hw2⟩
    subst w2
    go_wp2_with fail
    refine cF.mono ?_
    rintro e w2 ⟨rfl, ha⟩
    have HA2 : Hid (Aft M tvl L w (failM L σ) w2) := HR1.out.trans ha
    clear ha
    go_wp2
    go_ret
    exact ⟨rfl, HA2.out⟩
end Go.Proofs.YtipjmabeenhcgaaGreatDoor

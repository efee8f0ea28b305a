/- What stands beside a call all the while (the listed variables hold what the row lists); what lex.isInWord and lex.own answer; no conditions but a code point's range and the length of a text. -/
import Derived.Test.YtebpapmnkbehnaaGreatDoorA1
import Derived.Test.YtebpapmnkbehnaaGreatDoorShelf
import Derived.Deep.DeepFit
set_option linter.unusedVariables false
set_option linter.unusedSimpArgs false
namespace Go.Proofs.YtebpapmnkbehnaaGreatDoor
open Go.RowKit Go.Joins Go.Lib

/-- The listed variables hold what the row lists. -/
structure Env (w : World) : Prop where
  props : Lib.TabIs Tryz.prog w "unicode.properties" .u8 Lib.propertiesTab
  letter : RVar 4 letterT w
  utf : Lib.Utf8Tabs 0 1 w
  pow : Lib.TabIs Tryz.prog w "internal/strconv.uint64pow10" .u64 Lib.pow10Tab
  names : NamesIs w
  rng : ∃ tp p, w.var? Tryz.prog "strconv.ErrRange" = some #[.iface tp p]

theorem gPro : Tryz.prog.globalNamed "unicode.properties" = some 3 := by kernel_rfl
theorem gPow : Tryz.prog.globalNamed "internal/strconv.uint64pow10" = some 5 := by kernel_rfl
theorem gRng : Tryz.prog.globalNamed "strconv.ErrRange" = some 8 := by kernel_rfl
theorem Env.below {w w' : World} (h : Env w) (hb : Below w.heap.size w w') : Env w' := by
  refine ⟨tab_stays gPro h.props hb (Nat.le_refl _), RVar_below h.letter hb, Utf8Tabs_below h.utf hb, tab_stays gPow h.pow hb (Nat.le_refl _), h.names.below hb, ?_⟩
  obtain ⟨tp, p, hv⟩ := h.rng
  exact ⟨tp, p, var_stays gRng hv hb (Nat.le_refl _)⟩
theorem Env.at {w w' : World} {B : Nat} (h : Env w) (hb : Below B w w') (hB : w.heap.size ≤ B) : Env w' := h.below (hb.mono hB)

theorem letter_any (r : Nat) (hr : r ≤ 1114111) (w : World) (h : Env w) : Calls Tryz.prog 59 #[.int .i32 (r : Int)] w fun e w' => e = .returned (.bool (lt r)) ∧ Below w.heap.size w w' :=
  Tryz.unicode_IsLetter_all (r : Int) w (by omega) (by omega) h.props h.letter

set_option maxHeartbeats 400000 in
theorem inWord_any (r : Nat) (hr : r ≤ 1114111) (w : World) (h : Env w) : Calls Tryz.prog 77 #[.int .i32 (r : Int)] w fun e w' => e = .returned (.bool (iw r)) ∧ Below w.heap.size w w' := by
  have cL := letter_any r hr w h
  have hd : iw r = (lt r || dg r || decide (r = 95)) := rfl
  rw [hd]
  clear hd h
  cases hl : lt r with
  | true =>
    rw [hl] at cL
    clear hl
    go_enter Tryz.func77, Tryz.ntmps77
    go_wp2_with fail
    refine cL.mono ?_
    rintro e w1 ⟨rfl, hb1⟩
    go_wp2
    go_ret
    exact ⟨rfl, hb1⟩
  | false =>
    rw [hl] at cL
    clear hl
    have cD := digit_any r
    cases hdg : dg r with
    | true =>
      rw [hdg] at cD
      clear hdg
      go_enter Tryz.func77, Tryz.ntmps77
      go_wp2_with fail
      refine cL.mono ?_
      rintro e w1 ⟨rfl, hb1⟩
      go_wp2_with fail
      refine (cD _).mono ?_
      rintro e w2 ⟨rfl, hw2⟩
      subst w2
      go_wp2
      go_ret
      exact ⟨rfl, hb1⟩
    | false =>
      rw [hdg] at cD
      clear hdg
      by_cases h95 : r = 95
      · have e5 : ((r : Int) == (95 : Int)) = true := by simp; omega
        rw [decide_eq_true h95]
        clear h95
        go_enter Tryz.func77, Tryz.ntmps77
        go_wp2_with fail
        refine cL.mono ?_
        rintro e w1 ⟨rfl, hb1⟩
        go_wp2_with fail
        refine (cD _).mono ?_
        rintro e w2 ⟨rfl, hw2⟩
        subst w2
        go_wp2
        go_ret
        exact ⟨rfl, hb1⟩
      · have e5 : ((r : Int) == (95 : Int)) = false := by simp; omega
        rw [decide_eq_false h95]
        clear h95
        go_enter Tryz.func77, Tryz.ntmps77
        go_wp2_with fail
        refine cL.mono ?_
        rintro e w1 ⟨rfl, hb1⟩
        go_wp2_with fail
        refine (cD _).mono ?_
        rintro e w2 ⟨rfl, hw2⟩
        subst w2
        go_wp2
        go_ret
        exact ⟨rfl, hb1⟩

theorem test_word (w : World) (h : Env w) : Test 77 iw w := fun W x hx hb => inWord_any x hx W (h.below hb)
theorem test_digit (w : World) : Test 61 dg w := Test.of digit_any w
theorem test_line (w : World) : Test 41 il w := Test.of inLine_any w
theorem enters61 : ∀ args w, (callFunc 77 args).run Tryz.prog w = .ok (.enter 77 args) w := enters_of Tryz.func77 (by kernel_rfl) rfl
theorem enters50 : ∀ args w, (callFunc 61 args).run Tryz.prog w = .ok (.enter 61 args) w := enters_of Tryz.func61 (by kernel_rfl) rfl
theorem enters33 : ∀ args w, (callFunc 41 args).run Tryz.prog w = .ok (.enter 41 args) w := enters_of Tryz.func41 (by kernel_rfl) rfl
theorem span_word (cs : List R) (hg : Good cs) (w : World) (h : Env w) : Calls Tryz.prog 40 #[str (fl cs), .func (.func 77) #[] #[]] w fun e w' => e = .returned (.int .i64 ((fl (span iw cs)).length : Int)) ∧ Below w.heap.size w w' :=
  span_any 77 enters61 iw cs hg w (test_word w h)
theorem span_digit (cs : List R) (hg : Good cs) (w : World) : Calls Tryz.prog 40 #[str (fl cs), .func (.func 61) #[] #[]] w fun e w' => e = .returned (.int .i64 ((fl (span dg cs)).length : Int)) ∧ Below w.heap.size w w' :=
  span_any 61 enters50 dg cs hg w (test_digit w)
theorem span_line (cs : List R) (hg : Good cs) (w : World) : Calls Tryz.prog 40 #[str (fl cs), .func (.func 41) #[] #[]] w fun e w' => e = .returned (.int .i64 ((fl (span il cs)).length : Int)) ∧ Below w.heap.size w w' :=
  span_any 41 enters33 il cs hg w (test_line w)

/-! ### Pieces of a text -/
theorem extract_left (a b : List UInt8) : (⟨(a ++ b).toArray⟩ : ByteArray).extract 0 a.length = ⟨a.toArray⟩ := by
  apply ByteArray.ext
  apply Array.toList_inj.1
  rw [Lib.extract_data]
  simp
theorem extract_right (a b : List UInt8) : (⟨(a ++ b).toArray⟩ : ByteArray).extract a.length (a.length + b.length) = ⟨b.toArray⟩ := by
  apply ByteArray.ext
  apply Array.toList_inj.1
  rw [Lib.extract_data]
  simp
/-- The beginning of a text. -/
theorem cut_left (a b : List UInt8) (W : World) : (Instr.slice 9 (str (a ++ b)) none (some (.int .i64 (a.length : Int))) none).run Tryz.prog W = .ok (str a) W := by
  rw [run_slice_string_to_if W 9 _ .i64 _ Tryz.underlying9, size_mk, if_pos (by rw [List.length_append]; omega), Int.toNat_natCast, extract_left]
/-- What is behind the beginning of a text. -/
theorem cut_right (a b : List UInt8) (W : World) : (Instr.slice 9 (str (a ++ b)) (some (.int .i64 (a.length : Int))) none none).run Tryz.prog W = .ok (str b) W := by
  rw [run_slice_string_from_if W 9 _ .i64 _ Tryz.underlying9, size_mk, if_pos (by rw [List.length_append]; omega), Int.toNat_natCast, List.length_append, extract_right]

theorem own_any (a b : List UInt8) (hl : a.length ≤ 1000000) (w : World) : Calls Tryz.prog 79 #[str (a ++ b), .int .i64 (a.length : Int)] w fun e w' => e = .returned (str a) ∧ Below w.heap.size w w' := by
  have hc := cut_left a b
  have cC := Tryz.stringslite_Clone ⟨a.toArray⟩
  have hsz : (ByteArray.mk a.toArray).size ≤ 281474976710656 := by rw [size_mk]; omega
  go_enter Tryz.func79, Tryz.ntmps79
  go_wp2_with (first | (go_at_call 116; refine (cC _ hsz).mono ?_; rintro e w1 ⟨rfl, hb1⟩) | go_in)
  go_ret
  exact ⟨rfl, hb1⟩
end Go.Proofs.YtebpapmnkbehnaaGreatDoor

/- What lex.word answers of a row of code points that begins with a letter; texts of up to 100000 bytes. -/
import Derived.Test.YtipjmabeenhcgaaGreatDoorA5
set_option linter.unusedVariables false
set_option linter.unusedSimpArgs false
namespace Go.Proofs.YtipjmabeenhcgaaGreatDoor
open Go.RowKit Go.Joins Go.Lib

/-- What is answered of the token that begins here. -/
def fv (x : R) (t : List R) : Except Nat (Tk × Nat) → Value
  | .error e => .tuple #[tv tkEnd, .int .i64 0, .int .i64 (e : Int)]
  | .ok (tk, n) => .tuple #[tv tk, .int .i64 ((fl (x :: t.take n)).length : Int), .int .i64 0]

theorem rc_from : ∀ (t A : List R), Good t → ∀ f, t.length ≤ f → Lib.runeCountFrom ⟨(fl (A ++ t)).toArray⟩ f (fl A).length = t.length
  | [], A, _, f, _ => by
    rw [Lib.runeCountFrom_end _ _ _ (by rw [size_mk, List.append_nil]; omega)]; rfl
  | x :: t, A, hg, f, hf => by
    obtain ⟨f, rfl⟩ : ∃ f', f = f' + 1 := ⟨f - 1, by simp at hf; omega⟩
    have hx := hg.head
    have hlt : (fl A).length < (ByteArray.mk (fl (A ++ x :: t)).toArray).size := by
      rw [size_mk, fl_append, fl_cons, List.length_append, List.length_append]
      have := hx.1; omega
    have hd : Utf8.decode ⟨(fl (A ++ x :: t)).toArray⟩ (fl A).length = (x.1, x.2.length) := by
      rw [fl_append]; exact decode_mid _ x t hx
    have ih := rc_from t (A ++ [x]) hg.tail f (by simp at hf; omega)
    rw [List.append_assoc, List.singleton_append] at ih
    have e : (fl (A ++ [x])).length = (fl A).length + x.2.length := by rw [fl_append, List.length_append, fl_cons, fl_nil, List.append_nil]
    rw [e] at ih
    unfold Lib.runeCountFrom
    rw [if_pos hlt, hd]
    dsimp only
    rw [ih, List.length_cons]; omega
theorem rc_all (cs : List R) (hg : Good cs) : Lib.runeCount ⟨(fl cs).toArray⟩ = cs.length := by
  have h := rc_from cs [] hg (fl cs).length (fl_length_ge cs hg)
  unfold Lib.runeCount
  rw [size_mk]
  exact h
theorem span_cons (p : Nat → Bool) (x : R) (t : List R) (h : p x.1 = true) : span p (x :: t) = x :: span p t := by
  simp [span, List.takeWhile_cons, h]
theorem lt_iw {r : Nat} (h : lt r = true) : iw r = true := by unfold iw; rw [h]; rfl
theorem fl_split (x : R) (t : List R) (k : Nat) : fl (x :: t) = fl (x :: t.take k) ++ fl (t.drop k) := by
  rw [← fl_append, List.cons_append, List.take_append_drop]

theorem row3 {w : World} {g : Nat} {t : TypeId} {x0 x1 x2 : Value} (hg : w.heap[g]? = some (.cells #[x0, x1, x2] t)) :
    (w.cell? ⟨g, 0, none⟩ = some x0 ∧ w.cell? ⟨g, 1, none⟩ = some x1 ∧ w.cell? ⟨g, 2, none⟩ = some x2) ∧ g < w.heap.size := by
  have c := fun j => cell_of_row w g j _ _ _ hg
  exact ⟨⟨by simpa using c 0, by simpa using c 1, by simpa using c 2⟩, heap_lt hg⟩
theorem set3 {w : World} {g : Nat} {t : TypeId} {x0 x1 x2 : Value} (y0 y1 y2 : Value) (hg : w.heap[g]? = some (.cells #[x0, x1, x2] t)) :
    (((w.setCell ⟨g, 0, none⟩ y0).setCell ⟨g, 1, none⟩ y1).setCell ⟨g, 2, none⟩ y2).heap[g]? = some (.cells #[y0, y1, y2] t) := by
  have h0 := heap_setCell_same w g 0 _ t y0 hg
  have h1 := heap_setCell_same _ g 1 _ t y1 h0
  have h2 := heap_setCell_same _ g 2 _ t y2 h1
  simpa using h2
theorem below3 {B : Nat} {a w : World} {g : Nat} (h : Below B a w) (hg : B ≤ g) (y0 y1 y2 : Value) : Below B a (((w.setCell ⟨g, 0, none⟩ y0).setCell ⟨g, 1, none⟩ y1).setCell ⟨g, 2, none⟩ y2) :=
  ((h.setCell hg y0).setCell hg y1).setCell hg y2
theorem frz3 {w : World} {g : Nat} {t : TypeId} {cs : Array Value} (hg : w.heap[g]? = some (.cells cs t)) : w.frozen? ⟨g, 0, none⟩ = false ∧ w.frozen? ⟨g, 1, none⟩ = false ∧ w.frozen? ⟨g, 2, none⟩ = false := by
  have f := fun j => frozen_of_row w g j _ _ hg
  exact ⟨f 0, f 1, f 2⟩
/-- The token's block stays through a call. -/
theorem row_kept {w w1 : World} {o : Obj} (hb : Below (w.alloc o).heap.size (w.alloc o) w1) : w1.heap[w.heap.size]? = some o :=
  (hb.block w.heap.size (by simp)).trans (heap_alloc_new w o)

set_option maxRecDepth 100000 in
set_option maxHeartbeats 1000000 in
theorem word_any (x : R) (t : List R) (hg : Good (x :: t)) (hl : lt x.1 = true) (hlen : (fl (x :: t)).length ≤ 100000) (w : World) (h : Env w) :
    Calls Tryz.prog 49 #[str (fl (x :: t))] w fun e w' => e = .returned (fv x t (wordOf x t)) ∧ Below w.heap.size w w' := by
  have cS := span_word (x :: t) hg
  rw [span_cons iw x t (lt_iw hl)] at cS
  have hW : Good (x :: span iw t) := Good.cons hg.head hg.tail.span
  have hrc := rc_all (x :: span iw t) hW
  have hsp := fl_split x t (span iw t).length
  rw [← span_take] at hsp
  have hfv : Hid (fv x t (wordOf x t) = if 20 < (span iw t).length + 1 then .tuple #[tv tkEnd, .int .i64 0, .int .i64 2] else .tuple #[tv ⟨1, fl (x :: span iw t), 0⟩, .int .i64 ((fl (x :: span iw t)).length : Int), .int .i64 0]) := by
    show _ = _
    unfold wordOf
    split
    · rfl
    · show Value.tuple #[_, .int .i64 ((fl (x :: t.take (span iw t).length)).length : Int), _] = _
      rw [← span_take]
  rw [hsp] at hlen ⊢
  have hcl := cut_left (fl (x :: span iw t)) (fl (t.drop (span iw t).length))
  have hll : (fl (x :: span iw t)).length ≤ 100000 := by rw [List.length_append] at hlen; omega
  have cO := own_any (fl (x :: span iw t)) (fl (t.drop (span iw t).length)) (by omega)
  have cR := Tryz.utf8_RuneCountInString ⟨(fl (x :: span iw t)).toArray⟩
  rw [hrc] at cR
  rw [hsp] at cS
  rw [List.length_cons] at cR
  have hsz : (ByteArray.mk (fl (x :: span iw t)).toArray).size < 9223372036854775807 := by rw [size_mk]; omega
  have hn : (span iw t).length ≤ 100000 := by
    have := fl_length_ge _ hW
    rw [List.length_cons] at this; omega
  have HE : Hid (Env w) := h
  clear hsp hrc hW hlen h hg
  generalize fl (x :: span iw t) = A at *
  generalize fl (t.drop (span iw t).length) = B at *
  generalize (span iw t).length = n at *
  by_cases h20 : 20 < n + 1
  · have HV : Hid (fv x t (wordOf x t) = .tuple #[tv tkEnd, .int .i64 0, .int .i64 2]) := by show _ = _; rw [hfv.out, if_pos h20]
    have d : decide ((20 : Int) < (n : Int) + 1) = true := by simp; omega
    clear hfv h20
    go_enter Tryz.func49, Tryz.ntmps49
    go_wp2_with fail
    refine (cS _ (HE.out.below ((Below.refl _ w).alloc (Nat.le_refl _) _))).mono ?_
    rintro e w1 ⟨rfl, hb1⟩
    have hrow := row_kept hb1
    have HB1 : Hid (Below w.heap.size w w1) := ((Below.refl _ w).alloc (Nat.le_refl _) _).trans (hb1.mono (by simp))
    clear hb1
    go_wp2_with fail
    refine (cR _ hsz).mono ?_
    rintro e w2 ⟨rfl, pos, rfl⟩
    have hrow2 : (w1.iter ⟨A.toArray⟩ pos).heap[w.heap.size]? = some (.cells #[.int .i64 0, .string ⟨#[]⟩, .int .u16 0] 72) := (Below.heap_alloc w1 _ _ (heap_lt hrow)).trans hrow
    have HB2 : Hid (Below w.heap.size w (w1.iter ⟨A.toArray⟩ pos)) := HB1.out.alloc HB1.out.size _
    clear hrow HB1
    generalize (w1.iter ⟨A.toArray⟩ pos) = w2 at *
    obtain ⟨⟨q0, q1, q2⟩, hsz2⟩ := row3 hrow2
    obtain ⟨f0, f1, f2⟩ := frz3 hrow2
    go_wp2
    refine bodyPost_ret (v := .tuple #[tv tkEnd, .int .i64 0, .int .i64 2]) ?_ rfl ⟨by rw [HV.out], below3 HB2.out (Nat.le_refl _) _ _ _⟩
    obtain ⟨⟨g0, g1, g2⟩, _⟩ := row3 (set3 (.int .i64 0) (.string ⟨#[]⟩) (.int .u16 0) hrow2)
    simp [results, Tryz.results49, go_sem, g0, g1, g2, tkEnd]
  · have HV : Hid (fv x t (wordOf x t) = .tuple #[tv ⟨1, A, 0⟩, .int .i64 (A.length : Int), .int .i64 0]) := by show _ = _; rw [hfv.out, if_neg h20]
    have d : decide ((20 : Int) < (n : Int) + 1) = false := by simp; omega
    clear hfv h20
    go_enter Tryz.func49, Tryz.ntmps49
    go_wp2_with fail
    refine (cS _ (HE.out.below ((Below.refl _ w).alloc (Nat.le_refl _) _))).mono ?_
    rintro e w1 ⟨rfl, hb1⟩
    have hrow := row_kept hb1
    have HB1 : Hid (Below w.heap.size w w1) := ((Below.refl _ w).alloc (Nat.le_refl _) _).trans (hb1.mono (by simp))
    clear hb1
    go_wp2_with fail
    refine (cR _ hsz).mono ?_
    rintro e w2 ⟨rfl, pos, rfl⟩
    have hrow2 : (w1.iter ⟨A.toArray⟩ pos).heap[w.heap.size]? = some (.cells #[.int .i64 0, .string ⟨#[]⟩, .int .u16 0] 72) := (Below.heap_alloc w1 _ _ (heap_lt hrow)).trans hrow
    have HB2 : Hid (Below w.heap.size w (w1.iter ⟨A.toArray⟩ pos)) := HB1.out.alloc HB1.out.size _
    clear hrow HB1
    generalize (w1.iter ⟨A.toArray⟩ pos) = w2 at *
    go_wp2_with fail
    refine (cO _).mono ?_
    rintro e w3 ⟨rfl, hb3⟩
    have hrow3 := (hb3.block _ (heap_lt hrow2)).trans hrow2
    have HB3 : Hid (Below w.heap.size w w3) := HB2.out.trans (hb3.mono HB2.out.size)
    clear hrow2 hb3 HB2
    obtain ⟨⟨q0, q1, q2⟩, hsz2⟩ := row3 hrow3
    obtain ⟨f0, f1, f2⟩ := frz3 hrow3
    go_wp2
    refine bodyPost_ret (v := .tuple #[tv ⟨1, A, 0⟩, .int .i64 (A.length : Int), .int .i64 0]) ?_ rfl ⟨by rw [HV.out], below3 HB3.out (Nat.le_refl _) _ _ _⟩
    obtain ⟨⟨g0, g1, g2⟩, _⟩ := row3 (set3 (.int .i64 1) (str A) (.int .u16 0) hrow3)
    simp [results, Tryz.results49, go_sem, g0, g1, g2]
end Go.Proofs.YtipjmabeenhcgaaGreatDoor

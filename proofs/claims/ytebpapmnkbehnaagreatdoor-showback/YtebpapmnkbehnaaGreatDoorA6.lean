/- What lex.word answers of a row of code points that begins with a letter; texts of up to 100000 bytes. -/
import Derived.Test.YtebpapmnkbehnaaGreatDoorA5
import Derived.Test.YtebpapmnkbehnaaGreatDoorP12
set_option linter.unusedVariables false
set_option linter.unusedSimpArgs false
namespace Go.Proofs.YtebpapmnkbehnaaGreatDoor
open Go.RowKit Go.Joins Go.Lib

/-- What is answered of the token that begins here. -/
def fv (x : R) (t : List R) : Except Nat (Tk × Nat) → Value
  | .error e => .tuple #[tv tkEnd, .int .i64 0, .int .i64 (e : Int)]
  | .ok (tk, n) => .tuple #[tv tk, .int .i64 ((fl (x :: t.take n)).length : Int), .int .i64 0]

theorem rc_from : ∀ (t A : List R), Good t → ∀ f, t.length ≤ f → Lib.runeCountFrom ⟨(fl (A ++ t)).toArray⟩ f (fl A).length = t.length
  | [], A, _, f, _ => by
    rw [Lib.runeCountFrom_end _ _ _ (by rw [size_mk, List.append_nil]; omega)]; rfl
  | x :: t, A, hg, f, hf => by
    obtain ⟨f, rfl⟩ : ∃ f', f = f' + 1 := ⟨f - 1, by simp at hf; omega⟩
    have hx := hg.head
    have hlt : (fl A).length < (ByteArray.mk (fl (A ++ x :: t)).toArray).size := by
      rw [size_mk, fl_append, fl_cons, List.length_append, List.length_append]
      have := hx.1; omega
    have hd : Utf8.decode ⟨(fl (A ++ x :: t)).toArray⟩ (fl A).length = (x.1, x.2.length) := by
      rw [fl_append]; exact decode_mid _ x t hx
    have ih := rc_from t (A ++ [x]) hg.tail f (by simp at hf; omega)
    rw [List.append_assoc, List.singleton_append] at ih
    have e : (fl (A ++ [x])).length = (fl A).length + x.2.length := by rw [fl_append, List.length_append, fl_cons, fl_nil, List.append_nil]
    rw [e] at ih
    unfold Lib.runeCountFrom
    rw [if_pos hlt, hd]
    dsimp only
    rw [ih, List.length_cons]; omega
theorem rc_all (cs : List R) (hg : Good cs) : Lib.runeCount ⟨(fl cs).toArray⟩ = cs.length := by
  have h := rc_from cs [] hg (fl cs).length (fl_length_ge cs hg)
  unfold Lib.runeCount
  rw [size_mk]
  exact h
theorem span_cons (p : Nat → Bool) (x : R) (t : List R) (h : p x.1 = true) : span p (x :: t) = x :: span p t := by
  simp [span, List.takeWhile_cons, h]
theorem lt_iw {r : Nat} (h : lt r = true) : iw r = true := by unfold iw; rw [h]; rfl
theorem fl_split (x : R) (t : List R) (k : Nat) : fl (x :: t) = fl (x :: t.take k) ++ fl (t.drop k) := by
  rw [← fl_append, List.cons_append, List.take_append_drop]

theorem row3 {w : World} {g : Nat} {t : TypeId} {x0 x1 x2 : Value} (hg : w.heap[g]? = some (.cells #[x0, x1, x2] t)) :
    (w.cell? ⟨g, 0, none⟩ = some x0 ∧ w.cell? ⟨g, 1, none⟩ = some x1 ∧ w.cell? ⟨g, 2, none⟩ = some x2) ∧ g < w.heap.size := by
  have c := fun j => cell_of_row w g j _ _ _ hg
  exact ⟨⟨by simpa using c 0, by simpa using c 1, by simpa using c 2⟩, heap_lt hg⟩
theorem set3 {w : World} {g : Nat} {t : TypeId} {x0 x1 x2 : Value} (y0 y1 y2 : Value) (hg : w.heap[g]? = some (.cells #[x0, x1, x2] t)) :
    (((w.setCell ⟨g, 0, none⟩ y0).setCell ⟨g, 1, none⟩ y1).setCell ⟨g, 2, none⟩ y2).heap[g]? = some (.cells #[y0, y1, y2] t) := by
  have h0 := heap_setCell_same w g 0 _ t y0 hg
  have h1 := heap_setCell_same _ g 1 _ t y1 h0
  have h2 := heap_setCell_same _ g 2 _ t y2 h1
  simpa using h2
theorem below3 {B : Nat} {a w : World} {g : Nat} (h : Below B a w) (hg : B ≤ g) (y0 y1 y2 : Value) : Below B a (((w.setCell ⟨g, 0, none⟩ y0).setCell ⟨g, 1, none⟩ y1).setCell ⟨g, 2, none⟩ y2) :=
  ((h.setCell hg y0).setCell hg y1).setCell hg y2
theorem frz3 {w : World} {g : Nat} {t : TypeId} {cs : Array Value} (hg : w.heap[g]? = some (.cells cs t)) : w.frozen? ⟨g, 0, none⟩ = false ∧ w.frozen? ⟨g, 1, none⟩ = false ∧ w.frozen? ⟨g, 2, none⟩ = false := by
  have f := fun j => frozen_of_row w g j _ _ hg
  exact ⟨f 0, f 1, f 2⟩
/-- The token's block stays through a call. -/
theorem row_kept {w w1 : World} {o : Obj} (hb : Below (w.alloc o).heap.size (w.alloc o) w1) : w1.heap[w.heap.size]? = some o :=
  (hb.block w.heap.size (by simp)).trans (heap_alloc_new w o)

set_option maxRecDepth 100000 in
set_option maxHeartbeats 1000000 in
theorem word_any (x : R) (t : List R) (hg : Good (x :: t)) (hl : lt x.1 = true) (hlen : (fl (x :: t)).length ≤ 100000) (w : World) (h : Env w) :
    Calls Tryz.prog 60 #[str (fl (x :: t))] w fun e w' => e = .returned (fv x t (wordOf x t)) ∧ Below w.heap.size w w' := by
  have cS := span_word (x :: t) hg
  rw [span_cons iw x t (lt_iw hl)] at cS
  have hW : Good (x :: span iw t) := Good.cons hg.head hg.tail.span
  have hrc := rc_all (x :: span iw t) hW
  have hsp := fl_split x t (span iw t).length
  rw [← span_take] at hsp
  have hfv : Hid (fv x t (wordOf x t) = if 20 < (span iw t).length + 1 then .tuple #[tv tkEnd, .int .i64 0, .int .i64 2] else .tuple #[tv ⟨1, fl (x :: span iw t), 0⟩, .int .i64 ((fl (x :: span iw t)).length : Int), .int .i64 0]) := by
    show _ = _
    unfold wordOf
    split
    · rfl
    · show Value.tuple #[_, .int .i64 ((fl (x :: t.take (span iw t).length)).length : Int), _] = _
      rw [← span_take]
  rw [hsp] at hlen ⊢
  have hcl := cut_left (fl (x :: span iw t)) (fl (t.drop (span iw t).length))
  have hll : (fl (x :: span iw t)).length ≤ 100000 := by rw [List.length_append] at hlen; omega
  have cO := own_any (fl (x :: span iw t)) (fl (t.drop (span iw t).length)) (by omega)
  have cR := Tryz.utf8_RuneCountInString ⟨(fl (x :: span iw t)).toArray⟩
  rw [hrc] at cR
  rw [hsp] at cS
  rw [List.length_cons] at cR
  have hsz : (ByteArray.mk (fl (x :: span iw t)).toArray).size < 9223372036854775807 := by rw [size_mk]; omega
  have hn : (span iw t).length ≤ 100000 := by
    have := fl_length_ge _ hW
    rw [List.length_cons] at this; omega
  have HE : Hid (Env w) := h
  clear hsp hrc hW hlen h hg
  generalize fl (x :: span iw t) = A at *
  generalize fl (t.drop (span iw t).length) = B at *
  generalize (span iw t).length = n at *
  by_cases h20 : 20 < n + 1
  · have HV : Hid (fv x t (wordOf x t) = .tuple #[tv tkEnd, .int .i64 0, .int .i64 2]) := by show _ = _; rw [hfv.out, if_pos h20]
    have d : decide ((20 : Int) < (n : Int) + 1) = true := by simp; omega
    clear hfv h20
    go_enter Tryz.func60, Tryz.ntmps60
    go_wp2_with fail
    refine (cS _ (HE.out.below ((Below.refl _ w).alloc (Nat.le_refl _) _))).mono ?_
    rintro e w1 ⟨rfl, hb1⟩
    have hrow := row_kept hb1
    have HB1 : Hid (Below w.heap.size w w1) := ((Below.refl _ w).alloc (Nat.le_refl _) _).trans (hb1.mono (by simp))
    clear hb1
    go_wp2_with fail
    refine (cR _ hsz).mono ?_
    rintro e w2 ⟨rfl, pos, rfl⟩
    have hrow2 : (w1.iter ⟨A.toArray⟩ pos).heap[w.heap.size]? = some (.cells #[.int .i64 0, .string ⟨#[]⟩, .int .u16 0] 89) := (Below.heap_alloc w1 _ _ (heap_lt hrow)).trans hrow
    have HB2 : Hid (Below w.heap.size w (w1.iter ⟨A.toArray⟩ pos)) := HB1.out.alloc HB1.out.size _
    clear hrow HB1
    generalize (w1.iter ⟨A.toArray⟩ pos) = w2 at *
    obtain ⟨⟨q0, q1, q2⟩, hsz2⟩ := row3 hrow2
    obtain ⟨f0, f1, f2⟩ := frz3 hrow2
    go_wp2
    refine bodyPost_ret (v := .tuple #[tv tkEnd, .int .i64 0, .int .i64 2]) ?_ rfl ⟨by rw [HV.out], below3 HB2.out (Nat.le_refl _) _ _ _⟩
    obtain ⟨⟨g0, g1, g2⟩, _⟩ := row3 (set3 (.int .i64 0) (.string ⟨#[]⟩) (.int .u16 0) hrow2)
    simp [results, Tryz.results60, go_sem, g0, g1, g2, tkEnd]
  · have HV : Hid (fv x t (wordOf x t) = .tuple #[tv ⟨1, A, 0⟩, .int .i64 (A.length : Int), .int .i64 0]) := by show _ = _; rw [hfv.out, if_neg h20]
    have d : decide ((20 : Int) < (n : Int) + 1) = false := by simp; omega
    clear hfv h20
    go_enter Tryz.func60, Tryz.ntmps60
    go_wp2_with fail
    refine (cS _ (HE.out.below ((Below.refl _ w).alloc (Nat.le_refl _) _))).mono ?_
    rintro e w1 ⟨rfl, hb1⟩
    have hrow := row_kept hb1
    have HB1 : Hid (Below w.heap.size w w1) := ((Below.refl _ w).alloc (Nat.le_refl _) _).trans (hb1.mono (by simp))
    clear hb1
    go_wp2_with fail
    refine (cR _ hsz).mono ?_
    rintro e w2 ⟨rfl, pos, rfl⟩
    have hrow2 : (w1.iter ⟨A.toArray⟩ pos).heap[w.heap.size]? = some (.cells #[.int .i64 0, .string ⟨#[]⟩, .int .u16 0] 89) := (Below.heap_alloc w1 _ _ (heap_lt hrow)).trans hrow
    have HB2 : Hid (Below w.heap.size w (w1.iter ⟨A.toArray⟩ pos)) := HB1.out.alloc HB1.out.size _
    clear hrow HB1
    generalize (w1.iter ⟨A.toArray⟩ pos) = w2 at *
    go_wp2_with fail
    refine (cO _).mono ?_
    rintro e w3 ⟨rfl, hb3⟩
    have hrow3 := (hb3.block _ (heap_lt hrow2)).trans hrow2
    have HB3 : Hid (Below w.heap.size w w3) := HB2.out.trans (hb3.mono HB2.out.size)
    clear hrow2 hb3 HB2
    obtain ⟨⟨q0, q1, q2⟩, hsz2⟩ := row3 hrow3
    obtain ⟨f0, f1, f2⟩ := frz3 hrow3
    go_wp2
    refine bodyPost_ret (v := .tuple #[tv ⟨1, A, 0⟩, .int .i64 (A.length : Int), .int .i64 0]) ?_ rfl ⟨by rw [HV.out], below3 HB3.out (Nat.le_refl _) _ _ _⟩
    obtain ⟨⟨g0, g1, g2⟩, _⟩ := row3 (set3 (.int .i64 1) (str A) (.int .u16 0) hrow3)
    simp [results, Tryz.results60, go_sem, g0, g1, g2]
end Go.Proofs.YtebpapmnkbehnaaGreatDoor
/- How pairs lie in memory; what byField answers of two pairs; no conditions. -/
set_option linter.unusedVariables false
set_option linter.unusedSimpArgs false
namespace Go.Proofs.YtebpapmnkbehnaaGreatDoor
open Go.RowKit Go.Joins

def enc2 (c : Pr) : List Value := [.int .i64 c.1, .int .u16 (c.2 : Int)]
abbrev cv (c : Pr) : Value := .agg #[.int .i64 c.1, .int .u16 (c.2 : Int)]
abbrev cobj (c : Pr) : Obj := .cells #[.int .i64 c.1, .int .u16 (c.2 : Int)] 64
def At2 (w : World) (b o : Nat) (c : Pr) : Prop := w.cell? ⟨b, o, none⟩ = some (.int .i64 c.1) ∧ w.cell? ⟨b, o + 1, none⟩ = some (.int .u16 (c.2 : Int))
theorem At2.cell {w : World} {b o : Nat} {x : Pr} (h : At2 w b o x) : ∀ j, j < 2 → w.cell? ⟨b, o + j, none⟩ = (enc2 x)[j]? := by
  obtain ⟨h0, h1⟩ := h
  intro j hj
  match j, hj with
  | 0, _ => exact h0
  | 1, _ => exact h1
theorem At2.of {w : World} {b o : Nat} {x : Pr} (h : ∀ j, j < 2 → w.cell? ⟨b, o + j, none⟩ = (enc2 x)[j]?) : At2 w b o x := ⟨h 0 (by decide), h 1 (by decide)⟩
theorem At2.same {w w' : World} {b o : Nat} {x : Pr} (h : At2 w b o x) (hb : w'.heap[b]? = w.heap[b]?) : At2 w' b o x :=
  At2.of fun j hj => by rw [World.cell?_of_block (w := w) (w' := w') hb]; exact h.cell j hj
def flat2 (L : List Pr) : List Value := L.flatMap enc2
theorem flat2_append (a b : List Pr) : flat2 (a ++ b) = flat2 a ++ flat2 b := by simp [flat2]
theorem flat2_one (x : Pr) : flat2 [x] = enc2 x := by simp [flat2]
theorem flat2_get : ∀ (L : List Pr) (i : Nat) (h : i < L.length) (j : Nat), j < 2 → (flat2 L)[i * 2 + j]? = (enc2 L[i])[j]?
  | x :: r, 0, _, j, hj => by
    simp only [flat2, List.flatMap_cons]
    rw [List.getElem?_append_left (by rw [show (enc2 x).length = 2 from rfl]; omega)]
    simp
  | x :: r, i + 1, h, j, hj => by
    have := flat2_get r i (by simpa using h) j hj
    simp only [flat2, List.flatMap_cons] at this ⊢
    rw [List.getElem?_append_right (by rw [show (enc2 x).length = 2 from rfl]; omega), show (enc2 x).length = 2 from rfl, show (i + 1) * 2 + j - 2 = i * 2 + j by omega, this]
    rfl
/-- Pairs lie behind a slice. -/
def Prs (w : World) (v : Value) (L : List Pr) : Prop :=
  ∃ sa sc, v = .slice sa L.length sc ∧ ∀ k (hk : k < L.length), ∃ b off, sa = some ⟨b, off, none⟩ ∧ b < w.heap.size ∧ At2 w b (off + k * 2) L[k]
theorem Prs.below {w w' : World} {v : Value} {L : List Pr} (h : Prs w v L) (hB : Below w.heap.size w w') : Prs w' v L := by
  obtain ⟨sa, sc, hv, hc⟩ := h
  refine ⟨sa, sc, hv, fun k hk => ?_⟩
  obtain ⟨b, off, hs, hb, ha⟩ := hc k hk
  exact ⟨b, off, hs, Nat.lt_of_lt_of_le hb hB.size, ha.same (hB.block b hb)⟩
theorem prs_of_own {w : World} {lo : Nat} {v : Value} {L : List Pr} (h : w.ownsRow lo 64 2 v L.length (flat2 L)) : Prs w v L := by
  rcases h.2 with ⟨hv, hn⟩ | ⟨g, cap, cur, hv, hB, hgg, hcap, hmax, hsz, htk⟩
  · have : L = [] := List.length_eq_zero_iff.1 hn
    subst this
    exact ⟨none, 0, hv, fun k hk => by simp at hk⟩
  · refine ⟨_, cap, hv, fun k hk => ⟨g, 0, rfl, heap_lt hgg, At2.of fun j hj => ?_⟩⟩
    rw [cell_of_row _ _ _ _ _ _ hgg]
    have hlt : k * 2 + j < L.length * 2 := by omega
    have := flat2_get L k hk j hj
    rw [← htk, List.getElem?_take_of_lt hlt, Array.getElem?_toList] at this
    rw [show 0 + k * 2 + j = k * 2 + j by omega]
    exact this
theorem enc2_one (x : Pr) : ∀ u ∈ enc2 x, u.oneCell' = true := by
  intro u hu
  simp [enc2] at hu
  rcases hu with rfl | rfl <;> rfl

/-- How two numbers stand to each other. -/
def cmpI (a b : Int) : Int := if a < b then -1 else if b < a then 1 else 0
theorem compare_any (a b : Int) (w : World) : Calls Tryz.prog 127 #[.int .i64 a, .int .i64 b] w fun e w' => e = .returned (.int .i64 (cmpI a b)) ∧ w' = w := by
  have n1 := Tryz.cmp_isNaN_int2 a
  have n2 := Tryz.cmp_isNaN_int2 b
  unfold cmpI
  by_cases h1 : a < b
  · rw [if_pos h1]
    go_enter Tryz.func127, Tryz.ntmps127
    go_wp2_with fail
    refine (n1 _).mono ?_
    rintro e w1 ⟨rfl, hw⟩; subst w1
    go_wp2_with fail
    refine (n2 _).mono ?_
    rintro e w1 ⟨rfl, hw⟩; subst w1
    go_wp2
    go_ret
    exact ⟨rfl, rfl⟩
  · rw [if_neg h1]
    by_cases h2 : b < a
    · rw [if_pos h2]
      go_enter Tryz.func127, Tryz.ntmps127
      go_wp2_with fail
      refine (n1 _).mono ?_
      rintro e w1 ⟨rfl, hw⟩; subst w1
      go_wp2_with fail
      refine (n2 _).mono ?_
      rintro e w1 ⟨rfl, hw⟩; subst w1
      go_wp2
      go_ret
      exact ⟨rfl, rfl⟩
    · rw [if_neg h2]
      go_enter Tryz.func127, Tryz.ntmps127
      go_wp2_with fail
      refine (n1 _).mono ?_
      rintro e w1 ⟨rfl, hw⟩; subst w1
      go_wp2_with fail
      refine (n2 _).mono ?_
      rintro e w1 ⟨rfl, hw⟩; subst w1
      go_wp2
      go_ret
      exact ⟨rfl, rfl⟩
theorem byField_any (a b : Pr) (w : World) : Calls Tryz.prog 107 #[cv a, cv b] w fun e w' => e = .returned (.int .i64 (cmpI a.1 b.1)) ∧ Below w.heap.size w w' := by
  have cC := compare_any a.1 b.1
  go_enter Tryz.func107, Tryz.ntmps107
  go_wp2_with fail
  refine (cC _).mono ?_
  rintro e w1 ⟨rfl, hw⟩; subst w1
  go_wp2
  go_ret
  exact ⟨rfl, ((Below.refl _ w).alloc (Nat.le_refl _) _).alloc (by simp) _⟩
end Go.Proofs.YtebpapmnkbehnaaGreatDoor

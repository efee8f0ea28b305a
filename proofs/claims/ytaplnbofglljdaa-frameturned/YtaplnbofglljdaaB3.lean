/- What frame.Decode answers: the frame that the bytes tell, or that they tell none; texts of up to 1000 bytes. -/
import Derived.Test.YtaplnbofglljdaaB1
set_option linter.unusedVariables false
set_option linter.unusedSimpArgs false
namespace Go.Proofs.Ytaplnbofglljdaa
open Go.RowKit Go.Joins

/-- A row of eleven cells, written whole. -/
theorem set11 {w : World} {g : Nat} {t : TypeId} {x0 x1 x2 x3 x4 x5 x6 x7 x8 x9 x10 : Value} (y0 y1 y2 y3 y4 y5 y6 y7 y8 y9 y10 : Value) (hg : w.heap[g]? = some (.cells #[x0, x1, x2, x3, x4, x5, x6, x7, x8, x9, x10] t)) :
    (((((((((((w.setCell ⟨g, 0, none⟩ y0).setCell ⟨g, 1, none⟩ y1).setCell ⟨g, 2, none⟩ y2).setCell ⟨g, 3, none⟩ y3).setCell ⟨g, 4, none⟩ y4).setCell ⟨g, 5, none⟩ y5).setCell ⟨g, 6, none⟩ y6).setCell ⟨g, 7, none⟩ y7).setCell ⟨g, 8, none⟩ y8).setCell ⟨g, 9, none⟩ y9).setCell ⟨g, 10, none⟩ y10).heap[g]? = some (.cells #[y0, y1, y2, y3, y4, y5, y6, y7, y8, y9, y10] t) := by
  have h0 := heap_setCell_same w g 0 _ t y0 hg
  have h1 := heap_setCell_same _ g 1 _ t y1 h0
  have h2 := heap_setCell_same _ g 2 _ t y2 h1
  have h3 := heap_setCell_same _ g 3 _ t y3 h2
  have h4 := heap_setCell_same _ g 4 _ t y4 h3
  have h5 := heap_setCell_same _ g 5 _ t y5 h4
  have h6 := heap_setCell_same _ g 6 _ t y6 h5
  have h7 := heap_setCell_same _ g 7 _ t y7 h6
  have h8 := heap_setCell_same _ g 8 _ t y8 h7
  have h9 := heap_setCell_same _ g 9 _ t y9 h8
  have h10 := heap_setCell_same _ g 10 _ t y10 h9
  simpa using h10
theorem other11 {w : World} {g k : Nat} (h : k ≠ g) (y0 y1 y2 y3 y4 y5 y6 y7 y8 y9 y10 : Value) : (((((((((((w.setCell ⟨g, 0, none⟩ y0).setCell ⟨g, 1, none⟩ y1).setCell ⟨g, 2, none⟩ y2).setCell ⟨g, 3, none⟩ y3).setCell ⟨g, 4, none⟩ y4).setCell ⟨g, 5, none⟩ y5).setCell ⟨g, 6, none⟩ y6).setCell ⟨g, 7, none⟩ y7).setCell ⟨g, 8, none⟩ y8).setCell ⟨g, 9, none⟩ y9).setCell ⟨g, 10, none⟩ y10).heap[k]? = w.heap[k]? := by
  rw [heap_setCell_other _ _ _ _ h, heap_setCell_other _ _ _ _ h, heap_setCell_other _ _ _ _ h, heap_setCell_other _ _ _ _ h, heap_setCell_other _ _ _ _ h, heap_setCell_other _ _ _ _ h, heap_setCell_other _ _ _ _ h, heap_setCell_other _ _ _ _ h, heap_setCell_other _ _ _ _ h, heap_setCell_other _ _ _ _ h, heap_setCell_other _ _ _ _ h]
theorem below11 {B : Nat} {a w : World} {g : Nat} (h : Below B a w) (hg : B ≤ g) (y0 y1 y2 y3 y4 y5 y6 y7 y8 y9 y10 : Value) : Below B a (((((((((((w.setCell ⟨g, 0, none⟩ y0).setCell ⟨g, 1, none⟩ y1).setCell ⟨g, 2, none⟩ y2).setCell ⟨g, 3, none⟩ y3).setCell ⟨g, 4, none⟩ y4).setCell ⟨g, 5, none⟩ y5).setCell ⟨g, 6, none⟩ y6).setCell ⟨g, 7, none⟩ y7).setCell ⟨g, 8, none⟩ y8).setCell ⟨g, 9, none⟩ y9).setCell ⟨g, 10, none⟩ y10) :=
  (((((((((((h.setCell hg y0).setCell hg y1).setCell hg y2).setCell hg y3).setCell hg y4).setCell hg y5).setCell hg y6).setCell hg y7).setCell hg y8).setCell hg y9).setCell hg y10)
theorem frz11 {w : World} {g : Nat} {t : TypeId} {cs : Array Value} (hg : w.heap[g]? = some (.cells cs t)) : w.frozen? ⟨g, 0, none⟩ = false ∧ w.frozen? ⟨g, 1, none⟩ = false ∧ w.frozen? ⟨g, 2, none⟩ = false ∧ w.frozen? ⟨g, 3, none⟩ = false ∧ w.frozen? ⟨g, 4, none⟩ = false ∧ w.frozen? ⟨g, 5, none⟩ = false ∧ w.frozen? ⟨g, 6, none⟩ = false ∧ w.frozen? ⟨g, 7, none⟩ = false ∧ w.frozen? ⟨g, 8, none⟩ = false ∧ w.frozen? ⟨g, 9, none⟩ = false ∧ w.frozen? ⟨g, 10, none⟩ = false := by
  have f := fun j => frozen_of_row w g j _ _ hg
  exact ⟨f 0, f 1, f 2, f 3, f 4, f 5, f 6, f 7, f 8, f 9, f 10⟩
theorem isFrame_s (s : ByteArray) (w : World) (hs : s.size ≤ 1000) :
    Calls Try.prog 17 #[.string s] w fun e w' => e = .returned (.bool (isF s.data.toList)) ∧ ∃ n, w' = w.drewN n := by
  have := isFrame_any s.data.toList w (by simpa using hs)
  rwa [bytes_eta] at this
/-- The zero frame's cells. -/
abbrev zeroC : Array Value := #[.int .u16 0, .int .u16 0, .int .u16 0, .int .u16 0, .int .u16 0, .int .u16 0, .int .u16 0, .int .u16 0, .bool false, .int .u16 0, .int .u64 0]
/-- What holds all through Decode: the result's row, the frame's row so far. -/
structure DSt (w : World) (cs : Array Value) (wr : World) : Prop where
  res : wr.heap[w.heap.size]? = some (.cells zeroC 28)
  box : wr.heap[w.heap.size + 1]? = some (.cells cs 28)
  bel : Below w.heap.size w wr
theorem DSt.start (w : World) (n : Nat) (cs : Array Value) : DSt w cs (((w.alloc (.cells zeroC 28)).drewN n).alloc (.cells cs 28)) := by
  refine ⟨?_, ?_, ?_⟩
  · have h : ((w.alloc (.cells zeroC 28)).drewN n).heap[w.heap.size]? = some (.cells zeroC 28) := heap_alloc_new w _
    rw [Below.heap_alloc _ _ _ (heap_lt h)]; exact h
  · have h := heap_alloc_new ((w.alloc (.cells zeroC 28)).drewN n) (.cells cs 28)
    have e : ((w.alloc (.cells zeroC 28)).drewN n).heap.size = w.heap.size + 1 := by show (w.alloc (.cells zeroC 28)).heap.size = _; simp
    rw [e] at h; exact h
  · refine (below_drewN ((Below.refl _ _).alloc (Nat.le_refl _) _) n).alloc ?_ _
    show w.heap.size ≤ (w.alloc (.cells zeroC 28)).heap.size
    simp
theorem DSt.set {w wr : World} {cs : Array Value} (h : DSt w cs wr) (j : Nat) (v : Value) : DSt w (cs.setIfInBounds j v) (wr.setCell ⟨w.heap.size + 1, j, none⟩ v) :=
  ⟨by rw [heap_setCell_other _ _ _ _ (by simp)]; exact h.res, heap_setCell_same _ _ _ _ _ _ h.box, h.bel.setCell (by simp) _⟩
/-- The number at place j so far: read, if j is below k. -/
def pj (l : List UInt8) (k j : Nat) : Nat := if j < k then two l (2 * j + 2) else 0
abbrev rdRow (l : List UInt8) (t : Bool) (k : Nat) : Array Value := frc 0 0 (pj l k 0) (pj l k 1) (pj l k 2) (pj l k 3) (pj l k 4) (pj l k 5) t 0 0
theorem rdRow_zero (l : List UInt8) (t : Bool) : rdRow l t 0 = #[.int .u16 0, .int .u16 0, .int .u16 0, .int .u16 0, .int .u16 0, .int .u16 0, .int .u16 0, .int .u16 0, .bool t, .int .u16 0, .int .u64 0] := rfl
theorem rdRow_set (l : List UInt8) (t : Bool) (k : Nat) (hk : k < 6) : (rdRow l t k).setIfInBounds (k + 2) (.int .u16 (two l (2 * k + 2) : Nat)) = rdRow l t (k + 1) := by
  match k, hk with
  | 0, _ => rfl
  | 1, _ => rfl
  | 2, _ => rfl
  | 3, _ => rfl
  | 4, _ => rfl
  | 5, _ => rfl
theorem rdRow_six (l : List UInt8) (t : Bool) : rdRow l t 6 = frc 0 0 (two l 2) (two l 4) (two l 6) (two l 8) (two l 10) (two l 12) t 0 0 := rfl
theorem take_extract (r : ByteArray) (n : Nat) : (r.extract 0 n).data.toList = r.data.toList.take n := by simp [ByteArray.data_extract]
theorem drop_extract (r : ByteArray) (n : Nat) : (r.extract n r.size).data.toList = r.data.toList.drop n := by
  simp only [ByteArray.data_extract, Array.toList_extract, List.extract_eq_take_drop]
  rw [List.take_of_length_le (by simp)]

set_option maxRecDepth 100000 in
set_option maxHeartbeats 1000000 in
theorem decode_no (s : ByteArray) (w : World) (hs : s.size ≤ 1000) (hF : isF s.data.toList = false) :
    Calls Try.prog 8 #[.string s] w fun e w' => e = .returned (.tuple #[frv 0 0 0 0 0 0 0 0 false 0 0, .int .i64 30]) ∧ Below w.heap.size w w' := by
  have HF : Hid (isF s.data.toList = false) := hF
  clear hF
  go_enter Try.func8, Try.ntmps8
  go_wp2_with fail
  refine (isFrame_s s _ hs).mono ?_
  rintro e w1 ⟨rfl, n, rfl⟩
  rw [HF.out]
  go_wp2_with fail
  have hg : ((w.alloc (.cells zeroC 28)).drewN n).heap[w.heap.size]? = some (.cells zeroC 28) := heap_alloc_new w _
  have hb : Below w.heap.size w ((w.alloc (.cells zeroC 28)).drewN n) := below_drewN ((Below.refl _ _).alloc (Nat.le_refl _) _) n
  refine bodyPost_ret (v := .tuple #[frv 0 0 0 0 0 0 0 0 false 0 0, .int .i64 30]) ?_ rfl ⟨rfl, below11 hb (Nat.le_refl _) _ _ _ _ _ _ _ _ _ _ _⟩
  obtain ⟨⟨q0, q1, q2, q3, q4, q5, q6, q7, q8, q9, q10⟩, _⟩ := row11 (set11 (.int .u16 0) (.int .u16 0) (.int .u16 0) (.int .u16 0) (.int .u16 0) (.int .u16 0) (.int .u16 0) (.int .u16 0) (.bool false) (.int .u16 0) (.int .u64 0) hg)
  simp [results, Try.results8, go_sem, q0, q1, q2, q3, q4, q5, q6, q7, q8, q9, q10]

set_option maxRecDepth 100000 in
set_option maxHeartbeats 1000000 in
theorem decode_bare (s : ByteArray) (w : World) (hs : s.size = 16) (hF : isF s.data.toList = true) (e1 : s[1].toNat = 0) :
    Calls Try.prog 8 #[.string s] w fun e w' => e = .returned (.tuple #[frv 0 0 (two s.data.toList 2) (two s.data.toList 4) (two s.data.toList 6) (two s.data.toList 8) (two s.data.toList 10) (two s.data.toList 12) false 0 0, .int .i64 0]) ∧ Below w.heap.size w w' := by
  have HF : Hid (isF s.data.toList = true) := hF
  clear hF
  have HL : Hid (s.data.toList.length = 16) := by show _ = _; simpa using hs
  obtain ⟨l, hl⟩ : ∃ l, s.data.toList = l := ⟨_, rfl⟩
  rw [hl] at HL HF
  rw [hl]
  go_enter Try.func8, Try.ntmps8
  go_wp2_with fail
  refine (isFrame_s s _ (by omega)).mono ?_
  rintro e w1 ⟨rfl, n, rfl⟩
  rw [hl, HF.out]
  have HX : Hid ((s.extract 2 16).data.toList = l.drop 2) := by show _ = _; rw [← hs, drop_extract, hl]
  clear hl
  go_wp2_with fail
  generalize s.extract 2 16 = r0 at *
  clear hs e1
  have HD := DSt.start w n (rdRow l false 0)
  rw [rdRow_zero] at HD
  go_loopw [5, 6] (fun v i wr => ∃ (k : Nat) (r : ByteArray), k ≤ 6 ∧ i = .int .i64 ((k : Int) + 2) ∧ v = .string r ∧ Hid (r.data.toList = l.drop (2 * k + 2)) ∧ Hid (DSt w (rdRow l false k) wr)) (fun _ i _ => 8 - (intOf i).toNat)
  case atStart => exact ⟨0, r0, Nat.zero_le _, rfl, rfl, HX, HD⟩
  case round =>
    clear HD HX
    obtain ⟨k, r, hk, rfl, rfl, HR, HS⟩ := hrel
    have hrl : r.size = 14 - 2 * k := by
      have := congrArg List.length HR.out
      rw [List.length_drop, HL.out] at this
      simp at this; omega
    by_cases hlt : k < 6
    · have hr2 : 2 ≤ r.size := by omega
      have hr9 : r.size ≤ 1000 := by omega
      clear hrl
      have hl8 : (k : Int) + 2 < 8 := by omega
      have HN : Hid (num (r.extract 0 2).data.toList = two l (2 * k + 2)) := by
        show _ = _
        rw [take_extract, HR.out]; rfl
      have hX6 := two_lt l (2 * k + 2)
      have HR2 : Hid ((r.extract 2 r.size).data.toList = l.drop (2 * (k + 1) + 2)) := by
        show _ = _
        rw [drop_extract, HR.out, List.drop_drop]
        congr 1
      have HS2 : Hid (DSt w _ _) := HS.out.set (k + 2) (.int .u16 (two l (2 * k + 2) : Nat))
      rw [rdRow_set l false k hlt] at HS2
      obtain ⟨fc, hfc⟩ : ∃ c, wr.cell? ⟨w.heap.size + 1, k + 2, none⟩ = some c := by
        rw [cell_of_row _ _ _ _ _ _ HS.out.box]
        exact ⟨_, Array.getElem?_eq_getElem (by simp; omega)⟩
      have hff := frozen_of_row wr (w.heap.size + 1) (k + 2) _ _ HS.out.box
      generalize two l (2 * k + 2) = X at *
      go_wp2_with fail
      refine (number_any (r.extract 0 2) _ (by rw [ByteArray.size_extract]; omega)).mono ?_
      rintro e wX ⟨rfl, hwX⟩
      subst wX
      rw [HN.out]
      go_wp2_with fail
      exact ⟨⟨k + 1, _, by omega, by go_num, rfl, HR2, HS2⟩, by simp [intOf]; omega⟩
    · have hk6 : k = 6 := by omega
      subst hk6
      rw [rdRow_six] at HS
      clear hrl
      obtain ⟨⟨q0, q1, q2, q3, q4, q5, q6, q7, q8, q9, q10⟩, hsz⟩ := row11 HS.out.box
      obtain ⟨⟨r0', r1, r2, r3, r4, r5, r6, r7, r8, r9, r10⟩, hsz'⟩ := row11 HS.out.res
      obtain ⟨f0, f1, f2, f3, f4, f5, f6, f7, f8, f9, f10⟩ := frz11 HS.out.res
      go_wp2_with fail
      refine bodyPost_ret (v := .tuple #[frv 0 0 (two l 2) (two l 4) (two l 6) (two l 8) (two l 10) (two l 12) false 0 0, .int .i64 0]) ?_ rfl ⟨rfl, below11 HS.out.bel (Nat.le_refl _) _ _ _ _ _ _ _ _ _ _ _⟩
      obtain ⟨⟨g0, g1, g2, g3, g4, g5, g6, g7, g8, g9, g10⟩, _⟩ := row11 (set11 (.int .u16 0) (.int .u16 0) (.int .u16 (two l 2 : Nat)) (.int .u16 (two l 4 : Nat)) (.int .u16 (two l 6 : Nat)) (.int .u16 (two l 8 : Nat)) (.int .u16 (two l 10 : Nat)) (.int .u16 (two l 12 : Nat)) (.bool false) (.int .u16 0) (.int .u64 0) HS.out.res)
      simp [results, Try.results8, go_sem, g0, g1, g2, g3, g4, g5, g6, g7, g8, g9, g10]
set_option maxRecDepth 100000 in
set_option maxHeartbeats 1000000 in
theorem decode_tagged (s : ByteArray) (w : World) (hs : s.size = 26) (hF : isF s.data.toList = true) (e1 : s[1].toNat = 1) :
    Calls Try.prog 8 #[.string s] w fun e w' => e = .returned (.tuple #[frv 0 0 (two s.data.toList 2) (two s.data.toList 4) (two s.data.toList 6) (two s.data.toList 8) (two s.data.toList 10) (two s.data.toList 12) true (two s.data.toList 14) (num ((s.data.toList.drop 16).take 8)), .int .i64 0]) ∧ Below w.heap.size w w' := by
  have HF : Hid (isF s.data.toList = true) := hF
  clear hF
  have HL : Hid (s.data.toList.length = 26) := by show _ = _; simpa using hs
  obtain ⟨l, hl⟩ : ∃ l, s.data.toList = l := ⟨_, rfl⟩
  rw [hl] at HL HF
  rw [hl]
  go_enter Try.func8, Try.ntmps8
  go_wp2_with fail
  refine (isFrame_s s _ (by omega)).mono ?_
  rintro e w1 ⟨rfl, n, rfl⟩
  rw [hl, HF.out]
  have HX : Hid ((s.extract 2 26).data.toList = l.drop 2) := by show _ = _; rw [← hs, drop_extract, hl]
  clear hl
  go_wp2_with fail
  generalize s.extract 2 26 = r0 at *
  clear hs e1
  have HD := DSt.start w n (rdRow l true 0)
  rw [rdRow_zero] at HD
  go_loopw [5, 6] (fun v i wr => ∃ (k : Nat) (r : ByteArray), k ≤ 6 ∧ i = .int .i64 ((k : Int) + 2) ∧ v = .string r ∧ Hid (r.data.toList = l.drop (2 * k + 2)) ∧ Hid (DSt w (rdRow l true k) wr)) (fun _ i _ => 8 - (intOf i).toNat)
  case atStart => exact ⟨0, r0, Nat.zero_le _, rfl, rfl, HX, HD⟩
  case round =>
    clear HD HX
    obtain ⟨k, r, hk, rfl, rfl, HR, HS⟩ := hrel
    have hrl : r.size = 24 - 2 * k := by
      have := congrArg List.length HR.out
      rw [List.length_drop, HL.out] at this
      simp at this; omega
    by_cases hlt : k < 6
    · have hr2 : 2 ≤ r.size := by omega
      have hr9 : r.size ≤ 1000 := by omega
      clear hrl
      have hl8 : (k : Int) + 2 < 8 := by omega
      have HN : Hid (num (r.extract 0 2).data.toList = two l (2 * k + 2)) := by
        show _ = _
        rw [take_extract, HR.out]; rfl
      have hX6 := two_lt l (2 * k + 2)
      have HR2 : Hid ((r.extract 2 r.size).data.toList = l.drop (2 * (k + 1) + 2)) := by
        show _ = _
        rw [drop_extract, HR.out, List.drop_drop]
        congr 1
      have HS2 : Hid (DSt w _ _) := HS.out.set (k + 2) (.int .u16 (two l (2 * k + 2) : Nat))
      rw [rdRow_set l true k hlt] at HS2
      obtain ⟨fc, hfc⟩ : ∃ c, wr.cell? ⟨w.heap.size + 1, k + 2, none⟩ = some c := by
        rw [cell_of_row _ _ _ _ _ _ HS.out.box]
        exact ⟨_, Array.getElem?_eq_getElem (by simp; omega)⟩
      have hff := frozen_of_row wr (w.heap.size + 1) (k + 2) _ _ HS.out.box
      generalize two l (2 * k + 2) = X at *
      go_wp2_with fail
      refine (number_any (r.extract 0 2) _ (by rw [ByteArray.size_extract]; omega)).mono ?_
      rintro e wX ⟨rfl, hwX⟩
      subst wX
      rw [HN.out]
      go_wp2_with fail
      exact ⟨⟨k + 1, _, by omega, by go_num, rfl, HR2, HS2⟩, by simp [intOf]; omega⟩
    · have hk6 : k = 6 := by omega
      subst hk6
      rw [rdRow_six] at HS
      have hr2 : 2 ≤ r.size := by omega
      have hr10 : 10 ≤ r.size := by omega
      have hr9 : r.size ≤ 1000 := by omega
      clear hrl
      have HN : Hid (num (r.extract 0 2).data.toList = two l 14) := by
        show _ = _
        rw [take_extract, HR.out]; rfl
      have HN2 : Hid (num (r.extract 2 10).data.toList = num ((l.drop 16).take 8)) := by
        show _ = _
        rw [ByteArray.data_extract, Array.toList_extract, List.extract_eq_take_drop, HR.out, List.drop_drop]
      have hX6 := two_lt l 14
      have HS2 : Hid (DSt w _ _) := HS.out.set 9 (.int .u16 (two l 14 : Nat))
      have hY6 := num8_lt (l.drop 16)
      generalize hYY : num ((l.drop 16).take 8) = Y at *
      generalize hXX : two l 14 = X at *
      have HXX : Hid (two l 14 = X) := hXX
      have HYY : Hid (num ((l.drop 16).take 8) = Y) := hYY
      clear hXX hYY
      obtain ⟨⟨q0, q1, q2, q3, q4, q5, q6, q7, q8, q9, q10⟩, hsz⟩ := row11 HS.out.box
      obtain ⟨f0, f1, f2, f3, f4, f5, f6, f7, f8, f9, f10⟩ := frz11 HS.out.box
      go_wp2_with fail
      refine (number_any (r.extract 0 2) _ (by rw [ByteArray.size_extract]; omega)).mono ?_
      rintro e wX ⟨rfl, hwX⟩
      subst wX
      rw [HN.out]
      clear HN
      go_wp2_with fail
      refine (number_any (r.extract 2 10) _ (by rw [ByteArray.size_extract]; omega)).mono ?_
      rintro e wX ⟨rfl, hwX⟩
      subst wX
      rw [HN2.out]
      clear HN2 HS q0 q1 q2 q3 q4 q5 q6 q7 q8 q9 q10 f0 f1 f2 f3 f4 f5 f6 f7 f8 f9 f10 hsz
      generalize wr.setCell ⟨w.heap.size + 1, 9, none⟩ (.int .u16 (X : Int)) = w3 at *
      have HS3 : Hid (DSt w (frc 0 0 (two l 2) (two l 4) (two l 6) (two l 8) (two l 10) (two l 12) true X 0) w3) := HS2.out
      clear HS2
      have HS4 : Hid (DSt w (frc 0 0 (two l 2) (two l 4) (two l 6) (two l 8) (two l 10) (two l 12) true X Y) (w3.setCell ⟨w.heap.size + 1, 10, none⟩ (.int .u64 (Y : Int)))) := HS3.out.set 10 (.int .u64 (Y : Int))
      obtain ⟨⟨q0, q1, q2, q3, q4, q5, q6, q7, q8, q9, q10⟩, hsz⟩ := row11 HS3.out.box
      obtain ⟨⟨r0', r1, r2, r3, r4, r5, r6, r7, r8, r9, r10⟩, hsz'⟩ := row11 HS3.out.res
      obtain ⟨f0, f1, f2, f3, f4, f5, f6, f7, f8, f9, f10⟩ := frz11 HS3.out.res
      obtain ⟨k0, k1, k2, k3, k4, k5, k6, k7, k8, k9, k10⟩ := frz11 HS3.out.box
      go_wp2_with fail
      refine bodyPost_ret (v := .tuple #[frv 0 0 (two l 2) (two l 4) (two l 6) (two l 8) (two l 10) (two l 12) true X Y, .int .i64 0]) ?_ rfl ⟨by rw [HXX.out, HYY.out], below11 HS4.out.bel (Nat.le_refl _) _ _ _ _ _ _ _ _ _ _ _⟩
      obtain ⟨⟨g0, g1, g2, g3, g4, g5, g6, g7, g8, g9, g10⟩, _⟩ := row11 (set11 (.int .u16 0) (.int .u16 0) (.int .u16 (two l 2 : Nat)) (.int .u16 (two l 4 : Nat)) (.int .u16 (two l 6 : Nat)) (.int .u16 (two l 8 : Nat)) (.int .u16 (two l 10 : Nat)) (.int .u16 (two l 12 : Nat)) (.bool true) (.int .u16 (X : Nat)) (.int .u64 (Y : Nat)) HS4.out.res)
      simp [results, Try.results8, go_sem, g0, g1, g2, g3, g4, g5, g6, g7, g8, g9, g10]
/-- The frame as a value. -/
abbrev Fr.v (f : Fr) : Value := frv f.a0 f.a1 f.a2 f.a3 f.a4 f.a5 f.a6 f.a7 f.tg f.tag f.dg
theorem second (l : List UInt8) (h : isF l = true) (h1 : 1 < (ByteArray.mk l.toArray).size) : ((ByteArray.mk l.toArray)[1]).toNat = if tgOf l then 1 else 0 := by
  have hs := isF_shape h
  obtain ⟨t, r, rfl, hr⟩ := shape_of hs
  rw [tgOf_shape t r hr]
  cases t <;> rfl
theorem decode_any (l : List UInt8) (w : World) (hl : l.length ≤ 1000) :
    Calls Try.prog 8 #[.string ⟨l.toArray⟩] w fun e w' => e = .returned (.tuple #[(if isF l then rdOf (tgOf l) l else zeroFr).v, .int .i64 (if isF l then 0 else 30)]) ∧ Below w.heap.size w w' := by
  have hsz := size_mk l
  cases hF : isF l
  · exact decode_no ⟨l.toArray⟩ w (by rw [hsz]; exact hl) (by simpa using hF)
  · have h2 := second l hF (by rw [hsz]; have := isF_ge hF; omega)
    rcases len_16_26 (isF_shape hF) with ⟨ht, hn⟩ | ⟨ht, hn⟩
    · rw [ht] at h2 ⊢
      have := decode_bare ⟨l.toArray⟩ w (by rw [hsz]; exact hn) (by simpa using hF) h2
      simpa [rdOf] using this
    · rw [ht] at h2 ⊢
      have := decode_tagged ⟨l.toArray⟩ w (by rw [hsz]; exact hn) (by simpa using hF) h2
      simpa [rdOf] using this
end Go.Proofs.Ytaplnbofglljdaa

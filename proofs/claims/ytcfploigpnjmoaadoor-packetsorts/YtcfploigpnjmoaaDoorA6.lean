/- What packet.Text answers: the text of the eight numbers, each from 0 to 65535, wherever the listed variables hold what the row lists. -/
import Derived.Test.YtcfploigpnjmoaaDoorA5
set_option linter.unusedVariables false
set_option linter.unusedSimpArgs false
namespace Go.Proofs.YtcfploigpnjmoaaDoor
open Go.RowKit Go.Joins Go.Sort

theorem ixp0 (a0 a1 a2 a3 a4 a5 a6 a7 : Int) (w : World) : (Instr.index 24 (.agg #[.int .u16 a0, .int .u16 a1, .int .u16 a2, .int .u16 a3, .int .u16 a4, .int .u16 a5, .int .u16 a6, .int .u16 a7]) (.int .i64 0)).run Tryd.prog w = .ok (.int .u16 a0) w := by kernel_rfl
theorem ixp1 (a0 a1 a2 a3 a4 a5 a6 a7 : Int) (w : World) : (Instr.index 24 (.agg #[.int .u16 a0, .int .u16 a1, .int .u16 a2, .int .u16 a3, .int .u16 a4, .int .u16 a5, .int .u16 a6, .int .u16 a7]) (.int .i64 1)).run Tryd.prog w = .ok (.int .u16 a1) w := by kernel_rfl
theorem ixp2 (a0 a1 a2 a3 a4 a5 a6 a7 : Int) (w : World) : (Instr.index 24 (.agg #[.int .u16 a0, .int .u16 a1, .int .u16 a2, .int .u16 a3, .int .u16 a4, .int .u16 a5, .int .u16 a6, .int .u16 a7]) (.int .i64 2)).run Tryd.prog w = .ok (.int .u16 a2) w := by kernel_rfl
theorem ixp3 (a0 a1 a2 a3 a4 a5 a6 a7 : Int) (w : World) : (Instr.index 24 (.agg #[.int .u16 a0, .int .u16 a1, .int .u16 a2, .int .u16 a3, .int .u16 a4, .int .u16 a5, .int .u16 a6, .int .u16 a7]) (.int .i64 3)).run Tryd.prog w = .ok (.int .u16 a3) w := by kernel_rfl
theorem ixp4 (a0 a1 a2 a3 a4 a5 a6 a7 : Int) (w : World) : (Instr.index 24 (.agg #[.int .u16 a0, .int .u16 a1, .int .u16 a2, .int .u16 a3, .int .u16 a4, .int .u16 a5, .int .u16 a6, .int .u16 a7]) (.int .i64 4)).run Tryd.prog w = .ok (.int .u16 a4) w := by kernel_rfl
theorem ixp5 (a0 a1 a2 a3 a4 a5 a6 a7 : Int) (w : World) : (Instr.index 24 (.agg #[.int .u16 a0, .int .u16 a1, .int .u16 a2, .int .u16 a3, .int .u16 a4, .int .u16 a5, .int .u16 a6, .int .u16 a7]) (.int .i64 5)).run Tryd.prog w = .ok (.int .u16 a5) w := by kernel_rfl
theorem ixp6 (a0 a1 a2 a3 a4 a5 a6 a7 : Int) (w : World) : (Instr.index 24 (.agg #[.int .u16 a0, .int .u16 a1, .int .u16 a2, .int .u16 a3, .int .u16 a4, .int .u16 a5, .int .u16 a6, .int .u16 a7]) (.int .i64 6)).run Tryd.prog w = .ok (.int .u16 a6) w := by kernel_rfl
theorem ixp7 (a0 a1 a2 a3 a4 a5 a6 a7 : Int) (w : World) : (Instr.index 24 (.agg #[.int .u16 a0, .int .u16 a1, .int .u16 a2, .int .u16 a3, .int .u16 a4, .int .u16 a5, .int .u16 a6, .int .u16 a7]) (.int .i64 7)).run Tryd.prog w = .ok (.int .u16 a7) w := by kernel_rfl
theorem ixp (a0 a1 a2 a3 a4 a5 a6 a7 : Int) (k : Nat) (hk : k < 8) (w : World) : (Instr.index 24 (.agg #[.int .u16 a0, .int .u16 a1, .int .u16 a2, .int .u16 a3, .int .u16 a4, .int .u16 a5, .int .u16 a6, .int .u16 a7]) (.int .i64 k)).run Tryd.prog w = .ok (.int .u16 ([a0, a1, a2, a3, a4, a5, a6, a7].getD k 0)) w := by
  match k, hk with
  | 0, _ => exact ixp0 a0 a1 a2 a3 a4 a5 a6 a7 w
  | 1, _ => exact ixp1 a0 a1 a2 a3 a4 a5 a6 a7 w
  | 2, _ => exact ixp2 a0 a1 a2 a3 a4 a5 a6 a7 w
  | 3, _ => exact ixp3 a0 a1 a2 a3 a4 a5 a6 a7 w
  | 4, _ => exact ixp4 a0 a1 a2 a3 a4 a5 a6 a7 w
  | 5, _ => exact ixp5 a0 a1 a2 a3 a4 a5 a6 a7 w
  | 6, _ => exact ixp6 a0 a1 a2 a3 a4 a5 a6 a7 w
  | 7, _ => exact ixp7 a0 a1 a2 a3 a4 a5 a6 a7 w
theorem NamesIs.at {w : World} (h : NamesIs w) (k : Nat) (hk : k < 8) : w.cell? ⟨0, k, none⟩ = some (.string ⟨(nm8.getD k []).toArray⟩) := by
  match k, hk with
  | 0, _ => exact h.c0
  | 1, _ => exact h.c1
  | 2, _ => exact h.c2
  | 3, _ => exact h.c3
  | 4, _ => exact h.c4
  | 5, _ => exact h.c5
  | 6, _ => exact h.c6
  | 7, _ => exact h.c7

/-- What Text writes for the field k. -/
def piece (l : List Int) (k : Nat) : List UInt8 :=
  if l.getD k 0 = 0 ∧ 2 ≤ k then [] else (if k = 0 then [] else [32]) ++ nm8.getD k [] ++ [61] ++ Lib.itoa (l.getD k 0)
/-- A packet's text, up to the field k. -/
def textTo (l : List Int) : Nat → List UInt8
  | 0 => []
  | k + 1 => textTo l k ++ piece l k

theorem nm8_len (k : Nat) : (nm8.getD k []).length ≤ 3 := by
  by_cases h : k < 8
  · match k, h with
    | 0, _ => decide
    | 1, _ => decide
    | 2, _ => decide
    | 3, _ => decide
    | 4, _ => decide
    | 5, _ => decide
    | 6, _ => decide
    | 7, _ => decide
  · rw [List.getD_eq_getElem?_getD, List.getElem?_eq_none (by simpa [nm8] using h)]; simp
theorem nDigits_le : ∀ (n u : Nat), u < 10 ^ (n + 1) → Lib.nDigits u ≤ n + 1
  | 0, u, h => by rw [Lib.nDigits_small (by omega)]; omega
  | n + 1, u, h => by
    rw [Lib.nDigits]
    split
    · omega
    · have := nDigits_le n (u / 10) (by rw [Nat.pow_succ] at h; omega)
      omega
theorem itoa_len (X : Int) (h0 : 0 ≤ X) (h1 : X ≤ 65535) : (Lib.itoa X).length ≤ 20 := by
  unfold Lib.itoa
  rw [if_neg (by omega), Lib.decDigits_length]
  have := nDigits_le 4 X.toNat (by omega)
  omega
theorem builder_below {B b : Nat} {p : Value} {bs : List Value} {w w' : World} (h : Lib.BuilderAt 61 5 B b p bs w) (hb : Below w.heap.size w w') : Lib.BuilderAt 61 5 B b p bs w' := by
  have hlt := h.lt
  obtain ⟨hB, v, hv, hown, hne⟩ := h
  refine ⟨hB, v, (hb.block b hlt).trans hv, ⟨hown.1, ?_⟩, hne⟩
  rcases hown.2 with hn | ⟨g, cap, cur, hv, hg, hgg, rest⟩
  · exact .inl hn
  · exact .inr ⟨g, cap, cur, hv, hg, by rw [hb.block g (Array.getElem?_eq_some_iff.1 hgg).1]; exact hgg, rest⟩
theorem below_grown {w : World} (k : Nat) (os : Array Obj) : Below w.heap.size w (grow (w.drewN k) os) :=
  ⟨rfl, rfl, rfl, by simp [grow], fun j hj => by simp [grow, Array.getElem?_append_left hj]⟩
theorem cells_k (T n i : List UInt8) : Lib.byteCells (T ++ ([32] ++ n ++ [61] ++ i)) = (((Lib.byteCells T ++ [.int .u8 32]) ++ Lib.strCells ⟨n.toArray⟩) ++ [.int .u8 61]) ++ Lib.strCells ⟨i.toArray⟩ := by
  simp [Lib.byteCells, Lib.strCells]
theorem cells_0 (T n i : List UInt8) : Lib.byteCells (T ++ ([] ++ n ++ [61] ++ i)) = ((Lib.byteCells T ++ Lib.strCells ⟨n.toArray⟩) ++ [.int .u8 61]) ++ Lib.strCells ⟨i.toArray⟩ := by
  simp [Lib.byteCells, Lib.strCells]

set_option maxRecDepth 100000 in
set_option maxHeartbeats 1000000 in
theorem text_any (a0 a1 a2 a3 a4 a5 a6 a7 : Int) (w : World) (h : Env w) (hr : ∀ k, 0 ≤ [a0, a1, a2, a3, a4, a5, a6, a7].getD k 0 ∧ [a0, a1, a2, a3, a4, a5, a6, a7].getD k 0 ≤ 65535) :
    Calls Tryd.prog 19 #[pk a0 a1 a2 a3 a4 a5 a6 a7] w fun e w' => e = .returned (.string ⟨(textTo [a0, a1, a2, a3, a4, a5, a6, a7] 8).toArray⟩) ∧ Below w.heap.size w w' := by
  have hix := ixp a0 a1 a2 a3 a4 a5 a6 a7
  unfold pk
  go_enter Tryd.func19, Tryd.ntmps19
  go_wp2
  go_loopw [7] (fun i wr => ∃ k : Nat, k ≤ 8 ∧ i = .int .i64 k ∧ Lib.IsBuilder 61 5 (w.heap.size + 1) (w.heap.size + 1) (Lib.byteCells (textTo [a0, a1, a2, a3, a4, a5, a6, a7] k)) wr ∧ (textTo [a0, a1, a2, a3, a4, a5, a6, a7] k).length ≤ 30 * k ∧ w.heap.size + 1 ≤ wr.heap.size ∧ Below w.heap.size w wr) (fun i _ => 8 - (intOf i).toNat)
  case atStart =>
    refine ⟨0, Nat.zero_le _, rfl, ?_, by simp [textTo], by simp, ((Below.refl _ _).alloc (Nat.le_refl _) _).alloc (by simp) _⟩
    have := Lib.fresh_isBuilder 61 5 (w.alloc (.cells #[.int .u16 a0, .int .u16 a1, .int .u16 a2, .int .u16 a3, .int .u16 a4, .int .u16 a5, .int .u16 a6, .int .u16 a7] 24))
    simpa [textTo, Lib.byteCells] using this
  case round =>
    obtain ⟨k, hk, rfl, hB, hlen, hsz, hbw⟩ := hrel
    by_cases hlt : k < 8
    · have hi := hix k hlt
      have hx := hr k
      have hE := h.below hbw
      have hnm := hE.names.at k hlt
      clear hix hr
      generalize hX : [a0, a1, a2, a3, a4, a5, a6, a7].getD k 0 = X at *
      have HX : Hid ([a0, a1, a2, a3, a4, a5, a6, a7].getD k 0 = X) := hX
      clear hX
      by_cases hskip : X = 0 ∧ 2 ≤ k
      · obtain ⟨rfl, h2⟩ := hskip
        have e0 : ((k : Int) != 0) = true := by simp; omega
        have e1 : ((k : Int) != 1) = true := by simp; omega
        have hps : Hid (textTo [a0, a1, a2, a3, a4, a5, a6, a7] (k + 1) = textTo [a0, a1, a2, a3, a4, a5, a6, a7] k) := by
          show textTo _ (k + 1) = _
          rw [textTo, piece, HX.out, if_pos ⟨rfl, h2⟩, List.append_nil]
        go_wp2
        exact ⟨⟨k + 1, by omega, by go_num, by rw [hps.out]; exact hB, by rw [hps.out]; omega, hsz, hbw⟩, by simp [intOf]; omega⟩
      · have hps : Hid (textTo [a0, a1, a2, a3, a4, a5, a6, a7] (k + 1) = textTo [a0, a1, a2, a3, a4, a5, a6, a7] k ++ ((if k = 0 then [] else [32]) ++ nm8.getD k [] ++ [61] ++ Lib.itoa X)) := by
          show textTo _ (k + 1) = _
          rw [textTo, piece, HX.out, if_neg hskip]
        have hnl := nm8_len k
        have hil := itoa_len X hx.1 hx.2
        generalize nm8.getD k [] = nmk at *
        generalize textTo [a0, a1, a2, a3, a4, a5, a6, a7] k = T at *
        have HS : Hid (¬ (X = 0 ∧ 2 ≤ k)) := hskip
        clear hskip
        by_cases hk0 : k = 0
        · subst hk0
          have hi0 : ∀ w, (Instr.index 24 (.agg #[.int .u16 a0, .int .u16 a1, .int .u16 a2, .int .u16 a3, .int .u16 a4, .int .u16 a5, .int .u16 a6, .int .u16 a7]) (.int .i64 0)).run Tryd.prog w = .ok (.int .u16 X) w := hi
          clear hi
          cases hx0 : (X == 0)
          all_goals
            go_wp2_with fail
            refine (Tryd.Builder_WriteString (w.heap.size + 1) (w.heap.size + 1) _ ⟨nmk.toArray⟩ wr hB (by simp [Lib.byteCells_length, ByteArray.size]; omega) (by omega)).mono ?_
            rintro e w2 ⟨rfl, hB2, hb2⟩
            have hz2 := hb2.size
            go_wp2_with fail
            refine (Tryd.Builder_WriteByte (w.heap.size + 1) (w.heap.size + 1) _ 61 w2 (Or.inr hB2) (by simp [Lib.byteCells_length, Lib.strCells_length, ByteArray.size]; omega) (by omega)).mono ?_
            rintro e w3 ⟨rfl, hB3, hb3⟩
            have hz3 := hb3.size
            have hE3 : Env w3 := h.below (((hbw).trans (hb2.mono (by omega))).trans (hb3.mono (by omega)))
            go_wp2_with fail
            refine (Tryd.strconv_Itoa X (by omega) (by omega) w3 hE3.pow).mono ?_
            rintro e w4 ⟨rfl, kd, os, hw4⟩
            have hb4 : Below w3.heap.size w3 w4 := by rw [hw4]; exact below_grown kd os
            clear hw4 hE3
            have hB4 := builder_below hB3 hb4
            have hz4 := hb4.size
            go_wp2_with fail
            refine (Tryd.Builder_WriteString (w.heap.size + 1) (w.heap.size + 1) _ ⟨(Lib.itoa X).toArray⟩ w4 (Or.inr hB4) (by simp [Lib.byteCells_length, Lib.strCells_length, ByteArray.size]; omega) (by omega)).mono ?_
            rintro e w5 ⟨rfl, hB5, hb5⟩
            have hz5 := hb5.size
            have hfin : Below w.heap.size w w5 := ((((hbw).trans (hb2.mono (by omega))).trans (hb3.mono (by omega))).trans (hb4.mono (by omega))).trans (hb5.mono (by omega))
            clear hb2 hb3 hb4 hb5 hB2 hB3 hB4
            go_wp2
            exact ⟨⟨0 + 1, by omega, by go_num, by rw [hps.out, if_pos trivial, cells_0]; exact Or.inr hB5, by rw [hps.out, if_pos trivial]; simp; omega, by omega, hfin⟩, by simp [intOf]⟩
        · have hkp : 0 < k := by omega
          have e0 : ((k : Int) != 0) = true := by simp; omega
          have hcase : ((X == 0) = false) ∨ ((X == 0) = true ∧ k = 1) := by
            have := HS.out
            cases hx0 : (X == 0)
            · exact .inl rfl
            · simp at hx0; exact .inr ⟨rfl, by omega⟩
          have e1 : ((k : Int) != 1) = !decide (k = 1) := by
            by_cases hk1 : k = 1
            · subst hk1; rfl
            · simp [hk1]; omega
          rcases hcase with hx0 | ⟨hx0, hk1⟩
          · clear e1
            go_wp2_with fail
            refine (Tryd.Builder_WriteByte (w.heap.size + 1) (w.heap.size + 1) (Lib.byteCells T) 32 wr hB (by simp [Lib.byteCells_length]; omega) hsz).mono ?_
            rintro e w1 ⟨rfl, hB1, hb1⟩
            have hz1 := hb1.size
            have hn1 : w1.cell? ⟨0, k, none⟩ = some (.string ⟨nmk.toArray⟩) := by rw [hb1.cell (p := ⟨0, k, none⟩) (Nat.succ_pos _)]; exact hnm
            go_wp2_with fail
            refine (Tryd.Builder_WriteString (w.heap.size + 1) (w.heap.size + 1) _ ⟨nmk.toArray⟩ w1 (Or.inr hB1) (by simp [Lib.byteCells_length, ByteArray.size]; omega) (by omega)).mono ?_
            rintro e w2 ⟨rfl, hB2, hb2⟩
            have hz2 := hb2.size
            go_wp2_with fail
            refine (Tryd.Builder_WriteByte (w.heap.size + 1) (w.heap.size + 1) _ 61 w2 (Or.inr hB2) (by simp [Lib.byteCells_length, Lib.strCells_length, ByteArray.size]; omega) (by omega)).mono ?_
            rintro e w3 ⟨rfl, hB3, hb3⟩
            have hz3 := hb3.size
            have hE3 : Env w3 := h.below (((hbw.trans (hb1.mono (by omega))).trans (hb2.mono (by omega))).trans (hb3.mono (by omega)))
            go_wp2_with fail
            refine (Tryd.strconv_Itoa X (by omega) (by omega) w3 hE3.pow).mono ?_
            rintro e w4 ⟨rfl, kd, os, hw4⟩
            have hb4 : Below w3.heap.size w3 w4 := by rw [hw4]; exact below_grown kd os
            clear hw4 hE3
            have hB4 := builder_below hB3 hb4
            have hz4 := hb4.size
            go_wp2_with fail
            refine (Tryd.Builder_WriteString (w.heap.size + 1) (w.heap.size + 1) _ ⟨(Lib.itoa X).toArray⟩ w4 (Or.inr hB4) (by simp [Lib.byteCells_length, Lib.strCells_length, ByteArray.size]; omega) (by omega)).mono ?_
            rintro e w5 ⟨rfl, hB5, hb5⟩
            have hz5 := hb5.size
            have hfin : Below w.heap.size w w5 := ((((hbw.trans (hb1.mono (by omega))).trans (hb2.mono (by omega))).trans (hb3.mono (by omega))).trans (hb4.mono (by omega))).trans (hb5.mono (by omega))
            clear hb2 hb3 hb4 hb5 hB2 hB3 hB4
            go_wp2
            exact ⟨⟨k + 1, by omega, by go_num, by rw [hps.out, if_neg hk0, cells_k]; exact Or.inr hB5, by rw [hps.out, if_neg hk0]; simp; omega, by omega, hfin⟩, by simp [intOf]; omega⟩
          · subst hk1
            have hi1 : ∀ w, (Instr.index 24 (.agg #[.int .u16 a0, .int .u16 a1, .int .u16 a2, .int .u16 a3, .int .u16 a4, .int .u16 a5, .int .u16 a6, .int .u16 a7]) (.int .i64 1)).run Tryd.prog w = .ok (.int .u16 X) w := hi
            clear e1 hi
            go_wp2_with fail
            refine (Tryd.Builder_WriteByte (w.heap.size + 1) (w.heap.size + 1) (Lib.byteCells T) 32 wr hB (by simp [Lib.byteCells_length]; omega) hsz).mono ?_
            rintro e w1 ⟨rfl, hB1, hb1⟩
            have hz1 := hb1.size
            have hn1 : w1.cell? ⟨0, 1, none⟩ = some (.string ⟨nmk.toArray⟩) := by rw [hb1.cell (p := ⟨0, 1, none⟩) (Nat.succ_pos _)]; exact hnm
            go_wp2_with fail
            refine (Tryd.Builder_WriteString (w.heap.size + 1) (w.heap.size + 1) _ ⟨nmk.toArray⟩ w1 (Or.inr hB1) (by simp [Lib.byteCells_length, ByteArray.size]; omega) (by omega)).mono ?_
            rintro e w2 ⟨rfl, hB2, hb2⟩
            have hz2 := hb2.size
            go_wp2_with fail
            refine (Tryd.Builder_WriteByte (w.heap.size + 1) (w.heap.size + 1) _ 61 w2 (Or.inr hB2) (by simp [Lib.byteCells_length, Lib.strCells_length, ByteArray.size]; omega) (by omega)).mono ?_
            rintro e w3 ⟨rfl, hB3, hb3⟩
            have hz3 := hb3.size
            have hE3 : Env w3 := h.below (((hbw.trans (hb1.mono (by omega))).trans (hb2.mono (by omega))).trans (hb3.mono (by omega)))
            go_wp2_with fail
            refine (Tryd.strconv_Itoa X (by omega) (by omega) w3 hE3.pow).mono ?_
            rintro e w4 ⟨rfl, kd, os, hw4⟩
            have hb4 : Below w3.heap.size w3 w4 := by rw [hw4]; exact below_grown kd os
            clear hw4 hE3
            have hB4 := builder_below hB3 hb4
            have hz4 := hb4.size
            go_wp2_with fail
            refine (Tryd.Builder_WriteString (w.heap.size + 1) (w.heap.size + 1) _ ⟨(Lib.itoa X).toArray⟩ w4 (Or.inr hB4) (by simp [Lib.byteCells_length, Lib.strCells_length, ByteArray.size]; omega) (by omega)).mono ?_
            rintro e w5 ⟨rfl, hB5, hb5⟩
            have hz5 := hb5.size
            have hfin : Below w.heap.size w w5 := ((((hbw.trans (hb1.mono (by omega))).trans (hb2.mono (by omega))).trans (hb3.mono (by omega))).trans (hb4.mono (by omega))).trans (hb5.mono (by omega))
            clear hb2 hb3 hb4 hb5 hB2 hB3 hB4
            go_wp2
            exact ⟨⟨1 + 1, by omega, by go_num, by rw [hps.out, if_neg (by decide), cells_k]; exact Or.inr hB5, by rw [hps.out, if_neg (by decide)]; simp; omega, by omega, hfin⟩, by simp [intOf]⟩
    · have hk8 : k = 8 := by omega
      subst hk8
      clear hix hr h
      go_wp2_with fail
      refine (Tryd.Builder_String_any (w.heap.size + 1) (w.heap.size + 1) (textTo [a0, a1, a2, a3, a4, a5, a6, a7] 8) wr hB (by omega)).mono ?_
      rintro e w1 ⟨rfl, hb1⟩
      go_wp2
      go_ret
      exact ⟨rfl, hbw.trans (hb1.mono (by omega))⟩
end Go.Proofs.YtcfploigpnjmoaaDoor

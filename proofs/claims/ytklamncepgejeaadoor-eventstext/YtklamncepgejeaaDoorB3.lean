/- What events.Text answers: the text of the set, where the table that TrailingZeros64 reads holds what the row lists. -/
import Derived.Test.YtklamncepgejeaaDoorB2
set_option linter.unusedVariables false
set_option linter.unusedSimpArgs false
namespace Go.Proofs.YtklamncepgejeaaDoor
open Go.RowKit Go.Joins Go.Sort

theorem builderF_below {B b : Nat} {p : Value} {bs : List Value} {w w' : World} (h : Lib.BuilderAtF 45 5 B b p bs w) (hb : Below w.heap.size w w') : Lib.BuilderAtF 45 5 B b p bs w' := by
  obtain ⟨hB, v, hv, hown, hne⟩ := h
  have hlt : b < w.heap.size := (Array.getElem?_eq_some_iff.1 hv).1
  refine ⟨hB, v, (hb.block b hlt).trans hv, ⟨hown.1, ?_⟩, hne⟩
  rcases hown.2 with hn | ⟨g, cap, cur, fz, hv, hg, hgg, rest⟩
  · exact .inl hn
  · exact .inr ⟨g, cap, cur, fz, hv, hg, by rw [hb.block g (Array.getElem?_eq_some_iff.1 hgg).1]; exact hgg, rest⟩
theorem builderF_lt {B b : Nat} {p : Value} {bs : List Value} {w : World} (h : Lib.BuilderAtF 45 5 B b p bs w) : b < w.heap.size := by
  obtain ⟨hB, v, hv, hown, hne⟩ := h
  exact (Array.getElem?_eq_some_iff.1 hv).1
theorem cells_first (x : List UInt8) : Lib.byteCells (123 :: ([] ++ ([] ++ x))) = Lib.byteCells [123] ++ Lib.strCells ⟨x.toArray⟩ := by
  simp [Lib.byteCells, Lib.strCells]
theorem cells_next (T x : List UInt8) : Lib.byteCells (123 :: (T ++ ([44] ++ x))) = (Lib.byteCells (123 :: T) ++ [.int .u8 44]) ++ Lib.strCells ⟨x.toArray⟩ := by
  simp [Lib.byteCells, Lib.strCells]
theorem cells_zero (T x : List UInt8) : Lib.byteCells (123 :: (T ++ ([] ++ x))) = Lib.byteCells (123 :: T) ++ Lib.strCells ⟨x.toArray⟩ := by
  simp [Lib.byteCells, Lib.strCells]
theorem cells_last (T : List UInt8) : Lib.byteCells (123 :: (T ++ [125])) = Lib.byteCells (123 :: T) ++ [.int .u8 125] := by
  simp [Lib.byteCells]
theorem kept_list {b g : Nat} {cur : Array Value} {w w' : World} (h : Lib.OthersKept 5 (some b) w w') (hg : w.heap[g]? = some (.cells cur 3 (0, 0))) (hne : g ≠ b) : w'.heap[g]? = some (.cells cur 3 (0, 0)) :=
  h g _ hg (fun e => hne (Option.some.inj e)) (fun c fz e => by injection e with _ e2; exact absurd e2 (by decide))

/-- A builder behind whose writing stands its last byte and the text. -/
theorem text_end (T : List UInt8) (hT : T.length ≤ 200) (B b : Nat) (w : World) (hBw : B ≤ w.heap.size) (h : Lib.BuilderAtF 45 5 B b (.pointer (some ⟨b, 0, none⟩)) (Lib.byteCells (123 :: T)) w) :
    Calls Tryd.prog 28 #[.pointer (some ⟨b, 0, none⟩), .int .u8 125] w fun e w' => e = .returned .nilIface ∧ Lib.BuilderAtF 45 5 B b (.pointer (some ⟨b, 0, none⟩)) (Lib.byteCells (123 :: (T ++ [125]))) w' ∧ Below B w w' := by
  refine (Tryd.Builder_WriteByte_k B b _ 125 w (Or.inr h) (by simp [Lib.byteCells_length]; omega) hBw).mono ?_
  rintro e w' ⟨he, hB, hb, _⟩
  exact ⟨he, by rw [cells_last]; exact hB, hb⟩

set_option maxRecDepth 100000 in
set_option maxHeartbeats 1000000 in
theorem text_any (s : Nat) (hs : s < 18446744073709551616) (w : World) (h : Env w) :
    Calls Tryd.prog 21 #[sv s] w fun e w' => e = .returned (.string ⟨(textOf s).toArray⟩) ∧ Below w.heap.size w w' := by
  have hl64 := evs_len s
  have hlt64 := evs_lt s
  go_enter Tryd.func21, Tryd.ntmps21
  go_wp2_with fail
  have hfr := Lib.fresh_isBuilder 45 5 w
  refine (Tryd.Builder_WriteByte_k w.heap.size w.heap.size [] 123 _ (Lib.IsBuilderF.of hfr) (by simp) (by simp)).mono ?_
  rintro e w1 ⟨rfl, hB1, hb1, _⟩
  have hbw1 : Below w.heap.size w w1 := ((Below.refl _ _).alloc (Nat.le_refl _) _).trans hb1
  have hB1' : Lib.BuilderAtF 45 5 w.heap.size w.heap.size (.pointer (some ⟨w.heap.size, 0, none⟩)) (Lib.byteCells [123]) w1 := hB1
  clear hfr hB1 hb1
  have hE1 := h.below hbw1
  have hz1 := hbw1.size
  have hli := list_any s hs w1 hE1
  go_wp2_with fail
  refine hli.mono ?_
  rintro e w2 ⟨v, rfl, hown, hb2⟩
  clear hli
  have hbw2 : Below w.heap.size w w2 := hbw1.trans (hb2.mono hz1)
  have hB2 := builderF_below hB1' hb2
  have hlt1 := builderF_lt hB1'
  have hz2 := hb2.size
  clear hB1' hbw1 hE1
  have hT : textOf s = 123 :: (joinD (evs s) ++ [125]) := rfl
  rcases hown.2 with ⟨rfl, h0⟩ | ⟨g, cap, cur, rfl, hg, hgg, hcap, hmax, hsz, htake⟩
  · have h0' : evs s = [] := List.length_eq_zero_iff.1 h0
    rw [h0'] at hT
    clear hown
    go_wp2
    refine wp_loop_rounds 1 ?_
    rw [rounds_succ]
    go_wp2_with fail
    refine (text_end [] (by simp) w.heap.size w.heap.size w2 (by omega) hB2).mono ?_
    rintro e w3 ⟨rfl, hB3, hb3⟩
    go_wp2_with fail
    refine (Tryd.Builder_String_k w.heap.size w.heap.size (123 :: ([] ++ [125])) w3 (Or.inr hB3) (by simp)).mono ?_
    rintro e w4 ⟨rfl, _, hb4, _⟩
    go_wp2
    go_ret
    exact ⟨by rw [hT]; rfl, (hbw2.trans hb3).trans hb4⟩
  · have hgb : g ≠ w.heap.size := by omega
    clear hown
    generalize evs s = L at *
    go_wp2
    go_loopw [10] (fun iw wr => ∃ k : Nat, k ≤ L.length ∧ iw = .int .i64 k ∧ Lib.BuilderAtF 45 5 w.heap.size w.heap.size (.pointer (some ⟨w.heap.size, 0, none⟩)) (Lib.byteCells (123 :: joinD (L.take k))) wr ∧ wr.heap[g]? = some (.cells cur 3 (0, 0)) ∧ w.heap.size ≤ wr.heap.size ∧ Below w.heap.size w wr) (fun i _ => L.length - (intOf i).toNat)
    case atStart => exact ⟨0, Nat.zero_le _, rfl, hB2, hgg, by omega, hbw2⟩
    case round =>
      clear hgg hB2 hbw2 hb2
      obtain ⟨k, hk, rfl, hB, hgg, hwsz, hbw⟩ := hrel
      by_cases hlt : k < L.length
      · have hck : wr.cell? ⟨g, k, none⟩ = some (.int .i64 (L[k] : Nat)) := by
          rw [cell_of_row _ _ _ _ _ _ hgg]
          have key : cur[k]? = (iv L)[k]? := by
            rw [← htake, List.getElem?_take_of_lt (by omega), Array.getElem?_toList]
          rw [key]
          simp [iv, List.getElem?_map, List.getElem?_eq_getElem hlt]
        have hx := hlt64 L[k] (List.getElem_mem hlt)
        have hjt := joinD_take L k hlt
        have hjl := (joinD_len (L.take k)).2
        rw [List.length_take] at hjl
        have hjl' : (joinD (L.take k)).length ≤ 192 := by omega
        clear hjl
        generalize L[k] = x at *
        have hit := Tryd.strconv_Itoa_small x (by omega)
        rw [dig_dec x hx] at hit
        have hdl := dig_len x
        have HJ : Hid (joinD (L.take (k + 1)) = joinD (L.take k) ++ ((if k = 0 then [] else [44]) ++ dig x)) := hjt
        clear hjt hlt64 htake
        generalize joinD (L.take k) = T at *
        generalize dig x = D at *
        by_cases hk0 : k = 0
        · subst hk0
          go_wp2_with (go_at_call 30; refine (hit _).mono ?_; rintro r wX ⟨rfl, hwX⟩; subst wX)
          refine (Tryd.Builder_WriteString_k w.heap.size w.heap.size _ ⟨D.toArray⟩ wr (Or.inr hB) (by simp [Lib.byteCells_length, ByteArray.size]; omega) hwsz).mono ?_
          rintro e w3 ⟨rfl, hB3, hb3, hk3⟩
          have hg3 := kept_list hk3 hgg hgb
          have hz3 := hb3.size
          have hbw3 := hbw.trans hb3
          clear hk3 hgg hb3 hbw hB
          go_wp2
          exact ⟨⟨0 + 1, by omega, by go_num, by rw [HJ.out, if_pos trivial, cells_zero]; exact hB3, hg3, by omega, hbw3⟩, by simp [intOf]; omega⟩
        · have hk0' : (0 : Int) < (k : Int) := by omega
          go_wp2_with fail
          refine (Tryd.Builder_WriteByte_k w.heap.size w.heap.size _ 44 wr (Or.inr hB) (by simp [Lib.byteCells_length]; omega) hwsz).mono ?_
          rintro e w3 ⟨rfl, hB3, hb3, hk3⟩
          have hg3 := kept_list hk3 hgg hgb
          have hz3 := hb3.size
          have hbw3 := hbw.trans hb3
          clear hk3 hgg hb3 hbw hB
          go_wp2_with (go_at_call 30; refine (hit _).mono ?_; rintro r wX ⟨rfl, hwX⟩; subst wX)
          refine (Tryd.Builder_WriteString_k w.heap.size w.heap.size _ ⟨D.toArray⟩ w3 (Or.inr hB3) (by simp [Lib.byteCells_length, ByteArray.size]; omega) (by omega)).mono ?_
          rintro e w4 ⟨rfl, hB4, hb4, hk4⟩
          have hg4 := kept_list hk4 hg3 hgb
          have hz4 := hb4.size
          have hbw4 := hbw3.trans hb4
          clear hk4 hg3 hb4 hbw3 hB3
          go_wp2
          exact ⟨⟨k + 1, by omega, by go_num, by rw [HJ.out, if_neg hk0, cells_next]; exact hB4, hg4, by omega, hbw4⟩, by simp [intOf]; omega⟩
      · have hkl : k = L.length := by omega
        subst hkl
        rw [List.take_length] at hB
        have hjl := (joinD_len L).2
        clear hlt64 htake
        go_wp2_with fail
        refine (text_end (joinD L) (by omega) w.heap.size w.heap.size wr hwsz hB).mono ?_
        rintro e w3 ⟨rfl, hB3, hb3⟩
        go_wp2_with fail
        refine (Tryd.Builder_String_k w.heap.size w.heap.size (123 :: (joinD L ++ [125])) w3 (Or.inr hB3) (by simp)).mono ?_
        rintro e w4 ⟨rfl, _, hb4, _⟩
        go_wp2
        go_ret
        exact ⟨by rw [hT]; rfl, (hbw.trans hb3).trans hb4⟩
end Go.Proofs.YtklamncepgejeaaDoor

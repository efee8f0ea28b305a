/- What the document's Text answers: the set's text; no conditions but the set's range. -/
import Derived.Test.YtklamncepgejeaaDoorB4
set_option linter.unusedVariables false
set_option linter.unusedSimpArgs false
namespace Go.Proofs.YtklamncepgejeaaDoor
open Go.RowKit Go.Joins Go.Sort

theorem cat_end (T : List UInt8) : ((⟨(123 :: T).toArray⟩ : ByteArray) ++ ⟨#[125]⟩) = ⟨(123 :: (T ++ [125])).toArray⟩ := by
  rw [show (⟨#[125]⟩ : ByteArray) = ⟨([125] : List UInt8).toArray⟩ from rfl, cat_two]; rfl
theorem cat_zero (T D : List UInt8) : ((⟨(123 :: T).toArray⟩ : ByteArray) ++ ⟨D.toArray⟩) = ⟨(123 :: (T ++ ([] ++ D))).toArray⟩ := by
  rw [cat_two]; rfl
theorem cat_next (T D : List UInt8) : (((⟨(123 :: T).toArray⟩ : ByteArray) ++ ⟨#[44]⟩) ++ ⟨D.toArray⟩) = ⟨(123 :: (T ++ ([44] ++ D))).toArray⟩ := by
  rw [show (⟨#[44]⟩ : ByteArray) = ⟨([44] : List UInt8).toArray⟩ from rfl, cat_two, cat_two]; simp

set_option maxRecDepth 100000 in
set_option maxHeartbeats 1000000 in
theorem rtext_any (s : Nat) (hs : s < 18446744073709551616) (w : World) :
    Calls Tryd.prog 23 #[sv s] w fun e w' => e = .returned (.string ⟨(textOf s).toArray⟩) ∧ Below w.heap.size w w' := by
  have hl64 := evs_len s
  have hlt64 := evs_lt s
  have hli := rlist_any s hs w
  have hT : textOf s = 123 :: (joinD (evs s) ++ [125]) := rfl
  go_enter Tryd.func23, Tryd.ntmps23
  go_wp2_with fail
  refine hli.mono ?_
  rintro e w2 ⟨v, rfl, hown, hb2⟩
  clear hli
  have hz2 := hb2.size
  rcases hown.2 with ⟨rfl, h0⟩ | ⟨g, cap, cur, rfl, hg, hgg, hcap, hmax, hsz, htake⟩
  · have h0' : evs s = [] := List.length_eq_zero_iff.1 h0
    rw [h0'] at hT
    clear hown
    go_wp2
    refine wp_loop_rounds 1 ?_
    rw [rounds_succ]
    go_wp2
    go_ret
    exact ⟨by rw [hT]; rfl, hb2⟩
  · clear hown
    generalize evs s = L at *
    go_wp2
    go_loopw [3, 5] (fun ov iw wr => ∃ k : Nat, k ≤ L.length ∧ iw = .int .i64 k ∧ ov = .string ⟨(123 :: joinD (L.take k)).toArray⟩ ∧ wr.heap[g]? = some (.cells cur 3 (0, 0)) ∧ w.heap.size ≤ wr.heap.size ∧ Below w.heap.size w wr) (fun _ i _ => L.length - (intOf i).toNat)
    case atStart => exact ⟨0, Nat.zero_le _, rfl, rfl, hgg, by omega, hb2⟩
    case round =>
      clear hgg hb2
      obtain ⟨k, hk, rfl, rfl, hgg, hwsz, hbw⟩ := hrel
      by_cases hlt : k < L.length
      · have hck : wr.cell? ⟨g, k, none⟩ = some (.int .i64 (L[k] : Nat)) := by
          rw [cell_of_row _ _ _ _ _ _ hgg]
          have key : cur[k]? = (iv L)[k]? := by
            rw [← htake, List.getElem?_take_of_lt (by omega), Array.getElem?_toList]
          rw [key]
          simp [iv, List.getElem?_map, List.getElem?_eq_getElem hlt]
        have hx := hlt64 L[k] (List.getElem_mem hlt)
        have hjt := joinD_take L k hlt
        have hjl := (joinD_len (L.take k)).2
        rw [List.length_take] at hjl
        have hjl' : (joinD (L.take k)).length ≤ 192 := by omega
        clear hjl
        generalize L[k] = x at *
        have hdi := digits_any x hx
        have hdl := dig_len x
        have HJ : Hid (joinD (L.take (k + 1)) = joinD (L.take k) ++ ((if k = 0 then [] else [44]) ++ dig x)) := hjt
        clear hjt hlt64 htake
        generalize joinD (L.take k) = T at *
        generalize dig x = D at *
        have hglt := heap_lt hgg
        by_cases hk0 : k = 0
        · subst hk0
          go_wp2_with fail
          refine (hdi wr).mono ?_
          rintro e w3 ⟨rfl, hb3⟩
          have hg3 : w3.heap[g]? = some (.cells cur 3 (0, 0)) := by rw [hb3.block g hglt]; exact hgg
          have hz3 := hb3.size
          have hbw3 := hbw.trans (hb3.mono hwsz)
          clear hgg hb3 hbw hck
          go_wp2
          exact ⟨⟨0 + 1, by omega, by go_num, by rw [HJ.out, if_pos trivial, ← cat_zero], hg3, by omega, hbw3⟩, by simp [intOf]; omega⟩
        · have hk0' : (0 : Int) < (k : Int) := by omega
          go_wp2_with fail
          refine (hdi wr).mono ?_
          rintro e w3 ⟨rfl, hb3⟩
          have hg3 : w3.heap[g]? = some (.cells cur 3 (0, 0)) := by rw [hb3.block g hglt]; exact hgg
          have hz3 := hb3.size
          have hbw3 := hbw.trans (hb3.mono hwsz)
          clear hgg hb3 hbw hck
          go_wp2
          exact ⟨⟨k + 1, by omega, by go_num, by rw [HJ.out, if_neg hk0, ← cat_next], hg3, by omega, hbw3⟩, by simp [intOf]; omega⟩
      · have hkl : k = L.length := by omega
        subst hkl
        rw [List.take_length]
        have hjl := (joinD_len L).2
        clear hlt64 htake
        have hce := cat_end (joinD L)
        go_wp2
        go_ret
        exact ⟨by rw [hT, ← hce]; rfl, hbw⟩
end Go.Proofs.YtklamncepgejeaaDoor

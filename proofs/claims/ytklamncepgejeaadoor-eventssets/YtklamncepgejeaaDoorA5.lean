/- What the document's In answers: whether every event of the one set is in the other; no conditions but the sets' range. -/
import Derived.Test.YtklamncepgejeaaDoorA4
set_option linter.unusedVariables false
set_option linter.unusedSimpArgs false
namespace Go.Proofs.YtklamncepgejeaaDoor
open Go.RowKit

theorem all_snoc (L : List Nat) (f : Nat → Bool) (k : Nat) (h : k < L.length) (hp : (L.take k).all f = true) (hf : f L[k] = true) : (L.take (k + 1)).all f = true := by
  rw [List.take_succ_eq_append_getElem h, List.all_append, hp]; simp [hf]
theorem all_not (L : List Nat) (f : Nat → Bool) (k : Nat) (h : k < L.length) (hf : f L[k] = false) : L.all f = false := by
  rw [List.all_eq_false]; exact ⟨L[k], List.getElem_mem h, by simp [hf]⟩
set_option maxRecDepth 100000 in
set_option maxHeartbeats 1000000 in
theorem rin_any (a b : Nat) (ha : a < 18446744073709551616) (hb : b < 18446744073709551616) (w : World) :
    Calls Tryd.prog 20 #[sv a, sv b] w fun r w' => r = .returned (.bool (decide (diff a b = 0))) ∧ Below w.heap.size w w' := by
  rw [← evs_in a b ha]
  have hl := rlist_any a ha w
  go_enter Tryd.func20, Tryd.ntmps20
  go_wp2_with fail
  refine hl.mono ?_
  rintro r w1 ⟨v, rfl, hown, hb1⟩
  clear hl
  have hint := ints_own hown
  have hmem := evs_lt a
  clear hown
  obtain ⟨p, cap, rfl, hlen, hc⟩ := hint
  rw [zl_length] at hlen
  have hzl := zl_length (evs a)
  rcases hc with h0 | ⟨ad, rfl, _, hc⟩
  · have h0' : evs a = [] := by cases he : evs a with | nil => rfl | cons x l => rw [he] at h0; simp [zl] at h0
    rw [h0']
    go_wp2
    refine wp_loop_rounds 1 ?_
    rw [rounds_succ]
    go_wp2
    go_ret
    exact ⟨by rw [h0']; rfl, hb1⟩
  · have hc' : ∀ i (h : i < (evs a).length), w1.cell? (ad.add i) = some (.int .i64 ((evs a)[i] : Nat)) := by
      intro i hi
      rw [hc i (by rw [hzl]; exact hi)]
      simp [zl]
    clear hc
    rw [hzl]
    generalize hLe : evs a = L at *
    have HL : Hid (evs a = L) := hLe
    clear hLe
    go_wp2
    go_loopw [6] (fun iw wr => ∃ k : Nat, k ≤ L.length ∧ iw = .int .i64 k ∧ Hid ((L.take k).all (fun i => b.testBit i) = true) ∧ wr = w1) (fun i _ => L.length - (intOf i).toNat)
    case atStart => exact ⟨0, Nat.zero_le _, rfl, rfl, rfl⟩
    case round =>
      obtain ⟨k, hk, rfl, hall, rfl⟩ := hrel
      by_cases hlt : k < L.length
      · have hck := hc' k hlt
        have hm := hmem L[k] (List.getElem_mem hlt)
        have hsn := all_snoc L (fun i => b.testBit i) k hlt hall.out
        have hno := all_not L (fun i => b.testBit i) k hlt
        clear hc' hmem
        generalize L[k] = x at *
        have hh := rhas_in b x hm hb
        cases hbx : b.testBit x
        · have hfin : Hid (L.all (fun i => b.testBit i) = false) := hno hbx
          clear hsn hno
          rw [hbx] at hh
          clear hbx
          go_wp2_with (go_at_call 13; refine (hh _).mono ?_; rintro r wX ⟨rfl, hwX⟩; subst wX)
          go_ret
          exact ⟨by rw [HL.out, hfin.out]; rfl, hb1⟩
        · have hfin : Hid ((L.take (k + 1)).all (fun i => b.testBit i) = true) := hsn hbx
          clear hsn hno
          rw [hbx] at hh
          clear hbx
          go_wp2_with (go_at_call 13; refine (hh _).mono ?_; rintro r wX ⟨rfl, hwX⟩; subst wX)
          exact ⟨⟨k + 1, by omega, by go_num, hfin, trivial⟩, by simp [intOf]; omega⟩
      · have hkn : k = L.length := by omega
        have hfin : Hid (L.all (fun i => b.testBit i) = true) := by
          have := hall.out; rw [hkn, List.take_length] at this; exact this
        clear hall
        subst hkn
        go_wp2
        go_ret
        exact ⟨by rw [HL.out, hfin.out]; rfl, hb1⟩
end Go.Proofs.YtklamncepgejeaaDoor

/- Whether pairs rise by fields that there are: table.isRising and the document's Rising; any pairs. -/
import Derived.Test.YtbcikkofbdfmaaaX4
import Derived.Deep.QuietTactic
import Derived.BigQuiet
set_option linter.unusedVariables false
set_option linter.unusedSimpArgs false
namespace Go.Proofs.Ytbcikkofbdfmaaa
open Go.RowKit Go.Joins Go.Sort

/-- The field of the last pair. -/
def lastF (lo : Int) : Prs → Int
  | [] => lo
  | c :: r => lastF c.1 r
/-- They rise from here, below 8. -/
def riseF (lo : Int) : Prs → Bool
  | [] => true
  | c :: r => (decide (lo < c.1) && decide (c.1 < 8)) && riseF c.1 r
def rises (L : Prs) : Bool := riseF (-1) L
theorem lastF_snoc : ∀ (L : Prs) (lo : Int) (c : Int × Int), lastF lo (L ++ [c]) = c.1
  | [], _, _ => rfl
  | d :: L, lo, c => by rw [List.cons_append, lastF, lastF_snoc L]
theorem riseF_snoc : ∀ (L : Prs) (lo : Int) (c : Int × Int), riseF lo (L ++ [c]) = (riseF lo L && (decide (lastF lo L < c.1) && decide (c.1 < 8)))
  | [], lo, c => by show ((_ && _) && true) = (true && (_ && _)); rw [Bool.and_true, Bool.true_and]; rfl
  | d :: L, lo, c => by rw [List.cons_append, riseF, riseF_snoc L, riseF, lastF]; exact (Bool.and_assoc _ _ _).symm
theorem riseF_more : ∀ (A B : Prs) (lo : Int), riseF lo A = false → riseF lo (A ++ B) = false
  | [], B, lo, h => by simp [riseF] at h
  | d :: A, B, lo, h => by
    rw [List.cons_append, riseF]
    rw [riseF] at h
    cases h1 : (decide (lo < d.1) && decide (d.1 < 8)) with
    | false => rfl
    | true => rw [h1, Bool.true_and] at h; rw [Bool.true_and]; exact riseF_more A B d.1 h
theorem rises_not {L : Prs} {k : Nat} (h : k < L.length) (hn : (decide (lastF (-1) (L.take k) < L[k].1) && decide (L[k].1 < 8)) = false) : rises L = false := by
  have : rises (L.take (k + 1)) = false := by
    unfold rises
    rw [List.take_succ_eq_append_getElem h, riseF_snoc, hn, Bool.and_false]
  unfold rises at this ⊢
  rw [← List.take_append_drop (k + 1) L]
  exact riseF_more _ _ _ this
theorem rises_step {L : Prs} {k : Nat} (h : k < L.length) (hr : rises (L.take k) = true) (hy : (decide (lastF (-1) (L.take k) < L[k].1) && decide (L[k].1 < 8)) = true) : rises (L.take (k + 1)) = true := by
  unfold rises at hr ⊢
  rw [List.take_succ_eq_append_getElem h, riseF_snoc, hr, hy]
  rfl
theorem lastF_step {L : Prs} {k : Nat} (h : k < L.length) : lastF (-1) (L.take (k + 1)) = L[k].1 := by rw [List.take_succ_eq_append_getElem h, lastF_snoc]
abbrev qob (F N : Int) : Obj := .cells #[.int .i64 F, .int .u16 N] 50

set_option maxRecDepth 100000 in
set_option maxHeartbeats 4000000 in
theorem rise_any (v : Value) (L : Prs) (w : World) (h : PairsAny w v L) : Calls Try.prog 58 #[v] w fun e w' => e = .returned (.bool (rises L)) ∧ Below w.heap.size w w' := by
  obtain ⟨sa, sc, rfl, hl, hc⟩ := h.form
  have HC := hid hc
  obtain ⟨R, hR⟩ : ∃ R, L.length = R := ⟨_, rfl⟩
  have HR := hid hR
  rw [hR] at hl ⊢
  clear hc hR h
  go_enter Try.func58, Try.ntmps58
  go_wp2
  go_loopw [3, 8] (fun lv i wr => ∃ (k : Nat) (z : Int), k ≤ R ∧ i = .int .i64 (k : Int) ∧ lv = .int .i64 z ∧ Hid (z = lastF (-1) (L.take k)) ∧ Hid (rises (L.take k) = true) ∧ Hid (Below w.heap.size w wr)) (fun _ i _ => R - (intOf i).toNat)
  case atStart => exact ⟨0, -1, Nat.zero_le _, rfl, rfl, rfl, rfl, Below.refl _ _⟩
  case round =>
    obtain ⟨k, z, hk, rfl, rfl, HZ, HT, HB⟩ := hrel
    by_cases hlt : k < R
    · have hlt' : k < L.length := by rw [HR.out]; exact hlt
      have dk : decide ((k : Int) < (R : Int)) = true := by simp; omega
      obtain ⟨b, off, rfl, hb, hx, hy⟩ := HC.out k hlt'
      have hx2 := (HB.out.cell (p := ⟨b, off + k * 2, none⟩) hb).trans hx
      have hy2 := (HB.out.cell (p := ⟨b, off + k * 2 + 1, none⟩) hb).trans hy
      obtain ⟨F, hF⟩ : ∃ F, L[k].1 = F := ⟨_, rfl⟩
      obtain ⟨N, hN⟩ : ∃ N, L[k].2 = N := ⟨_, rfl⟩
      have HF := hid hF
      rw [hF] at hx2
      rw [hN] at hy2
      have HB2 : Hid (Below w.heap.size w (wr.alloc (qob F N))) := HB.out.alloc HB.out.size _
      have hr1 : (wr.alloc (qob F N)).heap[wr.heap.size]? = some (qob F N) := heap_alloc_new _ _
      obtain ⟨c0, c1⟩ := row2 hr1
      clear hx hy hF hN hr1
      by_cases h1 : F ≤ z
      · have d1 : decide (F ≤ z) = true := by simp; omega
        have HE : Hid (rises L = false) := rises_not hlt' (by rw [← HZ.out, HF.out, decide_eq_false (by omega), Bool.false_and])
        go_wp2
        go_ret
        exact ⟨by rw [HE.out]; rfl, HB2.out⟩
      · have d1 : decide (F ≤ z) = false := by simp; omega
        by_cases h2 : 8 ≤ F
        · have d2 : decide (8 ≤ F) = true := by simp; omega
          have HE : Hid (rises L = false) := rises_not hlt' (by rw [← HZ.out, HF.out, decide_eq_false (show ¬ F < 8 by omega), Bool.and_false])
          go_wp2
          go_ret
          exact ⟨by rw [HE.out]; rfl, HB2.out⟩
        · have d2 : decide (8 ≤ F) = false := by simp; omega
          have HT2 : Hid (rises (L.take (k + 1)) = true) := rises_step hlt' HT.out (by rw [← HZ.out, HF.out, decide_eq_true (by omega), decide_eq_true (by omega)]; rfl)
          have HZ2 : Hid (F = lastF (-1) (L.take (k + 1))) := by show _ = _; rw [lastF_step hlt', HF.out]
          go_wp2
          go_roundw
          case rel => exact ⟨k + 1, F, by omega, by go_num, rfl, HZ2, HT2, HB2⟩
          case measure => simp [intOf]; omega
    · obtain rfl : k = R := by omega
      have dk : decide ((k : Int) < (k : Int)) = false := by simp
      have HE : Hid (rises L = true) := by
        have := HT.out
        rwa [List.take_of_length_le (by rw [HR.out]; exact Nat.le_refl _)] at this
      go_wp2
      go_ret
      exact ⟨by rw [HE.out]; rfl, HB.out⟩
end Go.Proofs.Ytbcikkofbdfmaaa

/- Walks over the functions of package packet; no conditions of mine. -/
import Derived.Test.YtcfploigpnjmoaaDoorA2
import Derived.Deep.QuietTactic
import Derived.BigQuiet
set_option linter.unusedVariables false
set_option linter.unusedSimpArgs false
namespace Go.Proofs.YtcfploigpnjmoaaDoor
open Go.RowKit

def hasOne (l : List Int) (c : Int × Int) : Bool := decide (0 ≤ c.1 ∧ c.1 < 8) && (l.getD c.1.toNat 0 == c.2)
def hasAll (l : List Int) (L : List (Int × Int)) : Bool := L.all (hasOne l)

theorem has_snoc (l : List Int) (L : List (Int × Int)) (k : Nat) (h : k < L.length) : hasAll l (L.take (k + 1)) = (hasAll l (L.take k) && hasOne l L[k]) := by
  unfold hasAll; rw [List.take_succ_eq_append_getElem h, List.all_append]; simp
theorem has_not (l : List Int) (L : List (Int × Int)) (k : Nat) (h : k < L.length) (hn : hasOne l L[k] = false) : hasAll l L = false := by
  unfold hasAll; rw [List.all_eq_false]; exact ⟨L[k], List.getElem_mem h, by simp [hn]⟩

theorem getD8 {w : World} {g : Nat} {t : TypeId} {b0 b1 b2 b3 b4 b5 b6 b7 : Int} (hg : w.heap[g]? = some (.cells #[.int .u16 b0, .int .u16 b1, .int .u16 b2, .int .u16 b3, .int .u16 b4, .int .u16 b5, .int .u16 b6, .int .u16 b7] t)) (f : Int) (h0 : 0 ≤ f) (h8 : f < 8) :
    w.cell? ⟨g, f.toNat, none⟩ = some (.int .u16 ([b0, b1, b2, b3, b4, b5, b6, b7].getD f.toNat 0)) := by
  obtain ⟨⟨q0, q1, q2, q3, q4, q5, q6, q7⟩, _, _⟩ := row8 hg
  have hc : f = 0 ∨ f = 1 ∨ f = 2 ∨ f = 3 ∨ f = 4 ∨ f = 5 ∨ f = 6 ∨ f = 7 := by omega
  rcases hc with rfl | rfl | rfl | rfl | rfl | rfl | rfl | rfl
  · exact q0
  · exact q1
  · exact q2
  · exact q3
  · exact q4
  · exact q5
  · exact q6
  · exact q7

set_option maxHeartbeats 400000 in
theorem has_some (a0 a1 a2 a3 a4 a5 a6 a7 : Int) (b off cap : Nat) (L : List (Int × Int)) (w : World) (hL : L.length ≤ 9223372036854775807) (hb : b < w.heap.size)
    (hc : ∀ i (h : i < L.length), w.cell? ⟨b, off + i * 2, none⟩ = some (.int .i64 L[i].1) ∧ w.cell? ⟨b, off + i * 2 + 1, none⟩ = some (.int .u16 L[i].2)) :
    Calls Tryd.prog 15 #[pk a0 a1 a2 a3 a4 a5 a6 a7, .slice (some ⟨b, off, none⟩) L.length cap] w fun e w' => e = .returned (.bool (hasAll [a0, a1, a2, a3, a4, a5, a6, a7] L)) ∧ Below w.heap.size w w' := by
  unfold pk
  go_enter Tryd.func15, Tryd.ntmps15
  go_wp2
  go_loopw [9] (fun i wr => ∃ k, k ≤ L.length ∧ i = .int .i64 k ∧ Hid (hasAll [a0, a1, a2, a3, a4, a5, a6, a7] (L.take k) = true) ∧ wr.heap[w.heap.size]? = some (.cells #[.int .u16 a0, .int .u16 a1, .int .u16 a2, .int .u16 a3, .int .u16 a4, .int .u16 a5, .int .u16 a6, .int .u16 a7] 24) ∧ Below w.heap.size w wr) (fun i _ => L.length - (intOf i).toNat)
  case atStart => exact ⟨0, Nat.zero_le _, rfl, rfl, heap_alloc_new _ _, (Below.refl _ _).alloc (Nat.le_refl _) _⟩
  case round =>
    obtain ⟨k, hk, rfl, hp, hbox, hbw⟩ := hrel
    have hsz := (row8 hbox).2.2
    by_cases hlt : k < L.length
    · obtain ⟨c1, c2⟩ := hc k hlt
      rw [← hbw.cell (p := ⟨b, _, none⟩) hb] at c1 c2
      generalize hF : L[k].1 = F at *
      generalize hN : L[k].2 = N at *
      have HF : Hid (L[k].1 = F) := hF
      have HN : Hid (L[k].2 = N) := hN
      clear hF hN
      by_cases hf : 0 ≤ F ∧ F < 8
      · obtain ⟨h0, h8⟩ := hf
        have hce := getD8 hbox F h0 h8
        generalize hX : [a0, a1, a2, a3, a4, a5, a6, a7].getD F.toNat 0 = X at *
        have HX : Hid ([a0, a1, a2, a3, a4, a5, a6, a7].getD F.toNat 0 = X) := hX
        clear hX
        have hone : Hid (hasOne [a0, a1, a2, a3, a4, a5, a6, a7] L[k] = (X == N)) := by
          show hasOne _ _ = _
          unfold hasOne
          rw [HF.out, HN.out, HX.out]
          simp [h0, h8]
        cases hxn : (X != N)
        · go_wp2
          go_quiet ((go_at_call 29; exact Calls.quiet_of_same (isField_yes _ _ h0 h8)))
          go_wp2
          refine ⟨⟨k + 1, by omega, by go_num, ?_, ?_, ?_⟩, by simp [intOf]; omega⟩
          · show hasAll _ _ = true
            rw [has_snoc _ _ _ hlt, hp.out, hone.out]; simpa using hxn
          · exact (Below.heap_alloc _ _ _ hsz).trans hbox
          · exact below_drewN (hbw.alloc (by omega) _) _
        · go_wp2
          go_quiet ((go_at_call 29; exact Calls.quiet_of_same (isField_yes _ _ h0 h8)))
          go_wp2
          go_ret
          have hfin := has_not [a0, a1, a2, a3, a4, a5, a6, a7] L k hlt (by rw [hone.out]; simpa using hxn)
          exact ⟨by rw [hfin]; rfl, below_drewN (hbw.alloc (by omega) _) _⟩
      · have hone : Hid (hasOne [a0, a1, a2, a3, a4, a5, a6, a7] L[k] = false) := by
          show hasOne _ _ = _
          unfold hasOne
          rw [HF.out]
          simp only [hf, decide_false, Bool.false_and]
        have hf' : F < 0 ∨ 8 ≤ F := by omega
        go_wp2
        go_quiet ((go_at_call 29; exact Calls.quiet_of_same (isField_no _ _ hf')))
        go_wp2
        go_ret
        have hfin := has_not [a0, a1, a2, a3, a4, a5, a6, a7] L k hlt hone.out
        exact ⟨by rw [hfin]; rfl, below_drewN (hbw.alloc (by omega) _) _⟩
    · have hkl : k = L.length := by omega
      subst hkl
      go_wp2
      go_ret
      exact ⟨by have := hp.out; rw [List.take_length] at this; rw [this]; rfl, hbw⟩

set_option maxHeartbeats 400000 in
theorem has_none (a0 a1 a2 a3 a4 a5 a6 a7 : Int) (a : Option Addr) (cap : Nat) (w : World) :
    Calls Tryd.prog 15 #[pk a0 a1 a2 a3 a4 a5 a6 a7, .slice a 0 cap] w fun e w' => e = .returned (.bool true) ∧ Below w.heap.size w w' := by
  unfold pk
  go_enter Tryd.func15, Tryd.ntmps15
  go_wp2
  refine wp_loop_rounds 1 ?_
  rw [rounds_succ]
  go_wp2
  go_ret
  exact ⟨rfl, (Below.refl _ _).alloc (Nat.le_refl _) _⟩
end Go.Proofs.YtcfploigpnjmoaaDoor

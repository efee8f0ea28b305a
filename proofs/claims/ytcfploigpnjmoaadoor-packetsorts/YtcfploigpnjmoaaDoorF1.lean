/- What packet.Name, packet.At, packet.To and the document's Names, Has and Do answer: for every packet, field and list of pairs; wherever the listed variables hold what the row lists. -/
import Derived.Test.YtcfploigpnjmoaaDoorA8
import Derived.Deep.RegionHeld3
import Derived.Deep.RegionWith
set_option linter.unusedVariables false
set_option linter.unusedSimpArgs false
namespace Go.Proofs.YtcfploigpnjmoaaDoor
open Go.RowKit Go.Joins Go.Sort

set_option maxHeartbeats 400000 in
theorem name_in (k : Nat) (hk : k < 8) (w : World) (h : NamesIs w) : Calls Tryd.prog 12 #[.int .i64 k] w fun e w' => e = .returned (.string ⟨(nm8.getD k []).toArray⟩) ∧ w' = w := by
  have c := h.at k hk
  generalize nm8.getD k [] = x at *
  clear h
  go_enter Tryd.func12, Tryd.ntmps12
  go_wp2_with (go_at_call 29; refine (isField_yes _ _ (by omega) (by omega)).mono ?_; rintro e w' ⟨rfl, rfl⟩)
  go_ret
  exact ⟨rfl, rfl⟩
set_option maxHeartbeats 400000 in
theorem name_out (f : Int) (hf : f < 0 ∨ 8 ≤ f) (w : World) : Calls Tryd.prog 12 #[.int .i64 f] w fun e w' => e = .returned (.string ⟨#[]⟩) ∧ w' = w := by
  go_enter Tryd.func12, Tryd.ntmps12
  go_wp2_with (go_at_call 29; refine (isField_no _ _ hf).mono ?_; rintro e w' ⟨rfl, rfl⟩)
  go_ret
  exact ⟨rfl, rfl⟩

/-- The names as cells. -/
def nmCells : Array Value := #[.string ⟨#[115, 119]⟩, .string ⟨#[112, 116]⟩, .string ⟨#[115, 114, 99]⟩, .string ⟨#[100, 115, 116]⟩, .string ⟨#[116, 121, 112]⟩, .string ⟨#[115, 118, 99]⟩, .string ⟨#[118, 105, 100]⟩, .string ⟨#[111, 112, 116]⟩]
theorem nmCells_at (k : Nat) (hk : k < 8) : nmCells[k]? = some (.string ⟨(nm8.getD k []).toArray⟩) := by
  match k, hk with
  | 0, _ => rfl
  | 1, _ => rfl
  | 2, _ => rfl
  | 3, _ => rfl
  | 4, _ => rfl
  | 5, _ => rfl
  | 6, _ => rfl
  | 7, _ => rfl
set_option maxRecDepth 100000 in
set_option maxHeartbeats 400000 in
theorem rnames_any (w : World) : Calls Tryd.prog 8 #[] w fun e w' => e = .returned (.slice (some ⟨w.heap.size, 0, none⟩) 8 8) ∧ w' = w.alloc (.cells nmCells 9) := by
  go_enter Tryd.func8, Tryd.ntmps8
  go_wp2
  go_ret
  exact ⟨rfl, rfl⟩

set_option maxHeartbeats 400000 in
theorem at_any (a0 a1 a2 a3 a4 a5 a6 a7 : Int) (w : World) :
    Calls Tryd.prog 10 #[pk a0 a1 a2 a3 a4 a5 a6 a7] w fun e w' => e = .returned (.agg #[.int .u16 a0, .int .u16 a1]) ∧ Below w.heap.size w w' := by
  unfold pk
  go_enter Tryd.func10, Tryd.ntmps10
  go_wp2
  refine bodyPost_ret (v := .agg #[.int .u16 a0, .int .u16 a1]) (by simp [results, Tryd.results10, go_sem]) rfl ⟨rfl, ?_⟩
  exact ((Below.refl _ _).alloc (Nat.le_refl _) _).alloc (by simp) _
set_option maxHeartbeats 400000 in
theorem to_any (a0 a1 a2 a3 a4 a5 a6 a7 m n : Int) (w : World) :
    Calls Tryd.prog 11 #[pk a0 a1 a2 a3 a4 a5 a6 a7, .agg #[.int .u16 m, .int .u16 n]] w fun e w' => e = .returned (pk m n a2 a3 a4 a5 a6 a7) ∧ Below w.heap.size w w' := by
  unfold pk
  go_enter Tryd.func11, Tryd.ntmps11
  go_wp2
  refine bodyPost_ret (v := pk m n a2 a3 a4 a5 a6 a7) (by simp [results, Tryd.results11, go_sem]) rfl ⟨rfl, ?_⟩
  exact (((Below.refl _ _).alloc (Nat.le_refl _) _).alloc (by simp) _).alloc (by simp; omega) _

set_option maxHeartbeats 1000000 in
theorem rhas_some (a0 a1 a2 a3 a4 a5 a6 a7 : Int) (b off cap : Nat) (L : List (Int × Int)) (w : World) (hL : L.length ≤ 9223372036854775807) (hb : b < w.heap.size)
    (hc : ∀ i (h : i < L.length), w.cell? ⟨b, off + i * 2, none⟩ = some (.int .i64 L[i].1) ∧ w.cell? ⟨b, off + i * 2 + 1, none⟩ = some (.int .u16 L[i].2)) :
    Calls Tryd.prog 16 #[pk a0 a1 a2 a3 a4 a5 a6 a7, .slice (some ⟨b, off, none⟩) L.length cap] w fun e w' => e = .returned (.bool (hasAll [a0, a1, a2, a3, a4, a5, a6, a7] L)) ∧ Below w.heap.size w w' := by
  unfold pk
  go_enter Tryd.func16, Tryd.ntmps16
  go_wp2
  go_loopw [5] (fun i wr => ∃ k, k ≤ L.length ∧ i = .int .i64 k ∧ Hid (hasAll [a0, a1, a2, a3, a4, a5, a6, a7] (L.take k) = true) ∧ wr.heap[w.heap.size]? = some (.cells #[.int .u16 a0, .int .u16 a1, .int .u16 a2, .int .u16 a3, .int .u16 a4, .int .u16 a5, .int .u16 a6, .int .u16 a7] 24) ∧ Below w.heap.size w wr) (fun i _ => L.length - (intOf i).toNat)
  case atStart => exact ⟨0, Nat.zero_le _, rfl, rfl, heap_alloc_new _ _, (Below.refl _ _).alloc (Nat.le_refl _) _⟩
  case round =>
    obtain ⟨k, hk, rfl, hp, hbox, hbw⟩ := hrel
    have hsz := (row8 hbox).2.2
    by_cases hlt : k < L.length
    · obtain ⟨c1, c2⟩ := hc k hlt
      rw [← hbw.cell (p := ⟨b, _, none⟩) hb] at c1 c2
      generalize hF : L[k].1 = F at *
      generalize hN : L[k].2 = N at *
      have HF : Hid (L[k].1 = F) := hF
      have HN : Hid (L[k].2 = N) := hN
      clear hF hN
      by_cases hf : 0 ≤ F ∧ F < 8
      · obtain ⟨h0, h8⟩ := hf
        have hce := getD8 hbox F h0 h8
        generalize hX : [a0, a1, a2, a3, a4, a5, a6, a7].getD F.toNat 0 = X at *
        have HX : Hid ([a0, a1, a2, a3, a4, a5, a6, a7].getD F.toNat 0 = X) := hX
        clear hX
        have hone : Hid (hasOne [a0, a1, a2, a3, a4, a5, a6, a7] L[k] = (X == N)) := by
          show hasOne _ _ = _
          unfold hasOne
          rw [HF.out, HN.out, HX.out]
          simp [h0, h8]
        have d0 : decide (F < 0) = false := by simp; omega
        have d7 : decide (7 < F) = false := by simp; omega
        cases hxn : (X != N)
        · go_wp2
          go_quiet (fail)
          go_wp2
          refine ⟨⟨k + 1, by omega, by go_num, ?_, ?_, ?_⟩, by simp [intOf]; omega⟩
          · show hasAll _ _ = true
            rw [has_snoc _ _ _ hlt, hp.out, hone.out]; simpa using hxn
          · exact hbox
          · exact below_drewN hbw _
        · go_wp2
          go_quiet (fail)
          go_wp2
          go_ret
          have hfin := has_not [a0, a1, a2, a3, a4, a5, a6, a7] L k hlt (by rw [hone.out]; simpa using hxn)
          exact ⟨by rw [hfin]; rfl, below_drewN hbw _⟩
      · have hone : Hid (hasOne [a0, a1, a2, a3, a4, a5, a6, a7] L[k] = false) := by
          show hasOne _ _ = _
          unfold hasOne
          rw [HF.out]
          simp only [hf, decide_false, Bool.false_and]
        by_cases hneg : F < 0
        · have d0 : decide (F < 0) = true := by simp; omega
          go_wp2
          go_quiet (fail)
          go_wp2
          go_ret
          have hfin := has_not [a0, a1, a2, a3, a4, a5, a6, a7] L k hlt hone.out
          exact ⟨by rw [hfin]; rfl, below_drewN hbw _⟩
        · have d0 : decide (F < 0) = false := by simp; omega
          have d7 : decide (7 < F) = true := by simp; omega
          go_wp2
          go_quiet (fail)
          go_wp2
          go_ret
          have hfin := has_not [a0, a1, a2, a3, a4, a5, a6, a7] L k hlt hone.out
          exact ⟨by rw [hfin]; rfl, below_drewN hbw _⟩
    · have hkl : k = L.length := by omega
      subst hkl
      go_wp2
      go_ret
      exact ⟨by have := hp.out; rw [List.take_length] at this; rw [this]; rfl, hbw⟩

set_option maxHeartbeats 400000 in
theorem rhas_none (a0 a1 a2 a3 a4 a5 a6 a7 : Int) (a : Option Addr) (cap : Nat) (w : World) :
    Calls Tryd.prog 16 #[pk a0 a1 a2 a3 a4 a5 a6 a7, .slice a 0 cap] w fun e w' => e = .returned (.bool true) ∧ Below w.heap.size w w' := by
  unfold pk
  go_enter Tryd.func16, Tryd.ntmps16
  go_wp2
  refine wp_loop_rounds 1 ?_
  rw [rounds_succ]
  go_wp2
  go_ret
  exact ⟨rfl, (Below.refl _ _).alloc (Nat.le_refl _) _⟩
end Go.Proofs.YtcfploigpnjmoaaDoor

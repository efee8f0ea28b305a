/- What packet.Do and packet.Has do, and the document's, of any pairs: ported from the first stage; no conditions but where the pairs lie. -/
import Derived.Test.YtbcikkofbdfmaaaW3
import Derived.Test.YtbcikkofbdfmaaaS0
import Derived.Deep.QuietTactic
import Derived.BigQuiet
import Derived.Deep.RegionHeld3
import Derived.Deep.RegionWith
import Derived.Deep.AppendLies
import Derived.Lib.QuietBelow
set_option linter.unusedVariables false
set_option linter.unusedSimpArgs false
namespace Go.Proofs.Ytbcikkofbdfmaaa
open Go.RowKit Go.Joins Go.Sort

/-- All of a put, one behind the other. -/
def puts (l : List Int) (L : List (Int × Int)) : List Int := L.foldl (fun q c => put q c.1 c.2) l

theorem puts_snoc (l : List Int) (L : List (Int × Int)) (k : Nat) (h : k < L.length) : puts l (L.take (k + 1)) = put (puts l (L.take k)) L[k].1 L[k].2 := by
  unfold puts; rw [List.take_succ_eq_append_getElem h, List.foldl_append]; rfl

set_option maxHeartbeats 400000 in
theorem do_some (a0 a1 a2 a3 a4 a5 a6 a7 : Int) (b off cap : Nat) (L : List (Int × Int)) (w : World) (hL : L.length ≤ 9223372036854775807) (hb : b < w.heap.size)
    (hc : ∀ i (h : i < L.length), w.cell? ⟨b, off + i * 2, none⟩ = some (.int .i64 L[i].1) ∧ w.cell? ⟨b, off + i * 2 + 1, none⟩ = some (.int .u16 L[i].2)) :
    Calls Try.prog 48 #[pk a0 a1 a2 a3 a4 a5 a6 a7, .slice (some ⟨b, off, none⟩) L.length cap] w fun e w' => ∃ b0 b1 b2 b3 b4 b5 b6 b7, e = .returned (pk b0 b1 b2 b3 b4 b5 b6 b7) ∧ puts [a0, a1, a2, a3, a4, a5, a6, a7] L = [b0, b1, b2, b3, b4, b5, b6, b7] ∧ Below w.heap.size w w' := by
  unfold pk
  go_enter Try.func48, Try.ntmps48
  go_wp2
  go_loopw [9] (fun i wr => ∃ k b0 b1 b2 b3 b4 b5 b6 b7, k ≤ L.length ∧ i = .int .i64 k ∧ Hid (puts [a0, a1, a2, a3, a4, a5, a6, a7] (L.take k) = [b0, b1, b2, b3, b4, b5, b6, b7]) ∧ wr.heap[w.heap.size]? = some (.cells #[.int .u16 b0, .int .u16 b1, .int .u16 b2, .int .u16 b3, .int .u16 b4, .int .u16 b5, .int .u16 b6, .int .u16 b7] 25) ∧ wr.heap[w.heap.size + 1]? = some (.cells #[.int .u16 0, .int .u16 0, .int .u16 0, .int .u16 0, .int .u16 0, .int .u16 0, .int .u16 0, .int .u16 0] 25) ∧ Below w.heap.size w wr) (fun i _ => L.length - (intOf i).toNat)
  case atStart => exact ⟨0, a0, a1, a2, a3, a4, a5, a6, a7, Nat.zero_le _, rfl, rfl, heap_alloc2_old _ _ _, heap_alloc2_new _ _ _, ((Below.refl _ _).alloc (Nat.le_refl _) _).alloc (by simp) _⟩
  case round =>
    obtain ⟨k, b0, b1, b2, b3, b4, b5, b6, b7, hk, rfl, hp, hbox, hres, hbw⟩ := hrel
    have hsz2 := (row8 hres).2.2
    by_cases hlt : k < L.length
    · obtain ⟨c1, c2⟩ := hc k hlt
      rw [← hbw.cell (p := ⟨b, _, none⟩) hb] at c1 c2
      obtain ⟨⟨q0, q1, q2, q3, q4, q5, q6, q7⟩, _, hsz⟩ := row8 hbox
      go_wp2_with fail
      refine (with_any _ _ _ _ _ _ _ _ _ _ _).mono ?_
      rintro e w1 ⟨d0, d1, d2, d3, d4, d5, d6, d7, rfl, hput, hb1⟩
      have hbox1 : w1.heap[w.heap.size]? = some (.cells #[.int .u16 b0, .int .u16 b1, .int .u16 b2, .int .u16 b3, .int .u16 b4, .int .u16 b5, .int .u16 b6, .int .u16 b7] 25) := by
        rw [hb1.block _ (by simp; omega), Below.heap_alloc _ _ _ hsz]; exact hbox
      obtain ⟨⟨g0, g1, g2, g3, g4, g5, g6, g7⟩, ⟨f0, f1, f2, f3, f4, f5, f6, f7⟩, hsz1⟩ := row8 hbox1
      have HP : Hid (put [b0, b1, b2, b3, b4, b5, b6, b7] L[k].1 L[k].2 = [d0, d1, d2, d3, d4, d5, d6, d7]) := hput
      clear hput
      go_wp2
      refine ⟨⟨k + 1, d0, d1, d2, d3, d4, d5, d6, d7, by omega, by go_num, ?_, set8 _ _ _ _ _ _ _ _ hbox1, ?_, below8 ?_ (Nat.le_refl _) _ _ _ _ _ _ _ _⟩, by simp [intOf]; omega⟩
      · show puts _ (L.take (k + 1)) = _
        rw [puts_snoc _ _ _ hlt, hp.out]; exact HP.out
      · rw [other8 (by omega), hb1.block _ (by simp; omega), Below.heap_alloc _ _ _ hsz2]; exact hres
      · exact (hbw.alloc (by omega) _).trans (hb1.mono (by simp; omega))
    · have hkl : k = L.length := by omega
      obtain ⟨⟨q0, q1, q2, q3, q4, q5, q6, q7⟩, _, hsz⟩ := row8 hbox
      obtain ⟨⟨g0, g1, g2, g3, g4, g5, g6, g7⟩, ⟨f0, f1, f2, f3, f4, f5, f6, f7⟩, _⟩ := row8 hres
      subst hkl
      go_wp2
      refine bodyPost_ret (v := pk b0 b1 b2 b3 b4 b5 b6 b7) ?_ rfl ⟨b0, b1, b2, b3, b4, b5, b6, b7, rfl, ?_, below8 hbw (by omega) _ _ _ _ _ _ _ _⟩
      · obtain ⟨⟨h0, h1, h2, h3, h4, h5, h6, h7⟩, _, _⟩ := row8 (set8 (.int .u16 b0) (.int .u16 b1) (.int .u16 b2) (.int .u16 b3) (.int .u16 b4) (.int .u16 b5) (.int .u16 b6) (.int .u16 b7) hres)
        simp [results, Try.results48, go_sem, h0, h1, h2, h3, h4, h5, h6, h7]
      · have := hp.out; simpa using this

set_option maxHeartbeats 400000 in
theorem do_none (a0 a1 a2 a3 a4 a5 a6 a7 : Int) (a : Option Addr) (cap : Nat) (w : World) :
    Calls Try.prog 48 #[pk a0 a1 a2 a3 a4 a5 a6 a7, .slice a 0 cap] w fun e w' => e = .returned (pk a0 a1 a2 a3 a4 a5 a6 a7) ∧ Below w.heap.size w w' := by
  unfold pk
  go_enter Try.func48, Try.ntmps48
  go_wp2
  refine wp_loop_rounds 1 ?_
  rw [rounds_succ]
  go_wp2
  refine bodyPost_ret (v := pk a0 a1 a2 a3 a4 a5 a6 a7) (by simp [results, Try.results48, go_sem]) rfl ⟨rfl, ?_⟩
  exact ((Below.refl _ _).alloc (Nat.le_refl _) _).alloc (by simp) _
def hasOne (l : List Int) (c : Int × Int) : Bool := decide (0 ≤ c.1 ∧ c.1 < 8) && (l.getD c.1.toNat 0 == c.2)
def hasAll (l : List Int) (L : List (Int × Int)) : Bool := L.all (hasOne l)

theorem has_snoc (l : List Int) (L : List (Int × Int)) (k : Nat) (h : k < L.length) : hasAll l (L.take (k + 1)) = (hasAll l (L.take k) && hasOne l L[k]) := by
  unfold hasAll; rw [List.take_succ_eq_append_getElem h, List.all_append]; simp
theorem has_not (l : List Int) (L : List (Int × Int)) (k : Nat) (h : k < L.length) (hn : hasOne l L[k] = false) : hasAll l L = false := by
  unfold hasAll; rw [List.all_eq_false]; exact ⟨L[k], List.getElem_mem h, by simp [hn]⟩

set_option maxHeartbeats 400000 in
theorem has_some (a0 a1 a2 a3 a4 a5 a6 a7 : Int) (b off cap : Nat) (L : List (Int × Int)) (w : World) (hL : L.length ≤ 9223372036854775807) (hb : b < w.heap.size)
    (hc : ∀ i (h : i < L.length), w.cell? ⟨b, off + i * 2, none⟩ = some (.int .i64 L[i].1) ∧ w.cell? ⟨b, off + i * 2 + 1, none⟩ = some (.int .u16 L[i].2)) :
    Calls Try.prog 39 #[pk a0 a1 a2 a3 a4 a5 a6 a7, .slice (some ⟨b, off, none⟩) L.length cap] w fun e w' => e = .returned (.bool (hasAll [a0, a1, a2, a3, a4, a5, a6, a7] L)) ∧ Below w.heap.size w w' := by
  unfold pk
  go_enter Try.func39, Try.ntmps39
  go_wp2
  go_loopw [9] (fun i wr => ∃ k, k ≤ L.length ∧ i = .int .i64 k ∧ Hid (hasAll [a0, a1, a2, a3, a4, a5, a6, a7] (L.take k) = true) ∧ wr.heap[w.heap.size]? = some (.cells #[.int .u16 a0, .int .u16 a1, .int .u16 a2, .int .u16 a3, .int .u16 a4, .int .u16 a5, .int .u16 a6, .int .u16 a7] 25) ∧ Below w.heap.size w wr) (fun i _ => L.length - (intOf i).toNat)
  case atStart => exact ⟨0, Nat.zero_le _, rfl, rfl, heap_alloc_new _ _, (Below.refl _ _).alloc (Nat.le_refl _) _⟩
  case round =>
    obtain ⟨k, hk, rfl, hp, hbox, hbw⟩ := hrel
    have hsz := (row8 hbox).2.2
    by_cases hlt : k < L.length
    · obtain ⟨c1, c2⟩ := hc k hlt
      rw [← hbw.cell (p := ⟨b, _, none⟩) hb] at c1 c2
      generalize hF : L[k].1 = F at *
      generalize hN : L[k].2 = N at *
      have HF : Hid (L[k].1 = F) := hF
      have HN : Hid (L[k].2 = N) := hN
      clear hF hN
      by_cases hf : 0 ≤ F ∧ F < 8
      · obtain ⟨h0, h8⟩ := hf
        have hce := getD8 hbox F h0 h8
        generalize hX : [a0, a1, a2, a3, a4, a5, a6, a7].getD F.toNat 0 = X at *
        have HX : Hid ([a0, a1, a2, a3, a4, a5, a6, a7].getD F.toNat 0 = X) := hX
        clear hX
        have hone : Hid (hasOne [a0, a1, a2, a3, a4, a5, a6, a7] L[k] = (X == N)) := by
          show hasOne _ _ = _
          unfold hasOne
          rw [HF.out, HN.out, HX.out]
          simp [h0, h8]
        cases hxn : (X != N)
        · go_wp2
          go_quiet ((go_at_call 47; exact Calls.quiet_of_same (isField_yes _ _ h0 h8)))
          go_wp2
          refine ⟨⟨k + 1, by omega, by go_num, ?_, ?_, ?_⟩, by simp [intOf]; omega⟩
          · show hasAll _ _ = true
            rw [has_snoc _ _ _ hlt, hp.out, hone.out]; simpa using hxn
          · exact (Below.heap_alloc _ _ _ hsz).trans hbox
          · exact below_drewN (hbw.alloc (by omega) _) _
        · go_wp2
          go_quiet ((go_at_call 47; exact Calls.quiet_of_same (isField_yes _ _ h0 h8)))
          go_wp2
          go_ret
          have hfin := has_not [a0, a1, a2, a3, a4, a5, a6, a7] L k hlt (by rw [hone.out]; simpa using hxn)
          exact ⟨by rw [hfin]; rfl, below_drewN (hbw.alloc (by omega) _) _⟩
      · have hone : Hid (hasOne [a0, a1, a2, a3, a4, a5, a6, a7] L[k] = false) := by
          show hasOne _ _ = _
          unfold hasOne
          rw [HF.out]
          simp only [hf, decide_false, Bool.false_and]
        have hf' : F < 0 ∨ 8 ≤ F := by omega
        go_wp2
        go_quiet ((go_at_call 47; exact Calls.quiet_of_same (isField_no _ _ hf')))
        go_wp2
        go_ret
        have hfin := has_not [a0, a1, a2, a3, a4, a5, a6, a7] L k hlt hone.out
        exact ⟨by rw [hfin]; rfl, below_drewN (hbw.alloc (by omega) _) _⟩
    · have hkl : k = L.length := by omega
      subst hkl
      go_wp2
      go_ret
      exact ⟨by have := hp.out; rw [List.take_length] at this; rw [this]; rfl, hbw⟩

set_option maxHeartbeats 400000 in
theorem has_none (a0 a1 a2 a3 a4 a5 a6 a7 : Int) (a : Option Addr) (cap : Nat) (w : World) :
    Calls Try.prog 39 #[pk a0 a1 a2 a3 a4 a5 a6 a7, .slice a 0 cap] w fun e w' => e = .returned (.bool true) ∧ Below w.heap.size w w' := by
  unfold pk
  go_enter Try.func39, Try.ntmps39
  go_wp2
  refine wp_loop_rounds 1 ?_
  rw [rounds_succ]
  go_wp2
  go_ret
  exact ⟨rfl, (Below.refl _ _).alloc (Nat.le_refl _) _⟩
set_option maxHeartbeats 1000000 in
theorem rhas_some (a0 a1 a2 a3 a4 a5 a6 a7 : Int) (b off cap : Nat) (L : List (Int × Int)) (w : World) (hL : L.length ≤ 9223372036854775807) (hb : b < w.heap.size)
    (hc : ∀ i (h : i < L.length), w.cell? ⟨b, off + i * 2, none⟩ = some (.int .i64 L[i].1) ∧ w.cell? ⟨b, off + i * 2 + 1, none⟩ = some (.int .u16 L[i].2)) :
    Calls Try.prog 29 #[pk a0 a1 a2 a3 a4 a5 a6 a7, .slice (some ⟨b, off, none⟩) L.length cap] w fun e w' => e = .returned (.bool (hasAll [a0, a1, a2, a3, a4, a5, a6, a7] L)) ∧ Below w.heap.size w w' := by
  unfold pk
  go_enter Try.func29, Try.ntmps29
  go_wp2
  go_loopw [5] (fun i wr => ∃ k, k ≤ L.length ∧ i = .int .i64 k ∧ Hid (hasAll [a0, a1, a2, a3, a4, a5, a6, a7] (L.take k) = true) ∧ wr.heap[w.heap.size]? = some (.cells #[.int .u16 a0, .int .u16 a1, .int .u16 a2, .int .u16 a3, .int .u16 a4, .int .u16 a5, .int .u16 a6, .int .u16 a7] 25) ∧ Below w.heap.size w wr) (fun i _ => L.length - (intOf i).toNat)
  case atStart => exact ⟨0, Nat.zero_le _, rfl, rfl, heap_alloc_new _ _, (Below.refl _ _).alloc (Nat.le_refl _) _⟩
  case round =>
    obtain ⟨k, hk, rfl, hp, hbox, hbw⟩ := hrel
    have hsz := (row8 hbox).2.2
    by_cases hlt : k < L.length
    · obtain ⟨c1, c2⟩ := hc k hlt
      rw [← hbw.cell (p := ⟨b, _, none⟩) hb] at c1 c2
      generalize hF : L[k].1 = F at *
      generalize hN : L[k].2 = N at *
      have HF : Hid (L[k].1 = F) := hF
      have HN : Hid (L[k].2 = N) := hN
      clear hF hN
      by_cases hf : 0 ≤ F ∧ F < 8
      · obtain ⟨h0, h8⟩ := hf
        have hce := getD8 hbox F h0 h8
        generalize hX : [a0, a1, a2, a3, a4, a5, a6, a7].getD F.toNat 0 = X at *
        have HX : Hid ([a0, a1, a2, a3, a4, a5, a6, a7].getD F.toNat 0 = X) := hX
        clear hX
        have hone : Hid (hasOne [a0, a1, a2, a3, a4, a5, a6, a7] L[k] = (X == N)) := by
          show hasOne _ _ = _
          unfold hasOne
          rw [HF.out, HN.out, HX.out]
          simp [h0, h8]
        have d0 : decide (F < 0) = false := by simp; omega
        have d7 : decide (7 < F) = false := by simp; omega
        cases hxn : (X != N)
        · go_wp2
          go_quiet (fail)
          go_wp2
          refine ⟨⟨k + 1, by omega, by go_num, ?_, ?_, ?_⟩, by simp [intOf]; omega⟩
          · show hasAll _ _ = true
            rw [has_snoc _ _ _ hlt, hp.out, hone.out]; simpa using hxn
          · exact hbox
          · exact below_drewN hbw _
        · go_wp2
          go_quiet (fail)
          go_wp2
          go_ret
          have hfin := has_not [a0, a1, a2, a3, a4, a5, a6, a7] L k hlt (by rw [hone.out]; simpa using hxn)
          exact ⟨by rw [hfin]; rfl, below_drewN hbw _⟩
      · have hone : Hid (hasOne [a0, a1, a2, a3, a4, a5, a6, a7] L[k] = false) := by
          show hasOne _ _ = _
          unfold hasOne
          rw [HF.out]
          simp only [hf, decide_false, Bool.false_and]
        by_cases hneg : F < 0
        · have d0 : decide (F < 0) = true := by simp; omega
          go_wp2
          go_quiet (fail)
          go_wp2
          go_ret
          have hfin := has_not [a0, a1, a2, a3, a4, a5, a6, a7] L k hlt hone.out
          exact ⟨by rw [hfin]; rfl, below_drewN hbw _⟩
        · have d0 : decide (F < 0) = false := by simp; omega
          have d7 : decide (7 < F) = true := by simp; omega
          go_wp2
          go_quiet (fail)
          go_wp2
          go_ret
          have hfin := has_not [a0, a1, a2, a3, a4, a5, a6, a7] L k hlt hone.out
          exact ⟨by rw [hfin]; rfl, below_drewN hbw _⟩
    · have hkl : k = L.length := by omega
      subst hkl
      go_wp2
      go_ret
      exact ⟨by have := hp.out; rw [List.take_length] at this; rw [this]; rfl, hbw⟩

set_option maxHeartbeats 400000 in
theorem rhas_none (a0 a1 a2 a3 a4 a5 a6 a7 : Int) (a : Option Addr) (cap : Nat) (w : World) :
    Calls Try.prog 29 #[pk a0 a1 a2 a3 a4 a5 a6 a7, .slice a 0 cap] w fun e w' => e = .returned (.bool true) ∧ Below w.heap.size w w' := by
  unfold pk
  go_enter Try.func29, Try.ntmps29
  go_wp2
  refine wp_loop_rounds 1 ?_
  rw [rounds_succ]
  go_wp2
  go_ret
  exact ⟨rfl, (Below.refl _ _).alloc (Nat.le_refl _) _⟩
set_option maxRecDepth 100000 in
set_option maxHeartbeats 1000000 in
theorem rdo_some (a0 a1 a2 a3 a4 a5 a6 a7 : Int) (b off cap : Nat) (L : List (Int × Int)) (w : World) (hL : L.length ≤ 9223372036854775807) (hb : b < w.heap.size)
    (hc : ∀ i (h : i < L.length), w.cell? ⟨b, off + i * 2, none⟩ = some (.int .i64 L[i].1) ∧ w.cell? ⟨b, off + i * 2 + 1, none⟩ = some (.int .u16 L[i].2)) :
    Calls Try.prog 42 #[pk a0 a1 a2 a3 a4 a5 a6 a7, .slice (some ⟨b, off, none⟩) L.length cap] w fun e w' => ∃ b0 b1 b2 b3 b4 b5 b6 b7, e = .returned (pk b0 b1 b2 b3 b4 b5 b6 b7) ∧ puts [a0, a1, a2, a3, a4, a5, a6, a7] L = [b0, b1, b2, b3, b4, b5, b6, b7] ∧ Below w.heap.size w w' := by
  unfold pk
  go_enter Try.func42, Try.ntmps42
  go_wp2
  go_loopw [5] (fun i wr => ∃ k b0 b1 b2 b3 b4 b5 b6 b7, k ≤ L.length ∧ i = .int .i64 k ∧ Hid (puts [a0, a1, a2, a3, a4, a5, a6, a7] (L.take k) = [b0, b1, b2, b3, b4, b5, b6, b7]) ∧ wr.heap[w.heap.size]? = some (.cells #[.int .u16 b0, .int .u16 b1, .int .u16 b2, .int .u16 b3, .int .u16 b4, .int .u16 b5, .int .u16 b6, .int .u16 b7] 25) ∧ wr.heap[w.heap.size + 1]? = some (.cells #[.int .u16 0, .int .u16 0, .int .u16 0, .int .u16 0, .int .u16 0, .int .u16 0, .int .u16 0, .int .u16 0] 25) ∧ Below w.heap.size w wr) (fun i _ => L.length - (intOf i).toNat)
  case atStart => exact ⟨0, a0, a1, a2, a3, a4, a5, a6, a7, Nat.zero_le _, rfl, rfl, heap_alloc2_old _ _ _, heap_alloc2_new _ _ _, ((Below.refl _ _).alloc (Nat.le_refl _) _).alloc (by simp) _⟩
  case round =>
    obtain ⟨k, b0, b1, b2, b3, b4, b5, b6, b7, hk, rfl, hp, hbox, hres, hbw⟩ := hrel
    have hsz2 := (row8 hres).2.2
    by_cases hlt : k < L.length
    · obtain ⟨c1, c2⟩ := hc k hlt
      rw [← hbw.cell (p := ⟨b, _, none⟩) hb] at c1 c2
      have HF : Hid (∃ F N, L[k].1 = F ∧ L[k].2 = N) := ⟨_, _, rfl, rfl⟩
      obtain ⟨F, N, hF, hN⟩ := HF.out
      clear HF
      rw [hF] at c1
      rw [hN] at c2
      have HFN : Hid (L[k].1 = F ∧ L[k].2 = N) := ⟨hF, hN⟩
      clear hF hN hc
      obtain ⟨⟨q0, q1, q2, q3, q4, q5, q6, q7⟩, ⟨f0, f1, f2, f3, f4, f5, f6, f7⟩, hsz⟩ := row8 hbox
      go_wp2
      go_region_with (go_at_call 51; refine (rwith_any _ _ _ _ _ _ _ _ _ _ _).mono ?_; rintro e w1 ⟨d0, d1, d2, d3, d4, d5, d6, d7, rfl, hput, hb1⟩; have hbox1 : w1.heap[w.heap.size]? = some (.cells #[.int .u16 b0, .int .u16 b1, .int .u16 b2, .int .u16 b3, .int .u16 b4, .int .u16 b5, .int .u16 b6, .int .u16 b7] 25) := by { rw [hb1.block _ hsz]; exact hbox }; obtain ⟨⟨g0, g1, g2, g3, g4, g5, g6, g7⟩, ⟨k0, k1, k2, k3, k4, k5, k6, k7⟩, hsz1⟩ := row8 hbox1; have HP : Hid (put [b0, b1, b2, b3, b4, b5, b6, b7] F N = [d0, d1, d2, d3, d4, d5, d6, d7]) := hput; clear hput; unfold pk)
      all_goals
        have hB1 : Below wr.heap.size wr w1 := (Below.refl _ _).drew.trans hb1
        have hres1 : w1.heap[w.heap.size + 1]? = some (.cells #[.int .u16 0, .int .u16 0, .int .u16 0, .int .u16 0, .int .u16 0, .int .u16 0, .int .u16 0, .int .u16 0] 25) := by rw [hB1.block _ hsz2]; exact hres
        clear hb1 q0 q1 q2 q3 q4 q5 q6 q7 f0 f1 f2 f3 f4 f5 f6 f7 g0 g1 g2 g3 g4 g5 g6 g7 k0 k1 k2 k3 k4 k5 k6 k7 c1 c2
        go_wp2
        go_roundw
        case rel =>
          refine ⟨k + 1, d0, d1, d2, d3, d4, d5, d6, d7, by omega, by go_num, ?_, set8 _ _ _ _ _ _ _ _ hbox1, by rw [other8 (by omega)]; exact hres1, below8 (hbw.trans (hB1.mono (by omega))) (Nat.le_refl _) _ _ _ _ _ _ _ _⟩
          show puts _ (L.take (k + 1)) = _
          rw [puts_snoc _ _ _ hlt, hp.out, HFN.out.1, HFN.out.2]; exact HP.out
        case measure => simp [intOf]; omega
    · have hkl : k = L.length := by omega
      obtain ⟨⟨q0, q1, q2, q3, q4, q5, q6, q7⟩, _, hsz⟩ := row8 hbox
      obtain ⟨⟨g0, g1, g2, g3, g4, g5, g6, g7⟩, ⟨f0, f1, f2, f3, f4, f5, f6, f7⟩, _⟩ := row8 hres
      subst hkl
      go_wp2
      refine bodyPost_ret (v := pk b0 b1 b2 b3 b4 b5 b6 b7) ?_ rfl ⟨b0, b1, b2, b3, b4, b5, b6, b7, rfl, ?_, below8 hbw (by omega) _ _ _ _ _ _ _ _⟩
      · obtain ⟨⟨h0, h1, h2, h3, h4, h5, h6, h7⟩, _, _⟩ := row8 (set8 (.int .u16 b0) (.int .u16 b1) (.int .u16 b2) (.int .u16 b3) (.int .u16 b4) (.int .u16 b5) (.int .u16 b6) (.int .u16 b7) hres)
        simp [results, Try.results42, go_sem, h0, h1, h2, h3, h4, h5, h6, h7]
      · have := hp.out; simpa using this

set_option maxHeartbeats 400000 in
theorem rdo_none (a0 a1 a2 a3 a4 a5 a6 a7 : Int) (a : Option Addr) (cap : Nat) (w : World) :
    Calls Try.prog 42 #[pk a0 a1 a2 a3 a4 a5 a6 a7, .slice a 0 cap] w fun e w' => e = .returned (pk a0 a1 a2 a3 a4 a5 a6 a7) ∧ Below w.heap.size w w' := by
  unfold pk
  go_enter Try.func42, Try.ntmps42
  go_wp2
  refine wp_loop_rounds 1 ?_
  rw [rounds_succ]
  go_wp2
  refine bodyPost_ret (v := pk a0 a1 a2 a3 a4 a5 a6 a7) (by simp [results, Try.results42, go_sem]) rfl ⟨rfl, ?_⟩
  exact ((Below.refl _ _).alloc (Nat.le_refl _) _).alloc (by simp) _
/-- Pairs lie behind a slice. -/
def PairsAt (w : World) (v : Value) (L : List (Int × Int)) : Prop :=
  ∃ b off cap, v = .slice (some ⟨b, off, none⟩) L.length cap ∧ b < w.heap.size ∧ L.length ≤ 9223372036854775807 ∧ ∀ i (_ : i < L.length), w.cell? ⟨b, off + i * 2, none⟩ = some (.int .i64 L[i].1) ∧ w.cell? ⟨b, off + i * 2 + 1, none⟩ = some (.int .u16 L[i].2)
theorem has_at (a0 a1 a2 a3 a4 a5 a6 a7 : Int) (w : World) (v : Value) (L : List (Int × Int)) (hP : PairsAt w v L) (r : Bool) (hr : hasAll [a0, a1, a2, a3, a4, a5, a6, a7] L = r) :
    Calls Try.prog 39 #[pk a0 a1 a2 a3 a4 a5 a6 a7, v] w fun e w' => e = .returned (.bool r) ∧ Below w.heap.size w w' := by
  obtain ⟨b, off, cap, rfl, hb, hL, hc⟩ := hP
  refine (has_some a0 a1 a2 a3 a4 a5 a6 a7 b off cap L w hL hb hc).mono fun e w' ⟨he, hw⟩ => ⟨?_, hw⟩
  rw [he, hr]
theorem PairsAt.below {w w' : World} {v : Value} {L : List (Int × Int)} (h : PairsAt w v L) (hb : Below w.heap.size w w') : PairsAt w' v L := by
  obtain ⟨b, off, cap, hv, hlt, hL, hc⟩ := h
  refine ⟨b, off, cap, hv, Nat.lt_of_lt_of_le hlt hb.size, hL, fun i hi => ?_⟩
  rw [hb.cell (p := ⟨b, _, none⟩) hlt, hb.cell (p := ⟨b, _, none⟩) hlt]
  exact hc i hi
/-- Pairs lie behind a slice, or there are none. -/
def PairsAny (w : World) (v : Value) (L : List (Int × Int)) : Prop := PairsAt w v L ∨ (L = [] ∧ ∃ a cap, v = .slice a 0 cap)
theorem PairsAny.below {w w' : World} {v : Value} {L : List (Int × Int)} (h : PairsAny w v L) (hb : Below w.heap.size w w') : PairsAny w' v L := by
  rcases h with h | h
  · exact .inl (h.below hb)
  · exact .inr h
theorem has_every (a0 a1 a2 a3 a4 a5 a6 a7 : Int) (w : World) (v : Value) (L : List (Int × Int)) (hP : PairsAny w v L) :
    Calls Try.prog 39 #[pk a0 a1 a2 a3 a4 a5 a6 a7, v] w fun e w' => e = .returned (.bool (hasAll [a0, a1, a2, a3, a4, a5, a6, a7] L)) ∧ Below w.heap.size w w' := by
  rcases hP with hP | ⟨rfl, a, cap, rfl⟩
  · obtain ⟨b, off, cap, rfl, hb, hL, hc⟩ := hP
    exact has_some a0 a1 a2 a3 a4 a5 a6 a7 b off cap L w hL hb hc
  · exact has_none a0 a1 a2 a3 a4 a5 a6 a7 a cap w
theorem rhas_every (a0 a1 a2 a3 a4 a5 a6 a7 : Int) (w : World) (v : Value) (L : List (Int × Int)) (hP : PairsAny w v L) :
    Calls Try.prog 29 #[pk a0 a1 a2 a3 a4 a5 a6 a7, v] w fun e w' => e = .returned (.bool (hasAll [a0, a1, a2, a3, a4, a5, a6, a7] L)) ∧ Below w.heap.size w w' := by
  rcases hP with hP | ⟨rfl, a, cap, rfl⟩
  · obtain ⟨b, off, cap, rfl, hb, hL, hc⟩ := hP
    exact rhas_some a0 a1 a2 a3 a4 a5 a6 a7 b off cap L w hL hb hc
  · exact rhas_none a0 a1 a2 a3 a4 a5 a6 a7 a cap w
theorem do_every (a0 a1 a2 a3 a4 a5 a6 a7 b0 b1 b2 b3 b4 b5 b6 b7 : Int) (w : World) (v : Value) (L : List (Int × Int)) (hP : PairsAny w v L) (hr : puts [a0, a1, a2, a3, a4, a5, a6, a7] L = [b0, b1, b2, b3, b4, b5, b6, b7]) :
    Calls Try.prog 48 #[pk a0 a1 a2 a3 a4 a5 a6 a7, v] w fun e w' => e = .returned (pk b0 b1 b2 b3 b4 b5 b6 b7) ∧ Below w.heap.size w w' := by
  rcases hP with hP | ⟨rfl, a, cap, rfl⟩
  · obtain ⟨b, off, cap, rfl, hb, hL, hc⟩ := hP
    refine (do_some a0 a1 a2 a3 a4 a5 a6 a7 b off cap L w hL hb hc).mono fun e w' ⟨c0, c1, c2, c3, c4, c5, c6, c7, he, hp, hw⟩ => ⟨?_, hw⟩
    rw [hr] at hp
    simp only [List.cons.injEq, and_true] at hp
    obtain ⟨rfl, rfl, rfl, rfl, rfl, rfl, rfl, rfl⟩ := hp
    exact he
  · simp only [puts, List.foldl_nil, List.cons.injEq, and_true] at hr
    obtain ⟨rfl, rfl, rfl, rfl, rfl, rfl, rfl, rfl⟩ := hr
    exact do_none _ _ _ _ _ _ _ _ a cap w
theorem rdo_every (a0 a1 a2 a3 a4 a5 a6 a7 b0 b1 b2 b3 b4 b5 b6 b7 : Int) (w : World) (v : Value) (L : List (Int × Int)) (hP : PairsAny w v L) (hr : puts [a0, a1, a2, a3, a4, a5, a6, a7] L = [b0, b1, b2, b3, b4, b5, b6, b7]) :
    Calls Try.prog 42 #[pk a0 a1 a2 a3 a4 a5 a6 a7, v] w fun e w' => e = .returned (pk b0 b1 b2 b3 b4 b5 b6 b7) ∧ Below w.heap.size w w' := by
  rcases hP with hP | ⟨rfl, a, cap, rfl⟩
  · obtain ⟨b, off, cap, rfl, hb, hL, hc⟩ := hP
    refine (rdo_some a0 a1 a2 a3 a4 a5 a6 a7 b off cap L w hL hb hc).mono fun e w' ⟨c0, c1, c2, c3, c4, c5, c6, c7, he, hp, hw⟩ => ⟨?_, hw⟩
    rw [hr] at hp
    simp only [List.cons.injEq, and_true] at hp
    obtain ⟨rfl, rfl, rfl, rfl, rfl, rfl, rfl, rfl⟩ := hp
    exact he
  · simp only [puts, List.foldl_nil, List.cons.injEq, and_true] at hr
    obtain ⟨rfl, rfl, rfl, rfl, rfl, rfl, rfl, rfl⟩ := hr
    exact rdo_none _ _ _ _ _ _ _ _ a cap w
end Go.Proofs.Ytbcikkofbdfmaaa

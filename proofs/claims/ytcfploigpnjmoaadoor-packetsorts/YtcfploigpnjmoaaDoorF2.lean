/- What the document's Do answers: the packet with all of a list of pairs put; for every packet and list. -/
import Derived.Test.YtcfploigpnjmoaaDoorF1
set_option linter.unusedVariables false
set_option linter.unusedSimpArgs false
namespace Go.Proofs.YtcfploigpnjmoaaDoor
open Go.RowKit Go.Joins Go.Sort

set_option maxRecDepth 100000 in
set_option maxHeartbeats 1000000 in
theorem rdo_some (a0 a1 a2 a3 a4 a5 a6 a7 : Int) (b off cap : Nat) (L : List (Int × Int)) (w : World) (hL : L.length ≤ 9223372036854775807) (hb : b < w.heap.size)
    (hc : ∀ i (h : i < L.length), w.cell? ⟨b, off + i * 2, none⟩ = some (.int .i64 L[i].1) ∧ w.cell? ⟨b, off + i * 2 + 1, none⟩ = some (.int .u16 L[i].2)) :
    Calls Tryd.prog 18 #[pk a0 a1 a2 a3 a4 a5 a6 a7, .slice (some ⟨b, off, none⟩) L.length cap] w fun e w' => ∃ b0 b1 b2 b3 b4 b5 b6 b7, e = .returned (pk b0 b1 b2 b3 b4 b5 b6 b7) ∧ puts [a0, a1, a2, a3, a4, a5, a6, a7] L = [b0, b1, b2, b3, b4, b5, b6, b7] ∧ Below w.heap.size w w' := by
  unfold pk
  go_enter Tryd.func18, Tryd.ntmps18
  go_wp2
  go_loopw [5] (fun i wr => ∃ k b0 b1 b2 b3 b4 b5 b6 b7, k ≤ L.length ∧ i = .int .i64 k ∧ Hid (puts [a0, a1, a2, a3, a4, a5, a6, a7] (L.take k) = [b0, b1, b2, b3, b4, b5, b6, b7]) ∧ wr.heap[w.heap.size]? = some (.cells #[.int .u16 b0, .int .u16 b1, .int .u16 b2, .int .u16 b3, .int .u16 b4, .int .u16 b5, .int .u16 b6, .int .u16 b7] 24) ∧ wr.heap[w.heap.size + 1]? = some (.cells #[.int .u16 0, .int .u16 0, .int .u16 0, .int .u16 0, .int .u16 0, .int .u16 0, .int .u16 0, .int .u16 0] 24) ∧ Below w.heap.size w wr) (fun i _ => L.length - (intOf i).toNat)
  case atStart => exact ⟨0, a0, a1, a2, a3, a4, a5, a6, a7, Nat.zero_le _, rfl, rfl, heap_alloc2_old _ _ _, heap_alloc2_new _ _ _, ((Below.refl _ _).alloc (Nat.le_refl _) _).alloc (by simp) _⟩
  case round =>
    obtain ⟨k, b0, b1, b2, b3, b4, b5, b6, b7, hk, rfl, hp, hbox, hres, hbw⟩ := hrel
    have hsz2 := (row8 hres).2.2
    by_cases hlt : k < L.length
    · obtain ⟨c1, c2⟩ := hc k hlt
      rw [← hbw.cell (p := ⟨b, _, none⟩) hb] at c1 c2
      have HF : Hid (∃ F N, L[k].1 = F ∧ L[k].2 = N) := ⟨_, _, rfl, rfl⟩
      obtain ⟨F, N, hF, hN⟩ := HF.out
      clear HF
      rw [hF] at c1
      rw [hN] at c2
      have HFN : Hid (L[k].1 = F ∧ L[k].2 = N) := ⟨hF, hN⟩
      clear hF hN hc
      obtain ⟨⟨q0, q1, q2, q3, q4, q5, q6, q7⟩, ⟨f0, f1, f2, f3, f4, f5, f6, f7⟩, hsz⟩ := row8 hbox
      go_wp2
      go_region_with (go_at_call 14; refine (rwith_any _ _ _ _ _ _ _ _ _ _ _).mono ?_; rintro e w1 ⟨d0, d1, d2, d3, d4, d5, d6, d7, rfl, hput, hb1⟩; have hbox1 : w1.heap[w.heap.size]? = some (.cells #[.int .u16 b0, .int .u16 b1, .int .u16 b2, .int .u16 b3, .int .u16 b4, .int .u16 b5, .int .u16 b6, .int .u16 b7] 24) := by { rw [hb1.block _ hsz]; exact hbox }; obtain ⟨⟨g0, g1, g2, g3, g4, g5, g6, g7⟩, ⟨k0, k1, k2, k3, k4, k5, k6, k7⟩, hsz1⟩ := row8 hbox1; have HP : Hid (put [b0, b1, b2, b3, b4, b5, b6, b7] F N = [d0, d1, d2, d3, d4, d5, d6, d7]) := hput; clear hput; unfold pk)
      all_goals
        have hB1 : Below wr.heap.size wr w1 := (Below.refl _ _).drew.trans hb1
        have hres1 : w1.heap[w.heap.size + 1]? = some (.cells #[.int .u16 0, .int .u16 0, .int .u16 0, .int .u16 0, .int .u16 0, .int .u16 0, .int .u16 0, .int .u16 0] 24) := by rw [hB1.block _ hsz2]; exact hres
        clear hb1 q0 q1 q2 q3 q4 q5 q6 q7 f0 f1 f2 f3 f4 f5 f6 f7 g0 g1 g2 g3 g4 g5 g6 g7 k0 k1 k2 k3 k4 k5 k6 k7 c1 c2
        go_wp2
        go_roundw
        case rel =>
          refine ⟨k + 1, d0, d1, d2, d3, d4, d5, d6, d7, by omega, by go_num, ?_, set8 _ _ _ _ _ _ _ _ hbox1, by rw [other8 (by omega)]; exact hres1, below8 (hbw.trans (hB1.mono (by omega))) (Nat.le_refl _) _ _ _ _ _ _ _ _⟩
          show puts _ (L.take (k + 1)) = _
          rw [puts_snoc _ _ _ hlt, hp.out, HFN.out.1, HFN.out.2]; exact HP.out
        case measure => simp [intOf]; omega
    · have hkl : k = L.length := by omega
      obtain ⟨⟨q0, q1, q2, q3, q4, q5, q6, q7⟩, _, hsz⟩ := row8 hbox
      obtain ⟨⟨g0, g1, g2, g3, g4, g5, g6, g7⟩, ⟨f0, f1, f2, f3, f4, f5, f6, f7⟩, _⟩ := row8 hres
      subst hkl
      go_wp2
      refine bodyPost_ret (v := pk b0 b1 b2 b3 b4 b5 b6 b7) ?_ rfl ⟨b0, b1, b2, b3, b4, b5, b6, b7, rfl, ?_, below8 hbw (by omega) _ _ _ _ _ _ _ _⟩
      · obtain ⟨⟨h0, h1, h2, h3, h4, h5, h6, h7⟩, _, _⟩ := row8 (set8 (.int .u16 b0) (.int .u16 b1) (.int .u16 b2) (.int .u16 b3) (.int .u16 b4) (.int .u16 b5) (.int .u16 b6) (.int .u16 b7) hres)
        simp [results, Tryd.results18, go_sem, h0, h1, h2, h3, h4, h5, h6, h7]
      · have := hp.out; simpa using this

set_option maxHeartbeats 400000 in
theorem rdo_none (a0 a1 a2 a3 a4 a5 a6 a7 : Int) (a : Option Addr) (cap : Nat) (w : World) :
    Calls Tryd.prog 18 #[pk a0 a1 a2 a3 a4 a5 a6 a7, .slice a 0 cap] w fun e w' => e = .returned (pk a0 a1 a2 a3 a4 a5 a6 a7) ∧ Below w.heap.size w w' := by
  unfold pk
  go_enter Tryd.func18, Tryd.ntmps18
  go_wp2
  refine wp_loop_rounds 1 ?_
  rw [rounds_succ]
  go_wp2
  refine bodyPost_ret (v := pk a0 a1 a2 a3 a4 a5 a6 a7) (by simp [results, Tryd.results18, go_sem]) rfl ⟨rfl, ?_⟩
  exact ((Below.refl _ _).alloc (Nat.le_refl _) _).alloc (by simp) _
end Go.Proofs.YtcfploigpnjmoaaDoor

/- Sifting down, and sorting by a heap; no conditions but the row's length. -/
import Derived.Test.YtipiepcbgjceaaaO1
set_option linter.unusedVariables false
set_option linter.unusedSimpArgs false
namespace Go.Proofs.Ytipiepcbgjceaaa
open Go.RowKit Go.Joins Go.Sort

theorem sift_end (hi first root : Nat) (d : Array Int) (h : ¬ 2 * root + 1 < hi) : siftDown ltInt hi first root d = d := by
  rw [siftDown, dif_pos (by omega)]
/-- One round of sifting down, by the greater child. -/
theorem sift_c (hi first root c : Nat) (d : Array Int) (h : 2 * root + 1 < hi)
    (hc : (c = 2 * root + 1 ∧ (¬ 2 * root + 2 < hi ∨ ltInt d[first + (2 * root + 1)]! d[first + (2 * root + 1) + 1]! = false)) ∨ (c = 2 * root + 2 ∧ 2 * root + 2 < hi ∧ ltInt d[first + (2 * root + 1)]! d[first + (2 * root + 1) + 1]! = true)) :
    siftDown ltInt hi first root d = if ltInt d[first + root]! d[first + c]! = true then siftDown ltInt hi first c (swp d (first + root) (first + c)) else d := by
  rw [siftDown, dif_neg (by omega)]
  rcases hc with ⟨rfl, hc⟩ | ⟨rfl, h2, h3⟩
  · rw [if_neg (by rcases hc with hc | hc; simp; omega; simp [hc])]
    by_cases hl : ltInt d[first + root]! d[first + (2 * root + 1)]! = true
    · rw [if_neg (by simp [hl]), if_pos hl]
    · rw [if_pos (by simpa using hl), if_neg hl]
  · rw [if_pos (by simp [h3]; omega)]
    by_cases hl : ltInt d[first + root]! d[first + (2 * root + 2)]! = true
    · rw [if_neg (by simp [hl]), dif_pos h2, if_pos hl]
    · rw [if_pos (by simpa using hl), if_neg hl]
set_option maxRecDepth 100000 in
set_option maxHeartbeats 4000000 in
theorem sift_any (b off cap lo hi first N : Nat) (d : Array Int) (w : World) (hH : Holds (Value.int .u16) w b off d) (hb : b < w.heap.size) (hlo : lo ≤ N) (hhi : first + hi ≤ N) (hd : d.size = N) (hN : N ≤ 100000) :
    Calls Try.prog 103 #[.slice (some ⟨b, off, none⟩) N cap, .int .i64 lo, .int .i64 hi, .int .i64 first] w fun e w' => e = .returned (.tuple #[]) ∧ Sd w b off d (siftDown ltInt hi first lo d) w' := by
  have S0 : Hid (Sd w b off d d w) := Sd.start hH hb
  have HD : Hid (d.size = N) := hd
  clear hH hd
  go_enter Try.func103, Try.ntmps103
  go_wp2
  go_loopw [8] (fun vi wr => ∃ (root : Nat) (y : Array Int), vi = .int .i64 root ∧ root ≤ N ∧ Hid (Sd w b off d y wr) ∧ Hid (siftDown ltInt hi first root y = siftDown ltInt hi first lo d)) (fun vi _ => hi - (intOf vi).toNat)
  case atStart => exact ⟨lo, d, rfl, hlo, S0, rfl⟩
  case round =>
    obtain ⟨root, y, rfl, hroot, HT, HI⟩ := hrel
    clear S0
    have hy : Hid (y.size = N) := by unfold Hid; rw [HT.out.size]; exact HD.out
    obtain ⟨G, HG, hc, hf⟩ := HT.out.cells HD.out
    obtain ⟨k, hk⟩ : ∃ k, 2 * root + 1 = k := ⟨_, rfl⟩
    have HK : Hid (2 * root + 1 = k) := hk
    have ek : (2 : Int) * (root : Int) + 1 = (k : Int) := by omega
    by_cases h1 : k < hi
    · have d1 : decide ((hi : Int) ≤ (k : Int)) = false := by simp; omega
      have hkN : k ≤ 200000 := by omega
      have hr1 : root < hi := by omega
      clear hk
      by_cases h2 : k + 1 < hi
      · have d2 : decide ((k : Int) + 1 < (hi : Int)) = true := by simp; omega
        go_wp2
        go_quiet ((go_at_call 87; exact Calls.quiet_of_same (less_lt _ _ _)))
        go_wp2
        · have hm : Hid (ltInt y[first + k]! y[first + k + 1]! = true) := by rw [← HG.out, ← HG.out]; assumption
          have HT2 : Hid (Sd w b off d y (wr.drewN nq)) := HT.out.drewN nq
          have hc2 : ∀ t, t < N → (wr.drewN nq).cell? ⟨b, off + t, none⟩ = some (.int .u16 (G t)) := hc
          have hf2 : ∀ t, t < N → (wr.drewN nq).frozen? ⟨b, off + t, none⟩ = false := hf
          clear hc hf HT
          generalize wr.drewN nq = wq at *
          go_quiet ((go_at_call 87; exact Calls.quiet_of_same (less_lt _ _ _)))
          go_wp2
          · have hl : ltInt y[first + root]! y[first + (k + 1)]! = false := by
              rw [← HG.out, ← HG.out]
              have hq : (!ltInt (G (first + root)) (G (first + (k + 1)))) = true := by assumption
              simpa using hq
            refine bodyPost_ret (v := .tuple #[]) (by simp [results, Try.results103, go_sem]) rfl ⟨rfl, ?_⟩
            have e := sift_c hi first root (k + 1) y (by have := HK.out; omega) (by have e := HK.out; subst e; exact .inr ⟨by omega, by omega, hm.out⟩)
            rw [if_neg (by rw [hl]; decide)] at e
            rw [← HI.out, e]
            exact HT2.out.drewN _
          · have hl : Hid (ltInt y[first + root]! y[first + (k + 1)]! = true) := by
              unfold Hid
              rw [← HG.out, ← HG.out]
              have hq : (!ltInt (G (first + root)) (G (first + (k + 1)))) = false := by assumption
              simpa using hq
            go_region
            all_goals go_wp2
            go_roundw
            case rel =>
              have hys : y.size = N := hy.out
              refine ⟨k + 1, swp y (first + root) (first + (k + 1)), by go_num, by have := HK.out; omega, ?_, ?_⟩
              · exact (HT2.out.drewN _).swap (by omega) (by omega) (HG.out _) (HG.out _)
              · have e := sift_c hi first root (k + 1) y (by have := HK.out; omega) (by have e := HK.out; subst e; exact .inr ⟨by omega, by omega, hm.out⟩)
                rw [if_pos hl.out] at e
                exact e.symm.trans HI.out
            case measure => simp [intOf]; have := HK.out; omega
        · have hm : Hid (ltInt y[first + k]! y[first + k + 1]! = false) := by rw [← HG.out, ← HG.out]; assumption
          have HT2 : Hid (Sd w b off d y (wr.drewN nq)) := HT.out.drewN nq
          have hc2 : ∀ t, t < N → (wr.drewN nq).cell? ⟨b, off + t, none⟩ = some (.int .u16 (G t)) := hc
          have hf2 : ∀ t, t < N → (wr.drewN nq).frozen? ⟨b, off + t, none⟩ = false := hf
          clear hc hf HT
          generalize wr.drewN nq = wq at *
          go_quiet ((go_at_call 87; exact Calls.quiet_of_same (less_lt _ _ _)))
          go_wp2
          · have hl : ltInt y[first + root]! y[first + (k)]! = false := by
              rw [← HG.out, ← HG.out]
              have hq : (!ltInt (G (first + root)) (G (first + (k)))) = true := by assumption
              simpa using hq
            refine bodyPost_ret (v := .tuple #[]) (by simp [results, Try.results103, go_sem]) rfl ⟨rfl, ?_⟩
            have e := sift_c hi first root (k) y (by have := HK.out; omega) (by have e := HK.out; subst e; exact .inl ⟨rfl, .inr hm.out⟩)
            rw [if_neg (by rw [hl]; decide)] at e
            rw [← HI.out, e]
            exact HT2.out.drewN _
          · have hl : Hid (ltInt y[first + root]! y[first + (k)]! = true) := by
              unfold Hid
              rw [← HG.out, ← HG.out]
              have hq : (!ltInt (G (first + root)) (G (first + (k)))) = false := by assumption
              simpa using hq
            go_region
            all_goals go_wp2
            go_roundw
            case rel =>
              have hys : y.size = N := hy.out
              refine ⟨k, swp y (first + root) (first + (k)), by rfl, by have := HK.out; omega, ?_, ?_⟩
              · exact (HT2.out.drewN _).swap (by omega) (by omega) (HG.out _) (HG.out _)
              · have e := sift_c hi first root (k) y (by have := HK.out; omega) (by have e := HK.out; subst e; exact .inl ⟨rfl, .inr hm.out⟩)
                rw [if_pos hl.out] at e
                exact e.symm.trans HI.out
            case measure => simp [intOf]; have := HK.out; omega
      · have d2 : decide ((k : Int) + 1 < (hi : Int)) = false := by simp; omega
        go_wp2
        go_quiet ((go_at_call 87; exact Calls.quiet_of_same (less_lt _ _ _)))
        go_wp2
        have HT2 : Hid (Sd w b off d y (wr.drewN nq)) := HT.out.drewN nq
        have hc2 : ∀ t, t < N → (wr.drewN nq).cell? ⟨b, off + t, none⟩ = some (.int .u16 (G t)) := hc
        have hf2 : ∀ t, t < N → (wr.drewN nq).frozen? ⟨b, off + t, none⟩ = false := hf
        clear hc hf HT
        generalize wr.drewN nq = wq at *
        go_quiet ((go_at_call 87; exact Calls.quiet_of_same (less_lt _ _ _)))
        go_wp2
        · have hl : ltInt y[first + root]! y[first + (k)]! = false := by
            rw [← HG.out, ← HG.out]
            have hq : (!ltInt (G (first + root)) (G (first + (k)))) = true := by assumption
            simpa using hq
          refine bodyPost_ret (v := .tuple #[]) (by simp [results, Try.results103, go_sem]) rfl ⟨rfl, ?_⟩
          have e := sift_c hi first root (k) y (by have := HK.out; omega) (by have e := HK.out; subst e; exact .inl ⟨rfl, .inl (by omega)⟩)
          rw [if_neg (by rw [hl]; decide)] at e
          rw [← HI.out, e]
          exact HT2.out.drewN _
        · have hl : Hid (ltInt y[first + root]! y[first + (k)]! = true) := by
            unfold Hid
            rw [← HG.out, ← HG.out]
            have hq : (!ltInt (G (first + root)) (G (first + (k)))) = false := by assumption
            simpa using hq
          go_region
          all_goals go_wp2
          go_roundw
          case rel =>
            have hys : y.size = N := hy.out
            refine ⟨k, swp y (first + root) (first + (k)), by rfl, by have := HK.out; omega, ?_, ?_⟩
            · exact (HT2.out.drewN _).swap (by omega) (by omega) (HG.out _) (HG.out _)
            · have e := sift_c hi first root (k) y (by have := HK.out; omega) (by have e := HK.out; subst e; exact .inl ⟨rfl, .inl (by omega)⟩)
              rw [if_pos hl.out] at e
              exact e.symm.trans HI.out
          case measure => simp [intOf]; have := HK.out; omega
    · have d1 : decide ((hi : Int) ≤ (k : Int)) = true := by simp; omega
      have hkN : k ≤ 200001 := by omega
      clear hk
      go_wp2
      go_end0
      refine ⟨rfl, ?_⟩
      rw [← HI.out, sift_end _ _ _ _ (by rw [HK.out]; exact h1)]
      exact HT.out
end Go.Proofs.Ytipiepcbgjceaaa
/- Rows are sorted by a heap; no conditions but the row's length. -/
set_option linter.unusedVariables false
set_option linter.unusedSimpArgs false
namespace Go.Proofs.Ytipiepcbgjceaaa
open Go.RowKit Go.Joins Go.Sort

set_option maxRecDepth 100000 in
set_option maxHeartbeats 4000000 in
theorem heap_any (b off cap a z N : Nat) (d : Array Int) (w : World) (hH : Holds (Value.int .u16) w b off d) (hb : b < w.heap.size) (haz : a < z) (hz : z ≤ N) (hd : d.size = N) (hN : N ≤ 100000) :
    Calls Try.prog 95 #[.slice (some ⟨b, off, none⟩) N cap, .int .i64 a, .int .i64 z] w fun e w' => e = .returned (.tuple #[]) ∧ Sd w b off d (heapSort ltInt d a z) w' := by
  have S0 : Hid (Sd w b off d d w) := Sd.start hH hb
  have HD : Hid (d.size = N) := hd
  obtain ⟨h, hh⟩ : ∃ h, z - a = h := ⟨_, rfl⟩
  obtain ⟨m, hm⟩ : ∃ m, (h - 1) / 2 = m := ⟨_, rfl⟩
  have HH : Hid (z - a = h) := hh
  have HM : Hid ((h - 1) / 2 = m) := hm
  have eh : (z : Int) - (a : Int) = (h : Int) := by omega
  have em : Hid (((h : Int) - 1) / 2 = (m : Int)) := by unfold Hid; omega
  have h1 : 1 ≤ h := by omega
  have h2 : a + h ≤ N := by omega
  have h3 : m < h := by omega
  clear hH hd hh hm
  go_enter Try.func95, Try.ntmps95
  go_wp2
  go_loopw [9] (fun vi wr => ∃ (k : Nat) (i : Int) (y : Array Int), vi = .int .i64 i ∧ i = (k : Int) - 1 ∧ k ≤ h ∧ Hid (Sd w b off d y wr) ∧ Hid (heapBuild ltInt h a k y = heapBuild ltInt h a (m + 1) d)) (fun vi _ => (intOf vi + 1).toNat)
  case atStart => exact ⟨m + 1, _, d, rfl, by have := em.out; omega, by omega, S0, rfl⟩
  case round =>
    obtain ⟨k, i, y, rfl, hi, hk, HT, HI⟩ := hrel
    clear S0
    cases k with
    | succ k =>
      obtain rfl : i = (k : Int) := by omega
      clear hi
      have cS := sift_any b off cap k h a N y wr HT.out.holds HT.out.lt' (by omega) h2 (by rw [HT.out.size]; exact HD.out) hN
      go_wp2_with fail
      refine cS.mono ?_
      rintro e w1 ⟨rfl, hS⟩
      have HS := hid hS
      clear hS cS
      go_wp2
      go_roundw
      case rel => exact ⟨k, _, _, rfl, by omega, by omega, HT.out.trans HS.out, HI⟩
      case measure => simp [intOf]
    | zero =>
      obtain rfl : i = -1 := by omega
      clear hi
      go_wp2
      have HI2 : Hid (y = heapBuild ltInt h a (m + 1) d) := HI
      clear HI
      go_loopw [10] (fun vi wz => ∃ (k : Nat) (i : Int) (x : Array Int), vi = .int .i64 i ∧ i = (k : Int) - 1 ∧ k ≤ h ∧ Hid (Sd w b off d x wz) ∧ Hid (heapPop ltInt a k x = heapPop ltInt a h y)) (fun vi _ => (intOf vi + 1).toNat)
      case atStart => exact ⟨h, _, y, rfl, by omega, Nat.le_refl _, HT, rfl⟩
      case round =>
        obtain ⟨k, i, x, rfl, hi, hk2, HX, HP⟩ := hrel
        clear HT
        have hx : Hid (x.size = N) := by unfold Hid; rw [HX.out.size]; exact HD.out
        cases k with
        | succ k =>
          obtain rfl : i = (k : Int) := by omega
          clear hi
          obtain ⟨G, HG, hc, hf⟩ := HX.out.cells HD.out
          have hkh : k < h := by omega
          obtain ⟨v', hv'⟩ := cell?_setCell_some (w := wr) (p := ⟨b, off + a, none⟩) (x := .int .u16 (G (a + k))) (hc (a + k) (by omega))
          go_wp2
          go_region
          all_goals go_wp2_with fail
          have HX2 : Hid (Sd w b off d (swp x a (a + k)) (((wr.setCell ⟨b, off + a, none⟩ (.int .u16 (G (a + k)))).setCell ⟨b, off + (a + k), none⟩ (.int .u16 (G a))).drew)) := by
            have hxs : x.size = N := hx.out
            exact (HX.out.swap (by omega) (by omega) (HG.out _) (HG.out _)).drew
          generalize ((wr.setCell ⟨b, off + a, none⟩ (.int .u16 (G (a + k)))).setCell ⟨b, off + (a + k), none⟩ (.int .u16 (G a))).drew = wq at *
          have cS := sift_any b off cap 0 k a N (swp x a (a + k)) wq HX2.out.holds HX2.out.lt' (by omega) (by omega) (by rw [size_swp]; exact hx.out) hN
          refine cS.mono ?_
          rintro e w1 ⟨rfl, hS⟩
          have HS := hid hS
          clear hS cS
          go_wp2
          go_roundw
          case rel => exact ⟨k, _, _, rfl, by omega, by omega, HX2.out.trans HS.out, HP⟩
          case measure => simp [intOf]
        | zero =>
          obtain rfl : i = -1 := by omega
          clear hi
          go_wp2
          go_end0
          refine ⟨rfl, ?_⟩
          unfold heapSort
          rw [HH.out, HM.out, ← HI2.out, ← HP.out]
          exact HX.out
end Go.Proofs.Ytipiepcbgjceaaa

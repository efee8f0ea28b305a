/- What the law PacketSorts answers: true, for every list of packets, wherever the listed variables hold what the row lists. -/
import Derived.Test.YtcfploigpnjmoaaDoorS6
import Derived.Test.YtcfploigpnjmoaaDoorF3
set_option linter.unusedVariables false
set_option linter.unusedSimpArgs false
namespace Go.Proofs.YtcfploigpnjmoaaDoor
open Go.RowKit Go.Joins Go.Sort

set_option maxRecDepth 100000 in
set_option maxHeartbeats 1000000 in
theorem sorts_long (sa : Option Addr) (n sc : Nat) (w : World) (h : Env w) (hn : 30 < n) (hn63 : n ≤ 9223372036854775807) :
    Calls Tryd.prog 5 #[.slice sa n sc] w fun e w' => e = .returned (.bool true) ∧ Below w.heap.size w w' := by
  have hd : decide ((30 : Int) < (n : Int)) = true := by simp; omega
  go_enter Tryd.func5, Tryd.ntmps5
  go_wp2_with fail
  refine (awake_any _ h).mono ?_
  rintro e w1 ⟨rfl, hb1⟩
  clear h
  go_wp2
  go_ret
  exact ⟨rfl, hb1⟩

set_option maxRecDepth 100000 in
set_option maxHeartbeats 1000000 in
theorem sorts_short (v : Value) (L : List P8) (hlen : L.length ≤ 30) (w : World) (h : Env w) (hP : Pks w v L) :
    Calls Tryd.prog 5 #[v] w fun e w' => e = .returned (.bool true) ∧ Below w.heap.size w w' := by
  have hd : decide ((30 : Int) < (L.length : Int)) = false := by simp; omega
  have HP : Hid (Pks w v L) := hP
  obtain ⟨sa, sc, rfl, hc⟩ := hP.form
  clear hP
  have HC : Hid (∀ k (hk : k < L.length), ∃ b off, sa = some ⟨b, off, none⟩ ∧ b < w.heap.size ∧ At8 w b (off + k * 8) L[k]) := hc
  clear hc
  go_enter Tryd.func5, Tryd.ntmps5
  go_wp2_with fail
  refine (awake_any _ h).mono ?_
  rintro e w1 ⟨rfl, hb1⟩
  have HB1 : Hid (Below w.heap.size w w1) := hb1
  have HP1 : Hid (Pks w1 (.slice sa L.length sc) L) := HP.out.below hb1
  clear h hb1
  go_wp2_with fail
  refine (sort24 _ L (by omega) _ HP1.out).mono ?_
  rintro e w2 ⟨v2, rfl, hp2, hb2⟩
  have HB2 : Hid (Below w.heap.size w w2) := HB1.out.trans (hb2.mono HB1.out.size)
  have HP2 : Hid (Pks w2 v2 (sortL L)) := hp2
  have HQ2 : Hid (Pks w2 (.slice sa L.length sc) L) := HP1.out.below hb2
  clear hp2 hb2
  go_wp2_with fail
  refine (rsort26 _ L (by omega) _ HQ2.out).mono ?_
  rintro e w3 ⟨v3, rfl, hp3, hb3⟩
  have HB3 : Hid (Below w.heap.size w w3) := HB2.out.trans (hb3.mono HB2.out.size)
  have HP3 : Hid (Pks w3 v3 (sortL L)) := hp3
  have HQ3 : Hid (Pks w3 v2 (sortL L)) := HP2.out.below hb3
  have hsl := sortL_len L
  clear hp3 hb3
  go_wp2_with fail
  refine (same25 _ _ (sortL L) (by omega) _ HQ3.out HP3.out).mono ?_
  rintro e w4 ⟨rfl, hb4⟩
  have HB4 : Hid (Below w.heap.size w w4) := HB3.out.trans (hb4.mono HB3.out.size)
  clear hb4 hsl HP HP1 HP2 HP3 HQ2 HQ3 HB1 HB2 HB3
  go_wp2
  go_loopw [20] (fun i wr => ∃ k : Nat, k ≤ L.length ∧ i = .int .i64 k ∧ Hid (Below w.heap.size w wr)) (fun i _ => L.length - (intOf i).toNat)
  case atStart => exact ⟨0, Nat.zero_le _, rfl, HB4⟩
  case round =>
    clear HB4
    obtain ⟨k, hk, rfl, HB⟩ := hrel
    by_cases hlt : k < L.length
    · go_wp2
      go_loopw [25] (fun i wz => ∃ m : Nat, m ≤ L.length ∧ i = .int .i64 m ∧ Hid (Below w.heap.size w wz)) (fun i _ => L.length - (intOf i).toNat)
      case atStart => exact ⟨0, Nat.zero_le _, rfl, HB⟩
      case round =>
        obtain ⟨m, hm, rfl, HBz⟩ := hrel
        by_cases hlt2 : m < L.length
        · obtain ⟨b, off, rfl, hb, hat⟩ := HC.out k hlt
          obtain ⟨b', off', hsa, _, hat2⟩ := HC.out m hlt2
          injection hsa with hsa
          injection hsa with e1 e2
          subst e1 e2
          obtain ⟨q0, q1, q2, q3, q4, q5, q6, q7⟩ := hat.below HBz.out hb
          obtain ⟨r0, r1, r2, r3, r4, r5, r6, r7⟩ := hat2.below HBz.out hb
          clear hat hat2 HC
          generalize L[k] = x at *
          generalize L[m] = y at *
          have s0 := cell_regrown q0
          have s1 := cell_regrown q1
          have s2 := cell_regrown q2
          have s3 := cell_regrown q3
          have s4 := cell_regrown q4
          have s5 := cell_regrown q5
          have s6 := cell_regrown q6
          have s7 := cell_regrown q7
          have t0 := cell_regrown r0
          have t1 := cell_regrown r1
          have t2 := cell_regrown r2
          have t3 := cell_regrown r3
          have t4 := cell_regrown r4
          have t5 := cell_regrown r5
          have t6 := cell_regrown r6
          have t7 := cell_regrown r7
          obtain ⟨c, hc⟩ : ∃ c, cf x y = c := ⟨_, rfl⟩
          have c1 : Hid (∀ d os, Calls Tryd.prog 27 #[x.v, y.v] (grow (redrawn wr d) os) fun e w'' => e = .returned (.int .i64 c) ∧ ∃ p : Regrown, w'' = grow (redrawn wr p.d) p.os) := fun d os => Calls.regrown_of ((cmp27 x y _).mono fun e w' ⟨he, q, os', hw⟩ => ⟨by rw [he, hc], by rw [hw]; exact below_grown q os'⟩)
          have c2 : Hid (∀ d os, Calls Tryd.prog 28 #[x.v, y.v] (grow (redrawn wr d) os) fun e w'' => e = .returned (.int .i64 c) ∧ ∃ p : Regrown, w'' = grow (redrawn wr p.d) p.os) := fun d os => Calls.regrown_of ((cmp28 x y _).mono fun e w' ⟨he, q, os', hw⟩ => ⟨by rw [he, hc], by rw [hw]; exact below_grown q os'⟩)
          clear hc
          go_wp2
          clear q0 q1 q2 q3 q4 q5 q6 q7 r0 r1 r2 r3 r4 r5 r6 r7
          refine wp_region_quiet_below (by kernel_rfl) (by kernel_rfl) ?_
          repeat (go_big_quiet_step (first | (go_at_call 27; exact c1.out _ _) | (go_at_call 28; exact c2.out _ _)))
          refine wpQuiet_nil ?_
          intro _ hw'
          obtain ⟨⟨dq, osq⟩, hw''⟩ := hw'
          subst hw''
          have HB5 : Hid (Below w.heap.size w (grow (redrawn wr dq) osq)) := HBz.out.trans ((below_regrown wr dq osq).mono HBz.out.size)
          clear s0 s1 s2 s3 s4 s5 s6 s7 t0 t1 t2 t3 t4 t5 t6 t7 c1 c2
          generalize (grow (redrawn wr dq) osq) = W at *
          go_wp2
          refine ⟨⟨m + 1, by omega, by go_num, HB5⟩, by simp [intOf]; omega⟩
        · have hml : m = L.length := by omega
          subst hml
          go_wp2
          refine ⟨⟨k + 1, by omega, by go_num, HBz⟩, by simp [intOf]; omega⟩
    · have hkl : k = L.length := by omega
      subst hkl
      go_wp2
      go_ret
      exact ⟨rfl, HB.out⟩
end Go.Proofs.YtcfploigpnjmoaaDoor

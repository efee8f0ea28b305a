/- What the law FrameBack answers: true, for every frame. -/
import Derived.Test.YtaplnbofglljdaaC1
import Derived.Lib.QuietBelow
import Derived.Deep.RegionWith
set_option linter.unusedVariables false
set_option linter.unusedSimpArgs false
namespace Go.Proofs.Ytaplnbofglljdaa
open Go.RowKit Go.Joins Go.Sort

set_option maxRecDepth 100000 in
set_option maxHeartbeats 4000000 in
theorem back_false (a0 a1 a2 a3 a4 a5 a6 a7 : Nat) (tag dg : Nat) (w : World) (hok : (⟨a0, a1, a2, a3, a4, a5, a6, a7, false, tag, dg⟩ : Fr).ok) :
    Calls Try.prog 3 #[frv a0 a1 a2 a3 a4 a5 a6 a7 false tag dg] w fun e w' => e = .returned (.bool true) ∧ Below w.heap.size w w' := by
  have HO : Hid ((⟨a0, a1, a2, a3, a4, a5, a6, a7, false, tag, dg⟩ : Fr).ok) := hok
  clear hok
  have hq : ∀ w, (Op.equalIn 9999 24 (.agg #[.int .u16 0, .int .u16 0, .int .u16 a2, .int .u16 a3, .int .u16 a4, .int .u16 a5, .int .u16 a6, .int .u16 a7]) (.agg #[.int .u16 0, .int .u16 0, .int .u16 a2, .int .u16 a3, .int .u16 a4, .int .u16 a5, .int .u16 a6, .int .u16 a7])).run Try.prog w = .ok true w := fun w => eql8 0 0 a2 a3 a4 a5 a6 a7 9997 w
  unfold frv frc
  go_enter Try.func3, Try.ntmps3
  go_wp2_with fail
  have hrow : (w.alloc (.cells (frc a0 a1 a2 a3 a4 a5 a6 a7 false tag dg) 28)).heap[w.heap.size]? = some (.cells (frc a0 a1 a2 a3 a4 a5 a6 a7 false tag dg) 28) := heap_alloc_new _ _
  have HB1 : Hid (Below w.heap.size w (w.alloc (.cells (frc a0 a1 a2 a3 a4 a5 a6 a7 false tag dg) 28))) := (Below.refl _ _).alloc (Nat.le_refl _) _
  refine (awake_any _).mono ?_
  rintro e w1 ⟨rfl, hb1⟩
  have hrow1 : w1.heap[w.heap.size]? = some (.cells (frc a0 a1 a2 a3 a4 a5 a6 a7 false tag dg) 28) := by
    rw [hb1.block _ (heap_lt hrow)]; exact hrow
  have HB2 : Hid (Below w.heap.size w w1) := HB1.out.trans (hb1.mono HB1.out.size)
  clear hrow hb1 HB1
  have HR1 : Hid (w1.heap[w.heap.size]? = some (.cells (frc a0 a1 a2 a3 a4 a5 a6 a7 false tag dg) 28)) := hrow1
  obtain ⟨⟨q0, q1, q2, q3, q4, q5, q6, q7, q8, q9, q10⟩, hsz1⟩ := row11 hrow1
  clear hrow1
  go_wp2_with fail
  refine (encode_any a0 a1 a2 a3 a4 a5 a6 a7 false tag dg _ HO.out).mono ?_
  rintro e w2 ⟨rfl, hb2⟩
  have HR2 : Hid (w2.heap[w.heap.size]? = some (.cells (frc a0 a1 a2 a3 a4 a5 a6 a7 false tag dg) 28)) := by
    show _ = _
    rw [hb2.block _ (heap_lt HR1.out)]; exact HR1.out
  have HB3 : Hid (Below w.heap.size w w2) := HB2.out.trans (hb2.mono HB2.out.size)
  clear q0 q1 q2 q3 q4 q5 q6 q7 q8 q9 q10 hsz1 hb2 HB2 HR1
  go_wp2_with fail
  refine (decode_enc ⟨a0, a1, a2, a3, a4, a5, a6, a7, false, tag, dg⟩ HO.out _).mono ?_
  rintro e w3 ⟨rfl, hb3⟩
  have HR3 : Hid (w3.heap[w.heap.size]? = some (.cells (frc a0 a1 a2 a3 a4 a5 a6 a7 false tag dg) 28)) := by
    show _ = _
    rw [hb3.block _ (heap_lt HR2.out)]; exact HR2.out
  have HB4 : Hid (Below w.heap.size w w3) := HB3.out.trans (hb3.mono HB3.out.size)
  clear hb3 HB3 HR2
  rw [show (cleanOf ⟨a0, a1, a2, a3, a4, a5, a6, a7, false, tag, dg⟩).v = frv 0 0 a2 a3 a4 a5 a6 a7 false 0 0 from rfl]
  unfold frv frc
  go_wp2_with fail
  obtain ⟨W, hW⟩ : ∃ W, W = w3.alloc (.cells #[.int .u16 0, .int .u16 0, .int .u16 a2, .int .u16 a3, .int .u16 a4, .int .u16 a5, .int .u16 a6, .int .u16 a7, .bool false, .int .u16 0, .int .u64 0] 28) := ⟨_, rfl⟩
  have HG : W.heap[w3.heap.size]? = some (.cells (frc 0 0 a2 a3 a4 a5 a6 a7 false 0 0) 28) := by rw [hW]; exact heap_alloc_new _ _
  have HR : W.heap[w.heap.size]? = some (.cells (frc a0 a1 a2 a3 a4 a5 a6 a7 false tag dg) 28) := by
    rw [hW, Below.heap_alloc _ _ _ (heap_lt HR3.out)]; exact HR3.out
  have HB : Hid (Below w.heap.size w W) := by show Below _ _ _; rw [hW]; exact HB4.out.alloc HB4.out.size _
  rw [← hW]
  clear hW HR3 HB4
  generalize w3.heap.size = G at *
  obtain ⟨⟨q0, q1, q2, q3, q4, q5, q6, q7, q8, q9, q10⟩, _⟩ := row11 HR
  obtain ⟨⟨g0, g1, g2, g3, g4, g5, g6, g7, g8, g9, g10⟩, _⟩ := row11 HG
  clear HR HG
  have s0 := cell_regrown q0; have s1 := cell_regrown q1; have s2 := cell_regrown q2; have s3 := cell_regrown q3; have s4 := cell_regrown q4; have s5 := cell_regrown q5; have s6 := cell_regrown q6; have s7 := cell_regrown q7; have s8 := cell_regrown q8; have s9 := cell_regrown q9; have s10 := cell_regrown q10
  have t0 := cell_regrown g0; have t1 := cell_regrown g1; have t2 := cell_regrown g2; have t3 := cell_regrown g3; have t4 := cell_regrown g4; have t5 := cell_regrown g5; have t6 := cell_regrown g6; have t7 := cell_regrown g7; have t8 := cell_regrown g8; have t9 := cell_regrown g9; have t10 := cell_regrown g10
  clear q0 q1 q2 q3 q4 q5 q6 q7 q8 q9 q10 g0 g1 g2 g3 g4 g5 g6 g7 g8 g9 g10
  obtain ⟨S, hS⟩ : ∃ S, ByteArray.mk (encOf ⟨a0, a1, a2, a3, a4, a5, a6, a7, false, tag, dg⟩).toArray = S := ⟨_, rfl⟩
  have c9 : Hid (∀ d os, Calls Try.prog 9 #[frv a0 a1 a2 a3 a4 a5 a6 a7 false tag dg] (grow (redrawn W d) os) fun e w'' => e = .returned (.string S) ∧ ∃ p : Regrown, w'' = grow (redrawn W p.d) p.os) := fun d os => Calls.regrown_of (by have h := rencode_any a0 a1 a2 a3 a4 a5 a6 a7 false tag dg (grow (redrawn W d) os) HO.out; rw [hS] at h; exact h)
  rw [hS]
  clear hS
  have c10a : Hid (∀ d os, Calls Try.prog 10 #[frv a0 a1 a2 a3 a4 a5 a6 a7 false tag dg] (grow (redrawn W d) os) fun e w'' => e = .returned (.agg #[.int .u16 0, .int .u16 0, .int .u16 a2, .int .u16 a3, .int .u16 a4, .int .u16 a5, .int .u16 a6, .int .u16 a7, .bool false, .int .u16 0, .int .u64 0]) ∧ ∃ p : Regrown, w'' = grow (redrawn W p.d) p.os) := fun d os => Calls.regrown_of (clean_bare a0 a1 a2 a3 a4 a5 a6 a7 tag dg _)
  have c10b : Hid (∀ d os, Calls Try.prog 10 #[.agg #[.int .u16 a0, .int .u16 a1, .int .u16 a2, .int .u16 a3, .int .u16 a4, .int .u16 a5, .int .u16 a6, .int .u16 a7, .bool false, .int .u16 0, .int .u64 0]] (grow (redrawn W d) os) fun e w'' => e = .returned (.agg #[.int .u16 0, .int .u16 0, .int .u16 a2, .int .u16 a3, .int .u16 a4, .int .u16 a5, .int .u16 a6, .int .u16 a7, .bool false, .int .u16 0, .int .u64 0]) ∧ ∃ p : Regrown, w'' = grow (redrawn W p.d) p.os) := fun d os => Calls.regrown_of (clean_bare a0 a1 a2 a3 a4 a5 a6 a7 0 0 _)
  have c10c : Hid (∀ d os, Calls Try.prog 10 #[.agg #[.int .u16 a0, .int .u16 a1, .int .u16 a2, .int .u16 a3, .int .u16 a4, .int .u16 a5, .int .u16 a6, .int .u16 a7, .bool true, .int .u16 tag, .int .u64 dg]] (grow (redrawn W d) os) fun e w'' => e = .returned (.agg #[.int .u16 0, .int .u16 0, .int .u16 a2, .int .u16 a3, .int .u16 a4, .int .u16 a5, .int .u16 a6, .int .u16 a7, .bool true, .int .u16 tag, .int .u64 dg]) ∧ ∃ p : Regrown, w'' = grow (redrawn W p.d) p.os) := fun d os => Calls.regrown_of (clean_tagged a0 a1 a2 a3 a4 a5 a6 a7 tag dg _)
  have c11 : Hid (∀ d os, Calls Try.prog 11 #[pkv a0 a1 a2 a3 a4 a5 a6 a7] (grow (redrawn W d) os) fun e w'' => e = .returned (.agg #[.int .u16 0, .int .u16 0, .int .u16 a2, .int .u16 a3, .int .u16 a4, .int .u16 a5, .int .u16 a6, .int .u16 a7, .bool false, .int .u16 0, .int .u64 0]) ∧ ∃ p : Regrown, w'' = grow (redrawn W p.d) p.os) := fun d os => Calls.regrown_of (bare_any a0 a1 a2 a3 a4 a5 a6 a7 _)
  have c12 : Hid (∀ d os, Calls Try.prog 12 #[pkv a0 a1 a2 a3 a4 a5 a6 a7, .int .u16 tag, .int .u64 dg] (grow (redrawn W d) os) fun e w'' => e = .returned (.agg #[.int .u16 0, .int .u16 0, .int .u16 a2, .int .u16 a3, .int .u16 a4, .int .u16 a5, .int .u16 a6, .int .u16 a7, .bool true, .int .u16 tag, .int .u64 dg]) ∧ ∃ p : Regrown, w'' = grow (redrawn W p.d) p.os) := fun d os => Calls.regrown_of (tagged_any a0 a1 a2 a3 a4 a5 a6 a7 tag dg _)
  refine wp_region_quiet_below (by kernel_rfl) (by kernel_rfl) ?_
  repeat (go_big_quiet_step (first | (go_at_call 9; exact c9.out _ _) | (go_at_call_of 10 (Value.bool true); exact c10c.out _ _) | (go_at_call_of 10 (Value.int .u64 0); exact c10b.out _ _) | (go_at_call_of 10 (Value.bool false); exact c10a.out _ _) | (go_at_call 11; exact c11.out _ _) | (go_at_call 12; exact c12.out _ _)))
  refine wpQuiet_nil ?_
  intro _ hw'
  obtain ⟨⟨dq, osq⟩, hw''⟩ := hw'
  subst hw''
  have HBE : Hid (Below w.heap.size w (grow (redrawn W dq) osq)) := HB.out.trans ((below_regrown W dq osq).mono HB.out.size)
  clear s0 t0 s1 t1 s2 t2 s3 t3 s4 t4 s5 t5 s6 t6 s7 t7 s8 t8 s9 t9 s10 t10 c9 c10a c10b c10c c11 c12 hq HB
  generalize (grow (redrawn W dq) osq) = WE at *
  go_wp2
  go_ret
  exact ⟨rfl, HBE.out⟩
set_option maxRecDepth 100000 in
set_option maxHeartbeats 4000000 in
theorem back_true (a0 a1 a2 a3 a4 a5 a6 a7 : Nat) (tag dg : Nat) (w : World) (hok : (⟨a0, a1, a2, a3, a4, a5, a6, a7, true, tag, dg⟩ : Fr).ok) :
    Calls Try.prog 3 #[frv a0 a1 a2 a3 a4 a5 a6 a7 true tag dg] w fun e w' => e = .returned (.bool true) ∧ Below w.heap.size w w' := by
  have HO : Hid ((⟨a0, a1, a2, a3, a4, a5, a6, a7, true, tag, dg⟩ : Fr).ok) := hok
  clear hok
  have hq : ∀ w, (Op.equalIn 9999 24 (.agg #[.int .u16 0, .int .u16 0, .int .u16 a2, .int .u16 a3, .int .u16 a4, .int .u16 a5, .int .u16 a6, .int .u16 a7]) (.agg #[.int .u16 0, .int .u16 0, .int .u16 a2, .int .u16 a3, .int .u16 a4, .int .u16 a5, .int .u16 a6, .int .u16 a7])).run Try.prog w = .ok true w := fun w => eql8 0 0 a2 a3 a4 a5 a6 a7 9997 w
  unfold frv frc
  go_enter Try.func3, Try.ntmps3
  go_wp2_with fail
  have hrow : (w.alloc (.cells (frc a0 a1 a2 a3 a4 a5 a6 a7 true tag dg) 28)).heap[w.heap.size]? = some (.cells (frc a0 a1 a2 a3 a4 a5 a6 a7 true tag dg) 28) := heap_alloc_new _ _
  have HB1 : Hid (Below w.heap.size w (w.alloc (.cells (frc a0 a1 a2 a3 a4 a5 a6 a7 true tag dg) 28))) := (Below.refl _ _).alloc (Nat.le_refl _) _
  refine (awake_any _).mono ?_
  rintro e w1 ⟨rfl, hb1⟩
  have hrow1 : w1.heap[w.heap.size]? = some (.cells (frc a0 a1 a2 a3 a4 a5 a6 a7 true tag dg) 28) := by
    rw [hb1.block _ (heap_lt hrow)]; exact hrow
  have HB2 : Hid (Below w.heap.size w w1) := HB1.out.trans (hb1.mono HB1.out.size)
  clear hrow hb1 HB1
  have HR1 : Hid (w1.heap[w.heap.size]? = some (.cells (frc a0 a1 a2 a3 a4 a5 a6 a7 true tag dg) 28)) := hrow1
  obtain ⟨⟨q0, q1, q2, q3, q4, q5, q6, q7, q8, q9, q10⟩, hsz1⟩ := row11 hrow1
  clear hrow1
  go_wp2_with fail
  refine (encode_any a0 a1 a2 a3 a4 a5 a6 a7 true tag dg _ HO.out).mono ?_
  rintro e w2 ⟨rfl, hb2⟩
  have HR2 : Hid (w2.heap[w.heap.size]? = some (.cells (frc a0 a1 a2 a3 a4 a5 a6 a7 true tag dg) 28)) := by
    show _ = _
    rw [hb2.block _ (heap_lt HR1.out)]; exact HR1.out
  have HB3 : Hid (Below w.heap.size w w2) := HB2.out.trans (hb2.mono HB2.out.size)
  clear q0 q1 q2 q3 q4 q5 q6 q7 q8 q9 q10 hsz1 hb2 HB2 HR1
  go_wp2_with fail
  refine (decode_enc ⟨a0, a1, a2, a3, a4, a5, a6, a7, true, tag, dg⟩ HO.out _).mono ?_
  rintro e w3 ⟨rfl, hb3⟩
  have HR3 : Hid (w3.heap[w.heap.size]? = some (.cells (frc a0 a1 a2 a3 a4 a5 a6 a7 true tag dg) 28)) := by
    show _ = _
    rw [hb3.block _ (heap_lt HR2.out)]; exact HR2.out
  have HB4 : Hid (Below w.heap.size w w3) := HB3.out.trans (hb3.mono HB3.out.size)
  clear hb3 HB3 HR2
  rw [show (cleanOf ⟨a0, a1, a2, a3, a4, a5, a6, a7, true, tag, dg⟩).v = frv 0 0 a2 a3 a4 a5 a6 a7 true tag dg from rfl]
  unfold frv frc
  go_wp2_with fail
  obtain ⟨W, hW⟩ : ∃ W, W = w3.alloc (.cells #[.int .u16 0, .int .u16 0, .int .u16 a2, .int .u16 a3, .int .u16 a4, .int .u16 a5, .int .u16 a6, .int .u16 a7, .bool true, .int .u16 tag, .int .u64 dg] 28) := ⟨_, rfl⟩
  have HG : W.heap[w3.heap.size]? = some (.cells (frc 0 0 a2 a3 a4 a5 a6 a7 true tag dg) 28) := by rw [hW]; exact heap_alloc_new _ _
  have HR : W.heap[w.heap.size]? = some (.cells (frc a0 a1 a2 a3 a4 a5 a6 a7 true tag dg) 28) := by
    rw [hW, Below.heap_alloc _ _ _ (heap_lt HR3.out)]; exact HR3.out
  have HB : Hid (Below w.heap.size w W) := by show Below _ _ _; rw [hW]; exact HB4.out.alloc HB4.out.size _
  rw [← hW]
  clear hW HR3 HB4
  generalize w3.heap.size = G at *
  obtain ⟨⟨q0, q1, q2, q3, q4, q5, q6, q7, q8, q9, q10⟩, _⟩ := row11 HR
  obtain ⟨⟨g0, g1, g2, g3, g4, g5, g6, g7, g8, g9, g10⟩, _⟩ := row11 HG
  clear HR HG
  have s0 := cell_regrown q0; have s1 := cell_regrown q1; have s2 := cell_regrown q2; have s3 := cell_regrown q3; have s4 := cell_regrown q4; have s5 := cell_regrown q5; have s6 := cell_regrown q6; have s7 := cell_regrown q7; have s8 := cell_regrown q8; have s9 := cell_regrown q9; have s10 := cell_regrown q10
  have t0 := cell_regrown g0; have t1 := cell_regrown g1; have t2 := cell_regrown g2; have t3 := cell_regrown g3; have t4 := cell_regrown g4; have t5 := cell_regrown g5; have t6 := cell_regrown g6; have t7 := cell_regrown g7; have t8 := cell_regrown g8; have t9 := cell_regrown g9; have t10 := cell_regrown g10
  clear q0 q1 q2 q3 q4 q5 q6 q7 q8 q9 q10 g0 g1 g2 g3 g4 g5 g6 g7 g8 g9 g10
  obtain ⟨S, hS⟩ : ∃ S, ByteArray.mk (encOf ⟨a0, a1, a2, a3, a4, a5, a6, a7, true, tag, dg⟩).toArray = S := ⟨_, rfl⟩
  have c9 : Hid (∀ d os, Calls Try.prog 9 #[frv a0 a1 a2 a3 a4 a5 a6 a7 true tag dg] (grow (redrawn W d) os) fun e w'' => e = .returned (.string S) ∧ ∃ p : Regrown, w'' = grow (redrawn W p.d) p.os) := fun d os => Calls.regrown_of (by have h := rencode_any a0 a1 a2 a3 a4 a5 a6 a7 true tag dg (grow (redrawn W d) os) HO.out; rw [hS] at h; exact h)
  rw [hS]
  clear hS
  have c10a : Hid (∀ d os, Calls Try.prog 10 #[frv a0 a1 a2 a3 a4 a5 a6 a7 true tag dg] (grow (redrawn W d) os) fun e w'' => e = .returned (.agg #[.int .u16 0, .int .u16 0, .int .u16 a2, .int .u16 a3, .int .u16 a4, .int .u16 a5, .int .u16 a6, .int .u16 a7, .bool true, .int .u16 tag, .int .u64 dg]) ∧ ∃ p : Regrown, w'' = grow (redrawn W p.d) p.os) := fun d os => Calls.regrown_of (clean_tagged a0 a1 a2 a3 a4 a5 a6 a7 tag dg _)
  have c10b : Hid (∀ d os, Calls Try.prog 10 #[.agg #[.int .u16 a0, .int .u16 a1, .int .u16 a2, .int .u16 a3, .int .u16 a4, .int .u16 a5, .int .u16 a6, .int .u16 a7, .bool false, .int .u16 0, .int .u64 0]] (grow (redrawn W d) os) fun e w'' => e = .returned (.agg #[.int .u16 0, .int .u16 0, .int .u16 a2, .int .u16 a3, .int .u16 a4, .int .u16 a5, .int .u16 a6, .int .u16 a7, .bool false, .int .u16 0, .int .u64 0]) ∧ ∃ p : Regrown, w'' = grow (redrawn W p.d) p.os) := fun d os => Calls.regrown_of (clean_bare a0 a1 a2 a3 a4 a5 a6 a7 0 0 _)
  have c10c : Hid (∀ d os, Calls Try.prog 10 #[.agg #[.int .u16 a0, .int .u16 a1, .int .u16 a2, .int .u16 a3, .int .u16 a4, .int .u16 a5, .int .u16 a6, .int .u16 a7, .bool true, .int .u16 tag, .int .u64 dg]] (grow (redrawn W d) os) fun e w'' => e = .returned (.agg #[.int .u16 0, .int .u16 0, .int .u16 a2, .int .u16 a3, .int .u16 a4, .int .u16 a5, .int .u16 a6, .int .u16 a7, .bool true, .int .u16 tag, .int .u64 dg]) ∧ ∃ p : Regrown, w'' = grow (redrawn W p.d) p.os) := fun d os => Calls.regrown_of (clean_tagged a0 a1 a2 a3 a4 a5 a6 a7 tag dg _)
  have c11 : Hid (∀ d os, Calls Try.prog 11 #[pkv a0 a1 a2 a3 a4 a5 a6 a7] (grow (redrawn W d) os) fun e w'' => e = .returned (.agg #[.int .u16 0, .int .u16 0, .int .u16 a2, .int .u16 a3, .int .u16 a4, .int .u16 a5, .int .u16 a6, .int .u16 a7, .bool false, .int .u16 0, .int .u64 0]) ∧ ∃ p : Regrown, w'' = grow (redrawn W p.d) p.os) := fun d os => Calls.regrown_of (bare_any a0 a1 a2 a3 a4 a5 a6 a7 _)
  have c12 : Hid (∀ d os, Calls Try.prog 12 #[pkv a0 a1 a2 a3 a4 a5 a6 a7, .int .u16 tag, .int .u64 dg] (grow (redrawn W d) os) fun e w'' => e = .returned (.agg #[.int .u16 0, .int .u16 0, .int .u16 a2, .int .u16 a3, .int .u16 a4, .int .u16 a5, .int .u16 a6, .int .u16 a7, .bool true, .int .u16 tag, .int .u64 dg]) ∧ ∃ p : Regrown, w'' = grow (redrawn W p.d) p.os) := fun d os => Calls.regrown_of (tagged_any a0 a1 a2 a3 a4 a5 a6 a7 tag dg _)
  refine wp_region_quiet_below (by kernel_rfl) (by kernel_rfl) ?_
  repeat (go_big_quiet_step (first | (go_at_call 9; exact c9.out _ _) | (go_at_call_of 10 (Value.bool true); exact c10c.out _ _) | (go_at_call_of 10 (Value.bool false); exact c10b.out _ _) | (go_at_call 11; exact c11.out _ _) | (go_at_call 12; exact c12.out _ _)))
  refine wpQuiet_nil ?_
  intro _ hw'
  obtain ⟨⟨dq, osq⟩, hw''⟩ := hw'
  subst hw''
  have HBE : Hid (Below w.heap.size w (grow (redrawn W dq) osq)) := HB.out.trans ((below_regrown W dq osq).mono HB.out.size)
  clear s0 t0 s1 t1 s2 t2 s3 t3 s4 t4 s5 t5 s6 t6 s7 t7 s8 t8 s9 t9 s10 t10 c9 c10a c10b c10c c11 c12 hq HB
  generalize (grow (redrawn W dq) osq) = WE at *
  go_wp2
  go_ret
  exact ⟨rfl, HBE.out⟩
end Go.Proofs.Ytaplnbofglljdaa

/- What the law FrameAny answers: true, for every text. -/
import Derived.Test.YtaplnbofglljdaaC1
set_option linter.unusedVariables false
set_option linter.unusedSimpArgs false
namespace Go.Proofs.Ytaplnbofglljdaa
open Go.RowKit Go.Joins

set_option maxRecDepth 100000 in
set_option maxHeartbeats 1000000 in
theorem any_long (s : ByteArray) (w : World) (h : 300 < s.size) (h63 : s.size ≤ 9223372036854775807) :
    Calls Try.prog 4 #[.string s] w fun e w' => e = .returned (.bool true) ∧ Below w.heap.size w w' := by
  have hd : decide ((300 : Int) < (s.size : Int)) = true := by simp; omega
  go_enter Try.func4, Try.ntmps4
  go_wp2_with fail
  refine (awake_any _).mono ?_
  rintro e w1 ⟨rfl, hb1⟩
  go_wp2_with fail
  go_ret
  exact ⟨rfl, hb1⟩

theorem decode_s (s : ByteArray) (w : World) (hs : s.size ≤ 1000) (F : Bool) (V : Value) (E : Int) (hF : isF s.data.toList = F) (hV : (if F then rdOf (tgOf s.data.toList) s.data.toList else zeroFr).v = V) (hE : (if F then (0 : Int) else 30) = E) :
    Calls Try.prog 8 #[.string s] w fun e w' => e = .returned (.tuple #[V, .int .i64 E]) ∧ Below w.heap.size w w' := by
  have := decode_any s.data.toList w (by simpa using hs)
  rw [bytes_eta, hF, hV] at this
  subst hE
  exact this
theorem rdecode_s (s : ByteArray) (w : World) (hs : s.size ≤ 1000) (F : Bool) (V : Value) (hF : isF s.data.toList = F) (hV : (if F then rdOf (tgOf s.data.toList) s.data.toList else zeroFr).v = V) :
    Calls Try.prog 13 #[.string s] w fun e w' => e = .returned (.tuple #[V, .bool F]) ∧ Below w.heap.size w w' := by
  have := rdecode_any s.data.toList w (by simpa using hs) F V hF hV
  rwa [bytes_eta] at this

set_option maxRecDepth 100000 in
set_option maxHeartbeats 1000000 in
theorem any_no (s : ByteArray) (w : World) (h : s.size ≤ 300) (hF : isF s.data.toList = false) :
    Calls Try.prog 4 #[.string s] w fun e w' => e = .returned (.bool true) ∧ Below w.heap.size w w' := by
  have hd : decide ((300 : Int) < (s.size : Int)) = false := by simp; omega
  have HF : Hid (isF s.data.toList = false) := hF
  clear hF
  have hq : ∀ w, (Op.equalIn 9999 24 (.agg #[.int .u16 0, .int .u16 0, .int .u16 0, .int .u16 0, .int .u16 0, .int .u16 0, .int .u16 0, .int .u16 0]) (.agg #[.int .u16 0, .int .u16 0, .int .u16 0, .int .u16 0, .int .u16 0, .int .u16 0, .int .u16 0, .int .u16 0])).run Try.prog w = .ok true w := fun w => eql8 0 0 0 0 0 0 0 0 9997 w
  go_enter Try.func4, Try.ntmps4
  go_wp2_with fail
  refine (awake_any _).mono ?_
  rintro e w1 ⟨rfl, hb1⟩
  go_wp2_with fail
  refine (decode_s s _ (by omega) false (.agg zeroC) 30 HF.out rfl rfl).mono ?_
  rintro e w2 ⟨rfl, hb2⟩
  have HB2 : Hid (Below w.heap.size w w2) := hb1.trans (hb2.mono hb1.size)
  clear hb1 hb2
  go_wp2_with fail
  have hrow : (w2.alloc (.cells zeroC 28)).heap[w2.heap.size]? = some (.cells zeroC 28) := heap_alloc_new _ _
  have HB3 : Hid (Below w.heap.size w (w2.alloc (.cells zeroC 28))) := HB2.out.alloc HB2.out.size _
  refine (rdecode_s s _ (by omega) false (.agg zeroC) HF.out rfl).mono ?_
  rintro e w3 ⟨rfl, hb3⟩
  have hrow3 : w3.heap[w2.heap.size]? = some (.cells zeroC 28) := by
    rw [hb3.block _ (heap_lt hrow)]; exact hrow
  have HB4 : Hid (Below w.heap.size w w3) := HB3.out.trans (hb3.mono HB3.out.size)
  clear hrow hb3 HB3 HB2
  obtain ⟨⟨q0, q1, q2, q3, q4, q5, q6, q7, q8, q9, q10⟩, hsz⟩ := row11 hrow3
  clear hrow3
  go_wp2_with fail
  go_ret
  exact ⟨rfl, HB4.out.alloc HB4.out.size _⟩
set_option maxRecDepth 100000 in
set_option maxHeartbeats 1000000 in
theorem any_yes (s : ByteArray) (w : World) (h : s.size ≤ 300) (hF : isF s.data.toList = true) :
    Calls Try.prog 4 #[.string s] w fun e w' => e = .returned (.bool true) ∧ Below w.heap.size w w' := by
  have hd : decide ((300 : Int) < (s.size : Int)) = false := by simp; omega
  have HF : Hid (isF s.data.toList = true) := hF
  obtain ⟨f, hf, hok, henc⟩ : ∃ f, rdOf (tgOf s.data.toList) s.data.toList = f ∧ f.ok ∧ encOf f = s.data.toList := ⟨_, rfl, rd_ok _ _, enc_rd _ hF⟩
  clear hF
  obtain ⟨a0, a1, a2, a3, a4, a5, a6, a7, tg, tag, dg⟩ := f
  have HV : Hid ((if true = true then rdOf (tgOf s.data.toList) s.data.toList else zeroFr).v = frv a0 a1 a2 a3 a4 a5 a6 a7 tg tag dg) := by show _ = _; rw [if_pos rfl, hf]
  have HO : Hid ((⟨a0, a1, a2, a3, a4, a5, a6, a7, tg, tag, dg⟩ : Fr).ok) := hok
  have HE : Hid (ByteArray.mk (encOf ⟨a0, a1, a2, a3, a4, a5, a6, a7, tg, tag, dg⟩).toArray = s) := by show _ = _; rw [henc, bytes_eta]
  clear hf hok henc
  have hq : ∀ w, (Op.equalIn 9999 24 (.agg #[.int .u16 a0, .int .u16 a1, .int .u16 a2, .int .u16 a3, .int .u16 a4, .int .u16 a5, .int .u16 a6, .int .u16 a7]) (.agg #[.int .u16 a0, .int .u16 a1, .int .u16 a2, .int .u16 a3, .int .u16 a4, .int .u16 a5, .int .u16 a6, .int .u16 a7])).run Try.prog w = .ok true w := fun w => eql8 a0 a1 a2 a3 a4 a5 a6 a7 9997 w
  go_enter Try.func4, Try.ntmps4
  go_wp2_with fail
  refine (awake_any _).mono ?_
  rintro e w1 ⟨rfl, hb1⟩
  go_wp2_with fail
  refine (decode_s s _ (by omega) true _ 0 HF.out HV.out rfl).mono ?_
  rintro e w2 ⟨rfl, hb2⟩
  have HB2 : Hid (Below w.heap.size w w2) := hb1.trans (hb2.mono hb1.size)
  clear hb1 hb2
  unfold frv frc
  go_wp2_with fail
  have hrow : (w2.alloc (.cells (frc a0 a1 a2 a3 a4 a5 a6 a7 tg tag dg) 28)).heap[w2.heap.size]? = some (.cells (frc a0 a1 a2 a3 a4 a5 a6 a7 tg tag dg) 28) := heap_alloc_new _ _
  have HB3 : Hid (Below w.heap.size w (w2.alloc (.cells (frc a0 a1 a2 a3 a4 a5 a6 a7 tg tag dg) 28))) := HB2.out.alloc HB2.out.size _
  refine (rdecode_s s _ (by omega) true _ HF.out HV.out).mono ?_
  rintro e w3 ⟨rfl, hb3⟩
  have hrow3 : w3.heap[w2.heap.size]? = some (.cells (frc a0 a1 a2 a3 a4 a5 a6 a7 tg tag dg) 28) := by
    rw [hb3.block _ (heap_lt hrow)]; exact hrow
  have HB4 : Hid (Below w.heap.size w w3) := HB3.out.trans (hb3.mono HB3.out.size)
  clear hrow hb3 HB3 HB2
  obtain ⟨⟨q0, q1, q2, q3, q4, q5, q6, q7, q8, q9, q10⟩, hsz⟩ := row11 hrow3
  clear hrow3
  unfold frv frc
  go_wp2_with fail
  refine (encode_any a0 a1 a2 a3 a4 a5 a6 a7 tg tag dg _ HO.out).mono ?_
  rintro e w4 ⟨rfl, hb4⟩
  rw [HE.out]
  go_wp2_with fail
  go_ret
  exact ⟨rfl, (HB4.out.alloc HB4.out.size _).trans (hb4.mono (HB4.out.alloc HB4.out.size _).size)⟩
end Go.Proofs.Ytaplnbofglljdaa

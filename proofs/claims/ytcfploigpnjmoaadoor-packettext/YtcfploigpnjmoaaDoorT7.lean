/- What the law PacketText answers: true, for every packet and text, wherever the listed variables hold what the row lists. -/
import Derived.Test.YtcfploigpnjmoaaDoorT6
import Derived.Test.YtcfploigpnjmoaaDoorT4
import Derived.Test.YtcfploigpnjmoaaDoorF3
set_option linter.unusedVariables false
set_option linter.unusedSimpArgs false
namespace Go.Proofs.YtcfploigpnjmoaaDoor
open Go.RowKit Go.Joins Go.Sort

theorem rw1_length : ∀ (W : List (List UInt8)) (p : List Int) (m : List Bool) (q : List Int), rw1 W p m = some q → q.length = p.length
  | [], p, m, q, h => by rw [rw1] at h; injection h with h; rw [h]
  | x :: r, p, m, q, h => by
    rw [rw1] at h
    split at h
    · exact rw1_length r p m q h
    · split at h
      · cases h
      · split at h
        · cases h
        · have := rw1_length r _ _ q h
          simpa using this
theorem rw1_eight (W : List (List UInt8)) : ((rw1 W zero8 none8).getD zero8).length = 8 := by
  cases h : rw1 W zero8 none8 with
  | none => rfl
  | some q => exact rw1_length W _ _ q h
theorem pkl_eight (b0 b1 b2 b3 b4 b5 b6 b7 : Int) : pkl [b0, b1, b2, b3, b4, b5, b6, b7] = pk b0 b1 b2 b3 b4 b5 b6 b7 := rfl
theorem fld_doc (x : List UInt8) : (fldI x = 0 ∧ fldB x = false ∧ docF x = -1) ∨ ∃ k : Nat, fldI x = k ∧ fldB x = true ∧ docF x = k := by
  unfold fldI fldB docF
  cases h : fieldOf x with
  | none => exact .inl ⟨rfl, rfl, rfl⟩
  | some k => exact .inr ⟨k, rfl, rfl, rfl⟩
theorem read_list (x : List UInt8) (w : World) (h : Env w) (hx : x.length ≤ 1000) :
    Calls Tryd.prog 20 #[.string ⟨x.toArray⟩] w fun e w' => e = .returned (.tuple #[pkl ((readOf x).getD zero8), .bool (readOf x).isSome]) ∧ Below w.heap.size w w' := by
  have := read_any ⟨x.toArray⟩ w h (by simpa [ByteArray.size] using hx)
  simpa using this

set_option maxRecDepth 100000 in
set_option maxHeartbeats 1000000 in
theorem text_long (a0 a1 a2 a3 a4 a5 a6 a7 : Int) (x : List UInt8) (w : World) (h : Env w) (hn : 300 < x.length) :
    Calls Tryd.prog 4 #[pk a0 a1 a2 a3 a4 a5 a6 a7, .string ⟨x.toArray⟩] w fun e w' => e = .returned (.bool true) ∧ Below w.heap.size w w' := by
  have hd : decide ((300 : Int) < (x.length : Int)) = true := by simp; omega
  unfold pk
  go_enter Tryd.func4, Tryd.ntmps4
  go_wp2_with fail
  have hB0 : Below w.heap.size w (w.alloc (.cells #[.int .u16 a0, .int .u16 a1, .int .u16 a2, .int .u16 a3, .int .u16 a4, .int .u16 a5, .int .u16 a6, .int .u16 a7] 24)) := (Below.refl _ _).alloc (Nat.le_refl _) _
  refine (awake_any _ (h.below hB0)).mono ?_
  rintro e w1 ⟨rfl, hb1⟩
  clear h
  go_wp2
  go_ret
  exact ⟨rfl, hB0.trans (hb1.mono (by simp))⟩

set_option maxRecDepth 100000 in
set_option maxHeartbeats 1000000 in
theorem text_short (a0 a1 a2 a3 a4 a5 a6 a7 : Int) (hr : ∀ k, 0 ≤ [a0, a1, a2, a3, a4, a5, a6, a7].getD k 0 ∧ [a0, a1, a2, a3, a4, a5, a6, a7].getD k 0 ≤ 65535) (x : List UInt8) (w : World) (h : Env w) (hn : x.length ≤ 300) :
    Calls Tryd.prog 4 #[pk a0 a1 a2 a3 a4 a5 a6 a7, .string ⟨x.toArray⟩] w fun e w' => e = .returned (.bool true) ∧ Below w.heap.size w w' := by
  have hd : decide ((300 : Int) < (x.length : Int)) = false := by simp; omega
  have HR : Hid (∀ k, 0 ≤ [a0, a1, a2, a3, a4, a5, a6, a7].getD k 0 ∧ [a0, a1, a2, a3, a4, a5, a6, a7].getD k 0 ≤ 65535) := hr
  have hT := read_text a0 a1 a2 a3 a4 a5 a6 a7 hr
  have hTl := textTo_len _ hr 8
  have HRT : Hid (∀ w : World, Calls Tryd.prog 23 #[pk a0 a1 a2 a3 a4 a5 a6 a7] w fun e w' => e = .returned (.string ⟨(textTo [a0, a1, a2, a3, a4, a5, a6, a7] 8).toArray⟩) ∧ Below w.heap.size w w') := fun w => rtext_any a0 a1 a2 a3 a4 a5 a6 a7 w hr
  have HT1 : Hid (∀ w : World, Env w → Calls Tryd.prog 19 #[pk a0 a1 a2 a3 a4 a5 a6 a7] w fun e w' => e = .returned (.string ⟨(textTo [a0, a1, a2, a3, a4, a5, a6, a7] 8).toArray⟩) ∧ Below w.heap.size w w') := fun w h => text_any a0 a1 a2 a3 a4 a5 a6 a7 w h hr
  clear hr
  generalize textTo [a0, a1, a2, a3, a4, a5, a6, a7] 8 = T at *
  have HRD : Hid (∀ w : World, Env w → Calls Tryd.prog 20 #[.string ⟨T.toArray⟩] w fun e w' => e = .returned (.tuple #[pk a0 a1 a2 a3 a4 a5 a6 a7, .bool true]) ∧ Below w.heap.size w w') := fun w h => by
    have := read_list T w h (by omega)
    rw [hT] at this
    exact this
  clear hT hTl
  obtain ⟨b0, b1, b2, b3, b4, b5, b6, b7, hq⟩ := eight (rw1_eight (split 32 x))
  obtain ⟨B, hB⟩ : ∃ B, (rw1 (split 32 x) zero8 none8).isSome = B := ⟨_, rfl⟩
  have HX : Hid (∀ w : World, Env w → Calls Tryd.prog 20 #[.string ⟨x.toArray⟩] w fun e w' => e = .returned (.tuple #[pk b0 b1 b2 b3 b4 b5 b6 b7, .bool B]) ∧ Below w.heap.size w w') := fun w h => by
    have := read_list x w h (by omega)
    rw [readOf_eq, hq, hB] at this
    exact this
  have HY : Hid (∀ w : World, Calls Tryd.prog 21 #[.string ⟨x.toArray⟩] w fun e w' => e = .returned (.tuple #[pk b0 b1 b2 b3 b4 b5 b6 b7, .bool B]) ∧ Below w.heap.size w w') := fun w => by
    have := rread_any x (by omega) w
    rw [hq, hB] at this
    exact this
  clear hq hB
  have HF : Hid (∀ w : World, Env w → Calls Tryd.prog 9 #[.string ⟨x.toArray⟩] w fun e w' => e = .returned (.tuple #[.int .i64 (fldI x), .bool (fldB x)]) ∧ w' = w) := fun w h => field_list x w h
  have HG : Hid (∀ w : World, Calls Tryd.prog 22 #[.string ⟨x.toArray⟩] w fun e w' => e = .returned (.int .i64 (docF x)) ∧ Below w.heap.size w w') := fun w => rfield_b x w
  have HFD : Hid ((fldI x = 0 ∧ fldB x = false ∧ docF x = -1) ∨ ∃ k : Nat, fldI x = k ∧ fldB x = true ∧ docF x = k) := fld_doc x
  generalize fldI x = FI at *
  generalize fldB x = FB at *
  generalize docF x = DF at *
  unfold pk
  go_enter Tryd.func4, Tryd.ntmps4
  go_wp2_with fail
  have hB0 : Below w.heap.size w (w.alloc (.cells #[.int .u16 a0, .int .u16 a1, .int .u16 a2, .int .u16 a3, .int .u16 a4, .int .u16 a5, .int .u16 a6, .int .u16 a7] 24)) := (Below.refl _ _).alloc (Nat.le_refl _) _
  refine (awake_any _ (h.below hB0)).mono ?_
  rintro e w1 ⟨rfl, hb1⟩
  have hp1 : w1.heap[w.heap.size]? = some (.cells #[.int .u16 a0, .int .u16 a1, .int .u16 a2, .int .u16 a3, .int .u16 a4, .int .u16 a5, .int .u16 a6, .int .u16 a7] 24) := by rw [hb1.block _ (by simp)]; exact heap_alloc_new _ _
  have hB1 : Below w.heap.size w w1 := hB0.trans (hb1.mono (by simp))
  clear hb1 hB0
  have hE : Hid (∀ w', Below w.heap.size w w' → Env w') := fun w' hb => h.below hb
  clear h
  obtain ⟨⟨q0, q1, q2, q3, q4, q5, q6, q7⟩, -, hs1⟩ := row8 hp1
  go_wp2_with fail
  refine (HT1.out _ (hE.out _ hB1)).mono ?_
  rintro e w2 ⟨rfl, hb2⟩
  have hp2 := (hb2.block _ hs1).trans hp1
  have hB2 : Below w.heap.size w w2 := hB1.trans (hb2.mono (by omega))
  clear q0 q1 q2 q3 q4 q5 q6 q7 hp1 hb2 hB1 hs1
  have hs2 := heap_lt hp2
  go_wp2_with fail
  refine (HRD.out _ (hE.out _ hB2)).mono ?_
  rintro e w3 ⟨rfl, hb3⟩
  have hp3 := (hb3.block _ hs2).trans hp2
  have hB3 : Below w.heap.size w w3 := hB2.trans (hb3.mono (by omega))
  clear hp2 hb3 hB2 hs2
  have hs3 := heap_lt hp3
  unfold pk
  go_wp2_with fail
  have hpW : (w3.alloc (.cells #[.int .u16 a0, .int .u16 a1, .int .u16 a2, .int .u16 a3, .int .u16 a4, .int .u16 a5, .int .u16 a6, .int .u16 a7] 24)).heap[w.heap.size]? = some (.cells #[.int .u16 a0, .int .u16 a1, .int .u16 a2, .int .u16 a3, .int .u16 a4, .int .u16 a5, .int .u16 a6, .int .u16 a7] 24) := by rw [Below.heap_alloc _ _ _ hs3]; exact hp3
  have hqW := heap_alloc_new w3 (.cells #[.int .u16 a0, .int .u16 a1, .int .u16 a2, .int .u16 a3, .int .u16 a4, .int .u16 a5, .int .u16 a6, .int .u16 a7] 24)
  have hBW : Below w.heap.size w (w3.alloc (.cells #[.int .u16 a0, .int .u16 a1, .int .u16 a2, .int .u16 a3, .int .u16 a4, .int .u16 a5, .int .u16 a6, .int .u16 a7] 24)) := hB3.alloc (by omega) _
  generalize w3.heap.size = gq at *
  generalize (w3.alloc (.cells #[.int .u16 a0, .int .u16 a1, .int .u16 a2, .int .u16 a3, .int .u16 a4, .int .u16 a5, .int .u16 a6, .int .u16 a7] 24)) = W3 at *
  clear hp3 hB3 hs3
  refine (HX.out _ (hE.out _ hBW)).mono ?_
  rintro e w4 ⟨rfl, hb4⟩
  have hp4 := (hb4.block _ (heap_lt hpW)).trans hpW
  have hq4 := (hb4.block _ (heap_lt hqW)).trans hqW
  have hB4 : Below w.heap.size w w4 := hBW.trans (hb4.mono hBW.size)
  clear hpW hqW hBW hb4
  unfold pk
  go_wp2_with fail
  have hp5 : (w4.alloc (.cells #[.int .u16 b0, .int .u16 b1, .int .u16 b2, .int .u16 b3, .int .u16 b4, .int .u16 b5, .int .u16 b6, .int .u16 b7] 24)).heap[w.heap.size]? = some (.cells #[.int .u16 a0, .int .u16 a1, .int .u16 a2, .int .u16 a3, .int .u16 a4, .int .u16 a5, .int .u16 a6, .int .u16 a7] 24) := by rw [Below.heap_alloc _ _ _ (heap_lt hp4)]; exact hp4
  have hq5 : (w4.alloc (.cells #[.int .u16 b0, .int .u16 b1, .int .u16 b2, .int .u16 b3, .int .u16 b4, .int .u16 b5, .int .u16 b6, .int .u16 b7] 24)).heap[gq]? = some (.cells #[.int .u16 a0, .int .u16 a1, .int .u16 a2, .int .u16 a3, .int .u16 a4, .int .u16 a5, .int .u16 a6, .int .u16 a7] 24) := by rw [Below.heap_alloc _ _ _ (heap_lt hq4)]; exact hq4
  have hx5 := heap_alloc_new w4 (.cells #[.int .u16 b0, .int .u16 b1, .int .u16 b2, .int .u16 b3, .int .u16 b4, .int .u16 b5, .int .u16 b6, .int .u16 b7] 24)
  have hB5 : Below w.heap.size w (w4.alloc (.cells #[.int .u16 b0, .int .u16 b1, .int .u16 b2, .int .u16 b3, .int .u16 b4, .int .u16 b5, .int .u16 b6, .int .u16 b7] 24)) := hB4.alloc hB4.size _
  generalize w4.heap.size = gx at *
  generalize (w4.alloc (.cells #[.int .u16 b0, .int .u16 b1, .int .u16 b2, .int .u16 b3, .int .u16 b4, .int .u16 b5, .int .u16 b6, .int .u16 b7] 24)) = W5 at *
  clear hp4 hq4 hB4
  refine (HY.out _).mono ?_
  rintro e w6 ⟨rfl, hb6⟩
  have hp6 := (hb6.block _ (heap_lt hp5)).trans hp5
  have hq6 := (hb6.block _ (heap_lt hq5)).trans hq5
  have hx6 := (hb6.block _ (heap_lt hx5)).trans hx5
  have hB6 : Below w.heap.size w w6 := hB5.trans (hb6.mono hB5.size)
  clear hp5 hq5 hx5 hB5 hb6
  unfold pk
  go_wp2_with fail
  have hp7 : (w6.alloc (.cells #[.int .u16 b0, .int .u16 b1, .int .u16 b2, .int .u16 b3, .int .u16 b4, .int .u16 b5, .int .u16 b6, .int .u16 b7] 24)).heap[w.heap.size]? = some (.cells #[.int .u16 a0, .int .u16 a1, .int .u16 a2, .int .u16 a3, .int .u16 a4, .int .u16 a5, .int .u16 a6, .int .u16 a7] 24) := by rw [Below.heap_alloc _ _ _ (heap_lt hp6)]; exact hp6
  have hq7 : (w6.alloc (.cells #[.int .u16 b0, .int .u16 b1, .int .u16 b2, .int .u16 b3, .int .u16 b4, .int .u16 b5, .int .u16 b6, .int .u16 b7] 24)).heap[gq]? = some (.cells #[.int .u16 a0, .int .u16 a1, .int .u16 a2, .int .u16 a3, .int .u16 a4, .int .u16 a5, .int .u16 a6, .int .u16 a7] 24) := by rw [Below.heap_alloc _ _ _ (heap_lt hq6)]; exact hq6
  have hx7 : (w6.alloc (.cells #[.int .u16 b0, .int .u16 b1, .int .u16 b2, .int .u16 b3, .int .u16 b4, .int .u16 b5, .int .u16 b6, .int .u16 b7] 24)).heap[gx]? = some (.cells #[.int .u16 b0, .int .u16 b1, .int .u16 b2, .int .u16 b3, .int .u16 b4, .int .u16 b5, .int .u16 b6, .int .u16 b7] 24) := by rw [Below.heap_alloc _ _ _ (heap_lt hx6)]; exact hx6
  have hy7 := heap_alloc_new w6 (.cells #[.int .u16 b0, .int .u16 b1, .int .u16 b2, .int .u16 b3, .int .u16 b4, .int .u16 b5, .int .u16 b6, .int .u16 b7] 24)
  have hB7 : Below w.heap.size w (w6.alloc (.cells #[.int .u16 b0, .int .u16 b1, .int .u16 b2, .int .u16 b3, .int .u16 b4, .int .u16 b5, .int .u16 b6, .int .u16 b7] 24)) := hB6.alloc hB6.size _
  generalize w6.heap.size = gy at *
  generalize (w6.alloc (.cells #[.int .u16 b0, .int .u16 b1, .int .u16 b2, .int .u16 b3, .int .u16 b4, .int .u16 b5, .int .u16 b6, .int .u16 b7] 24)) = W7 at *
  clear hp6 hq6 hx6 hB6
  refine (HF.out _ (hE.out _ hB7)).mono ?_
  rintro e w8 ⟨rfl, rfl⟩
  go_wp2_with fail
  refine (HG.out _).mono ?_
  rintro e w9 ⟨rfl, hb9⟩
  have hp9 := (hb9.block _ (heap_lt hp7)).trans hp7
  have hq9 := (hb9.block _ (heap_lt hq7)).trans hq7
  have hx9 := (hb9.block _ (heap_lt hx7)).trans hx7
  have hy9 := (hb9.block _ (heap_lt hy7)).trans hy7
  have hB9 : Below w.heap.size w w9 := hB7.trans (hb9.mono hB7.size)
  clear hp7 hq7 hx7 hy7 hB7 hb9
  obtain ⟨⟨q0, q1, q2, q3, q4, q5, q6, q7⟩, -, -⟩ := row8 hp9
  go_wp2_with fail
  refine (HRT.out _).mono ?_
  rintro e wz ⟨rfl, hbz⟩
  have hpz := (hbz.block _ (heap_lt hp9)).trans hp9
  have hqz := (hbz.block _ (heap_lt hq9)).trans hq9
  have hxz := (hbz.block _ (heap_lt hx9)).trans hx9
  have hyz := (hbz.block _ (heap_lt hy9)).trans hy9
  have hBz : Below w.heap.size w wz := hB9.trans (hbz.mono hB9.size)
  clear q0 q1 q2 q3 q4 q5 q6 q7 hp9 hq9 hx9 hy9 hB9 hbz hE HR HRT HT1 HRD HX HY HF HG
  obtain ⟨⟨q0, q1, q2, q3, q4, q5, q6, q7⟩, -, -⟩ := row8 hpz
  obtain ⟨⟨r0, r1, r2, r3, r4, r5, r6, r7⟩, -, -⟩ := row8 hqz
  obtain ⟨⟨s0, s1, s2, s3, s4, s5, s6, s7⟩, -, -⟩ := row8 hxz
  obtain ⟨⟨t0, t1, t2, t3, t4, t5, t6, t7⟩, -, -⟩ := row8 hyz
  have e1 := eql8 a0 a1 a2 a3 a4 a5 a6 a7 a0 a1 a2 a3 a4 a5 a6 a7
  have e2 := eql8 b0 b1 b2 b3 b4 b5 b6 b7 b0 b1 b2 b3 b4 b5 b6 b7
  have u1 := same8_self [a0, a1, a2, a3, a4, a5, a6, a7]
  have u2 := same8_self [b0, b1, b2, b3, b4, b5, b6, b7]
  clear hpz hqz hxz hyz
  rcases HFD.out with ⟨rfl, rfl, rfl⟩ | ⟨k, rfl, rfl, rfl⟩
  · clear HFD
    go_wp2
    go_ret
    exact ⟨rfl, hBz⟩
  · clear HFD
    have dk : decide ((0 : Int) ≤ (k : Int)) = true := by simp
    go_wp2
    go_ret
    exact ⟨rfl, hBz⟩
end Go.Proofs.YtcfploigpnjmoaaDoor

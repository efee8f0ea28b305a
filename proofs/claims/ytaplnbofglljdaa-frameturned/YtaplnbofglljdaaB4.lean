/- What the document's Decode answers: the frame that the bytes tell, or that they tell none; texts of up to 1000 bytes. -/
import Derived.Test.YtaplnbofglljdaaB2
import Derived.Test.YtaplnbofglljdaaB3
set_option linter.unusedVariables false
set_option linter.unusedSimpArgs false
namespace Go.Proofs.Ytaplnbofglljdaa
open Go.RowKit Go.Joins

theorem rnumber_s (s : ByteArray) (i : Nat) (w : World) (h : i + 1 < s.size) (hi : i ≤ 1000) :
    Calls Try.prog 22 #[.string s, .int .i64 i] w fun e w' => e = .returned (.int .u16 (two s.data.toList i)) ∧ ∃ n, w' = w.drewN n := by
  have := rnumber_list s.data.toList i w (by simpa using h) hi
  rwa [bytes_eta] at this
/-- What holds all through the document's Decode: the result's row, the row of 'none', the frame's row so far. -/
structure RSt (w : World) (cs : Array Value) (wr : World) : Prop where
  res : wr.heap[w.heap.size]? = some (.cells zeroC 28)
  non : wr.heap[w.heap.size + 1]? = some (.cells zeroC 28)
  box : wr.heap[w.heap.size + 1 + 1]? = some (.cells cs 28)
  bel : Below w.heap.size w wr
theorem RSt.start (w : World) (cs : Array Value) : RSt w cs (((w.alloc (.cells zeroC 28)).alloc (.cells zeroC 28)).alloc (.cells cs 28)) := by
  refine ⟨?_, ?_, ?_, below_alloc3 _ _ _ _⟩
  · rw [Below.heap_alloc _ _ _ (by simp; omega), Below.heap_alloc _ _ _ (by simp)]; exact heap_alloc_new _ _
  · rw [Below.heap_alloc _ _ _ (by simp)]
    have h := heap_alloc_new (w.alloc (.cells zeroC 28)) (.cells zeroC 28)
    simpa using h
  · have h := heap_alloc_new ((w.alloc (.cells zeroC 28)).alloc (.cells zeroC 28)) (.cells cs 28)
    simpa using h
theorem RSt.set {w wr : World} {cs : Array Value} (h : RSt w cs wr) (j : Nat) (v : Value) : RSt w (cs.setIfInBounds j v) (wr.setCell ⟨w.heap.size + 1 + 1, j, none⟩ v) :=
  ⟨by rw [heap_setCell_other _ _ _ _ (by simp; omega)]; exact h.res, by rw [heap_setCell_other _ _ _ _ (by simp)]; exact h.non, heap_setCell_same _ _ _ _ _ _ h.box, h.bel.setCell (by simp; omega) _⟩
theorem RSt.drew {w wr : World} {cs : Array Value} (h : RSt w cs wr) (n : Nat) : RSt w cs (wr.drewN n) := ⟨h.res, h.non, h.box, below_drewN h.bel n⟩
theorem RSt.drew1 {w wr : World} {cs : Array Value} (h : RSt w cs wr) : RSt w cs wr.drew := ⟨h.res, h.non, h.box, h.bel.drew⟩
theorem RSt.below {w wr w' : World} {cs : Array Value} (h : RSt w cs wr) (hb : Below wr.heap.size wr w') : RSt w cs w' := by
  have h2 := heap_lt h.box
  exact ⟨by rw [hb.block _ (by omega)]; exact h.res, by rw [hb.block _ (by omega)]; exact h.non, by rw [hb.block _ (by omega)]; exact h.box, h.bel.trans (hb.mono h.bel.size)⟩

set_option maxRecDepth 100000 in
set_option maxHeartbeats 1000000 in
theorem rdecode_bare (s : ByteArray) (w : World) (hs : s.size = 16) (F : Bool) (V : Value) (hF : isF s.data.toList = F) (hV : (if F then rdOf false s.data.toList else zeroFr).v = V) :
    Calls Try.prog 13 #[.string s] w fun e w' => e = .returned (.tuple #[V, .bool F]) ∧ Below w.heap.size w w' := by
  have HT : Hid (tgOf s.data.toList = false) := by show _ = _; unfold tgOf; simp [hs]
  obtain ⟨l, hl⟩ : ∃ l, s.data.toList = l := ⟨_, rfl⟩
  have HL : Hid (s.data.toList = l) := hl
  rw [hl] at HT hF hV
  have HF : Hid (isF l = F) := hF
  have HV : Hid ((if F then rdOf false l else zeroFr).v = V) := hV
  clear hl hF hV
  go_enter Try.func13, Try.ntmps13
  go_wp2_with fail
  have HD := RSt.start w (rdRow l false 0)
  rw [rdRow_zero] at HD
  go_loopw [6] (fun i wr => ∃ (k : Nat), k ≤ 6 ∧ i = .int .i64 ((k : Int) + 2) ∧ Hid (RSt w (rdRow l false k) wr)) (fun i _ => 8 - (intOf i).toNat)
  case atStart => exact ⟨0, Nat.zero_le _, rfl, HD⟩
  case round =>
    clear HD
    obtain ⟨k, hk, rfl, HD⟩ := hrel
    by_cases hlt : k < 6
    · have hl8 : (k : Int) + 2 < 8 := by omega
      have hX6 := two_lt l (2 * k + 2)
      go_wp2_with fail
      rw [show 2 * ((k : Int) + 2) - 2 = ((2 * k + 2 : Nat) : Int) by omega]
      refine (rnumber_s s (2 * k + 2) _ (by omega) (by omega)).mono ?_
      rintro e w2 ⟨rfl, n2, rfl⟩
      rw [HL.out]
      have HD1 : Hid (RSt w (rdRow l false k) (wr.drewN n2)) := HD.out.drew n2
      clear HD
      generalize wr.drewN n2 = w2 at *
      have HD2 : Hid (RSt w _ _) := HD1.out.set (k + 2) (.int .u16 (two l (2 * k + 2) : Nat))
      rw [rdRow_set l false k hlt] at HD2
      obtain ⟨fc, hfc⟩ : ∃ c, w2.cell? ⟨w.heap.size + 1 + 1, k + 2, none⟩ = some c := by
        rw [cell_of_row _ _ _ _ _ _ HD1.out.box]
        exact ⟨_, Array.getElem?_eq_getElem (by simp; omega)⟩
      have hff := frozen_of_row w2 (w.heap.size + 1 + 1) (k + 2) _ _ HD1.out.box
      generalize two l (2 * k + 2) = X at *
      go_wp2_with fail
      exact ⟨⟨k + 1, by omega, by go_num, HD2⟩, by simp [intOf]; omega⟩
    · have hk6 : k = 6 := by omega
      subst hk6
      rw [rdRow_six] at HD
      obtain ⟨⟨q0, q1, q2, q3, q4, q5, q6, q7, q8, q9, q10⟩, hsz⟩ := row11 HD.out.box
      have HO : Hid ((rdOf false l).ok) := rd_ok false l
      have HI : Hid ((encOf (rdOf false l) = l) ↔ isF l = true) := by have h := enc_rd_iff l; rw [HT.out] at h; exact h
      have HRD : Hid ((⟨0, 0, two l 2, two l 4, two l 6, two l 8, two l 10, two l 12, false, 0, 0⟩ : Fr) = rdOf false l) := rfl
      have HO2 : Hid ((⟨0, 0, two l 2, two l 4, two l 6, two l 8, two l 10, two l 12, false, 0, 0⟩ : Fr).ok) := by show Fr.ok _; rw [HRD.out]; exact HO.out
      go_wp2_with fail
      refine (rencode_any 0 0 (two l 2) (two l 4) (two l 6) (two l 8) (two l 10) (two l 12) false 0 0 _ HO2.out).mono ?_
      rw [HRD.out]
      rintro e w3 ⟨rfl, hb3⟩
      have HI2 : Hid ((ByteArray.mk (encOf (rdOf false l)).toArray = s) ↔ isF l = true) := by
        show _ ↔ _
        rw [← HI.out]
        constructor
        · intro h; have := congrArg (fun b => b.data.toList) h; simp only [HL.out] at this; exact this
        · intro h; rw [h, ← HL.out, bytes_eta]
      generalize ByteArray.mk (encOf (rdOf false l)).toArray = T at *
      have HD3 : Hid (RSt w (frc 0 0 (two l 2) (two l 4) (two l 6) (two l 8) (two l 10) (two l 12) false 0 0) w3) := HD.out.below hb3
      clear HD hb3 q0 q1 q2 q3 q4 q5 q6 q7 q8 q9 q10 hsz HI
      obtain ⟨f0, f1, f2, f3, f4, f5, f6, f7, f8, f9, f10⟩ := frz11 HD3.out.res
      obtain ⟨⟨r0, r1, r2, r3, r4, r5, r6, r7, r8, r9, r10⟩, hsz⟩ := row11 HD3.out.res
      cases F
      · have HN : Hid (T ≠ s) := fun h => by have h1 := HI2.out.1 h; have h2 := HF.out; rw [h1] at h2; cases h2
        have n2 : ¬ T.toList = s.toList := fun h => HN.out (by rw [ByteArray.toList_eq, ByteArray.toList_eq] at h; rw [← bytes_eta T, ← bytes_eta s, h])
        have n1 : (T.toList == s.toList) = false := by simpa using n2
        have hV : zeroFr.v = V := HV.out
        obtain ⟨⟨q0, q1, q2, q3, q4, q5, q6, q7, q8, q9, q10⟩, _⟩ := row11 HD3.out.non
        go_wp2_with fail
        refine bodyPost_ret (v := .tuple #[zeroFr.v, .bool false]) ?_ rfl ⟨by rw [hV], below11 HD3.out.bel (Nat.le_refl _) _ _ _ _ _ _ _ _ _ _ _⟩
        obtain ⟨⟨g0, g1, g2, g3, g4, g5, g6, g7, g8, g9, g10⟩, _⟩ := row11 (set11 (.int .u16 0) (.int .u16 0) (.int .u16 0) (.int .u16 0) (.int .u16 0) (.int .u16 0) (.int .u16 0) (.int .u16 0) (.bool false) (.int .u16 0) (.int .u64 0) HD3.out.res)
        simp [results, Try.results13, go_sem, g0, g1, g2, g3, g4, g5, g6, g7, g8, g9, g10, zeroFr]
      · have hT : T = s := HI2.out.2 HF.out
        subst hT
        have hV : (⟨0, 0, two l 2, two l 4, two l 6, two l 8, two l 10, two l 12, false, 0, 0⟩ : Fr).v = V := by rw [HRD.out]; exact HV.out
        obtain ⟨⟨q0, q1, q2, q3, q4, q5, q6, q7, q8, q9, q10⟩, _⟩ := row11 HD3.out.box
        go_wp2_with fail
        refine bodyPost_ret (v := .tuple #[(⟨0, 0, two l 2, two l 4, two l 6, two l 8, two l 10, two l 12, false, 0, 0⟩ : Fr).v, .bool true]) ?_ rfl ⟨by rw [hV], below11 HD3.out.bel (Nat.le_refl _) _ _ _ _ _ _ _ _ _ _ _⟩
        obtain ⟨⟨g0, g1, g2, g3, g4, g5, g6, g7, g8, g9, g10⟩, _⟩ := row11 (set11 (.int .u16 0) (.int .u16 0) (.int .u16 (two l 2 : Nat)) (.int .u16 (two l 4 : Nat)) (.int .u16 (two l 6 : Nat)) (.int .u16 (two l 8 : Nat)) (.int .u16 (two l 10 : Nat)) (.int .u16 (two l 12 : Nat)) (.bool false) (.int .u16 0) (.int .u64 0) HD3.out.res)
        simp [results, Try.results13, go_sem, g0, g1, g2, g3, g4, g5, g6, g7, g8, g9, g10]
set_option maxRecDepth 100000 in
set_option maxHeartbeats 1000000 in
theorem rdecode_tagged (s : ByteArray) (w : World) (hs : s.size = 26) (F : Bool) (V : Value) (hF : isF s.data.toList = F) (hV : (if F then rdOf true s.data.toList else zeroFr).v = V) :
    Calls Try.prog 13 #[.string s] w fun e w' => e = .returned (.tuple #[V, .bool F]) ∧ Below w.heap.size w w' := by
  have HT : Hid (tgOf s.data.toList = true) := by show _ = _; unfold tgOf; simp [hs]
  obtain ⟨l, hl⟩ : ∃ l, s.data.toList = l := ⟨_, rfl⟩
  have HL : Hid (s.data.toList = l) := hl
  rw [hl] at HT hF hV
  have HF : Hid (isF l = F) := hF
  have HV : Hid ((if F then rdOf true l else zeroFr).v = V) := hV
  clear hl hF hV
  go_enter Try.func13, Try.ntmps13
  go_wp2_with fail
  have HD := RSt.start w (rdRow l true 0)
  rw [rdRow_zero] at HD
  go_loopw [6] (fun i wr => ∃ (k : Nat), k ≤ 6 ∧ i = .int .i64 ((k : Int) + 2) ∧ Hid (RSt w (rdRow l true k) wr)) (fun i _ => 8 - (intOf i).toNat)
  case atStart => exact ⟨0, Nat.zero_le _, rfl, HD⟩
  case round =>
    clear HD
    obtain ⟨k, hk, rfl, HD⟩ := hrel
    by_cases hlt : k < 6
    · have hl8 : (k : Int) + 2 < 8 := by omega
      have hX6 := two_lt l (2 * k + 2)
      go_wp2_with fail
      rw [show 2 * ((k : Int) + 2) - 2 = ((2 * k + 2 : Nat) : Int) by omega]
      refine (rnumber_s s (2 * k + 2) _ (by omega) (by omega)).mono ?_
      rintro e w2 ⟨rfl, n2, rfl⟩
      rw [HL.out]
      have HD1 : Hid (RSt w (rdRow l true k) (wr.drewN n2)) := HD.out.drew n2
      clear HD
      generalize wr.drewN n2 = w2 at *
      have HD2 : Hid (RSt w _ _) := HD1.out.set (k + 2) (.int .u16 (two l (2 * k + 2) : Nat))
      rw [rdRow_set l true k hlt] at HD2
      obtain ⟨fc, hfc⟩ : ∃ c, w2.cell? ⟨w.heap.size + 1 + 1, k + 2, none⟩ = some c := by
        rw [cell_of_row _ _ _ _ _ _ HD1.out.box]
        exact ⟨_, Array.getElem?_eq_getElem (by simp; omega)⟩
      have hff := frozen_of_row w2 (w.heap.size + 1 + 1) (k + 2) _ _ HD1.out.box
      generalize two l (2 * k + 2) = X at *
      go_wp2_with fail
      exact ⟨⟨k + 1, by omega, by go_num, HD2⟩, by simp [intOf]; omega⟩
    · have hk6 : k = 6 := by omega
      subst hk6
      rw [rdRow_six] at HD
      obtain ⟨⟨q0, q1, q2, q3, q4, q5, q6, q7, q8, q9, q10⟩, hsz⟩ := row11 HD.out.box
      obtain ⟨f0, f1, f2, f3, f4, f5, f6, f7, f8, f9, f10⟩ := frz11 HD.out.box
      have hX6 := two_lt l 14
      go_wp2_with fail
      refine (rnumber_s s 14 _ (by omega) (by omega)).mono ?_
      rintro e w2 ⟨rfl, n2, rfl⟩
      rw [HL.out]
      have HD1 : Hid (RSt w _ (wr.drewN n2)) := HD.out.drew n2
      clear HD q0 q1 q2 q3 q4 q5 q6 q7 q8 q9 q10 f0 f1 f2 f3 f4 f5 f6 f7 f8 f9 f10 hsz
      generalize wr.drewN n2 = w2 at *
      have HD2 : Hid (RSt w (frc 0 0 (two l 2) (two l 4) (two l 6) (two l 8) (two l 10) (two l 12) true (two l 14) 0) _) := HD1.out.set 9 (.int .u16 (two l 14 : Nat))
      obtain ⟨⟨q0, q1, q2, q3, q4, q5, q6, q7, q8, q9, q10⟩, hsz⟩ := row11 HD1.out.box
      obtain ⟨f0, f1, f2, f3, f4, f5, f6, f7, f8, f9, f10⟩ := frz11 HD1.out.box
      generalize hXX : two l 14 = X at *
      have HXX : Hid (two l 14 = X) := hXX
      clear hXX
      go_wp2_with fail
      clear HD1 q0 q1 q2 q3 q4 q5 q6 q7 q8 q9 q10 f0 f1 f2 f3 f4 f5 f6 f7 f8 f9 f10 hsz
      generalize w2.setCell ⟨w.heap.size + 1 + 1, 9, none⟩ (.int .u16 (X : Int)) = w4 at *
      go_loopw [7] (fun i wr => ∃ (k j : Nat), k ≤ 8 ∧ Hid (j = k + 16) ∧ i = .int .i64 j ∧ Hid (RSt w (frc 0 0 (two l 2) (two l 4) (two l 6) (two l 8) (two l 10) (two l 12) true X (num ((l.drop 16).take k))) wr)) (fun i _ => 24 - (intOf i).toNat)
      case atStart => exact ⟨0, 16, Nat.zero_le _, rfl, rfl, HD2⟩
      case round =>
        clear HD2
        obtain ⟨k, j, hk, HJ, rfl, HD⟩ := hrel
        have hj := HJ.out
        by_cases hlt : k < 8
        · have hj24 : j < 24 := by omega
          have hj26 : j < s.size := by omega
          have hj26i : (j : Int) < 26 := by omega
          clear hj
          obtain ⟨⟨q0, q1, q2, q3, q4, q5, q6, q7, q8, q9, q10⟩, hsz⟩ := row11 HD.out.box
          obtain ⟨f0, f1, f2, f3, f4, f5, f6, f7, f8, f9, f10⟩ := frz11 HD.out.box
          obtain ⟨D, HD4, HDQ⟩ : ∃ D : Nat, Hid (num ((l.drop 16).take (k + 1)) = D) ∧ Hid (IntKind.u64.wrap (IntKind.u64.wrap ((num ((l.drop 16).take k) : Int) * 256) + IntKind.u64.wrap (s[j].toNat : Int)) = (D : Int)) := by
            refine ⟨_, rfl, ?_⟩
            show _ = _
            have hb := num_lt ((l.drop 16).take k)
            have hb2 : 256 ^ ((l.drop 16).take k).length ≤ 256 ^ 7 := Nat.pow_le_pow_right (by decide) (by have : ((l.drop 16).take k).length ≤ k := List.length_take_le _ _; omega)
            have hj := HJ.out
            have hjl : j < l.length := by rw [← HL.out]; simpa using hj26
            have hjl2 : k < (l.drop 16).length := by rw [List.length_drop]; omega
            have e : s[j] = (l.drop 16)[k] := by
              rw [List.getElem_drop]
              have e2 : l[16 + k]? = some s[j] := by
                rw [← HL.out, show 16 + k = j by omega, List.getElem?_eq_getElem (by simpa using hj26)]; rfl
              rw [List.getElem?_eq_getElem (by omega)] at e2
              injection e2 with e2
              exact e2.symm
            rw [List.take_succ_eq_append_getElem hjl2, num_snoc, ← e]
            have hc := s[j].toNat_lt
            generalize s[j].toNat = c at *
            generalize num ((l.drop 16).take k) = d at *
            simp only [IntKind.wrap_u64]
            omega
          generalize num ((l.drop 16).take k) = d at *
          have HD5 : Hid (RSt w _ _) := (HD.out.set 10 (.int .u64 (D : Int))).drew1
          go_wp2_with fail
          go_region
          rw [HDQ.out]
          clear HD q0 q1 q2 q3 q4 q5 q6 q7 q8 q9 q10 f0 f1 f2 f3 f4 f5 f6 f7 f8 f9 f10 hsz HDQ
          have HD6 : Hid (RSt w (frc 0 0 (two l 2) (two l 4) (two l 6) (two l 8) (two l 10) (two l 12) true X D) ((wr.setCell ⟨w.heap.size + 1 + 1, 10, none⟩ (.int .u64 (D : Int))).drew)) := HD5.out
          clear HD5
          generalize (wr.setCell ⟨w.heap.size + 1 + 1, 10, none⟩ (.int .u64 (D : Int))).drew = w6 at *
          go_wp2_with fail
          refine ⟨⟨k + 1, j + 1, by omega, by show j + 1 = k + 1 + 16; have := HJ.out; omega, by go_num, ?_⟩, by simp [intOf]; omega⟩
          rw [HD4.out]
          exact HD6
        · have hk8 : k = 8 := by omega
          subst hk8
          have hj24 : j = 24 := hj
          subst hj24
          clear hj HJ
          obtain ⟨⟨q0, q1, q2, q3, q4, q5, q6, q7, q8, q9, q10⟩, hsz⟩ := row11 HD.out.box
          have HO : Hid ((rdOf true l).ok) := rd_ok true l
          have HI : Hid ((encOf (rdOf true l) = l) ↔ isF l = true) := by have h := enc_rd_iff l; rw [HT.out] at h; exact h
          have HRD : Hid ((⟨0, 0, two l 2, two l 4, two l 6, two l 8, two l 10, two l 12, true, X, num ((l.drop 16).take 8)⟩ : Fr) = rdOf true l) := by show _ = _; rw [← HXX.out]; rfl
          generalize num ((l.drop 16).take 8) = Y at *
          have HO2 : Hid ((⟨0, 0, two l 2, two l 4, two l 6, two l 8, two l 10, two l 12, true, X, Y⟩ : Fr).ok) := by show Fr.ok _; rw [HRD.out]; exact HO.out
          go_wp2_with fail
          refine (rencode_any 0 0 (two l 2) (two l 4) (two l 6) (two l 8) (two l 10) (two l 12) true X Y _ HO2.out).mono ?_
          rw [HRD.out]
          rintro e w3 ⟨rfl, hb3⟩
          have HI2 : Hid ((ByteArray.mk (encOf (rdOf true l)).toArray = s) ↔ isF l = true) := by
            show _ ↔ _
            rw [← HI.out]
            constructor
            · intro h; have := congrArg (fun b => b.data.toList) h; simp only [HL.out] at this; exact this
            · intro h; rw [h, ← HL.out, bytes_eta]
          generalize ByteArray.mk (encOf (rdOf true l)).toArray = T at *
          have HD3 : Hid (RSt w (frc 0 0 (two l 2) (two l 4) (two l 6) (two l 8) (two l 10) (two l 12) true X Y) w3) := HD.out.below hb3
          clear HD hb3 q0 q1 q2 q3 q4 q5 q6 q7 q8 q9 q10 hsz HI
          obtain ⟨f0, f1, f2, f3, f4, f5, f6, f7, f8, f9, f10⟩ := frz11 HD3.out.res
          obtain ⟨⟨r0, r1, r2, r3, r4, r5, r6, r7, r8, r9, r10⟩, hsz⟩ := row11 HD3.out.res
          cases F
          · have HN : Hid (T ≠ s) := fun h => by have h1 := HI2.out.1 h; have h2 := HF.out; rw [h1] at h2; cases h2
            have n2 : ¬ T.toList = s.toList := fun h => HN.out (by rw [ByteArray.toList_eq, ByteArray.toList_eq] at h; rw [← bytes_eta T, ← bytes_eta s, h])
            have n1 : (T.toList == s.toList) = false := by simpa using n2
            have hV : zeroFr.v = V := HV.out
            obtain ⟨⟨q0, q1, q2, q3, q4, q5, q6, q7, q8, q9, q10⟩, _⟩ := row11 HD3.out.non
            go_wp2_with fail
            refine bodyPost_ret (v := .tuple #[zeroFr.v, .bool false]) ?_ rfl ⟨by rw [hV], below11 HD3.out.bel (Nat.le_refl _) _ _ _ _ _ _ _ _ _ _ _⟩
            obtain ⟨⟨g0, g1, g2, g3, g4, g5, g6, g7, g8, g9, g10⟩, _⟩ := row11 (set11 (.int .u16 0) (.int .u16 0) (.int .u16 0) (.int .u16 0) (.int .u16 0) (.int .u16 0) (.int .u16 0) (.int .u16 0) (.bool false) (.int .u16 0) (.int .u64 0) HD3.out.res)
            simp [results, Try.results13, go_sem, g0, g1, g2, g3, g4, g5, g6, g7, g8, g9, g10, zeroFr]
          · have hT : T = s := HI2.out.2 HF.out
            subst hT
            have hV : (⟨0, 0, two l 2, two l 4, two l 6, two l 8, two l 10, two l 12, true, X, Y⟩ : Fr).v = V := by rw [HRD.out]; exact HV.out
            obtain ⟨⟨q0, q1, q2, q3, q4, q5, q6, q7, q8, q9, q10⟩, _⟩ := row11 HD3.out.box
            go_wp2_with fail
            refine bodyPost_ret (v := .tuple #[(⟨0, 0, two l 2, two l 4, two l 6, two l 8, two l 10, two l 12, true, X, Y⟩ : Fr).v, .bool true]) ?_ rfl ⟨by rw [hV], below11 HD3.out.bel (Nat.le_refl _) _ _ _ _ _ _ _ _ _ _ _⟩
            obtain ⟨⟨g0, g1, g2, g3, g4, g5, g6, g7, g8, g9, g10⟩, _⟩ := row11 (set11 (.int .u16 0) (.int .u16 0) (.int .u16 (two l 2 : Nat)) (.int .u16 (two l 4 : Nat)) (.int .u16 (two l 6 : Nat)) (.int .u16 (two l 8 : Nat)) (.int .u16 (two l 10 : Nat)) (.int .u16 (two l 12 : Nat)) (.bool true) (.int .u16 (X : Nat)) (.int .u64 (Y : Nat)) HD3.out.res)
            simp [results, Try.results13, go_sem, g0, g1, g2, g3, g4, g5, g6, g7, g8, g9, g10]
end Go.Proofs.Ytaplnbofglljdaa
